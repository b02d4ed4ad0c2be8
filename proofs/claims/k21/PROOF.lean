import PyProof.Rows.All
import Wide.All
import OpenK.AllK
import Wide.FinOn
import PyProof.EqAt
import PyProof.EqKinds
import PyProof.TupleCall
import PyProof.ReprReads
import HandS.ForMost
import HandS.Exc
import HandS.TryOnly
import HandS.ExcOwn
import HandS.WordsExc
import HandS.Wide
import HandS.IsInst
import HandS.Deep
import HandS.Style
import HandS.Conv
import HandS.Zip
import HandS.SortRule
import HandS.SortInts
import HandS.DictComp
import PySem.Challenge.RW_nudgewebs_k21_fillings_judged
set_option Elab.async false
set_option linter.all false
set_option maxRecDepth 100000
set_option maxHeartbeats 4000000
/-! The ground: defs that run where nothing is being shown (so that repr may be asked), calls by name, repr of data, powers. -/
namespace Nw
open PySem PySem.Spec PyProof.Rows L2

/-! ### defs that run where no repr is under way -/
abbrev Quiet (A : Around) : Prop := A.guards = some []
structure FnG (P : Program) (w : World) (K : PySem.W.Frag) (mg : Str → Option Value)
    (base : Heap) (CX : CXT) (k : Nat) (f : Addr) (fd : FuncData) (ps : List Str) (sp : Sp) : Prop where
  len : ∀ vs H Q E, sp vs H Q E → vs.length = ps.length
  run : ∀ (A : Around) (outer : List Env) (s : Shared) (H : Hp) (args : Args) (us : List Value) (vs : List V)
    (Q : VK) (E : XK), Room k A → Quiet A → Env0 P w K mg base A outer s H →
    BindsTo s fd args (ps.zip us) → Vals vs us → sp vs H Q E →
    codeAny (model P w) A (.call (.ref f) args) (CR CX outer P w H s Q E) s

section
variable {P : Program} {w : World} {K : PySem.W.Frag} {mg : Str → Option Value} {base : Heap} {CX : CXT}
theorem FnG.mono {j k : Nat} {f : Addr} {fd : FuncData} {ps : List Str} {sp : Sp}
    (F : FnG P w K mg base CX j f fd ps sp) (h : j ≤ k) : FnG P w K mg base CX k f fd ps sp :=
  ⟨F.len, fun A outer s H args us vs Q E hr =>
    F.run A outer s H args us vs Q E (hr.mono h)⟩

theorem fng_of {k : Nat} {f : Addr} {name qual : Str} {params : Arguments} {body : List Stmt} {scope : Scope}
    {dV kV doc pm cdv ct oc : Value} {an od : Option Addr} {osl : Array (Option Value)} {N ps : List Str} {sp : Sp}
    (lk : K.lookup f = some ⟨oc, od, .func (PySem.W.fnOf name qual params body scope dV kV doc pm an cdv ct), osl⟩)
    (hcd : PySem.W.codeIn K cdv qual = true) (S : FnScope N ps scope)
    (len : ∀ vs H Q E, sp vs H Q E → vs.length = ps.length)
    (hbody : ∀ (A : Around) (outer : List Env) (s : Shared) (H : Hp) (vs : List V) (Q : VK) (E : XK),
      Room k (A.deeper (envOfC qual scope s.heap.objs.size f cdv)) → Quiet A → sp vs H Q E →
      ∃ t, PSs (cxOf CX P w K mg base N qual scope f cdv A outer s H E) body t ∧
        t { nx := fun _ H' => Q .non H', rt := Q } (start N vs) H) :
    FnG P w K mg base CX (k + 1) f (PySem.W.fnOf name qual params body scope dV kV doc pm an cdv ct) ps sp := by
  refine ⟨len, ?_⟩
  intro A outer s H args us vs Q E hr hgd e0 hb r hsp
  have hl := len _ _ _ _ hsp
  have old := fun b o (e : base.get? b = some o) => (e0.bs b o e).1
  have kinds : ∀ y ∈ ps.zip us, scope.names.lookup y.1 = some .local ∨
      (scope.names.lookup y.1 = some .cell ∧ ((cellsFrom (s.heap.objs.size + 1) scope.names []).lookup y.1).isSome = true) := by
    rintro ⟨n, v⟩ hy
    rcases S.par n (List.of_mem_zip hy).1 with q | q
    · exact Or.inl q
    · exact Or.inr ⟨q, PySem.W.cellsFrom_some _ _ _ (Or.inl q)⟩
  refine codeAny_call_function hr.depth ((e0.mod.kin.keeps old) _ _ lk) rfl S.co S.gen rfl
    (PySem.W.codeRec_of (e0.mod.kin.keeps old) hcd) (hb _ _ _ _ ?_)
  refine wpAny_newFunctionEnv_cells S.kind kinds fun env he s1 x => ?_
  subst he
  refine ⟨(e0.mod.nolimit.keeps old).keeps x.toInCall.keep, codeAny_func ?_⟩
  obtain ⟨t, ht, hq⟩ := hbody A outer s H vs Q E (hr.deeper _) hgd hsp
  have I0 : Inv (cxOf CX P w K mg base N qual scope f cdv A outer s H E) [] (start N vs) H s1 :=
    inv_start S hr.hd e0 hl r x
  refine wpAny_mono (ht.run [] s1 (start N vs) H _ I0 hq) ?_ (fun e s' hs => hs)
  intro fl s' hs
  cases fl with
  | ret u =>
    obtain ⟨v, σ', H', J, rv, q⟩ := hs
    exact (show CE outer P w H s Q u s' from ⟨v, H', J.os, J.bare, J.base, J.hok, rv, q⟩)
  | next =>
    obtain ⟨σ', H', J, q⟩ := hs
    exact (show CE outer P w H s Q Value.none s' from ⟨V.non, H', J.os, J.bare, J.base, J.hok, rfl, q⟩)
  | brk =>
    obtain ⟨_, _, _, q⟩ := hs
    exact q.elim
  | cont =>
    obtain ⟨_, _, _, q⟩ := hs
    exact q.elim

/-- a def of the text, by its body -/
theorem okG {x qual : Str} {st : Stmt} {f : Addr} {fd : FuncData} {N ps : List Str} {k : Nat} {sp : Sp}
    (F : Fun K x qual st f fd) (S : FnScope N ps (defScope st)) (len : ∀ vs H Q E, sp vs H Q E → vs.length = ps.length)
    (hbody : ∀ (cdv : Value) (A : Around) (outer : List Env) (s : Shared) (H : Hp) (vs : List V) (Q : VK) (E : XK),
      Room k (A.deeper (envOfC qual (defScope st) s.heap.objs.size f cdv)) →
      Quiet (A.deeper (envOfC qual (defScope st) s.heap.objs.size f cdv)) → sp vs H Q E →
      ∃ t, PSs (cxOf CX P w K mg base N qual (defScope st) f cdv A outer s H E) (defBody st) t ∧
        t { nx := fun _ H' => Q .non H', rt := Q } (start N vs) H) : FnG P w K mg base CX (k + 1) f fd ps sp := by
  obtain ⟨oc, od, kV, doc, pm, an, cdv, ct, osl, rfl, lk, hcd⟩ := F.ex
  exact fng_of lk hcd S len fun A outer s H vs Q E hr hq hsp => hbody cdv A outer s H vs Q E hr hq hsp

/-- a def as its callers see it -/
structure DefOk (P : Program) (w : World) (K : PySem.W.Frag) (mg : Str → Option Value) (base : Heap) (CX : CXT)
    (k : Nat) (x : Str) (ps : List Str) (sp : Sp) : Prop where
  ex : ∃ f fd, FnG P w K mg base CX k f fd ps sp ∧ mg x = some (.ref f) ∧
    PySem.W.keepIn K (.ref f) = true ∧ Binds K fd ps []
theorem DefOk.mono {j k : Nat} {x : Str} {ps : List Str} {sp : Sp} (D : DefOk P w K mg base CX j x ps sp) (h : j ≤ k) :
    DefOk P w K mg base CX k x ps sp := by
  obtain ⟨f, fd, F, r⟩ := D.ex
  exact ⟨f, fd, F.mono h, r⟩
end

/-- f(e, ..) -/
def tCallD (sp : Sp) (E : XK) (t : TA) : TE := fun σ H Q => t σ H fun vs H1 => sp vs H1 Q E
section
variable {X : Cx} {CX : CXT} {k : Nat} {ps : List Str} {sp : Sp} {E : XK} {x : Str} {p pos : Pos} {e : Expr} {es : List Expr} {t : TA}
theorem run_fng {f : Addr} {fd : FuncData} {pins : List (Addr × Obj)} {σ : L2.St} {H : Hp} {s : Shared} {Q : VK} {us : List Value} {vs : List V}
    (F : FnG X.prog X.w X.K X.mg X.base CX k f fd ps sp) (hr : Room k X.A) (hgd : Quiet X.A) (hb : Binds X.K fd ps [])
    (hx : Passes CX X E) (I : Inv X pins σ H s) (r : Vals vs us) (h : sp vs H Q E) :
    wpAny (model X.prog X.w) X.A (call (.ref f) us) (EP X pins σ Q) X.xe s := by
  have hl : (us ++ ([] : List Value)).length = ps.length := by
    rw [List.append_nil, ← r.length]
    exact F.len _ _ _ _ h
  have hb2 := hb s us I.kIn hl
  rw [List.append_nil] at hb2
  refine wpAny_call (codeAny_mono (F.run X.A X.stack s H ⟨us, []⟩ us vs Q E hr hgd I.env0 hb2 r h) ?_)
  intro r s' hq
  cases r with
  | error e => exact hx pins σ H s e s' I hq
  | ok fl =>
    cases fl with
    | ret u => exact I.after hq
    | next => exact (show False from hq).elim
    | brk => exact (show False from hq).elim
    | cont => exact (show False from hq).elim

theorem pe_callD (D : DefOk X.prog X.w X.K X.mg X.base CX k x ps sp) (hr : Room k X.A) (hgd : Quiet X.A) (hx : Passes CX X E)
    (ha : PA X (e :: es) t) (hg : Gl X x := by rfl) (hdb : (x == ("__debug__" : Str)) = false := by decide)
    (he : starEach (e :: es) X.env = (false, eval e X.env) :: starEach es X.env := by rfl)
    (hpl : (backTo pos (starEach es X.env)).any (·.1) = false := by rfl) :
    PE X (.Call (.Name x p) (e :: es) [] pos) (tCallD sp E t) := by
  obtain ⟨f, fd, F, hm, hk, hb⟩ := D.ex
  refine ⟨fun pins s σ H Q I h => ?_⟩
  refine wpAny_Call_Name_kw (ld_glob I hg hm ?_ hdb)
  refine PySem.W.callWith_K (h₀ := X.base) I.ok.mod.kin hk (thn (ha.run pos pins s σ H _ I h) ?_) he hpl
  rintro us s1 ⟨vs, H1, I1, r, q⟩
  exact ⟨I1.kIn, run_fng F hr hgd hb hx I1 r q⟩
end

/-! ### the law's end -/
section
variable {P : Program} {w : World} {K : PySem.W.Frag}
theorem law_callG {mg mb : Str → Option Value} {CX : CXT} {k : Nat} {fa a : Addr} {fd : FuncData} {x : Str} {sp : Sp}
    {s1 : Shared} {vs : List Value} {ns : List Int}
    (KX : K.In s1.heap) (hns : s1.heap.Ns mainGlobals mg) (hb : s1.heap.Ns builtinsNs mb)
    (hbb : ∀ x : Str, x ≠ "__name__" → mb x = bootBuiltins x) (hlim : s1.heap.NoLimit) (hg : s1.gens = #[])
    (ha : s1.heap.get? a = some { cls := .type "list", data := .seq vs.toArray }) (hi : IntsAre vs ns)
    (hl : ns.length ≤ sizeLine) (hr : Room k callerA)
    (F : ∀ base : Heap, K.In base → base.Ns mainGlobals mg → FnG P w K mg base CX k fa fd [x] sp)
    (hbind : ∀ (s : Shared) (u : Value), BindsTo s fd ⟨[u], []⟩ [(x, u)])
    (hsp : ∀ H : Hp, Only H → SqL K H a (ns.map V.int) → sp [.ref a] H (fun v _ => v = .bl true) fun _ _ _ => False)
    (hCX : ∀ H e s', CX [] H s1 (fun _ _ _ => False) e s' → False) :
    codeAny (model P w) callerA (.call (.ref fa) ⟨[.ref a], []⟩)
      (fun r s' => r = .ok (.ret (.bool true)) ∧ OldK s1.heap s'.heap ∧ s'.os = s1.os ∧ AllBare s'.gens) s1 := by
  have rv := vals_ints hi
  have lenV := hi.length
  have core : ∀ H : Hp, Only H → SqL K H a (ns.map V.int) → HOk P w H s1.heap →
      (∀ b, H b ≠ none → b = a) → (H a ≠ none → K.lookup a = none) →
      codeAny (model P w) callerA (.call (.ref fa) ⟨[.ref a], []⟩)
        (fun r s' => r = .ok (.ret (.bool true)) ∧ OldK s1.heap s'.heap ∧ s'.os = s1.os ∧ AllBare s'.gens) s1 := by
    intro H hO hS hok hA hK
    have fromH : ∀ {b : Addr} {o : Obj}, s1.heap.get? b = some o → H b = none →
        (hidT s1.heap H).get? b = some o := fun e n => hidT_get e n
    have free : ∀ {b : Addr} {o : Obj} {es : Array DictEntry} {ep : Nat},
        s1.heap.get? b = some o → o.data = .dict es ep → H b = none := by
      intro b o es ep e d
      cases q : H b with
      | none => rfl
      | some u =>
        have e' : b = a := hA b (by rw [q]; exact fun z => nomatch z)
        subst e'
        rw [ha] at e
        cases e
        exact nomatch d
    have nsK : ∀ {b : Addr} {m : Str → Option Value}, s1.heap.Ns b m → (hidT s1.heap H).Ns b m := by
      rintro b m ⟨o, es, ep, e, d, r⟩
      exact ⟨o, es, ep, fromH e (free e d), d, r⟩
    have hKb : K.In (hidT s1.heap H) := by
      intro b o e
      refine fromH (KX b o e) ?_
      cases q : H b with
      | none => rfl
      | some u =>
        have e' : b = a := hA b (by rw [q]; exact fun z => nomatch z)
        subst e'
        rw [hK (by rw [q]; exact fun z => nomatch z)] at e
        cases e
    have hM : Mod K mg (hidT s1.heap H) := by
      obtain ⟨mc, h1, h2⟩ := hlim
      exact ⟨hKb, nsK hns, ⟨mb, nsK hb, hbb⟩, ⟨mc, nsK h1, h2⟩⟩
    have e0 : Env0 P w K mg (hidT s1.heap H) callerA [] s1 H :=
      ⟨rfl, hM, fun b o e => of_hidT e, Nat.le_of_eq (hidT_size _ _), trivial,
        fun b hb => (List.not_mem_nil hb).elim, hok, .of_eq hg⟩
    refine codeAny_mono ((F _ hKb (nsK hns)).run callerA [] s1 H ⟨[.ref a], []⟩ [.ref a] [.ref a] _ _ hr rfl e0
      (hbind s1 (.ref a)) (.cons rfl .nil) (hsp H hO hS)) ?_
    intro r s' h
    cases r with
    | error e => exact (hCX H e s' h).elim
    | ok fl =>
      cases fl with
      | next => exact (show False from h).elim
      | brk => exact (show False from h).elim
      | cont => exact (show False from h).elim
      | ret u =>
        obtain ⟨v, H', os, bare, un, hok', r', q⟩ := h
        have q' : v = .bl true := q
        subst q'
        obtain rfl : u = Value.bool true := r'
        refine ⟨rfl, OldK.of_keep ?_, os, bare⟩
        intro b o e
        cases q : H b with
        | none => exact un.keep b o e q (fun z => (List.not_mem_nil z).elim) (fun z => (List.not_mem_nil z).elim)
        | some u =>
          rcases hO b with z | ⟨ob, xs, z⟩
          · rw [q] at z
            cases z
          · obtain ⟨e1, _⟩ := hok b _ z
            obtain ⟨e2, _⟩ := hok' b _ (un.frzs b ob _ z)
            rw [e] at e1
            cases e1
            exact e2
  cases hk : K.lookup a with
  | some o =>
    have e := KX a o hk
    rw [ha] at e
    cases e
    exact core (fun _ => none) (fun _ => .inl rfl)
      (.inr ⟨_, vs.toArray, _, hk, rfl, rfl, rfl, by rw [List.size_toArray, lenV]; exact hl, by simpa using rv⟩)
      (fun b u z => nomatch z) (fun b z => (z rfl).elim) (fun z => (z rfl).elim)
  | none =>
    refine core (fun b => if b = a then some (.frz { cls := .type "list", data := .seq vs.toArray } (.lst (ns.map V.int))) else none)
      ?_ (.inl (.inr ⟨{ cls := .type "list", data := .seq vs.toArray }, if_pos rfl⟩)) ?_ ?_ (fun _ => hk)
    · intro b
      by_cases hb : b = a
      · exact .inr ⟨_, _, if_pos hb⟩
      · exact .inl (if_neg hb)
    · intro b u z
      by_cases hb : b = a
      · have z' := (if_pos hb).symm.trans z
        cases z'
        subst hb
        exact ⟨ha, by rw [List.length_map]; exact hl, vs, _, rv, ha⟩
      · have z' := (if_neg hb).symm.trans z
        cases z'
    · intro b z
      by_cases hb : b = a
      · exact hb
      · exact (z (if_neg hb)).elim
end

theorem walkG {l : PySem.W.OpenLaw} {n k : Nat} {q : Program} {loose : List Str} {XP : (Str → Option Value) → Heap → Prop}
    {YP : World → Heap → Prop} {d : DefRec} {K : Params → PySem.W.Frag} {CX : World → CXT} {sp : World → Sp} {x : Str}
    (hn : l.most = some n) (hn2 : n ≤ sizeLine) (hdf : d.params.defaults = []) (hr : Room k callerA)
    (hY : ∀ (w : World) (h : Heap), YP w h → (K w.params).In h)
    (F : ∀ (w : World) (mg : Str → Option Value) (fa : Addr) (h : Heap), (K w.params).In h → h.Ns mainGlobals mg →
      mg d.name = some (.ref fa) → ∃ fd : FuncData, (∀ (s : Shared) (u : Value), BindsTo s fd ⟨[u], []⟩ [(x, u)]) ∧
        ∀ base : Heap, (K w.params).In base → base.Ns mainGlobals mg →
          FnG l.prog w (K w.params) mg base (CX w) k fa fd [x] (sp w))
    (hsp : ∀ (w : World) (H : Hp) (a : Addr) (ns : List Int), ns.length ≤ n → Only H →
      SqL (K w.params) H a (ns.map V.int) → sp w [.ref a] H (fun v _ => v = .bl true) fun _ _ _ => False)
    (hCX : ∀ (w : World) (H : Hp) (s : Shared) (e : Value) (s' : Shared), CX w [] H s (fun _ _ _ => False) e s' → False) :
    PySem.W.WalkO q loose XP YP l.row.toRowW d [] (fun f vs => PySem.call f vs) := by
  refine Att.attach_call hn hdf ?_
  intro w s0 s1 mg mb fa o pm cd doc a vs ns G Y ho hd hcd hmg hobj hints hlen hg
  obtain ⟨fd, hb, hF⟩ := F w mg fa _ (hY w _ Y) G.T.g hmg
  exact law_callG (hY w _ Y) G.T.g G.T.b G.T.builtins G.T.nolimit hg hobj hints (Nat.le_trans hlen hn2) hr hF hb
    (fun H hO hS => hsp w H a ns hlen hO hS) (fun H e s' => hCX w H s1 e s')

/-! ### repr of data -/
section
variable {X : Cx}
mutual
theorem dp_noDict {K : PySem.W.Frag} {H : Hp} : ∀ (d : PyData) (v : V), Dp K H v d → d.hasDict = false
  | .none, _, _ => by simp only [PyData.hasDict]
  | .bool _, _, _ => by simp only [PyData.hasDict]
  | .int _, _, _ => by simp only [PyData.hasDict]
  | .str _, _, _ => by simp only [PyData.hasDict]
  | .list ds, _, h => by
    cases h with
    | lst _ ha =>
      simp only [PyData.hasDict]
      exact dp_noDictAll ds _ ha
  | .tuple ds, _, h => by
    cases h with
    | tup _ ha =>
      simp only [PyData.hasDict]
      exact dp_noDictAll ds _ ha
  | .dict _, _, h => by cases h
theorem dp_noDictAll {K : PySem.W.Frag} {H : Hp} : ∀ (ds : List PyData) (vs : List V), DpAll K H vs ds → PyData.hasDictAll ds = false
  | [], _, _ => by simp only [PyData.hasDictAll]
  | d :: ds, _, h => by
    cases h with
    | cons h1 h2 => simp only [PyData.hasDictAll, dp_noDict d _ h1, dp_noDictAll ds _ h2, Bool.or_self]
end
/-- repr(x), x any data without dicts -/
def rReprD (K : PySem.W.Frag) : List V → Hp → VK → Prop := fun xs H Q =>
  ∃ x d, xs = [x] ∧ Dp K H x d ∧ d.showable = true ∧ d.shown.length ≤ sizeLine ∧ d.depth ≤ 60 ∧ Q (.str d.shown) H
end
end Nw
/-! Data as trees over the abstract heap; what is asked of them. -/
namespace Nw
open PySem PySem.Spec PyProof.Rows L2

/-- what is known stays known -/
abbrev Ex (H H' : Hp) : Prop := ∀ b o, H b = some o → H' b = some o
theorem Ex.rfl {H : Hp} : Ex H H := fun _ _ h => h
theorem Ex.tr {H H1 H2 : Hp} (a : Ex H H1) (b : Ex H1 H2) : Ex H H2 := fun c o h => b c o (a c o h)
theorem Ex.nw {H : Hp} {p : Addr} {o : HO} (h : H p = none) : Ex H (upd H p o) := fun b u e => by
  rw [upd_ne (ne_of_none e h)]
  exact e
theorem Ex.nw2 {H H' : Hp} {p : Addr} {o : HO} (e : Ex H H') (h : H' p = none) : Ex H (upd H' p o) := e.tr (Ex.nw h)
theorem Ex.fr {H H' : Hp} (e : Ex H H') {l : Addr} (h : H' l = none) : H l = none := by
  cases q : H l with
  | none => exact Eq.refl _
  | some o =>
    rw [e l o q] at h
    cases h
/-- an object that H does not know may change -/
theorem Ex.wr {H H' : Hp} {p : Addr} {o : HO} (e : Ex H H') (h : H p = none) : Ex H (upd H' p o) := fun a u ha => by
  rw [upd_ne (ne_of_none ha h)]
  exact e a u ha
section
variable {K : PySem.W.Frag} {H H' : Hp}
theorem Ex.rd {a : Addr} {u : HO} (e : Ex H H') (h : Rd H a u) : Rd H' a u := by
  rcases h with h | ⟨o, h⟩
  · exact Or.inl (e a _ h)
  · exact Or.inr ⟨o, e a _ h⟩
theorem Ex.l {a : Addr} {xs : List V} (e : Ex H H') (h : SqL K H a xs) : SqL K H' a xs := by
  rcases h with h | h
  · exact Or.inl (e.rd h)
  · exact Or.inr h
theorem Ex.t {a : Addr} {xs : List V} (e : Ex H H') (h : SqT K H a xs) : SqT K H' a xs := by
  rcases h with h | h
  · exact Or.inl (e.rd h)
  · exact Or.inr h
end

/-! ### data -/
/-- a dict of ints and texts with plain values -/
def keyD : Key → PyData
  | .inl i => .int i
  | .inr x => .str x
def vD : V → Option PyData
  | .non => some .none
  | .bl b => some (.bool b)
  | .int i => some (.int i)
  | .str x => some (.str x)
  | _ => none
def DKv (kd : List (PyData × PyData)) (kvs : List (Key × V)) : Prop := kvs.map (fun kv => (keyD kv.1, vD kv.2)) = kd.map fun d => (d.1, some d.2)
mutual
def Da (K : PySem.W.Frag) (H : Hp) : PyData → V → Prop
  | .none, v => v = .non
  | .bool b, v => v = .bl b
  | .int i, v => v = .int i
  | .str x, v => v = .str x
  | .list ds, v => ∃ a xs, v = .ref a ∧ H a = some (.lst xs) ∧ DaAll K H ds xs ∧ ds.length ≤ 100000
  | .tuple ds, v => ∃ a xs, v = .ref a ∧ H a = some (.tup xs) ∧ DaAll K H ds xs
  | .dict kd, v => ∃ a kvs, v = .ref a ∧ H a = some (.dK kvs) ∧ DKv kd kvs
def DaAll (K : PySem.W.Frag) (H : Hp) : List PyData → List V → Prop
  | [], vs => vs = []
  | d :: ds, vs => ∃ x xs, vs = x :: xs ∧ Da K H d x ∧ DaAll K H ds xs
end
section
variable {K : PySem.W.Frag} {H H' : Hp}
mutual
theorem Da.mono (e : Ex H H') : ∀ (d : PyData) (v : V), Da K H d v → Da K H' d v
  | .none, _, h => h
  | .bool _, _, h => h
  | .int _, _, h => h
  | .str _, _, h => h
  | .list ds, v, h => by
    obtain ⟨a, xs, ev, hs, ha, hz⟩ := h
    exact ⟨a, xs, ev, e _ _ hs, DaAll.mono e ds xs ha, hz⟩
  | .tuple ds, v, h => by
    obtain ⟨a, xs, ev, hs, ha⟩ := h
    exact ⟨a, xs, ev, e _ _ hs, DaAll.mono e ds xs ha⟩
  | .dict kd, v, h => by
    obtain ⟨a, kvs, ev, hs, hk⟩ := h
    exact ⟨a, kvs, ev, e _ _ hs, hk⟩
theorem DaAll.mono (e : Ex H H') : ∀ (ds : List PyData) (vs : List V), DaAll K H ds vs → DaAll K H' ds vs
  | [], _, h => h
  | d :: ds, vs, h => by
    obtain ⟨x, xs, ev, h1, h2⟩ := h
    exact ⟨x, xs, ev, Da.mono e d x h1, DaAll.mono e ds xs h2⟩
end
theorem Da.up {d : PyData} {v : V} (h : Da K H d v) (e : Ex H H') : Da K H' d v := Da.mono e d v h
theorem DaAll.up {ds : List PyData} {vs : List V} (h : DaAll K H ds vs) (e : Ex H H') : DaAll K H' ds vs := DaAll.mono e ds vs h
mutual
theorem Da.dp : ∀ (d : PyData) (v : V), Da K H d v → d.hasDict = false → Dp K H v d
  | .none, _, h, _ => by
    obtain rfl := h
    exact .non
  | .bool b, _, h, _ => by
    obtain rfl := h
    exact .bl b
  | .int i, _, h, _ => by
    obtain rfl := h
    exact .int i
  | .str x, _, h, _ => by
    obtain rfl := h
    exact .str x
  | .list ds, v, h, hd => by
    obtain ⟨a, xs, rfl, hs, ha, _⟩ := h
    exact .lst (.inl (.inl hs)) (DaAll.dp ds xs ha (by simpa only [PyData.hasDict] using hd))
  | .tuple ds, v, h, hd => by
    obtain ⟨a, xs, rfl, hs, ha⟩ := h
    exact .tup (.inl (.inl hs)) (DaAll.dp ds xs ha (by simpa only [PyData.hasDict] using hd))
  | .dict kd, v, h, hd => by
    simp only [PyData.hasDict] at hd
    cases hd
theorem DaAll.dp : ∀ (ds : List PyData) (vs : List V), DaAll K H ds vs → PyData.hasDictAll ds = false → DpAll K H vs ds
  | [], _, h, _ => by
    obtain rfl := h
    exact .nil
  | d :: ds, vs, h, hd => by
    obtain ⟨x, xs, rfl, h1, h2⟩ := h
    simp only [PyData.hasDictAll, Bool.or_eq_false_iff] at hd
    exact .cons (Da.dp d x h1 hd.1) (DaAll.dp ds xs h2 hd.2)
end
theorem DaAll.len : ∀ {ds : List PyData} {vs : List V}, DaAll K H ds vs → ds.length = vs.length
  | [], _, h => by
    obtain rfl := h
    exact Eq.refl _
  | d :: ds, vs, h => by
    obtain ⟨x, xs, rfl, _, h2⟩ := h
    rw [List.length_cons, List.length_cons, DaAll.len h2]
theorem DaAll.at : ∀ {ds : List PyData} {vs : List V} {i : Nat} {d : PyData}, DaAll K H ds vs → ds[i]? = some d → ∃ x, vs[i]? = some x ∧ Da K H d x
  | [], _, _, _, _, e => by simp at e
  | d :: ds, vs, 0, _, h, e => by
    obtain ⟨x, xs, rfl, h1, _⟩ := h
    cases e
    exact ⟨x, Eq.refl _, h1⟩
  | d :: ds, vs, i + 1, _, h, e => by
    obtain ⟨x, xs, rfl, _, h2⟩ := h
    simp only [List.getElem?_cons_succ] at e ⊢
    exact DaAll.at h2 e
theorem DaAll.at' : ∀ {ds : List PyData} {vs : List V} {i : Nat} {x : V}, DaAll K H ds vs → vs[i]? = some x → ∃ d, ds[i]? = some d ∧ Da K H d x
  | [], _, _, _, h, e => by
    obtain rfl := h
    simp at e
  | d :: ds, vs, 0, _, h, e => by
    obtain ⟨x, xs, rfl, h1, _⟩ := h
    cases e
    exact ⟨d, Eq.refl _, h1⟩
  | d :: ds, vs, i + 1, _, h, e => by
    obtain ⟨x, xs, rfl, _, h2⟩ := h
    simp only [List.getElem?_cons_succ] at e ⊢
    exact DaAll.at' h2 e
theorem DaAll.app : ∀ {ds es : List PyData} {vs ws : List V}, DaAll K H ds vs → DaAll K H es ws → DaAll K H (ds ++ es) (vs ++ ws)
  | [], _, _, _, h, g => by
    obtain rfl := h
    exact g
  | d :: ds, es, vs, ws, h, g => by
    obtain ⟨x, xs, rfl, h1, h2⟩ := h
    exact ⟨x, xs ++ ws, Eq.refl _, h1, DaAll.app h2 g⟩
theorem DaAll.ints : ∀ {ns : List Int} {vs : List V}, DaAll K H (ns.map PyData.int) vs ↔ vs = ns.map V.int
  | [], vs => Iff.rfl
  | n :: ns, vs => by
    constructor
    · rintro ⟨x, xs, rfl, rfl, h2⟩
      rw [List.map_cons, DaAll.ints.mp h2]
    · rintro rfl
      exact ⟨_, _, Eq.refl _, Eq.refl _, DaAll.ints.mpr (Eq.refl _)⟩
theorem DaAll.mem : ∀ {ds : List PyData} {vs : List V}, DaAll K H ds vs → ∀ x ∈ vs, ∃ d ∈ ds, Da K H d x
  | [], _, h, x, hx => by
    obtain rfl := h
    cases hx
  | d :: ds, vs, h, x, hx => by
    obtain ⟨y, ys, rfl, h1, h2⟩ := h
    rcases List.mem_cons.mp hx with rfl | hx
    · exact ⟨d, List.mem_cons_self, h1⟩
    · obtain ⟨e, he, hd⟩ := DaAll.mem h2 x hx
      exact ⟨e, List.mem_cons_of_mem _ he, hd⟩

/-! ### types -/
theorem tyx_l {a : Addr} {xs : List V} (h : SqL K H a xs) : TyX K H (.ref a) (.type "list") := by
  rcases h with (h | ⟨o, h⟩) | ⟨o, its, n, e, c, _⟩
  · exact .base (.lst h)
  · exact .base (.frz h)
  · exact .kList e c
theorem tyx_t {a : Addr} {xs : List V} (h : SqT K H a xs) : TyX K H (.ref a) (.type "tuple") := by
  rcases h with (h | ⟨o, h⟩) | ⟨o, its, n, e, c, _⟩
  · exact .base (.tup h)
  · exact .fTuple h
  · exact .kTuple e c
/-- the name of a datum's type -/
def tyName : PyData → String
  | .none => "NoneType"
  | .bool _ => "bool"
  | .int _ => "int"
  | .str _ => "str"
  | .list _ => "list"
  | .tuple _ => "tuple"
  | .dict _ => "dict"
theorem Da.ty : ∀ {d : PyData} {v : V}, Da K H d v → TyX K H v (.type (tyName d))
  | .none, _, h => by
    obtain rfl := h
    exact .base .non
  | .bool b, _, h => by
    obtain rfl := h
    exact .base (.bl b)
  | .int i, _, h => by
    obtain rfl := h
    exact .base (.int i)
  | .str x, _, h => by
    obtain rfl := h
    exact .base (.str x)
  | .list ds, v, h => by
    obtain ⟨a, xs, rfl, hs, _⟩ := h
    exact tyx_l (.inl (.inl hs))
  | .tuple ds, v, h => by
    obtain ⟨a, xs, rfl, hs, _⟩ := h
    exact tyx_t (.inl (.inl hs))
  | .dict kd, v, h => by
    obtain ⟨a, kvs, rfl, hs, _⟩ := h
    exact .base (.dK hs)
/-- isinstance by the types' names -/
def isN (T n : String) : Bool := T == n || (T == "int" && n == "bool")
/-- isinstance of data: int, bool, list, tuple, str -/
def isA (T : String) (d : PyData) : Bool := isN T (tyName d)
theorem isN_ok (T : String) (hT : T = "int" ∨ T = "bool" ∨ T = "list" ∨ T = "tuple" ∨ T = "str") (n : String)
    (hn : n = "NoneType" ∨ n = "bool" ∨ n = "int" ∨ n = "str" ∨ n = "list" ∨ n = "tuple" ∨ n = "dict") :
    PySem.W.kitOne K (.type n) (.type T) = some (isN T n) := by
  rcases hT with rfl | rfl | rfl | rfl | rfl <;> rcases hn with rfl | rfl | rfl | rfl | rfl | rfl | rfl <;> exact kit_ty (by decide +kernel)
theorem isA_ok (T : String) (hT : T = "int" ∨ T = "bool" ∨ T = "list" ∨ T = "tuple" ∨ T = "str") (d : PyData) :
    PySem.W.kitOne K (.type (tyName d)) (.type T) = some (isA T d) := isN_ok T hT _ (by cases d <;> simp [tyName])
end

/-! ### rules -/
section
variable {X : Cx}
theorem call_reprD {k : Nat} (hq : Quiet X.A) (hr : Room k X.A) : CallR X (.builtin "repr") (rReprD X.K) := by
  intro pins s σ H xs us Q I r h
  obtain ⟨x, d, rfl, hd, hs, hz, hdp, q⟩ := h
  obtain ⟨u, rfl, rx⟩ := Vals.one r
  obtain ⟨as, rd⟩ := Dp.reads I d x u hd rx
  have nd := dp_noDict d x hd
  have hu : X.A.units + 200 < cLine := by have := hr.un; omega
  have fin : ∀ h' u' tk, (∀ b o, s.heap.get? b = some o → h'.get? b = some o) →
      EP X pins σ Q (.str d.shown u') { s with heap := h', toks := tk } :=
    fun h' u' tk hk => ⟨.str d.shown, H, I.kept hk, ⟨_, rfl⟩, q⟩
  cases d with
  | none =>
    cases hd
    obtain rfl : u = Value.none := rx
    exact PySem.P.repr_of_none (fin s.heap _ _ fun _ _ e => e)
  | bool b =>
    cases hd
    obtain rfl : u = Value.bool b := rx
    exact PySem.P.repr_of_bool (fin s.heap _ _ fun _ _ e => e)
  | int i =>
    cases hd
    obtain ⟨t, rfl⟩ := rx
    exact PySem.P.repr_of_int (by simpa only [PyData.showable, decide_eq_true_eq] using hs) (fin s.heap _ _ fun _ _ e => e)
  | str z =>
    cases hd
    obtain ⟨t, rfl⟩ := rx
    exact PySem.P.repr_of_str (fin s.heap _ _ fun _ _ e => e) (by simpa only [PyData.shown] using hz)
  | list ds =>
    cases hd with
    | lst h1 h2 =>
      cases rx
      exact repr_of_reads' rd hs (PyData.noDict_hsm nd) hq (by omega) (fun _ _ e => e) fin hz
  | tuple ds =>
    cases hd with
    | tup h1 h2 =>
      cases rx
      exact repr_of_reads' rd hs (PyData.noDict_hsm nd) hq (by omega) (fun _ _ e => e) fin hz
  | dict kd => cases hd

/-- a ** b of great numbers -/
def CPowW (i j : Int) : Prop := 0 ≤ j ∧ j ≤ 100 ∧ i.natAbs < 2 ^ 10000
theorem op_powW : OpR X (binaryOp .Pow) (rI CPowW fun i j => .int (i ^ j.toNat)) := opI fun i j t u s A E hc q => by
  obtain ⟨h0, h8, hi⟩ := hc
  refine pow_int h0 ?_ q
  have hb : Builtin.Int.intBits i ≤ 10000 := by
    unfold Builtin.Int.intBits
    split
    · omega
    · rename_i hn
      have hne : i.natAbs ≠ 0 := by
        intro e
        exact hn (by simpa using e)
      have := (Nat.log2_lt hne).mpr hi
      omega
  have h1 : (Builtin.Int.intBits i : Int) * j ≤ 10000 * 100 := Int.mul_le_mul (by omega) h8 h0 (by omega)
  omega
end
end Nw
namespace Nw
open PySem PySem.Spec PyProof.Rows L2
section
variable {P : Program} {w : World} {K : PySem.W.Frag} {mg : Str → Option Value} {base : Heap}
/-- a def that lets no exception out -/
theorem okG0 {x qual : Str} {st : Stmt} {f : Addr} {fd : FuncData} {N ps : List Str} {k : Nat} {sp : Sp}
    (F : Fun K x qual st f fd) (S : FnScope N ps (defScope st)) (len : ∀ vs H Q E, sp vs H Q E → vs.length = ps.length)
    (hbody : ∀ (cdv : Value) (A : Around) (outer : List Env) (s : Shared) (H : Hp) (vs : List V) (Q : VK) (E : XK),
      Room k (A.deeper (envOfC qual (defScope st) s.heap.objs.size f cdv)) →
      Quiet (A.deeper (envOfC qual (defScope st) s.heap.objs.size f cdv)) → sp vs H Q E →
      ∃ t, PSs (cxOf CX0 P w K mg base N qual (defScope st) f cdv A outer s H E).nox (defBody st) t ∧
        t { nx := fun _ H' => Q .non H', rt := Q } (start N vs) H) : FnG P w K mg base CX0 (k + 1) f fd ps sp :=
  okG F S len fun cdv A outer s H vs Q E hr hq hsp => by
    obtain ⟨t, h, q⟩ := hbody cdv A outer s H vs Q E hr hq hsp
    exact ⟨t, h.nox, q⟩
end
theorem pe_globI {X : Cx} {x : Str} {n : Int} {pos : Pos} (hm : ∃ t, X.mg x = some (.int n t)) (hg : Gl X x := by rfl)
    (hd : (x == ("__debug__" : Str)) = false := by decide) : PE X (.Name x pos) (tC (.int n)) := by
  obtain ⟨t, h⟩ := hm
  exact pe_glob hg h ⟨t, rfl⟩ hd
theorem pe_bty {X : Cx} {x : Str} {n : String} {pos : Pos} (hm : X.mg x = none) (hv : bootBuiltins x = some (.type n)) (hg : Gl X x := by rfl)
    (hn : x ≠ "__name__" := by decide) (hd : (x == ("__debug__" : Str)) = false := by decide) : PE X (.Name x pos) (tC (.ty n)) :=
  pe_bltn hg hm hv rfl hn hd
theorem bt_isinstance : bootBuiltins "isinstance" = some (.builtin "isinstance") := by decide +kernel
theorem bt_len : bootBuiltins "len" = some (.builtin "len") := by decide +kernel
theorem bt_all : bootBuiltins "all" = some (.builtin "all") := by decide +kernel
theorem bt_any : bootBuiltins "any" = some (.builtin "any") := by decide +kernel
theorem bt_sum : bootBuiltins "sum" = some (.builtin "sum") := by decide +kernel
theorem bt_repr : bootBuiltins "repr" = some (.builtin "repr") := by decide +kernel
theorem bt_abs : bootBuiltins "abs" = some (.builtin "abs") := by decide +kernel
theorem bt_max : bootBuiltins "max" = some (.builtin "max") := by decide +kernel
theorem bt_min : bootBuiltins "min" = some (.builtin "min") := by decide +kernel
theorem bt_sorted : bootBuiltins "sorted" = some (.builtin "sorted") := by decide +kernel
theorem bt_int : bootBuiltins "int" = some (.type "int") := by decide +kernel
theorem bt_bool : bootBuiltins "bool" = some (.type "bool") := by decide +kernel
theorem bt_str : bootBuiltins "str" = some (.type "str") := by decide +kernel
theorem bt_list : bootBuiltins "list" = some (.type "list") := by decide +kernel
theorem bt_tuple : bootBuiltins "tuple" = some (.type "tuple") := by decide +kernel
theorem bt_set : bootBuiltins "set" = some (.type "set") := by decide +kernel
/-- isinstance(x, T) of data -/
theorem isi_da {K : PySem.W.Frag} {H : Hp} {d : PyData} {v : V} {T : String} {Q : VK} (h : Da K H d v)
    (hT : T = "int" ∨ T = "bool" ∨ T = "list" ∨ T = "tuple" ∨ T = "str") (q : Q (.bl (isA T d)) H) : rIsi K [v, .ty T] H Q :=
  ⟨v, .ty T, _, _, _, rfl, .ty T, h.ty, isA_ok T hT d, q⟩
theorem start_eq {N : List Str} {vs : List V} : start N vs = vs.map some ++ List.replicate (N.length - vs.length) none := rfl
end Nw
/-! repr of data with dicts: sys.modules has to be told apart, which the top knows. -/
namespace Nw
open PySem PySem.Spec PyProof.Rows L2
abbrev SysAt (base : Heap) : Prop := ∃ mm, base.Ns sysModules mm
section
variable {X : Cx} {pins : List (Addr × Obj)} {σ : L2.St} {H : Hp} {s : Shared}
theorem sys_no_list (I : Inv X pins σ H s) (SM : SysAt X.base) {a : Addr} {o : Obj} {vs : Array Value} {n : Nat} (h : s.heap.get? a = some o) (hd : o.data = .seq vs n) : a ≠ sysModules := by
  rintro rfl
  obtain ⟨mm, o2, es, ep, e, d, _⟩ := SM
  have h2 := I.bk _ _ e
  rw [h] at h2
  cases h2
  rw [hd] at d
  cases d
theorem reads_kv : ∀ {kd : List (PyData × PyData)} {kvs : List (Key × V)} {vs : List (Key × Value)} {es : List DictEntry} {h : Heap} {P : Program} {w : World}, DKv kd kvs → KV kvs vs → Pairs (mixKind P w) es vs →
    ReadsAll h (es.map (·.key)) (kd.map (·.1)) [] ∧ ReadsAll h (es.map (·.val)) (kd.map (·.2)) []
  | [], [], _, _, _, _, _, _, .nil, .nil => ⟨.nil, .nil⟩
  | [], _ :: _, _, _, _, _, _, hk, _, _ => by simp [DKv] at hk
  | _ :: _, [], _, _, _, _, _, hk, _, _ => by simp [DKv] at hk
  | (k, v) :: kd, (k', v') :: kvs, _, _, h, P, w, hk, .cons (a := _) (b := q) ⟨e1, r1⟩ t, .cons (e := en) hk2 hv t2 => by
    simp only [DKv, List.map_cons, List.cons.injEq, Prod.mk.injEq] at hk
    obtain ⟨⟨rfl, hv'⟩, hk3⟩ := hk
    obtain ⟨ih1, ih2⟩ := reads_kv (h := h) (P := P) (w := w) (show DKv kd kvs from hk3) t t2
    simp only at e1 r1
    subst e1
    have hkey : Reads h en.key (keyD q.1) [] := by
      rcases keyIs_shape (show keyIs q.1 en.key = true from hk2) with ⟨i, t, e, e'⟩ | ⟨x, t, e, e'⟩
      · rw [e', e]
        exact .int i t
      · rw [e', e]
        exact .str x t
    have hval : Reads h q.2 v [] := by
      cases v' with
      | non =>
        obtain rfl := Option.some.inj hv'
        rw [show q.2 = Value.none from r1]
        exact .none
      | bl b =>
        obtain rfl := Option.some.inj hv'
        rw [show q.2 = Value.bool b from r1]
        exact .bool b
      | int i =>
        obtain rfl := Option.some.inj hv'
        obtain ⟨t, e⟩ := r1
        rw [e]
        exact .int i t
      | str x =>
        obtain rfl := Option.some.inj hv'
        obtain ⟨t, e⟩ := r1
        rw [e]
        exact .str x t
      | _ => cases hv'
    simp only [List.map_cons]
    rw [hv]
    exact ⟨.cons (as := []) (bs := []) hkey ih1, .cons (as := []) (bs := []) hval ih2⟩
mutual
theorem Da.reads (I : Inv X pins σ H s) (SM : SysAt X.base) : ∀ (d : PyData) (v : V) (u : Value), Da X.K H d v → RelV v u → ∃ as, Reads s.heap u d as ∧ sysModules ∉ as
  | .none, _, _, h, r => by
    obtain rfl := h
    cases r
    exact ⟨_, .none, by simp⟩
  | .bool b, _, _, h, r => by
    obtain rfl := h
    cases r
    exact ⟨_, .bool b, by simp⟩
  | .int i, _, _, h, r => by
    obtain rfl := h
    obtain ⟨t, rfl⟩ := r
    exact ⟨_, .int i t, by simp⟩
  | .str x, _, _, h, r => by
    obtain rfl := h
    obtain ⟨t, rfl⟩ := r
    exact ⟨_, .str x t, by simp⟩
  | .list ds, _, _, h, r => by
    obtain ⟨a, xs, rfl, hs, ha, _⟩ := h
    cases r
    obtain ⟨its, rv, ⟨o, n, ho, hc, _, hd⟩, _⟩ := I.list (.inl (.inl hs))
    obtain ⟨as, hr, hn⟩ := Da.readsAll I SM ds _ its ha rv
    refine ⟨_, Reads.list ho hc hd hr, fun hm => ?_⟩
    rcases List.mem_cons.mp hm with e | hm
    · exact sys_no_list I SM ho hd e.symm
    · exact hn hm
  | .tuple ds, _, _, h, r => by
    obtain ⟨a, xs, rfl, hs, ha⟩ := h
    cases r
    obtain ⟨its, rv, ⟨o, ho, hc, n, hd⟩, _⟩ := I.tuple (.inl (.inl hs))
    obtain ⟨as, hr, hn⟩ := Da.readsAll I SM ds _ its ha rv
    exact ⟨_, Reads.tuple ho hc hd hr, hn⟩
  | .dict kd, _, _, h, r => by
    obtain ⟨a, kvs, rfl, hs, hk⟩ := h
    cases r
    obtain ⟨_, lo, vs, rk, o, es, ep, h1, h2, h3, _, h5, _⟩ := dk_of I.hok hs
    obtain ⟨g1, g2⟩ := reads_kv (h := s.heap) hk rk h5
    refine ⟨_, Reads.dict h1 h2.1 h3 g1 g2, fun hm => ?_⟩
    simp only [List.append_nil, List.mem_singleton] at hm
    rw [← hm] at lo
    simp at lo
theorem Da.readsAll (I : Inv X pins σ H s) (SM : SysAt X.base) : ∀ (ds : List PyData) (vs : List V) (us : List Value), DaAll X.K H ds vs → Vals vs us → ∃ as, ReadsAll s.heap us ds as ∧ sysModules ∉ as
  | [], _, _, h, r => by
    obtain rfl := h
    cases r
    exact ⟨_, .nil, by simp⟩
  | d :: ds, _, _, h, r => by
    obtain ⟨x, xs, rfl, h1, h2⟩ := h
    cases r with
    | cons r1 r2 =>
      obtain ⟨as, q1, n1⟩ := Da.reads I SM d _ _ h1 r1
      obtain ⟨bs, q2, n2⟩ := Da.readsAll I SM ds _ _ h2 r2
      refine ⟨_, .cons q1 q2, fun hm => ?_⟩
      rcases List.mem_append.mp hm with hm | hm
      · exact n1 hm
      · exact n2 hm
end
end
/-- repr(x), x any data -/
def rReprS (K : PySem.W.Frag) : List V → Hp → VK → Prop := fun xs H Q =>
  ∃ x d, xs = [x] ∧ Da K H d x ∧ d.showable = true ∧ d.shown.length ≤ sizeLine ∧ d.depth ≤ 60 ∧ Q (.str d.shown) H
section
variable {X : Cx}
theorem call_reprS (K : PySem.W.Frag) {k : Nat} (hq : Quiet X.A) (hr : Room k X.A) (SM : SysAt X.base) (hK : X.K = K := by rfl) : CallR X (.builtin "repr") (rReprS K) := by
  subst hK
  intro pins s σ H xs us Q I r h
  obtain ⟨x, d, rfl, hd, hs, hz, hdp, q⟩ := h
  obtain ⟨u, rfl, rx⟩ := Vals.one r
  obtain ⟨as, rd, hn⟩ := Da.reads I SM d x u hd rx
  have hu : X.A.units + 200 < cLine := by have := hr.un; omega
  have fin : ∀ h' u' tk, (∀ b o, s.heap.get? b = some o → h'.get? b = some o) →
      EP X pins σ Q (.str d.shown u') { s with heap := h', toks := tk } :=
    fun h' u' tk hk => ⟨.str d.shown, H, I.kept hk, ⟨_, rfl⟩, q⟩
  cases d with
  | none =>
    obtain rfl := hd
    obtain rfl : u = Value.none := rx
    exact PySem.P.repr_of_none (fin s.heap _ _ fun _ _ e => e)
  | bool b =>
    obtain rfl := hd
    obtain rfl : u = Value.bool b := rx
    exact PySem.P.repr_of_bool (fin s.heap _ _ fun _ _ e => e)
  | int i =>
    obtain rfl := hd
    obtain ⟨t, rfl⟩ := rx
    exact PySem.P.repr_of_int (by simpa only [PyData.showable, decide_eq_true_eq] using hs) (fin s.heap _ _ fun _ _ e => e)
  | str z =>
    obtain rfl := hd
    obtain ⟨t, rfl⟩ := rx
    exact PySem.P.repr_of_str (fin s.heap _ _ fun _ _ e => e) (by simpa only [PyData.shown] using hz)
  | list ds =>
    obtain ⟨a, xs, rfl, _⟩ := hd
    cases rx
    exact repr_of_reads' rd hs (fun _ => hn) hq (by omega) (fun _ _ e => e) fin hz
  | tuple ds =>
    obtain ⟨a, xs, rfl, _⟩ := hd
    cases rx
    exact repr_of_reads' rd hs (fun _ => hn) hq (by omega) (fun _ _ e => e) fin hz
  | dict kd =>
    obtain ⟨a, xs, rfl, _⟩ := hd
    cases rx
    exact repr_of_reads' rd hs (fun _ => hn) hq (by omega) (fun _ _ e => e) fin hz
end
section
variable {P : Program} {w : World} {K : PySem.W.Frag}
theorem law_callS {mg mb : Str → Option Value} {CX : CXT} {k : Nat} {fa a : Addr} {fd : FuncData} {x : Str} {sp : Sp}
    {s1 : Shared} {vs : List Value} {ns : List Int}
    (KX : K.In s1.heap) (hns : s1.heap.Ns mainGlobals mg) (hb : s1.heap.Ns builtinsNs mb)
    (hbb : ∀ x : Str, x ≠ "__name__" → mb x = bootBuiltins x) (hlim : s1.heap.NoLimit) (hg : s1.gens = #[])
    (ha : s1.heap.get? a = some { cls := .type "list", data := .seq vs.toArray }) (hi : IntsAre vs ns)
    (hl : ns.length ≤ sizeLine) (hr : Room k callerA)
    (hsys : ∃ mm, s1.heap.Ns sysModules mm)
    (F : ∀ base : Heap, K.In base → base.Ns mainGlobals mg → SysAt base → FnG P w K mg base CX k fa fd [x] sp)
    (hbind : ∀ (s : Shared) (u : Value), BindsTo s fd ⟨[u], []⟩ [(x, u)])
    (hsp : ∀ H : Hp, Only H → SqL K H a (ns.map V.int) → sp [.ref a] H (fun v _ => v = .bl true) fun _ _ _ => False)
    (hCX : ∀ H e s', CX [] H s1 (fun _ _ _ => False) e s' → False) :
    codeAny (model P w) callerA (.call (.ref fa) ⟨[.ref a], []⟩)
      (fun r s' => r = .ok (.ret (.bool true)) ∧ OldK s1.heap s'.heap ∧ s'.os = s1.os ∧ AllBare s'.gens) s1 := by
  have rv := vals_ints hi
  have lenV := hi.length
  have core : ∀ H : Hp, Only H → SqL K H a (ns.map V.int) → HOk P w H s1.heap →
      (∀ b, H b ≠ none → b = a) → (H a ≠ none → K.lookup a = none) →
      codeAny (model P w) callerA (.call (.ref fa) ⟨[.ref a], []⟩)
        (fun r s' => r = .ok (.ret (.bool true)) ∧ OldK s1.heap s'.heap ∧ s'.os = s1.os ∧ AllBare s'.gens) s1 := by
    intro H hO hS hok hA hK
    have fromH : ∀ {b : Addr} {o : Obj}, s1.heap.get? b = some o → H b = none →
        (hidT s1.heap H).get? b = some o := fun e n => hidT_get e n
    have free : ∀ {b : Addr} {o : Obj} {es : Array DictEntry} {ep : Nat},
        s1.heap.get? b = some o → o.data = .dict es ep → H b = none := by
      intro b o es ep e d
      cases q : H b with
      | none => rfl
      | some u =>
        have e' : b = a := hA b (by rw [q]; exact fun z => nomatch z)
        subst e'
        rw [ha] at e
        cases e
        exact nomatch d
    have nsK : ∀ {b : Addr} {m : Str → Option Value}, s1.heap.Ns b m → (hidT s1.heap H).Ns b m := by
      rintro b m ⟨o, es, ep, e, d, r⟩
      exact ⟨o, es, ep, fromH e (free e d), d, r⟩
    have hKb : K.In (hidT s1.heap H) := by
      intro b o e
      refine fromH (KX b o e) ?_
      cases q : H b with
      | none => rfl
      | some u =>
        have e' : b = a := hA b (by rw [q]; exact fun z => nomatch z)
        subst e'
        rw [hK (by rw [q]; exact fun z => nomatch z)] at e
        cases e
    have hM : Mod K mg (hidT s1.heap H) := by
      obtain ⟨mc, h1, h2⟩ := hlim
      exact ⟨hKb, nsK hns, ⟨mb, nsK hb, hbb⟩, ⟨mc, nsK h1, h2⟩⟩
    have e0 : Env0 P w K mg (hidT s1.heap H) callerA [] s1 H :=
      ⟨rfl, hM, fun b o e => of_hidT e, Nat.le_of_eq (hidT_size _ _), trivial,
        fun b hb => (List.not_mem_nil hb).elim, hok, .of_eq hg⟩
    refine codeAny_mono ((F _ hKb (nsK hns) (by obtain ⟨mm, hm⟩ := hsys; exact ⟨mm, nsK hm⟩)).run callerA [] s1 H ⟨[.ref a], []⟩ [.ref a] [.ref a] _ _ hr rfl e0
      (hbind s1 (.ref a)) (.cons rfl .nil) (hsp H hO hS)) ?_
    intro r s' h
    cases r with
    | error e => exact (hCX H e s' h).elim
    | ok fl =>
      cases fl with
      | next => exact (show False from h).elim
      | brk => exact (show False from h).elim
      | cont => exact (show False from h).elim
      | ret u =>
        obtain ⟨v, H', os, bare, un, hok', r', q⟩ := h
        have q' : v = .bl true := q
        subst q'
        obtain rfl : u = Value.bool true := r'
        refine ⟨rfl, OldK.of_keep ?_, os, bare⟩
        intro b o e
        cases q : H b with
        | none => exact un.keep b o e q (fun z => (List.not_mem_nil z).elim) (fun z => (List.not_mem_nil z).elim)
        | some u =>
          rcases hO b with z | ⟨ob, xs, z⟩
          · rw [q] at z
            cases z
          · obtain ⟨e1, _⟩ := hok b _ z
            obtain ⟨e2, _⟩ := hok' b _ (un.frzs b ob _ z)
            rw [e] at e1
            cases e1
            exact e2
  cases hk : K.lookup a with
  | some o =>
    have e := KX a o hk
    rw [ha] at e
    cases e
    exact core (fun _ => none) (fun _ => .inl rfl)
      (.inr ⟨_, vs.toArray, _, hk, rfl, rfl, rfl, by rw [List.size_toArray, lenV]; exact hl, by simpa using rv⟩)
      (fun b u z => nomatch z) (fun b z => (z rfl).elim) (fun z => (z rfl).elim)
  | none =>
    refine core (fun b => if b = a then some (.frz { cls := .type "list", data := .seq vs.toArray } (.lst (ns.map V.int))) else none)
      ?_ (.inl (.inr ⟨{ cls := .type "list", data := .seq vs.toArray }, if_pos rfl⟩)) ?_ ?_ (fun _ => hk)
    · intro b
      by_cases hb : b = a
      · exact .inr ⟨_, _, if_pos hb⟩
      · exact .inl (if_neg hb)
    · intro b u z
      by_cases hb : b = a
      · have z' := (if_pos hb).symm.trans z
        cases z'
        subst hb
        exact ⟨ha, by rw [List.length_map]; exact hl, vs, _, rv, ha⟩
      · have z' := (if_neg hb).symm.trans z
        cases z'
    · intro b z
      by_cases hb : b = a
      · exact hb
      · exact (z (if_neg hb)).elim
end

theorem walkS {l : PySem.W.OpenLaw} {n k : Nat} {q : Program} {loose : List Str} {XP : (Str → Option Value) → Heap → Prop}
    {YP : World → Heap → Prop} {d : DefRec} {K : Params → PySem.W.Frag} {CX : World → CXT} {sp : World → Sp} {x : Str}
    (hi : PyProof.Rows.importsNone q = true) (hn : l.most = some n) (hn2 : n ≤ sizeLine) (hdf : d.params.defaults = []) (hr : Room k callerA)
    (hY : ∀ (w : World) (h : Heap), YP w h → (K w.params).In h)
    (F : ∀ (w : World) (mg : Str → Option Value) (fa : Addr) (h : Heap), (K w.params).In h → h.Ns mainGlobals mg →
      mg d.name = some (.ref fa) → ∃ fd : FuncData, (∀ (s : Shared) (u : Value), BindsTo s fd ⟨[u], []⟩ [(x, u)]) ∧
        ∀ base : Heap, (K w.params).In base → base.Ns mainGlobals mg → SysAt base →
          FnG l.prog w (K w.params) mg base (CX w) k fa fd [x] (sp w))
    (hsp : ∀ (w : World) (H : Hp) (a : Addr) (ns : List Int), ns.length ≤ n → Only H →
      SqL (K w.params) H a (ns.map V.int) → sp w [.ref a] H (fun v _ => v = .bl true) fun _ _ _ => False)
    (hCX : ∀ (w : World) (H : Hp) (s : Shared) (e : Value) (s' : Shared), CX w [] H s (fun _ _ _ => False) e s' → False) :
    PySem.W.WalkO q loose XP YP l.row.toRowW d [] (fun f vs => PySem.call f vs) := by
  refine Att.attach_call hn hdf ?_
  intro w s0 s1 mg mb fa o pm cd doc a vs ns G Y ho hd hcd hmg hobj hints hlen hg
  obtain ⟨fd, hb, hF⟩ := F w mg fa _ (hY w _ Y) G.T.g hmg
  exact law_callS (hY w _ Y) G.T.g G.T.b G.T.builtins G.T.nolimit hg hobj hints (Nat.le_trans hlen hn2) hr (by obtain ⟨mm, hm, _⟩ := (G.T.seer hi).mods; exact ⟨mm, hm⟩) hF hb
    (fun H hO hS => hsp w H a ns hlen hO hS) (fun H e s' => hCX w H s1 e s')

end Nw
/-! Walks of anything by one word. -/
namespace Nw
open PySem PySem.Spec PyProof.Rows L2

/-- what a comprehension's reading asks, D its new list -/
abbrev LcW (J : It) (g : TG) (tt : TT) (te : TE) (vs : List Nat) (σ : L2.St) (D : Addr) (H1 : Hp) (Qd : Hp → Prop) : Prop :=
  ∃ W : Nat → Nat → Hp → Prop, (∃ m, W 0 m (upd H1 D (.lst []))) ∧ ∀ i m H, W i m H →
    (J.stop i H ∧ Qd H) ∨ (J.go i H ∧ ∃ Nx : Hp → Prop, (∀ H', Nx H' → ∃ m', m' < m ∧ W (i + 1) m' H') ∧
      ∀ x H', J.yld i H x H' → g x (wipe σ vs) H' fun σ2 H2 => wipe σ2 vs = wipe σ vs ∧ tt σ2 H2 fun b H3 =>
        if b = true then te σ2 H3 fun y H4 => ∃ acc, H4 D = some (.lst acc) ∧ acc.length < sizeLine ∧
          Nx (upd H4 D (.lst (acc ++ [y]))) else Nx H3)
theorem lc_by {J : It} {g : TG} {tt : TT} {te : TE} {vs : List Nat} {σ : L2.St} {D : Addr} {H1 : Hp} {Qd : Hp → Prop}
    (n : Nat) (Pv : Nat → Hp → Prop) (h0 : Pv 0 (upd H1 D (.lst [])))
    (hgo : ∀ i H, i < n → Pv i H → J.go i H) (hst : ∀ H, Pv n H → J.stop n H)
    (hs : ∀ i H x H', i < n → Pv i H → J.yld i H x H' → g x (wipe σ vs) H' fun σ2 H2 => wipe σ2 vs = wipe σ vs ∧
      tt σ2 H2 fun b H3 => if b = true then te σ2 H3 fun y H4 => ∃ acc, H4 D = some (.lst acc) ∧ acc.length < sizeLine ∧
        Pv (i + 1) (upd H4 D (.lst (acc ++ [y]))) else Pv (i + 1) H3)
    (hd : ∀ H, Pv n H → Qd H) : LcW J g tt te vs σ D H1 Qd := by
  refine ⟨fun i m H => m = n - i ∧ i ≤ n ∧ Pv i H, ⟨n, by omega, Nat.zero_le _, h0⟩, ?_⟩
  rintro i m H ⟨rfl, hi, p⟩
  by_cases hlt : i < n
  · refine .inr ⟨hgo i H hlt p, Pv (i + 1), fun H' p' => ⟨n - (i + 1), by omega, rfl, hlt, p'⟩, ?_⟩
    intro x H' y
    exact hs i H x H' hlt p y
  · have e : i = n := by omega
    subst e
    exact .inl ⟨hst H p, hd H p⟩
theorem for_by {J : It} {g : TG} {tb : TS} {D : Ends} {σ : L2.St} {H1 : Hp} (n : Nat) (Pv : Nat → L2.St → Hp → Prop) (h0 : Pv 0 σ H1)
    (hgo : ∀ i σ H, i < n → Pv i σ H → J.go i H) (hst : ∀ σ H, Pv n σ H → J.stop n H)
    (hs : ∀ i σ H x H', i < n → Pv i σ H → J.yld i H x H' →
      g x σ H' fun σ2 H2 => tb { D with nx := Pv (i + 1), ct := Pv (i + 1), bk := D.nx } σ2 H2)
    (hd : ∀ σ H, Pv n σ H → D.nx σ H) :
    ∃ W : Nat → Nat → L2.St → Hp → Prop, (∃ m, W 0 m σ H1) ∧ ∀ i m σ H, W i m σ H →
      (J.stop i H ∧ D.nx σ H) ∨ (J.go i H ∧ ∃ N : L2.St → Hp → Prop, (∀ σ' H', N σ' H' → ∃ m', m' < m ∧ W (i + 1) m' σ' H') ∧
        ∀ x H', J.yld i H x H' → g x σ H' fun σ2 H2 => tb { D with nx := N, ct := N, bk := D.nx } σ2 H2) := by
  refine ⟨fun i m σ H => m = n - i ∧ i ≤ n ∧ Pv i σ H, ⟨n, by omega, Nat.zero_le _, h0⟩, ?_⟩
  rintro i m σ H ⟨rfl, hi, p⟩
  by_cases hlt : i < n
  · refine .inr ⟨hgo i σ H hlt p, Pv (i + 1), fun σ' H' p' => ⟨n - (i + 1), by omega, rfl, hlt, p'⟩, ?_⟩
    intro x H' y
    exact hs i σ H x H' hlt p y
  · have e : i = n := by omega
    subst e
    exact .inl ⟨hst σ H p, hd σ H p⟩

/-- what is known but at D stays known -/
abbrev ExD (D : Addr) (H H' : Hp) : Prop := ∀ b o, b ≠ D → H b = some o → H' b = some o
theorem Ex.d {D : Addr} {H H' : Hp} (e : Ex H H') : ExD D H H' := fun b o _ h => e b o h
theorem ExD.put {D : Addr} {H : Hp} {o : HO} : ExD D H (upd H D o) := fun b u n h => by
  rw [upd_ne n]
  exact h
theorem ExD.tr {D : Addr} {H H1 H2 : Hp} (a : ExD D H H1) (b : ExD D H1 H2) : ExD D H H2 := fun c o n h => b c o n (a c o n h)
/-- item by item over the turns that give -/
def Given (n : Nat) (f : Nat → Bool) (R : Nat → V → Prop) (ys : List V) : Prop := Paired R ((List.range n).filter f) ys
theorem Given.nil {f : Nat → Bool} {R : Nat → V → Prop} : Given 0 f R [] := Paired.nil
theorem paired_app {α β : Type} {F : α → β → Prop} : ∀ {as : List α} {bs : List β} {as' : List α} {bs' : List β}, Paired F as bs → Paired F as' bs' → Paired F (as ++ as') (bs ++ bs')
  | _, _, _, _, .nil, h => h
  | _, _, _, _, .cons r t, h => .cons r (paired_app t h)
theorem Given.yes {n : Nat} {f : Nat → Bool} {R : Nat → V → Prop} {ys : List V} {y : V} (h : Given n f R ys) (hf : f n = true) (r : R n y) : Given (n + 1) f R (ys ++ [y]) := by
  unfold Given
  rw [List.range_succ, List.filter_append, List.filter_cons, if_pos hf]
  exact paired_app h (Paired.cons r Paired.nil)
theorem Given.no {n : Nat} {f : Nat → Bool} {R : Nat → V → Prop} {ys : List V} (h : Given n f R ys) (hf : f n = false) : Given (n + 1) f R ys := by
  unfold Given
  rw [List.range_succ, List.filter_append, List.filter_cons, if_neg (by rw [hf]; decide)]
  rw [List.filter_nil, List.append_nil]
  exact h
theorem paired_imp {α β : Type} {F G : α → β → Prop} (h : ∀ a b, F a b → G a b) : ∀ {as : List α} {bs : List β}, Paired F as bs → Paired G as bs
  | _, _, .nil => .nil
  | _, _, .cons r t => .cons (h _ _ r) (paired_imp h t)
theorem Given.imp {n : Nat} {f : Nat → Bool} {R S : Nat → V → Prop} {ys : List V} (g : Given n f R ys) (h : ∀ i y, R i y → S i y) : Given n f S ys := paired_imp h g
theorem Given.len {n : Nat} {f : Nat → Bool} {R : Nat → V → Prop} {ys : List V} (g : Given n f R ys) : ys.length ≤ n := by
  have h := Paired.length g
  have h2 := List.length_filter_le f (List.range n)
  rw [List.length_range] at h2
  omega
theorem paired_eq {α β : Type} {v : α → β} : ∀ {as : List α} {bs : List β}, Paired (fun a b => b = v a) as bs → bs = as.map v
  | _, _, .nil => rfl
  | _, _, .cons r t => by
    rw [List.map_cons, ← r, ← paired_eq t]
/-- what each turn gives is told outright -/
theorem Given.eq {n : Nat} {f : Nat → Bool} {v : Nat → V} {ys : List V} (g : Given n f (fun i y => y = v i) ys) : ys = ((List.range n).filter f).map v := paired_eq g
theorem filter_true {α : Type} (l : List α) : l.filter (fun _ => true) = l := List.filter_eq_self.mpr fun _ _ => rfl
theorem Given.all {n : Nat} {v : Nat → V} {ys : List V} (g : Given n (fun _ => true) (fun i y => y = v i) ys) : ys = (List.range n).map v := by
  have h := g.eq
  rw [filter_true] at h
  exact h

/-- a comprehension that changes nothing that was there: f which turns give, R what (not hanging on D) -/
theorem lc_ev {J : It} {g : TG} {tt : TT} {te : TE} {vs : List Nat} {σ : L2.St} {D : Addr} {H1 : Hp} {Qd : Hp → Prop}
    (n : Nat) (f : Nat → Bool) (R : Nat → V → Hp → Prop) (hz : n ≤ 100000) (hD : H1 D = none)
    (mono : ∀ i y H H', ExD D H H' → R i y H → R i y H')
    (hgo : ∀ i H, i < n → Ex H1 H → J.go i H) (hst : ∀ H, Ex H1 H → J.stop n H)
    (hs : ∀ i H x H', i < n → Ex H1 H → (∃ acc, H D = some (.lst acc)) → J.yld i H x H' → ∀ (Q : V → Hp → Prop) (N : Hp → Prop),
      (f i = true → ∀ y H4, Ex H H4 → R i y H4 → Q y H4) → (f i = false → ∀ H4, Ex H H4 → N H4) →
      g x (wipe σ vs) H' fun σ2 H2 => wipe σ2 vs = wipe σ vs ∧ tt σ2 H2 fun b H3 => if b = true then te σ2 H3 Q else N H3)
    (hd : ∀ ys H, Ex H1 H → H D = some (.lst ys) → Given n f (fun i y => R i y H) ys → Qd H) : LcW J g tt te vs σ D H1 Qd := by
  refine lc_by n (fun i H => Ex H1 H ∧ ∃ ys, H D = some (.lst ys) ∧ Given i f (fun i y => R i y H) ys)
    ⟨Ex.nw hD, [], upd_same, .nil⟩ (fun i H hi p => hgo i H hi p.1) (fun H p => hst H p.1) ?_ ?_
  · rintro i H x H' hi ⟨e, ys, hy, gv⟩ y
    refine hs i H x H' hi e ⟨_, hy⟩ y _ _ ?_ ?_
    · intro hf z H4 e4 r
      refine ⟨ys, e4 D _ hy, by have := gv.len; have e1 : sizeLine = 16777216 := sizeLine_eq; omega, (e.tr e4).wr hD, _, upd_same, ?_⟩
      exact (gv.imp fun j y r' => mono j y _ _ (e4.d.tr ExD.put) r').yes hf (mono i z _ _ ExD.put r)
    · intro hf H4 e4
      exact ⟨e.tr e4, ys, e4 D _ hy, (gv.imp fun j y r' => mono j y _ _ e4.d r').no hf⟩
  · rintro H ⟨e, ys, hy, gv⟩
    exact hd ys H e hy gv
/-- turns over a list that stands -/
theorem itl_go {K : PySem.W.Frag} {H H' : Hp} {a : Addr} {xs : List V} (h : SqL K H a xs) (e : Ex H H') {i : Nat} (hi : i < xs.length) : (Itl K a).go i H' :=
  ⟨xs, xs[i], e.l h, List.getElem?_eq_getElem hi⟩
theorem itl_stop {K : PySem.W.Frag} {H H' : Hp} {a : Addr} {xs : List V} (h : SqL K H a xs) (e : Ex H H') : (Itl K a).stop xs.length H' :=
  ⟨xs, e.l h, Nat.le_refl _⟩
theorem itl_yld {K : PySem.W.Frag} {H H' H'' : Hp} {a : Addr} {xs : List V} {i : Nat} {x : V} (y : (Itl K a).yld i H' x H'') (h : SqL K H a xs) (e : Ex H H') : H'' = H' ∧ xs[i]? = some x :=
  ⟨y.1, y.2 xs (e.l h)⟩
theorem itz_go {K : PySem.W.Frag} {H H' : Hp} {a b : Addr} {xs ys : List V} (h : SqL K H a xs) (g : SqL K H b ys) (e : Ex H H') {i : Nat} (hi : i < min xs.length ys.length) : (Itz K a b).go i H' :=
  ⟨xs, ys, xs[i]'(by omega), ys[i]'(by omega), e.l h, e.l g, List.getElem?_eq_getElem _, List.getElem?_eq_getElem _⟩
theorem itz_stop {K : PySem.W.Frag} {H H' : Hp} {a b : Addr} {xs ys : List V} (h : SqL K H a xs) (g : SqL K H b ys) (e : Ex H H') : (Itz K a b).stop (min xs.length ys.length) H' :=
  ⟨xs, ys, e.l h, e.l g, by omega⟩
theorem ite_go {K : PySem.W.Frag} {H H' : Hp} {a : Addr} {xs : List V} (h : SqL K H a xs) (e : Ex H H') {i : Nat} (hi : i < xs.length) : (Ite K a).go i H' :=
  ⟨xs, xs[i], e.l h, List.getElem?_eq_getElem hi⟩
theorem ite_stop {K : PySem.W.Frag} {H H' : Hp} {a : Addr} {xs : List V} (h : SqL K H a xs) (e : Ex H H') : (Ite K a).stop xs.length H' :=
  ⟨xs, e.l h, Nat.le_refl _⟩
theorem cut1 (xs : List V) : cutV xs (some 1) none = xs.drop 1 := by
  unfold cutV
  rw [show HT.sIx xs.length 0 (some 1) = min 1 xs.length from HT.sIx_nat xs.length 0 1, HT.sIx_none]
  cases xs with
  | nil => rfl
  | cons x r =>
    have e : min 1 (x :: r).length = 1 := by
      rw [List.length_cons]
      omega
    rw [e]
    show List.take ((x :: r).length - 1) r = r
    rw [List.length_cons, Nat.add_sub_cancel]
    exact List.take_length
end Nw
namespace Nw
open PySem PySem.Spec PyProof.Rows L2
/-- the inner loop of a comprehension of two clauses -/
abbrev LcI (J1 : It) (g1 : TG) (tt1 : TT) (te : TE) (vs1 : List Nat) (σ2 : L2.St) (D : Addr) (H4 : Hp) (Nx : Hp → Prop) : Prop :=
  ∃ W1 : Nat → Nat → Hp → Prop, (∃ m, W1 0 m H4) ∧ ∀ j k H, W1 j k H →
    (J1.stop j H ∧ Nx H) ∨ (J1.go j H ∧ ∃ Nx1 : Hp → Prop, (∀ H', Nx1 H' → ∃ k', k' < k ∧ W1 (j + 1) k' H') ∧
      ∀ x H', J1.yld j H x H' → g1 x (wipe σ2 vs1) H' fun σ3 H5 => wipe σ3 vs1 = wipe σ2 vs1 ∧ tt1 σ3 H5 fun b H6 =>
        if b = true then te σ3 H6 fun y H7 => ∃ acc, H7 D = some (.lst acc) ∧ acc.length < sizeLine ∧
          Nx1 (upd H7 D (.lst (acc ++ [y]))) else Nx1 H6)
theorem lci_by {J1 : It} {g1 : TG} {tt1 : TT} {te : TE} {vs1 : List Nat} {σ2 : L2.St} {D : Addr} {H4 : Hp} {Nx : Hp → Prop}
    (n : Nat) (Pv : Nat → Hp → Prop) (h0 : Pv 0 H4) (hgo : ∀ i H, i < n → Pv i H → J1.go i H) (hst : ∀ H, Pv n H → J1.stop n H)
    (hs : ∀ i H x H', i < n → Pv i H → J1.yld i H x H' → g1 x (wipe σ2 vs1) H' fun σ3 H5 => wipe σ3 vs1 = wipe σ2 vs1 ∧
      tt1 σ3 H5 fun b H6 => if b = true then te σ3 H6 fun y H7 => ∃ acc, H7 D = some (.lst acc) ∧ acc.length < sizeLine ∧
        Pv (i + 1) (upd H7 D (.lst (acc ++ [y]))) else Pv (i + 1) H6)
    (hd : ∀ H, Pv n H → Nx H) : LcI J1 g1 tt1 te vs1 σ2 D H4 Nx := by
  refine ⟨fun i m H => m = n - i ∧ i ≤ n ∧ Pv i H, ⟨n, by omega, Nat.zero_le _, h0⟩, ?_⟩
  rintro i m H ⟨rfl, hi, p⟩
  by_cases hlt : i < n
  · refine .inr ⟨hgo i H hlt p, Pv (i + 1), fun H' p' => ⟨n - (i + 1), by omega, rfl, hlt, p'⟩, ?_⟩
    intro x H' y
    exact hs i H x H' hlt p y
  · have e : i = n := by omega
    subst e
    exact .inl ⟨hst H p, hd H p⟩
theorem lc2_by {J : It} {g : TG} {tt : TT} {wi1 : TI} {g1 : TG} {tt1 : TT} {te : TE} {vs vs1 : List Nat} {σ : L2.St} {D : Addr} {H1 : Hp} {Qd : Hp → Prop}
    (n : Nat) (Pv : Nat → Hp → Prop) (h0 : Pv 0 (upd H1 D (.lst [])))
    (hgo : ∀ i H, i < n → Pv i H → J.go i H) (hst : ∀ H, Pv n H → J.stop n H)
    (hs : ∀ i H x H', i < n → Pv i H → J.yld i H x H' → g x (wipe σ vs) H' fun σ2 H2 => wipe σ2 vs = wipe σ vs ∧
      tt σ2 H2 fun b H3 => if b = true then wi1 σ2 H3 fun J1 H4 => LcI J1 g1 tt1 te vs1 σ2 D H4 (Pv (i + 1)) else Pv (i + 1) H3)
    (hd : ∀ H, Pv n H → Qd H) :
    ∃ W : Nat → Nat → Hp → Prop, (∃ m, W 0 m (upd H1 D (.lst []))) ∧ ∀ i m H, W i m H →
      (J.stop i H ∧ Qd H) ∨ (J.go i H ∧ ∃ Nx : Hp → Prop, (∀ H', Nx H' → ∃ m', m' < m ∧ W (i + 1) m' H') ∧ ∀ x H', J.yld i H x H' →
        g x (wipe σ vs) H' fun σ2 H2 => wipe σ2 vs = wipe σ vs ∧ tt σ2 H2 fun b H3 =>
          if b = true then wi1 σ2 H3 fun J1 H4 => LcI J1 g1 tt1 te vs1 σ2 D H4 Nx else Nx H3) := by
  refine ⟨fun i m H => m = n - i ∧ i ≤ n ∧ Pv i H, ⟨n, by omega, Nat.zero_le _, h0⟩, ?_⟩
  rintro i m H ⟨rfl, hi, p⟩
  by_cases hlt : i < n
  · refine .inr ⟨hgo i H hlt p, Pv (i + 1), fun H' p' => ⟨n - (i + 1), by omega, rfl, hlt, p'⟩, ?_⟩
    intro x H' y
    exact hs i H x H' hlt p y
  · have e : i = n := by omega
    subst e
    exact .inl ⟨hst H p, hd H p⟩
end Nw
/-! Rules told over the written part by its own name, so that a comprehension's block may use them. -/
namespace Nw
open PySem PySem.Spec PyProof.Rows L2
section
variable {X : Cx} {K : PySem.W.Frag}
theorem op_eqDk (K : PySem.W.Frag) (hu : X.A.units + 64 < cLine) (hK : X.K = K := by rfl) : OpR X (compareOp .Eq) (rEqD K) := by
  subst hK
  exact op_eqD hu
theorem op_neDk (K : PySem.W.Frag) (hu : X.A.units + 64 < cLine) (hK : X.K = K := by rfl) : OpR X (compareOp .NotEq) (rNeD K) := by
  subst hK
  exact op_neD hu
theorem op_inK (K : PySem.W.Frag) (hK : X.K = K := by rfl) : OpR X (compareOp .In) (rIn K false) := by
  subst hK
  exact op_in_seq
theorem op_notInK (K : PySem.W.Frag) (hK : X.K = K := by rfl) : OpR X (compareOp .NotIn) (rIn K true) := by
  subst hK
  exact op_notIn_seq
theorem op_inDk (K : PySem.W.Frag) {k : Nat} (hr : Room k X.A) (hK : X.K = K := by rfl) : OpR X (compareOp .In) (rInD K) := by
  subst hK
  exact op_inD (by have := hr.un; omega)
theorem op_notInDk (K : PySem.W.Frag) {k : Nat} (hr : Room k X.A) (hK : X.K = K := by rfl) : OpR X (compareOp .NotIn) (rNotInD K) := by
  subst hK
  exact op_notInD (by have := hr.un; omega)
/-- < of ints, of tuples of ints -/
def rLtA (K : PySem.W.Frag) : R2 := fun x y H Q => (∃ i j, x = .int i ∧ y = .int j ∧ Q (.bl (decide (i < j))) H) ∨ rLtT K x y H Q
theorem op_ltA (K : PySem.W.Frag) (hu : X.A.units < cLine) (hK : X.K = K := by rfl) : OpR X (compareOp .Lt) (rLtA K) := by
  subst hK
  intro pins s σ H x y v u Q I rx ry q
  rcases q with q | q
  · exact op_lt pins s σ H x y v u Q I rx ry q
  · exact op_ltT hu pins s σ H x y v u Q I rx ry q
theorem op_catTk (K : PySem.W.Frag) (hK : X.K = K := by rfl) : OpR X (binaryOp .Add) (rCatT K) := by
  subst hK
  exact op_catT
theorem ix_listK (K : PySem.W.Frag) (hK : X.K = K := by rfl) : IxR X (rIxL K) := by
  subst hK
  exact ix_list
theorem ix_tupK (K : PySem.W.Frag) (hK : X.K = K := by rfl) : IxR X (rIxT K) := by
  subst hK
  exact ix_tup
theorem ix_seqK (K : PySem.W.Frag) (hK : X.K = K := by rfl) : IxR X (rIx K) := by
  subst hK
  exact ix_seq
theorem sl_listK (K : PySem.W.Frag) (hK : X.K = K := by rfl) : SlR X (rSlL K) := by
  subst hK
  exact sl_list
theorem sl_tupK (K : PySem.W.Frag) (hK : X.K = K := by rfl) : SlR X (rSlT K) := by
  subst hK
  exact sl_tup
def rLenQ (K : PySem.W.Frag) : List V → Hp → VK → Prop := fun xs H Q => ∃ p ys, xs = [.ref p] ∧ (SqL K H p ys ∨ SqT K H p ys) ∧ Q (.int ys.length) H
theorem call_lenK (K : PySem.W.Frag) (hK : X.K = K := by rfl) : CallR X (.builtin "len") (rLenQ K) := by
  subst hK
  exact call_len_seq
def rListQ (K : PySem.W.Frag) : List V → Hp → VK → Prop := fun xs H Q => ∃ p ys, xs = [.ref p] ∧ (SqL K H p ys ∨ SqT K H p ys) ∧ ∀ l, H l = none → Q (.ref l) (upd H l (.lst ys))
theorem call_listK (K : PySem.W.Frag) (hK : X.K = K := by rfl) : CallR X (.type "list") (rListQ K) := by
  subst hK
  exact call_list_of
theorem call_reprK (K : PySem.W.Frag) {k : Nat} (hq : Quiet X.A) (hr : Room k X.A) (hK : X.K = K := by rfl) : CallR X (.builtin "repr") (rReprD K) := by
  subst hK
  exact call_reprD hq hr
theorem call_isiK (K : PySem.W.Frag) (hK : X.K = K := by rfl) : CallR X (.builtin "isinstance") (rIsi K) := by
  subst hK
  exact call_isi
theorem cr_allK (K : PySem.W.Frag) (hc : X.calm = true) (hK : X.K = K := by rfl) : CallR X (.builtin "all") (rAll K) := by
  subst hK
  exact cr_all hc
theorem cr_anyK (K : PySem.W.Frag) (hc : X.calm = true) (hK : X.K = K := by rfl) : CallR X (.builtin "any") (rAny K) := by
  subst hK
  exact cr_any hc
theorem cr_sumK (K : PySem.W.Frag) (hc : X.calm = true) (hK : X.K = K := by rfl) : CallR X (.builtin "sum") (rSum K) := by
  subst hK
  exact cr_sum hc
theorem cr_maxK (K : PySem.W.Frag) (hc : X.calm = true) (hK : X.K = K := by rfl) : CallR X (.builtin "max") (rMax K) := by
  subst hK
  exact cr_max hc
theorem cr_minK' (K : PySem.W.Frag) (hc : X.calm = true) (hK : X.K = K := by rfl) : CallR X (.builtin "min") (rMin K) := by
  subst hK
  exact cr_min hc
theorem cr_sortedIk (K : PySem.W.Frag) (hK : X.K = K := by rfl) : CallR X (.builtin "sorted") (rSortedI K) := by
  subst hK
  exact cr_sortedI
theorem cr_sortedPOk (K : PySem.W.Frag) (hK : X.K = K := by rfl) : CallR X (.builtin "sorted") (rSortedPO K) := by
  subst hK
  exact cr_sortedPO
theorem pi_listK (K : PySem.W.Frag) {tg l : Expr} {tl : TE} (hl : PE X l tl) (hK : X.K = K := by rfl) : PI X tg l (iList K tl) := by
  subst hK
  exact pi_list hl
theorem pi_tupK (K : PySem.W.Frag) {tg l : Expr} {tl : TE} (hl : PE X l tl) (hK : X.K = K := by rfl) : PI X tg l (iTup K tl) := by
  subst hK
  exact pi_tup hl
theorem pg_tupK (K : PySem.W.Frag) {es : List Expr} {k : Nat} {pos : Pos} {t : TGs} {n : Nat} (hc : X.calm = true) (h : PGs X es t)
    (hn : (assignEach es X.env).length = n := by rfl)
    (hst : (assignEach es X.env).findIdx? (·.1) = none := by rfl) (hK : X.K = K := by rfl) : PG X (.Tuple es k pos) (gTup K n t) := by
  subst hK
  exact pg_tup hc h hn hst
end
end Nw
namespace Nw
open PySem PySem.Spec PyProof.Rows L2
theorem mil {n : Nat} (h : n ≤ 1000000) : n ≤ sizeLine := by
  rw [sizeLine_eq]
  omega
theorem mil' {n : Nat} (h : n < 1000000) : n < sizeLine := by
  rw [sizeLine_eq]
  omega
/-- xs + ys, lists that are read -/
def rCatS (K : PySem.W.Frag) : R2 := fun x y H Q => ∃ l b xs zs, x = .ref l ∧ y = .ref b ∧ SqL K H l xs ∧ SqL K H b zs ∧
  xs.length + zs.length ≤ 1000000 ∧ ∀ p, H p = none → Q (.ref p) (upd H p (.lst (xs ++ zs)))
theorem op_catS {X : Cx} (K : PySem.W.Frag) (hK : X.K = K := by rfl) : OpR X (binaryOp .Add) (rCatS K) := by
  subst hK
  intro pins s σ H x y v u Q I rx ry h
  obtain ⟨l, b, xs, zs, rfl, rfl, hH, hB, hz, q⟩ := h
  cases rx
  cases ry
  obtain ⟨its, r, ⟨⟨cls, dd, data, sl⟩, n, e, hc, hd0, hd⟩, _⟩ := I.list hH
  obtain ⟨its2, r2, ⟨⟨cls2, dd2, data2, sl2⟩, n2, e2, hc2, hd02, hd2⟩, _⟩ := I.list hB
  simp only at hc hd hc2 hd2
  subst hc hd hc2 hd2
  have l1 := r.length
  have l2 := r2.length
  have z : xs.length + zs.length ≤ sizeLine := mil hz
  refine concat_meets ⟨_, e, rfl⟩ ⟨_, e2, rfl⟩ noFill_list_add seq_list_add PySem.F.slot_list_add PySem.F.entry_list_add
    (PySem.F.args_list_add_2 _ _) (list_addW l b its.toArray its2.toArray n n2 dd dd2 sl sl2 (by simp only [List.size_toArray]; omega)) ⟨e, e2, ?_⟩
  have ea : its.toArray ++ its2.toArray = (its ++ its2).toArray := by simp
  rw [ea]
  exact ⟨.ref _, _, I.lnew (t' := s.toks) (r.append r2) (by rw [List.length_append]; omega), rfl, q _ I.fresh⟩
end Nw
/-! What the package's looks at values answer, on data. -/
namespace Nw
open PySem PySem.Spec PyProof.Rows L2

def isInt : PyData → Bool
  | .int _ => true
  | _ => false
theorem isInt_eq (d : PyData) : (isA "int" d && !isA "bool" d) = isInt d := by
  cases d <;> first | rfl | decide +kernel
/-- an int from 0 to m - 1 -/
def numB : PyData → Int → Bool
  | .int i, m => decide (0 ≤ i) && decide (i < m)
  | _, _ => false
def tupB : PyData → Int → Int → Bool
  | .tuple [a, b], m, n => numB a m && numB b n
  | _, _, _ => false
def listB : PyData → Int → Bool
  | .list ds, m => ds.all fun d => numB d m
  | _, _ => false
/-- ascending, by an order on the items -/
def ascB {α : Type} (lt : α → α → Bool) : List α → Bool
  | x :: y :: r => lt x y && ascB lt (y :: r)
  | _ => true
def ltIn (x y : Int) : Bool := decide (x < y)
def ltPr (x y : Int × Int) : Bool := HT.lexLt [x.1, x.2] [y.1, y.2]
def dPair (p : Int × Int) : PyData := .tuple [.int p.1, .int p.2]
/-- the ints of a list of ints, the pairs of a list of pairs -/
def intsOf : List PyData → Option (List Int)
  | [] => some []
  | .int i :: r => (intsOf r).map (i :: ·)
  | _ => none
def pairsOf : List PyData → Option (List (Int × Int))
  | [] => some []
  | .tuple [.int i, .int j] :: r => (pairsOf r).map ((i, j) :: ·)
  | _ => none
theorem intsOf_map : ∀ ns : List Int, intsOf (ns.map PyData.int) = some ns
  | [] => rfl
  | n :: ns => by
    simp only [List.map_cons, intsOf, intsOf_map ns, Option.map_some]
theorem pairsOf_map : ∀ ps : List (Int × Int), pairsOf (ps.map dPair) = some ps
  | [] => rfl
  | (a, b) :: ps => by
    simp only [List.map_cons, dPair, pairsOf, pairsOf_map ps, Option.map_some]
theorem ints_of_all {m : Int} : ∀ {ds : List PyData}, (ds.all fun d => numB d m) = true → ∃ ns : List Int, ds = ns.map PyData.int ∧ ∀ n ∈ ns, 0 ≤ n ∧ n < m
  | [], _ => ⟨[], rfl, fun _ h => nomatch h⟩
  | d :: ds, h => by
    simp only [List.all_cons, Bool.and_eq_true] at h
    obtain ⟨ns, rfl, hn⟩ := ints_of_all h.2
    cases d with
    | int i =>
      have h1 := h.1
      simp only [numB, Bool.and_eq_true, decide_eq_true_eq] at h1
      refine ⟨i :: ns, rfl, ?_⟩
      intro n hm
      rcases List.mem_cons.mp hm with rfl | hm
      · exact h1
      · exact hn n hm
    | _ =>
      have h1 := h.1
      simp [numB] at h1
theorem numB_inv {d : PyData} {m : Int} (h : numB d m = true) : ∃ i, d = .int i ∧ 0 ≤ i ∧ i < m := by
  cases d with
  | int i =>
    simp only [numB, Bool.and_eq_true, decide_eq_true_eq] at h
    exact ⟨i, rfl, h⟩
  | _ => simp [numB] at h
theorem tupB_inv {d : PyData} {m k : Int} (h : tupB d m k = true) : ∃ i j, d = dPair (i, j) ∧ (0 ≤ i ∧ i < m) ∧ (0 ≤ j ∧ j < k) := by
  match d, h with
  | .tuple [a, b], h =>
    simp only [tupB, Bool.and_eq_true] at h
    obtain ⟨i, rfl, hi⟩ := numB_inv h.1
    obtain ⟨j, rfl, hj⟩ := numB_inv h.2
    exact ⟨i, j, rfl, hi, hj⟩
theorem pairs_of_all {m k : Int} : ∀ {ds : List PyData}, (ds.all fun d => tupB d m k) = true →
    ∃ ps : List (Int × Int), ds = ps.map dPair ∧ ∀ p ∈ ps, (0 ≤ p.1 ∧ p.1 < m) ∧ (0 ≤ p.2 ∧ p.2 < k)
  | [], _ => ⟨[], rfl, fun _ h => nomatch h⟩
  | d :: ds, h => by
    simp only [List.all_cons, Bool.and_eq_true] at h
    obtain ⟨ps, rfl, hn⟩ := pairs_of_all h.2
    obtain ⟨i, j, rfl, hi, hj⟩ := tupB_inv h.1
    refine ⟨(i, j) :: ps, rfl, ?_⟩
    intro p hp
    rcases List.mem_cons.mp hp with rfl | hp
    · exact ⟨hi, hj⟩
    · exact hn p hp
def tuplesB : PyData → Int → Int → Bool
  | .list ds, m, n => (ds.all fun d => tupB d m n) && (match pairsOf ds with | some ps => ascB ltPr ps | none => false)
  | _, _, _ => false
def targetsB : PyData → Int → Bool
  | .list ds, m => (ds.all fun d => numB d m) && (decide (0 < ds.length) && (match intsOf ds with | some ns => ascB ltIn ns | none => false))
  | _, _ => false
def nudgesB : PyData → Int → Bool
  | .list ds, m => decide (ds.length ≤ 8) && ds.all fun d => targetsB d m
  | _, _ => false
def webB : PyData → Bool
  | .tuple [.int n, ps, ns] => (decide (1 ≤ n) && decide (n ≤ 20)) && (tuplesB ps n n && nudgesB ns n)
  | _ => false
/-- ascending, turn by turn -/
def ascAt {α : Type} (lt : α → α → Bool) (xs : List α) (i : Nat) : Bool :=
  match xs[i]?, xs[i + 1]? with
  | some x, some y => lt x y
  | _, _ => true
theorem ascB_range {α : Type} (lt : α → α → Bool) : ∀ xs : List α, ((List.range (xs.length - 1)).map fun i => ascAt lt xs i).all id = ascB lt xs
  | [] => rfl
  | [x] => rfl
  | x :: y :: r => by
    have ih := ascB_range lt (y :: r)
    have e : (x :: y :: r).length - 1 = ((y :: r).length - 1) + 1 := by
      simp only [List.length_cons]
      omega
    rw [e, List.range_succ_eq_map, List.map_cons, List.all_cons, List.map_map]
    show (lt x y && _) = (lt x y && ascB lt (y :: r))
    rw [← ih]
    rfl
theorem all_range_get {α : Type} (p : α → Bool) (d : α) : ∀ xs : List α, ((List.range xs.length).map fun i => p (xs.getD i d)).all id = xs.all p
  | [] => rfl
  | x :: xs => by
    rw [List.length_cons, List.range_succ_eq_map, List.map_cons, List.all_cons, List.map_map, List.all_cons]
    show (p x && _) = (p x && xs.all p)
    rw [← all_range_get p d xs]
    rfl
theorem given_bl {n : Nat} {f : Nat → Bool} : ((List.range n).map fun i => V.bl (f i)) = ((List.range n).map f).map V.bl := by
  rw [List.map_map]
  rfl
end Nw
namespace Nw
section
variable {K : PySem.W.Frag}
theorem isa_int (d : PySem.PyData) : PySem.W.kitOne K (.type (tyName d)) (.type "int") = some (isA "int" d) := isA_ok "int" (by simp) d
theorem isa_bool (d : PySem.PyData) : PySem.W.kitOne K (.type (tyName d)) (.type "bool") = some (isA "bool" d) := isA_ok "bool" (by simp) d
theorem isa_list (d : PySem.PyData) : PySem.W.kitOne K (.type (tyName d)) (.type "list") = some (isA "list" d) := isA_ok "list" (by simp) d
theorem isa_tuple (d : PySem.PyData) : PySem.W.kitOne K (.type (tyName d)) (.type "tuple") = some (isA "tuple" d) := isA_ok "tuple" (by simp) d
theorem isa_str (d : PySem.PyData) : PySem.W.kitOne K (.type (tyName d)) (.type "str") = some (isA "str" d) := isA_ok "str" (by simp) d
end
end Nw
namespace Nw
open PySem PySem.Spec PyProof.Rows L2
theorem map_at {α β : Type} {f : α → β} {l : List α} {i : Nat} {y : β} (h : (l.map f)[i]? = some y) : ∃ x, l[i]? = some x ∧ y = f x := by
  rw [List.getElem?_map] at h
  cases e : l[i]? with
  | none =>
    rw [e] at h
    cases h
  | some x =>
    rw [e] at h
    exact ⟨x, rfl, (Option.some.inj h).symm⟩
theorem drop1_at {α : Type} {l : List α} {i : Nat} {y : α} (h : (l.drop 1)[i]? = some y) : l[i + 1]? = some y := by
  rw [List.getElem?_drop, Nat.add_comm] at h
  exact h
theorem min_drop1 {α : Type} (l : List α) : min l.length (l.drop 1).length = l.length - 1 := by
  rw [List.length_drop]
  omega
/-- the pairs that a list of tuples of two ints holds -/
theorem pairs_at {K : PySem.W.Frag} {H : Hp} {ps : List (Int × Int)} {xs : List V} {i : Nat} {x : V} (h : DaAll K H (ps.map dPair) xs) (hx : xs[i]? = some x) :
    ∃ p, ps[i]? = some p ∧ ∃ a, x = .ref a ∧ SqT K H a [.int p.1, .int p.2] := by
  obtain ⟨d, hd, hdx⟩ := h.at' hx
  obtain ⟨p, hp, rfl⟩ := map_at hd
  obtain ⟨a, ys, rfl, hS, z1, r1, rfl, e1, z2, r2, rfl, e2, rfl⟩ := hdx
  obtain rfl := e1
  obtain rfl := e2
  exact ⟨p, hp, a, rfl, .inl (.inl hS)⟩
end Nw
namespace Nw
open PySem PySem.Spec PyProof.Rows L2
end Nw
/-! Webs as numbers. -/
namespace Nw
open PySem PySem.Spec PyProof.Rows L2
structure Wb where
  n : Int
  ps : List (Int × Int)
  ns : List (List Int)
  deriving DecidableEq
def dInts (r : List Int) : PyData := .list (r.map PyData.int)
def dPairs (ps : List (Int × Int)) : PyData := .list (ps.map dPair)
def dRows (ns : List (List Int)) : PyData := .list (ns.map dInts)
def Wb.d (w : Wb) : PyData := .tuple [.int w.n, dPairs w.ps, dRows w.ns]
structure Wb.Ok (w : Wb) : Prop where
  lo : 1 ≤ w.n
  hi : w.n ≤ 20
  ps : ∀ p ∈ w.ps, (0 ≤ p.1 ∧ p.1 < w.n) ∧ (0 ≤ p.2 ∧ p.2 < w.n)
  asc : ascB ltPr w.ps = true
  few : w.ns.length ≤ 8
  ns : ∀ r ∈ w.ns, r ≠ [] ∧ (∀ t ∈ r, 0 ≤ t ∧ t < w.n) ∧ ascB ltIn r = true
theorem targetsB_of {r : List Int} {m : Int} (h0 : r ≠ []) (h1 : ∀ t ∈ r, 0 ≤ t ∧ t < m) (h2 : ascB ltIn r = true) : targetsB (dInts r) m = true := by
  unfold dInts targetsB
  simp only [intsOf_map, h2, Bool.and_true, Bool.and_eq_true, decide_eq_true_eq, List.length_map]
  refine ⟨?_, List.length_pos_iff.mpr h0⟩
  simp only [List.all_map, List.all_eq_true]
  intro t ht
  have := h1 t ht
  simp [numB, this.1, this.2]
theorem tuplesB_of {ps : List (Int × Int)} {m n : Int} (h1 : ∀ p ∈ ps, (0 ≤ p.1 ∧ p.1 < m) ∧ (0 ≤ p.2 ∧ p.2 < n)) (h2 : ascB ltPr ps = true) : tuplesB (dPairs ps) m n = true := by
  unfold dPairs tuplesB
  simp only [pairsOf_map, h2, Bool.and_true]
  simp only [List.all_map, List.all_eq_true]
  intro p hp
  obtain ⟨⟨a, b⟩, c, d⟩ := h1 p hp
  simp [dPair, tupB, numB, a, b, c, d]
theorem Wb.Ok.web {w : Wb} (h : w.Ok) : webB w.d = true := by
  unfold Wb.d webB
  have h1 := h.lo
  have h2 := h.hi
  have h3 := tuplesB_of h.ps h.asc
  have h4 : nudgesB (dRows w.ns) w.n = true := by
    unfold dRows nudgesB
    simp only [List.length_map, h.few, decide_true, Bool.true_and]
    simp only [List.all_map, List.all_eq_true]
    intro r hr
    obtain ⟨a, b, c⟩ := h.ns r hr
    exact targetsB_of a b c
  simp [h1, h2, h3, h4]
/-- how long ascending rows of small numbers may be -/
theorem asc_len {m : Int} : ∀ (r : List Int) (lo : Int), (∀ t ∈ r, lo ≤ t ∧ t < m) → ascB ltIn r = true → (r.length : Int) ≤ max 0 (m - lo)
  | [], lo, _, _ => by
    simp only [List.length_nil]
    omega
  | [x], lo, h, _ => by
    have := h x (by simp)
    simp only [List.length_singleton]
    omega
  | x :: y :: r, lo, h, ha => by
    simp only [ascB, Bool.and_eq_true, ltIn, decide_eq_true_eq] at ha
    have hx := h x (by simp)
    have hy := h y (by simp)
    have key : ∀ (l : List Int) (a : Int), ascB ltIn (a :: l) = true → ∀ t ∈ l, a + 1 ≤ t := by
      intro l
      induction l with
      | nil =>
        intro a _ t ht
        cases ht
      | cons b l ih =>
        intro a hab t ht
        simp only [ascB, Bool.and_eq_true, ltIn, decide_eq_true_eq] at hab
        rcases List.mem_cons.mp ht with rfl | ht
        · omega
        · have := ih b hab.2 t ht
          omega
    have h' : ∀ t ∈ y :: r, x + 1 ≤ t ∧ t < m := by
      intro t ht
      refine ⟨?_, (h t (List.mem_cons_of_mem _ ht)).2⟩
      exact key (y :: r) x (by simp only [ascB, Bool.and_eq_true, ltIn, decide_eq_true_eq]; exact ha) t ht
    have ih := asc_len (y :: r) (x + 1) h' ha.2
    simp only [List.length_cons] at ih ⊢
    omega
theorem Wb.Ok.row {w : Wb} (h : w.Ok) {r : List Int} (hr : r ∈ w.ns) : r.length ≤ 20 := by
  obtain ⟨_, b, c⟩ := h.ns r hr
  have := asc_len r 0 b c
  have := h.hi
  have := h.lo
  omega
/-- the lines of a web -/
def pushedAt (n : Int) (i : Nat) (r : List Int) : List (Int × Int) := r.map fun t => (n + (i : Int), t)
def pushedFrom (n : Int) : Nat → List (List Int) → List (Int × Int)
  | _, [] => []
  | i, r :: rs => pushedAt n i r ++ pushedFrom n (i + 1) rs
def Wb.lines (w : Wb) : List (Int × Int) := w.ps ++ pushedFrom w.n 0 w.ns
theorem pushedFrom_take (n : Int) : ∀ (rs : List (List Int)) (i k : Nat) (r : List Int), rs[k]? = some r →
    pushedFrom n i (rs.take (k + 1)) = pushedFrom n i (rs.take k) ++ pushedAt n (i + k) r
  | [], _, _, _, h => by simp at h
  | a :: rs, i, 0, r, h => by
    obtain rfl : a = r := by simpa using h
    simp [pushedFrom]
  | a :: rs, i, k + 1, r, h => by
    have ih := pushedFrom_take n rs (i + 1) k r (by simpa using h)
    simp only [List.take_succ_cons, pushedFrom]
    rw [ih, List.append_assoc, show i + 1 + k = i + (k + 1) by omega]
theorem take_all {α : Type} (l : List α) : l.take l.length = l := List.take_length
end Nw
namespace Nw
open PySem PySem.Spec PyProof.Rows L2
theorem ltPr_iff {p q : Int × Int} : ltPr p q = true ↔ p.1 < q.1 ∨ (p.1 = q.1 ∧ p.2 < q.2) := by
  unfold ltPr
  rw [HT.lexLt_cons]
  by_cases h : p.1 = q.1
  · rw [if_pos h, HT.lexLt_cons]
    by_cases h2 : p.2 = q.2
    · rw [if_pos h2, HT.lexLt_nil_nil]
      constructor
      · intro e
        cases e
      · intro e
        omega
    · rw [if_neg h2, decide_eq_true_eq]
      omega
  · rw [if_neg h, decide_eq_true_eq]
    omega
theorem asc_code : ∀ {ps : List (Int × Int)}, (∀ p ∈ ps, 0 ≤ p.2 ∧ p.2 < 64) → ascB ltPr ps = true → ascB ltIn (ps.map fun p => 64 * p.1 + p.2) = true
  | [], _, _ => rfl
  | [_], _, _ => rfl
  | p :: q :: r, h, ha => by
    simp only [ascB, Bool.and_eq_true] at ha
    have hp := h p (by simp)
    have hq := h q (by simp)
    have h1 := ltPr_iff.mp ha.1
    have ih := asc_code (ps := q :: r) (fun z hz => h z (List.mem_cons_of_mem _ hz)) ha.2
    simp only [List.map_cons, ascB, Bool.and_eq_true, ltIn, decide_eq_true_eq] at ih ⊢
    exact ⟨by omega, ih⟩
theorem Wb.Ok.len {w : Wb} (h : w.Ok) : w.ps.length ≤ 1300 := by
  have h1 := asc_code (ps := w.ps) (fun p hp => by have := h.ps p hp; have := h.hi; omega) h.asc
  have h2 := asc_len _ 0 (m := 1300) (by
    intro t ht
    obtain ⟨p, hp, rfl⟩ := List.mem_map.mp ht
    have := h.ps p hp
    have := h.hi
    omega) h1
  rw [List.length_map] at h2
  omega
theorem pushed_len (n : Int) : ∀ (rs : List (List Int)) (i : Nat), (∀ r ∈ rs, r.length ≤ 20) → (pushedFrom n i rs).length ≤ 20 * rs.length
  | [], _, _ => by simp [pushedFrom]
  | r :: rs, i, h => by
    have h1 := h r (by simp)
    have h2 := pushed_len n rs (i + 1) (fun z hz => h z (List.mem_cons_of_mem _ hz))
    simp only [pushedFrom, pushedAt, List.length_append, List.length_map, List.length_cons]
    omega
theorem Wb.Ok.lines_len {w : Wb} (h : w.Ok) : w.lines.length ≤ 1500 := by
  have h1 := h.len
  have h2 := pushed_len w.n w.ns 0 (fun r hr => h.row hr)
  have h3 := h.few
  unfold Wb.lines
  rw [List.length_append]
  omega
/-- a web as it stands -/
theorem Wb.at {K : PySem.W.Frag} {H : Hp} {w : Wb} {v : V} (h : Da K H w.d v) : ∃ t x2 x3, v = .ref t ∧ SqT K H t [.int w.n, x2, x3] ∧ Da K H (dPairs w.ps) x2 ∧ Da K H (dRows w.ns) x3 := by
  obtain ⟨t, xs, rfl, hS, x1, r1, rfl, g1, x2, r2, rfl, g2, x3, r3, rfl, g3, rfl⟩ := h
  obtain rfl := g1
  exact ⟨t, x2, x3, rfl, .inl (.inl hS), g2, g3⟩
theorem dInts_at {K : PySem.W.Frag} {H : Hp} {r : List Int} {v : V} (h : Da K H (dInts r) v) : ∃ a, v = .ref a ∧ SqL K H a (r.map V.int) := by
  obtain ⟨a, xs, rfl, hS, hA, _⟩ := h
  obtain rfl := DaAll.ints.mp hA
  exact ⟨a, rfl, .inl (.inl hS)⟩
theorem dInts_of {K : PySem.W.Frag} {H : Hp} {r : List Int} {a : Addr} (h : H a = some (.lst (r.map V.int))) (hz : r.length ≤ 100000) : Da K H (dInts r) (.ref a) :=
  ⟨a, _, rfl, h, DaAll.ints.mpr rfl, by rw [List.length_map]; exact hz⟩
theorem dPair_of {K : PySem.W.Frag} {H : Hp} {p : Int × Int} {a : Addr} (h : H a = some (.tup [.int p.1, .int p.2])) : Da K H (dPair p) (.ref a) :=
  ⟨a, _, rfl, h, _, _, rfl, rfl, _, _, rfl, rfl, rfl⟩
end Nw
namespace Nw
open PySem PySem.Spec PyProof.Rows L2
theorem ExD.t {K : PySem.W.Frag} {D : Addr} {H H' : Hp} {a : Addr} {xs : List V} (e : ExD D H H') (n : a ≠ D) (h : SqT K H a xs) : SqT K H' a xs := by
  rcases h with (h | ⟨o, h⟩) | h
  · exact .inl (.inl (e a _ n h))
  · exact .inl (.inr ⟨o, e a _ n h⟩)
  · exact .inr h
theorem ExD.l {K : PySem.W.Frag} {D : Addr} {H H' : Hp} {a : Addr} {xs : List V} (e : ExD D H H') (n : a ≠ D) (h : SqL K H a xs) : SqL K H' a xs := by
  rcases h with (h | ⟨o, h⟩) | h
  · exact .inl (.inl (e a _ n h))
  · exact .inl (.inr ⟨o, e a _ n h⟩)
  · exact .inr h
/-- items that do not stand at D -/
abbrev OffD (D : Addr) (xs : List V) : Prop := ∀ x ∈ xs, ∃ b, x = .ref b ∧ b ≠ D
theorem OffD.nil {D : Addr} : OffD D [] := fun x h => by cases h
theorem OffD.snoc {D : Addr} {xs : List V} {b : Addr} (h : OffD D xs) (n : b ≠ D) : OffD D (xs ++ [.ref b]) := by
  intro x hx
  rcases List.mem_append.mp hx with hx | hx
  · exact h x hx
  · obtain rfl := List.mem_singleton.mp hx
    exact ⟨b, rfl, n⟩
theorem pairs_keep {K : PySem.W.Frag} {D : Addr} {H H' : Hp} (e : ExD D H H') : ∀ {L : List (Int × Int)} {acc : List V}, DaAll K H (L.map dPair) acc → OffD D acc → DaAll K H' (L.map dPair) acc
  | [], _, h, _ => h
  | p :: L, acc, h, o => by
    obtain ⟨x, xs, rfl, ⟨a, ys, rfl, hS, z1, r1, rfl, e1, z2, r2, rfl, e2, rfl⟩, h2⟩ := h
    obtain rfl := e1
    obtain rfl := e2
    obtain ⟨b, eb, nb⟩ := o (.ref a) (by simp)
    cases eb
    exact ⟨_, _, rfl, dPair_of (e _ _ nb hS), pairs_keep e h2 fun x hx => o x (List.mem_cons_of_mem _ hx)⟩
end Nw
namespace Nw
open PySem PySem.Spec PyProof.Rows L2
theorem pushed_ok {n : Int} {m : Int} : ∀ {rs : List (List Int)} {i : Nat}, (∀ r ∈ rs, ∀ t ∈ r, 0 ≤ t ∧ t < m) → ∀ l ∈ pushedFrom n i rs,
    (n + (i : Int) ≤ l.1 ∧ l.1 < n + (i : Int) + (rs.length : Int)) ∧ (0 ≤ l.2 ∧ l.2 < m)
  | [], _, _, l, hl => by cases hl
  | r :: rs, i, h, l, hl => by
    simp only [pushedFrom, List.mem_append] at hl
    simp only [List.length_cons]
    rcases hl with hl | hl
    · obtain ⟨t, ht, rfl⟩ := List.mem_map.mp hl
      have := h r (by simp) t ht
      exact ⟨⟨by simp, by simp; omega⟩, this⟩
    · have := pushed_ok (i := i + 1) (fun z hz => h z (List.mem_cons_of_mem _ hz)) l hl
      refine ⟨⟨by omega, by omega⟩, this.2⟩
theorem Wb.Ok.line {w : Wb} (h : w.Ok) : ∀ l ∈ w.lines, (0 ≤ l.1 ∧ l.1 < w.n + (w.ns.length : Int)) ∧ (0 ≤ l.2 ∧ l.2 < w.n) := by
  intro l hl
  have h1 := h.lo
  rcases List.mem_append.mp hl with hl | hl
  · have := h.ps l hl
    refine ⟨⟨this.1.1, by omega⟩, this.2⟩
  · have := pushed_ok (fun r hr => (h.ns r hr).2.1) l hl
    refine ⟨⟨by omega, by omega⟩, this.2⟩
/-- the targets that a list of lines gives a source -/
def rowOf (ls : List (Int × Int)) (s : Int) : List Int := (ls.filter fun l => l.1 == s).map (·.2)
theorem rowOf_nil (s : Int) : rowOf [] s = [] := rfl
theorem rowOf_app (a b : List (Int × Int)) (s : Int) : rowOf (a ++ b) s = rowOf a s ++ rowOf b s := by
  unfold rowOf
  rw [List.filter_append, List.map_append]
theorem rowOf_one (p : Int × Int) (s : Int) : rowOf [p] s = if p.1 = s then [p.2] else [] := by
  unfold rowOf
  by_cases h : p.1 = s
  · rw [if_pos h, List.filter_cons, if_pos (by simpa using h)]
    rfl
  · rw [if_neg h, List.filter_cons, if_neg (by simpa using h)]
    rfl
theorem rowOf_len (ls : List (Int × Int)) (s : Int) : (rowOf ls s).length ≤ ls.length := by
  unfold rowOf
  rw [List.length_map]
  exact List.length_filter_le _ _
theorem nodup_snoc {α : Type} {l : List α} {b : α} (h : l.Nodup) (n : b ∉ l) : (l ++ [b]).Nodup := by
  rw [List.nodup_append]
  refine ⟨h, by simp, ?_⟩
  intro a ha c hc e
  obtain rfl := List.mem_singleton.mp hc
  subst e
  exact n ha
theorem nodup_at {α : Type} {l : List α} (h : l.Nodup) {i j : Nat} {a b : α} (hi : l[i]? = some a) (hj : l[j]? = some b) (n : i ≠ j) : a ≠ b := by
  intro e
  subst e
  obtain ⟨h1, e1⟩ := List.getElem?_eq_some_iff.mp hi
  obtain ⟨h2, e2⟩ := List.getElem?_eq_some_iff.mp hj
  exact n ((List.getElem_inj h).mp (e1.trans e2.symm))
theorem atI_int {α : Type} {xs : List α} {s : Int} {v : α} (h0 : 0 ≤ s) (h : xs[s.toNat]? = some v) : atI xs s = some v := by
  have e := atI_nat h
  rw [Int.toNat_of_nonneg h0] at e
  exact e
theorem take_snoc {α : Type} {l : List α} {i : Nat} {x : α} (h : l[i]? = some x) : l.take (i + 1) = l.take i ++ [x] := by
  rw [List.take_add_one, h]
  rfl
end Nw
namespace Nw
open PySem PySem.Spec PyProof.Rows L2
/-- a tuple outlasts what is done to a list -/
theorem SqT.wr {K : PySem.W.Frag} {H : Hp} {b c : Addr} {xs ys : List V} {o : HO} (h : SqT K H b xs) (hc : H c = some (.lst ys)) : SqT K (upd H c o) b xs := by
  rcases h with (h | ⟨z, h⟩) | h
  · refine .inl (.inl ?_)
    rw [upd_ne (fun e => by rw [e, hc] at h; cases h)]
    exact h
  · refine .inl (.inr ⟨z, ?_⟩)
    rw [upd_ne (fun e => by rw [e, hc] at h; cases h)]
    exact h
  · exact .inr h
end Nw
namespace Nw
open PySem PySem.Spec PyProof.Rows L2
/-- the sources that a list of lines gives a quantity -/
def srcsOf (ls : List (Int × Int)) (t : Int) : List Int := (ls.filter fun l => l.2 == t).map (·.1)
theorem filter_range {α β : Type} (d : α) (p : α → Bool) (g : α → β) : ∀ ls : List α, ((List.range ls.length).filter fun i => p (ls.getD i d)).map (fun i => g (ls.getD i d)) = (ls.filter p).map g
  | [] => rfl
  | x :: ls => by
    have ih := filter_range d p g ls
    rw [List.length_cons, List.range_succ_eq_map, List.filter_cons, List.filter_map, List.filter_cons]
    have e : (fun i => p ((x :: ls).getD i d)) ∘ Nat.succ = fun i => p (ls.getD i d) := rfl
    rw [e]
    have e0 : (x :: ls).getD 0 d = x := rfl
    rw [e0]
    by_cases h : p x = true
    · rw [if_pos h, if_pos h, List.map_cons, List.map_cons, List.map_map, ← ih]
      rfl
    · rw [if_neg h, if_neg h, List.map_map, ← ih]
      rfl
theorem srcs_range (ls : List (Int × Int)) (z : Int) : ((List.range ls.length).filter fun i => (ls.getD i (0, 0)).2 == z).map (fun i => V.int (ls.getD i (0, 0)).1) = (srcsOf ls z).map V.int := by
  have h := filter_range (0, 0) (fun l : Int × Int => l.2 == z) (fun l => V.int l.1) ls
  rw [h]
  unfold srcsOf
  rw [List.map_map]
  rfl
end Nw
namespace Nw
open PySem PySem.Spec PyProof.Rows L2
/-- new rows at new places, apart from one another -/
structure RowsAt (H H' : Hp) (p : Addr) (as : List Addr) (n : Nat) (row : Nat → List Int) : Prop where
  new : H p = none
  ex : Ex H H'
  at_ : H' p = some (.lst (as.map V.ref))
  nd : as.Nodup
  off : ∀ b ∈ as, H b = none ∧ b ≠ p
  len : as.length = n
  row : ∀ s b, as[s]? = some b → H' b = some (.lst ((row s).map V.int))
theorem srcsOf_nil (s : Int) : srcsOf [] s = [] := rfl
theorem srcsOf_app (a b : List (Int × Int)) (s : Int) : srcsOf (a ++ b) s = srcsOf a s ++ srcsOf b s := by
  unfold srcsOf
  rw [List.filter_append, List.map_append]
theorem srcsOf_one (p : Int × Int) (s : Int) : srcsOf [p] s = if p.2 = s then [p.1] else [] := by
  unfold srcsOf
  by_cases h : p.2 = s
  · rw [if_pos h, List.filter_cons, if_pos (by simpa using h)]
    rfl
  · rw [if_neg h, List.filter_cons, if_neg (by simpa using h)]
    rfl
theorem srcsOf_len (ls : List (Int × Int)) (s : Int) : (srcsOf ls s).length ≤ ls.length := by
  unfold srcsOf
  rw [List.length_map]
  exact List.length_filter_le _ _
end Nw
/-! What draws are made of: a list of three numbers that each draw changes. -/
namespace Nw
open PySem PySem.Spec PyProof.Rows L2
/-- the heap without what stands at p -/
def rm (H : Hp) (p : Addr) : Hp := fun b => if b = p then none else H b
theorem rm_ex {H : Hp} {p : Addr} : Ex (rm H p) H := fun b o h => by
  unfold rm at h
  split at h
  · cases h
  · exact h
theorem rm_at {H : Hp} {p : Addr} : rm H p p = none := if_pos rfl
theorem rm_ne {H : Hp} {p b : Addr} (h : b ≠ p) : rm H p b = H b := if_neg h
theorem ExD.rm {p : Addr} {H H' : Hp} (e : ExD p H H') : Ex (rm H p) (rm H' p) := fun b o h => by
  by_cases n : b = p
  · subst n
    rw [rm_at] at h
    cases h
  · rw [rm_ne n] at h ⊢
    exact e b o n h
theorem Ex.rm {p : Addr} {H H' : Hp} (e : Ex H H') : Ex (rm H p) (rm H' p) := ExD.rm (Ex.d e)
theorem ExD.rfl {p : Addr} {H : Hp} : ExD p H H := fun _ _ _ h => h
theorem ExD.nw {p q : Addr} {H : Hp} {o : HO} (h : H q = none) : ExD p H (upd H q o) := (Ex.nw h).d
theorem ExD.wr {p q : Addr} {H H' : Hp} {o : HO} (e : ExD p H H') (h : H q = none) : ExD p H (upd H' q o) := fun a u n ha => by
  rw [upd_ne (ne_of_none ha h)]
  exact e a u n ha
theorem ExD.put2 {p : Addr} {H H' : Hp} {o : HO} (e : ExD p H H') : ExD p H (upd H' p o) := e.tr ExD.put
/-- what is new stands elsewhere than the purse -/
theorem ExD.fr {p q : Addr} {H H' : Hp} {o : HO} (e : ExD p H H') (hp : H' p = some o) (h : H' q = none) : H q = none := by
  cases z : H q with
  | none => exact Eq.refl _
  | some u =>
    by_cases n : q = p
    · subst n
      rw [hp] at h
      cases h
    · rw [e q u n z] at h
      cases h
structure Purse (H : Hp) (p : Addr) (m : Nat) : Prop where
  ex : ∃ b c e : Int, H p = some (.lst [.int b, .int c, .int e]) ∧ 0 ≤ b ∧ (0 ≤ c ∧ c < 10 ^ 42) ∧ (0 ≤ e ∧ e ≤ (m : Int))
theorem Purse.mono {H : Hp} {p : Addr} {m n : Nat} (h : Purse H p m) (l : m ≤ n) : Purse H p n := by
  obtain ⟨b, c, e, h1, h2, h3, h4⟩ := h.ex
  exact ⟨b, c, e, h1, h2, h3, h4.1, by omega⟩
theorem Purse.up {H H' : Hp} {p : Addr} {m : Nat} (h : Purse H p m) (e : Ex H H') : Purse H' p m := by
  obtain ⟨b, c, d, h1, h2⟩ := h.ex
  exact ⟨b, c, d, e _ _ h1, h2⟩
theorem Purse.off {H : Hp} {p : Addr} {m : Nat} (h : Purse H p m) {q : Addr} (n : H q = none) : q ≠ p := by
  obtain ⟨b, c, d, h1, h2⟩ := h.ex
  intro e
  rw [e, h1] at n
  cases n
theorem Purse.put {H : Hp} {p q : Addr} {m : Nat} {o : HO} (h : Purse H p m) (n : p ≠ q) : Purse (upd H q o) p m := by
  obtain ⟨b, c, d, h1, h2⟩ := h.ex
  exact ⟨b, c, d, by rw [upd_ne n]; exact h1, h2⟩
theorem Purse.fr {p q : Addr} {H H' : Hp} {m : Nat} (e : ExD p H H') (hp : Purse H' p m) (h : H' q = none) : H q = none := by
  obtain ⟨b, c, d, h1, _⟩ := hp.ex
  exact e.fr h1 h
/-- a remainder by a positive number -/
theorem fmod_in {a m : Int} (h : 0 < m) : 0 ≤ a.fmod m ∧ a.fmod m < m := by
  rw [Int.fmod_eq_emod_of_nonneg a (by omega)]
  exact ⟨Int.emod_nonneg a (by omega), Int.emod_lt_of_pos a h⟩
theorem div_in {a m : Int} (h0 : 0 ≤ a) (h : 0 < m) : 0 ≤ a / m := Int.ediv_nonneg h0 (by omega)
theorem pow_lt_of {i : Int} (h0 : 0 ≤ i) (h : i < 10 ^ 60) : i.natAbs < 2 ^ 10000 := by
  have h1 : (10 : Nat) ^ 60 < 2 ^ 10000 := by decide +kernel
  have h2 : i.natAbs < 10 ^ 60 := by omega
  omega
theorem small_div {m : Int} (h : 0 < m) (h2 : m < 1073741824) : CDivW 0 m := wide_div (b := 30) h (by omega) (by omega) (by omega)
theorem great_div {i m : Int} (h : 0 < m) (h2 : m < 1000000000000000000000000000000000000000000000000000000000000) : CDivW i m := wide_div (b := 200) h (by
  have e : (2 : Nat) ^ 200 = 1606938044258990275541962092341162602522202993782792835301376 := by decide +kernel
  rw [e]
  omega) (by omega) (by omega)
theorem small_div' {i m : Int} (h : 0 < m) (h2 : m < 1073741824) : CDivW i m := small_div h h2
end Nw
namespace Nw
open PySem PySem.Spec PyProof.Rows L2
theorem cpow10 {j : Int} (h0 : 0 ≤ j) (h1 : j ≤ 100) : CPowW 10 j := ⟨h0, h1, by
  show (10 : Nat) < 2 ^ 10000
  decide +kernel⟩
theorem cpow3 {i : Int} (h0 : 0 ≤ i) (h : i < 10 ^ 60) : CPowW i 3 := ⟨by decide, by decide, pow_lt_of h0 h⟩
theorem p18 : (10 : Int) ^ Int.toNat 18 = 1000000000000000000 := by decide +kernel
theorem p41 : (10 : Int) ^ Int.toNat 41 = 100000000000000000000000000000000000000000 := by decide +kernel
theorem p42 : (10 : Int) ^ 42 = 1000000000000000000000000000000000000000000 := by decide +kernel
theorem p43 : (10 : Int) ^ Int.toNat 43 = 10000000000000000000000000000000000000000000 := by decide +kernel
theorem p45 : (10 : Int) ^ Int.toNat 45 = 1000000000000000000000000000000000000000000000 := by decide +kernel
theorem p60 : (10 : Int) ^ 60 = 1000000000000000000000000000000000000000000000000000000000000 := by decide +kernel
theorem cube_nn {i : Int} (h : 0 ≤ i) : 0 ≤ i ^ Int.toNat 3 := Int.pow_nonneg h
theorem purse_new {a x k : Int} (hk : 0 ≤ k ∧ k ≤ 63) : 0 ≤ a.fmod (10 ^ Int.toNat 41 + 37) + 90001 * k + 17 ∧ a.fmod (10 ^ Int.toNat 41 + 37) + 90001 * k + 17 < 10 ^ 42 := by
  have h := fmod_in (a := a) (m := 10 ^ Int.toNat 41 + 37) (by rw [p41]; omega)
  rw [p41] at h ⊢
  rw [p42]
  omega
end Nw
namespace Nw
theorem ne41 : (10 : Int) ^ Int.toNat 41 + 37 ≠ 0 := by rw [p41]; decide
theorem ne43 : (10 : Int) ^ Int.toNat 43 + 29 ≠ 0 := by rw [p43]; decide
theorem ne45 : (10 : Int) ^ Int.toNat 45 + 9 ≠ 0 := by rw [p45]; decide
end Nw
/-! Data of webs compared and shown. -/
namespace Nw
open PySem PySem.Spec PyProof.Rows L2
theorem asc_snoc : ∀ {r : List Int} {x : Int}, ascB ltIn r = true → (∀ t ∈ r, t < x) → ascB ltIn (r ++ [x]) = true
  | [], _, _, _ => rfl
  | [a], x, _, h => by
    have := h a (by simp)
    simp [ascB, ltIn, this]
  | a :: b :: r, x, ha, h => by
    simp only [ascB, Bool.and_eq_true] at ha
    have ih := asc_snoc (r := b :: r) (x := x) ha.2 (fun t ht => h t (List.mem_cons_of_mem _ ht))
    simp only [List.cons_append, ascB, Bool.and_eq_true] at ih ⊢
    exact ⟨ha.1, ih⟩
theorem ascP_snoc : ∀ {r : List (Int × Int)} {x : Int × Int}, ascB ltPr r = true → (∀ t ∈ r, ltPr t x = true) → ascB ltPr (r ++ [x]) = true
  | [], _, _, _ => rfl
  | [a], x, _, h => by
    have := h a (by simp)
    simp [ascB, this]
  | a :: b :: r, x, ha, h => by
    simp only [ascB, Bool.and_eq_true] at ha
    have ih := ascP_snoc (r := b :: r) (x := x) ha.2 (fun t ht => h t (List.mem_cons_of_mem _ ht))
    simp only [List.cons_append, ascB, Bool.and_eq_true] at ih ⊢
    exact ⟨ha.1, ih⟩
/-! ### == -/
theorem eqv_ints : ∀ r s : List Int, PyData.eqvAll (r.map PyData.int) (s.map PyData.int) = decide (r = s)
  | [], [] => by simp [PyData.eqvAll]
  | [], _ :: _ => by simp [PyData.eqvAll]
  | _ :: _, [] => by simp [PyData.eqvAll]
  | a :: r, b :: s => by
    simp only [List.map_cons, PyData.eqvAll, eqv_ints r s, PyData.eqv]
    by_cases h : a = b
    · by_cases h2 : r = s <;> simp [h, h2]
    · simp [h]
theorem eqv_dInts (r s : List Int) : PyData.eqv (dInts r) (dInts s) = decide (r = s) := by
  unfold dInts
  simp only [PyData.eqv, eqv_ints]
theorem eqv_dPair (p q : Int × Int) : PyData.eqv (dPair p) (dPair q) = decide (p = q) := by
  obtain ⟨a, b⟩ := p
  obtain ⟨c, d⟩ := q
  unfold dPair
  simp only [PyData.eqv, PyData.eqvAll, Bool.and_true, Prod.mk.injEq]
  by_cases h : a = c <;> by_cases h2 : b = d <;> simp [h, h2]
theorem eqv_pairs : ∀ r s : List (Int × Int), PyData.eqvAll (r.map dPair) (s.map dPair) = decide (r = s)
  | [], [] => by simp [PyData.eqvAll]
  | [], _ :: _ => by simp [PyData.eqvAll]
  | _ :: _, [] => by simp [PyData.eqvAll]
  | a :: r, b :: s => by
    simp only [List.map_cons, PyData.eqvAll, eqv_pairs r s, eqv_dPair]
    by_cases h : a = b
    · by_cases h2 : r = s <;> simp [h, h2]
    · simp [h]
theorem eqv_dPairs (r s : List (Int × Int)) : PyData.eqv (dPairs r) (dPairs s) = decide (r = s) := by
  unfold dPairs
  simp only [PyData.eqv, eqv_pairs]
theorem eqv_rows : ∀ r s : List (List Int), PyData.eqvAll (r.map dInts) (s.map dInts) = decide (r = s)
  | [], [] => by simp [PyData.eqvAll]
  | [], _ :: _ => by simp [PyData.eqvAll]
  | _ :: _, [] => by simp [PyData.eqvAll]
  | a :: r, b :: s => by
    simp only [List.map_cons, PyData.eqvAll, eqv_rows r s, eqv_dInts]
    by_cases h : a = b
    · by_cases h2 : r = s <;> simp [h, h2]
    · simp [h]
theorem eqv_dRows (r s : List (List Int)) : PyData.eqv (dRows r) (dRows s) = decide (r = s) := by
  unfold dRows
  simp only [PyData.eqv, eqv_rows]
theorem eqv_web (u v : Wb) : PyData.eqv u.d v.d = decide (u = v) := by
  obtain ⟨a, b, c⟩ := u
  obtain ⟨d, e, f⟩ := v
  unfold Wb.d
  simp only [PyData.eqv, PyData.eqvAll, eqv_dPairs, eqv_dRows, Bool.and_true, Wb.mk.injEq]
  by_cases h : a = d <;> by_cases h2 : b = e <;> by_cases h3 : c = f <;> simp [h, h2, h3]
/-! ### shape -/
theorem shaped_of {d : PyData} (h : d.canLay0 = true) (h2 : d.depth ≤ 64) : SeqAt.shaped d = true := by
  unfold SeqAt.shaped
  rw [h, decide_eq_true h2]
  rfl
theorem lay_ints : ∀ r : List Int, PyData.canLayAll0 (r.map PyData.int) = true
  | [] => by simp [PyData.canLayAll0]
  | a :: r => by simp [PyData.canLayAll0, PyData.canLay0, lay_ints r]
theorem lay_pairs : ∀ r : List (Int × Int), PyData.canLayAll0 (r.map dPair) = true
  | [] => by simp [PyData.canLayAll0]
  | a :: r => by simp [PyData.canLayAll0, PyData.canLay0, dPair, lay_pairs r]
theorem lay_rows : ∀ r : List (List Int), PyData.canLayAll0 (r.map dInts) = true
  | [] => by simp [PyData.canLayAll0]
  | a :: r => by simp [PyData.canLayAll0, PyData.canLay0, dInts, lay_rows r, lay_ints]
theorem dep_ints : ∀ r : List Int, PyData.depthAll (r.map PyData.int) = 0
  | [] => by simp [PyData.depthAll]
  | a :: r => by simp [PyData.depthAll, PyData.depth, dep_ints r]
theorem dep_pairs : ∀ r : List (Int × Int), PyData.depthAll (r.map dPair) ≤ 1
  | [] => by simp [PyData.depthAll]
  | a :: r => by
    have := dep_pairs r
    simp [PyData.depthAll, PyData.depth, dPair]
    omega
theorem dep_rows : ∀ r : List (List Int), PyData.depthAll (r.map dInts) ≤ 1
  | [] => by simp [PyData.depthAll]
  | a :: r => by
    have := dep_rows r
    simp [PyData.depthAll, PyData.depth, dInts, dep_ints]
    omega
theorem lay_dInts (r : List Int) : (dInts r).canLay0 = true := by simp [dInts, PyData.canLay0, lay_ints]
theorem lay_dPairs (r : List (Int × Int)) : (dPairs r).canLay0 = true := by simp [dPairs, PyData.canLay0, lay_pairs]
theorem lay_dRows (r : List (List Int)) : (dRows r).canLay0 = true := by simp [dRows, PyData.canLay0, lay_rows]
theorem lay_dPair (p : Int × Int) : (dPair p).canLay0 = true := by simp [dPair, PyData.canLay0, PyData.canLayAll0]
theorem lay_web (u : Wb) : u.d.canLay0 = true := by simp [Wb.d, PyData.canLay0, PyData.canLayAll0, lay_dPairs, lay_dRows]
theorem dep_dInts (r : List Int) : (dInts r).depth ≤ 1 := by simp [dInts, PyData.depth, dep_ints]
theorem dep_dPair (p : Int × Int) : (dPair p).depth ≤ 1 := by simp [dPair, PyData.depth, PyData.depthAll]
theorem dep_dPairs (r : List (Int × Int)) : (dPairs r).depth ≤ 2 := by
  have := dep_pairs r
  simp [dPairs, PyData.depth]
  omega
theorem dep_dRows (r : List (List Int)) : (dRows r).depth ≤ 2 := by
  have := dep_rows r
  simp [dRows, PyData.depth]
  omega
theorem dep_web (u : Wb) : u.d.depth ≤ 3 := by
  have h1 := dep_dPairs u.ps
  have h2 := dep_dRows u.ns
  simp [Wb.d, PyData.depth, PyData.depthAll]
  omega
theorem sh_dInts (r : List Int) : SeqAt.shaped (dInts r) = true := shaped_of (lay_dInts r) (by have := dep_dInts r; omega)
theorem sh_dPair (r : Int × Int) : SeqAt.shaped (dPair r) = true := shaped_of (lay_dPair r) (by have := dep_dPair r; omega)
theorem sh_dPairs (r : List (Int × Int)) : SeqAt.shaped (dPairs r) = true := shaped_of (lay_dPairs r) (by have := dep_dPairs r; omega)
theorem sh_dRows (r : List (List Int)) : SeqAt.shaped (dRows r) = true := shaped_of (lay_dRows r) (by have := dep_dRows r; omega)
theorem sh_web (u : Wb) : SeqAt.shaped u.d = true := shaped_of (lay_web u) (by have := dep_web u; omega)
theorem nd_of_lay {d : PyData} (h : d.canLay0 = true) : d.hasDict = false := PyData.hasDict_of_canLay d h
section
variable {K : PySem.W.Frag} {H : Hp}
theorem Da.dInts {r : List Int} {v : V} (h : Da K H (dInts r) v) : Dp K H v (dInts r) := h.dp _ _ (nd_of_lay (lay_dInts r))
theorem Da.dPairs {r : List (Int × Int)} {v : V} (h : Da K H (dPairs r) v) : Dp K H v (dPairs r) := h.dp _ _ (nd_of_lay (lay_dPairs r))
theorem Da.dPair {r : Int × Int} {v : V} (h : Da K H (dPair r) v) : Dp K H v (dPair r) := h.dp _ _ (nd_of_lay (lay_dPair r))
theorem Da.dRows {r : List (List Int)} {v : V} (h : Da K H (dRows r) v) : Dp K H v (dRows r) := h.dp _ _ (nd_of_lay (lay_dRows r))
theorem Da.web {u : Wb} {v : V} (h : Da K H u.d v) : Dp K H v u.d := h.dp _ _ (nd_of_lay (lay_web u))
/-- a == b, a != b of lists of ints .. as the readings ask -/
theorem eqD_of {d e : PyData} {x y : V} {Q : VK} (hd : Dp K H x d) (he : Dp K H y e) (sd : SeqAt.shaped d = true) (se : SeqAt.shaped e = true) (q : Q (.bl (PyData.eqv d e)) H) : rEqD K x y H Q := ⟨d, e, hd, he, sd, se, q⟩
end
end Nw
namespace Nw
open PySem PySem.Spec PyProof.Rows L2
theorem ex_rm1 {H H' : Hp} {p : Addr} (h : ∀ b o, b ≠ p → H b = some o → H' b = some o) : Ex (rm H p) (rm H' p) := ExD.rm h
theorem ex_rm2 {H H' : Hp} {p q : Addr} (h : ∀ b o, b ≠ p → b ≠ q → H b = some o → H' b = some o) : Ex (rm (rm H p) q) (rm (rm H' p) q) :=
  ExD.rm fun b o n e => by
    by_cases n2 : b = p
    · subst n2
      rw [rm_at] at e
      cases e
    · rw [rm_ne n2] at e ⊢
      exact h b o n2 n e
theorem ex_rm3 {H H' : Hp} {p q r : Addr} (h : ∀ b o, b ≠ p → b ≠ q → b ≠ r → H b = some o → H' b = some o) : Ex (rm (rm (rm H p) q) r) (rm (rm (rm H' p) q) r) :=
  ExD.rm fun b o n e => by
    by_cases n2 : b = q
    · subst n2
      rw [rm_at] at e
      cases e
    · rw [rm_ne n2] at e ⊢
      by_cases n3 : b = p
      · subst n3
        rw [rm_at] at e
        cases e
      · rw [rm_ne n3] at e ⊢
        exact h b o n3 n2 n e
theorem asc_app : ∀ {a b : List (Int × Int)}, ascB ltPr a = true → ascB ltPr b = true → (∀ x ∈ a, ∀ y ∈ b, ltPr x y = true) → ascB ltPr (a ++ b) = true
  | [], _, _, hb, _ => hb
  | [x], [], _, _, _ => rfl
  | [x], y :: b, _, hb, h => by
    show (ltPr x y && ascB ltPr (y :: b)) = true
    rw [hb, h x (by simp) y (by simp)]
    rfl
  | x :: z :: a, b, ha, hb, h => by
    simp only [ascB, Bool.and_eq_true] at ha
    have ih := asc_app (a := z :: a) ha.2 hb (fun x hx => h x (List.mem_cons_of_mem _ hx))
    show (ltPr x z && ascB ltPr (z :: a ++ b)) = true
    rw [ha.1, ih]
    rfl
end Nw
namespace Nw
open PySem PySem.Spec PyProof.Rows L2
theorem rowOf_none {ls : List (Int × Int)} {s : Int} (h : ∀ l ∈ ls, l.1 ≠ s) : rowOf ls s = [] := by
  unfold rowOf
  rw [List.filter_eq_nil_iff.mpr (fun l hl => by simpa using h l hl)]
  rfl
theorem rowOf_pushedAt (n : Int) (i : Nat) (r : List Int) : rowOf (pushedAt n i r) (n + (i : Int)) = r := by
  unfold rowOf pushedAt
  rw [List.filter_eq_self.mpr]
  · rw [List.map_map]
    exact List.map_id _
  · intro l hl
    obtain ⟨t, _, rfl⟩ := List.mem_map.mp hl
    simp
/-- a quantity's row: from the pairs alone -/
theorem row_low {u : Wb} (h : u.Ok) {s : Int} (hs : s < u.n) : rowOf u.lines s = rowOf u.ps s := by
  unfold Wb.lines
  rw [rowOf_app, rowOf_none (ls := pushedFrom u.n 0 u.ns), List.append_nil]
  intro l hl
  have := pushed_ok (fun r hr => (h.ns r hr).2.1) l hl
  omega
theorem row_push {n : Int} {m : Int} : ∀ {rs : List (List Int)} {i k : Nat} {r : List Int}, (∀ r ∈ rs, ∀ t ∈ r, 0 ≤ t ∧ t < m) → rs[k]? = some r →
    rowOf (pushedFrom n i rs) (n + (i : Int) + (k : Int)) = r
  | [], _, _, _, _, e => by simp at e
  | a :: rs, i, 0, r, h, e => by
    obtain rfl : a = r := by simpa using e
    simp only [pushedFrom]
    rw [rowOf_app, show n + (i : Int) + ((0 : Nat) : Int) = n + (i : Int) by omega, rowOf_pushedAt, rowOf_none, List.append_nil]
    intro l hl
    have := pushed_ok (fun z hz => h z (List.mem_cons_of_mem _ hz)) l hl
    omega
  | a :: rs, i, k + 1, r, h, e => by
    simp only [pushedFrom]
    rw [rowOf_app, rowOf_none, List.nil_append]
    · have ih := row_push (n := n) (i := i + 1) (k := k) (r := r) (fun z hz => h z (List.mem_cons_of_mem _ hz)) (by simpa using e)
      rw [show n + (i : Int) + ((k + 1 : Nat) : Int) = n + ((i + 1 : Nat) : Int) + (k : Int) by omega]
      exact ih
    · intro l hl
      obtain ⟨t, _, rfl⟩ := List.mem_map.mp hl
      simp only
      omega
/-- a nudge's row -/
theorem row_high {u : Wb} (h : u.Ok) {k : Nat} {r : List Int} (hr : u.ns[k]? = some r) {s : Int} (hs : s = u.n + (k : Int)) : rowOf u.lines s = r := by
  subst hs
  unfold Wb.lines
  rw [rowOf_app, rowOf_none (ls := u.ps), List.nil_append]
  · have := row_push (n := u.n) (i := 0) (k := k) (fun r hr => (h.ns r hr).2.1) hr
    rw [show u.n + ((0 : Nat) : Int) + (k : Int) = u.n + (k : Int) by omega] at this
    exact this
  · intro l hl
    have := h.ps l hl
    omega
end Nw
/-! Data of webs shown, lines grouped and sorted. -/
namespace Nw
open PySem PySem.Spec PyProof.Rows L2
theorem short_small : ∀ n : Fin 64, ((PyData.shown (.int (n.val : Int))).length ≤ 8 ∧ (((n.val : Int)).natAbs.log2 < 1920) ∧ PyData.weight (.int (n.val : Int)) ≤ 6) := by decide +kernel
theorem short_int {i : Int} (h0 : 0 ≤ i) (h1 : i < 64) : (PyData.shown (.int i)).length ≤ 8 ∧ i.natAbs.log2 < 1920 ∧ PyData.weight (.int i) ≤ 6 := by
  have h := short_small ⟨i.toNat, by omega⟩
  simp only [Int.toNat_of_nonneg h0] at h
  exact h
abbrev Sm (i : Int) : Prop := 0 ≤ i ∧ i < 64
theorem sm_ints : ∀ {r : List Int}, (∀ t ∈ r, Sm t) → PyData.leavesShortAll 8 (r.map PyData.int) = true ∧ PyData.showableAll (r.map PyData.int) = true ∧ PyData.weightAll (r.map PyData.int) ≤ 7 * r.length
  | [], _ => by simp [PyData.leavesShortAll, PyData.showableAll, PyData.weightAll]
  | a :: r, h => by
    obtain ⟨h1, h2, h3⟩ := sm_ints (r := r) fun t ht => h t (List.mem_cons_of_mem _ ht)
    obtain ⟨s1, s2⟩ := h a (by simp)
    obtain ⟨g1, g2, g5⟩ := short_int s1 s2
    refine ⟨?_, ?_, ?_⟩
    · simp only [List.map_cons, PyData.leavesShortAll, PyData.leavesShort, h1, Bool.and_true, decide_eq_true_eq]
      exact g1
    · simp only [List.map_cons, PyData.showableAll, PyData.showable, h2, Bool.and_true, decide_eq_true_eq]
      exact g2
    · simp only [List.map_cons, PyData.weightAll, List.length_cons]
      omega
theorem sm_pairs : ∀ {r : List (Int × Int)}, (∀ t ∈ r, Sm t.1 ∧ Sm t.2) → PyData.leavesShortAll 8 (r.map dPair) = true ∧ PyData.showableAll (r.map dPair) = true ∧ PyData.weightAll (r.map dPair) ≤ 16 * r.length
  | [], _ => by simp [PyData.leavesShortAll, PyData.showableAll, PyData.weightAll]
  | a :: r, h => by
    obtain ⟨h1, h2, h3⟩ := sm_pairs (r := r) fun t ht => h t (List.mem_cons_of_mem _ ht)
    obtain ⟨s1, s2⟩ := h a (by simp)
    obtain ⟨g1, g2, g5⟩ := short_int s1.1 s1.2
    obtain ⟨g3, g4, g6⟩ := short_int s2.1 s2.2
    refine ⟨?_, ?_, ?_⟩
    · simp only [List.map_cons, dPair, PyData.leavesShortAll, PyData.leavesShort, h1, Bool.and_true, decide_eq_true_eq, Bool.and_eq_true]
      exact ⟨g1, g3⟩
    · simp only [List.map_cons, dPair, PyData.showableAll, PyData.showable, h2, Bool.and_true, decide_eq_true_eq, Bool.and_eq_true]
      exact ⟨g2, g4⟩
    · have e : PyData.weight (dPair a) = PyData.weight (.int a.1) + 1 + (PyData.weight (.int a.2) + 1 + 0) := by
        simp only [dPair, PyData.weight, PyData.weightAll]
      simp only [List.map_cons, PyData.weightAll, List.length_cons]
      omega
/-- what repr of a list of small ints asks -/
theorem show_ints {r : List Int} (hs : ∀ t ∈ r, Sm t) (hz : r.length ≤ 30000) : (dInts r).showable = true ∧ (dInts r).shown.length ≤ sizeLine ∧ (dInts r).depth ≤ 60 := by
  obtain ⟨h1, h2, h3⟩ := sm_ints hs
  refine ⟨?_, ?_, ?_⟩
  · simp only [dInts, PyData.showable, h2]
  · refine PyData.shown_fits (B := 8) (by omega) (by omega) ?_ ?_
    · simp only [dInts, PyData.leavesShort, h1]
    · simp only [dInts, PyData.weight]
      omega
  · have := dep_dInts r
    omega
/-- what repr of a list of pairs of small ints asks -/
theorem show_pairs {r : List (Int × Int)} (hs : ∀ t ∈ r, Sm t.1 ∧ Sm t.2) (hz : r.length ≤ 30000) : (dPairs r).showable = true ∧ (dPairs r).shown.length ≤ sizeLine ∧ (dPairs r).depth ≤ 60 := by
  obtain ⟨h1, h2, h3⟩ := sm_pairs hs
  refine ⟨?_, ?_, ?_⟩
  · simp only [dPairs, PyData.showable, h2]
  · refine PyData.shown_fits (B := 8) (by omega) (by omega) ?_ ?_
    · simp only [dPairs, PyData.leavesShort, h1]
    · simp only [dPairs, PyData.weight]
      omega
  · have := dep_dPairs r
    omega
/-! ### lines grouped -/
theorem asc_tail : ∀ {p : Int × Int} {r : List (Int × Int)}, ascB ltPr (p :: r) = true → (∀ q ∈ r, ltPr p q = true) ∧ ascB ltPr r = true
  | p, [], _ => ⟨fun q hq => (by cases hq), rfl⟩
  | p, q :: r, h => by
    simp only [ascB, Bool.and_eq_true] at h
    obtain ⟨h1, h2⟩ := asc_tail (p := q) (r := r) h.2
    refine ⟨fun z hz => ?_, h.2⟩
    rcases List.mem_cons.mp hz with rfl | hz
    · exact h.1
    · have a := ltPr_iff.mp h.1
      have b := ltPr_iff.mp (h1 z hz)
      refine ltPr_iff.mpr ?_
      omega
/-- rising lines, those of the first k sources -/
def upTo (ls : List (Int × Int)) (k : Int) : List (Int × Int) := ls.filter fun l => decide (l.1 < k)
theorem upTo_step : ∀ {ls : List (Int × Int)} (k : Int), ascB ltPr ls = true → upTo ls (k + 1) = upTo ls k ++ (rowOf ls k).map fun t => (k, t)
  | [], k, _ => rfl
  | p :: r, k, h => by
    obtain ⟨h1, h2⟩ := asc_tail h
    have ih := upTo_step (ls := r) k h2
    unfold upTo rowOf at ih ⊢
    by_cases a : p.1 < k
    · rw [List.filter_cons_of_pos (p := fun l : Int × Int => decide (l.1 < k + 1)) (by simp; omega), List.filter_cons_of_pos (p := fun l : Int × Int => decide (l.1 < k)) (by simpa using a),
        List.filter_cons_of_neg (p := fun l : Int × Int => l.1 == k) (by simp; omega), ih]
      rfl
    · have e0 : r.filter (fun l => decide (l.1 < k)) = [] := by
        refine List.filter_eq_nil_iff.mpr fun q hq => ?_
        have := ltPr_iff.mp (h1 q hq)
        simp
        omega
      rw [e0, List.nil_append] at ih
      rw [List.filter_cons_of_neg (p := fun l : Int × Int => decide (l.1 < k)) (by simpa using a), e0, List.nil_append]
      by_cases b : p.1 = k
      · rw [List.filter_cons_of_pos (p := fun l : Int × Int => decide (l.1 < k + 1)) (by simp; omega), List.filter_cons_of_pos (p := fun l : Int × Int => l.1 == k) (by simpa using b), ih, List.map_cons, List.map_cons]
        rw [← b]
      · rw [List.filter_cons_of_neg (p := fun l : Int × Int => decide (l.1 < k + 1)) (by simp; omega), List.filter_cons_of_neg (p := fun l : Int × Int => l.1 == k) (by simpa using b), ih]
theorem upTo_none {ls : List (Int × Int)} {k : Int} (h : ∀ l ∈ ls, k ≤ l.1) : upTo ls k = [] :=
  List.filter_eq_nil_iff.mpr fun l hl => by
    have := h l hl
    simp
    omega
theorem upTo_all {ls : List (Int × Int)} {k : Int} (h : ∀ l ∈ ls, l.1 < k) : upTo ls k = ls :=
  List.filter_eq_self.mpr fun l hl => by
    have := h l hl
    simp
    omega
theorem asc_pushedAt {n : Int} {i : Nat} : ∀ {r : List Int}, ascB ltIn r = true → ascB ltPr (pushedAt n i r) = true
  | [], _ => rfl
  | [x], _ => rfl
  | x :: y :: r, h => by
    simp only [ascB, Bool.and_eq_true, ltIn, decide_eq_true_eq] at h
    have ih := asc_pushedAt (n := n) (i := i) (r := y :: r) h.2
    unfold pushedAt at ih ⊢
    simp only [List.map_cons, ascB, Bool.and_eq_true] at ih ⊢
    exact ⟨ltPr_iff.mpr (.inr ⟨rfl, h.1⟩), ih⟩
theorem asc_pushed {n m : Int} : ∀ {rs : List (List Int)} {i : Nat}, (∀ r ∈ rs, (∀ t ∈ r, 0 ≤ t ∧ t < m) ∧ ascB ltIn r = true) → ascB ltPr (pushedFrom n i rs) = true
  | [], _, _ => rfl
  | r :: rs, i, h => by
    simp only [pushedFrom]
    refine asc_app (asc_pushedAt (h r (by simp)).2) (asc_pushed fun z hz => h z (List.mem_cons_of_mem _ hz)) ?_
    intro x hx y hy
    obtain ⟨t, _, rfl⟩ := List.mem_map.mp hx
    have := pushed_ok (fun z hz => (h z (List.mem_cons_of_mem _ hz)).1) y hy
    refine ltPr_iff.mpr (.inl ?_)
    simp only
    omega
theorem Wb.Ok.lines_asc {u : Wb} (h : u.Ok) : ascB ltPr u.lines = true := by
  refine asc_app h.asc (asc_pushed fun r hr => (h.ns r hr).2) ?_
  intro x hx y hy
  have a := h.ps x hx
  have b := pushed_ok (fun r hr => (h.ns r hr).2.1) y hy
  refine ltPr_iff.mpr (.inl ?_)
  omega
theorem Wb.Ok.sm {u : Wb} (h : u.Ok) : ∀ l ∈ u.lines, Sm l.1 ∧ Sm l.2 := by
  intro l hl
  have a := h.line l hl
  have b := h.hi
  have c := h.few
  refine ⟨⟨a.1.1, by omega⟩, ⟨a.2.1, by omega⟩⟩
theorem Wb.Ok.sm_row {u : Wb} (h : u.Ok) (s : Int) : ∀ t ∈ rowOf u.lines s, Sm t := by
  intro t ht
  obtain ⟨l, hl, rfl⟩ := List.mem_map.mp ht
  exact (h.sm l (List.mem_filter.mp hl).1).2
theorem Wb.Ok.sm_srcs {u : Wb} (h : u.Ok) (s : Int) : ∀ t ∈ srcsOf u.lines s, Sm t := by
  intro t ht
  obtain ⟨l, hl, rfl⟩ := List.mem_map.mp ht
  exact (h.sm l (List.mem_filter.mp hl).1).1
theorem srcs_len (ls : List (Int × Int)) (s : Int) : (srcsOf ls s).length ≤ ls.length := by
  unfold srcsOf
  rw [List.length_map]
  exact List.length_filter_le _ _
/-! ### sorted -/
/-- the two ints of a pair that is known -/
def keyOf (H : Hp) : V → Int × Int
  | .ref t => match H t with
    | some (.tup [.int a, .int b]) => (a, b)
    | _ => (0, 0)
  | _ => (0, 0)
theorem keyOf_at {H : Hp} {t : Addr} {p : Int × Int} (h : H t = some (.tup [.int p.1, .int p.2])) : keyOf H (.ref t) = p := by
  unfold keyOf
  simp only [h]
theorem keys_of {K : PySem.W.Frag} {H : Hp} : ∀ {L : List (Int × Int)} {xs : List V}, DaAll K H (L.map dPair) xs → (∀ x ∈ xs, ∃ t, x = V.ref t ∧ H t = some (.tup [.int (keyOf H x).1, .int (keyOf H x).2])) ∧ xs.map (keyOf H) = L
  | [], xs, h => by
    obtain rfl : xs = [] := h
    exact ⟨fun x hx => (by cases hx), rfl⟩
  | p :: L, xs, h => by
    obtain ⟨x, xs, rfl, ⟨a, ys, rfl, hS, z1, r1, rfl, e1, z2, r2, rfl, e2, rfl⟩, h2⟩ := h
    obtain rfl := e1
    obtain rfl := e2
    obtain ⟨g1, g2⟩ := keys_of h2
    have e := keyOf_at hS
    refine ⟨fun x hx => ?_, by rw [List.map_cons, e, g2]⟩
    rcases List.mem_cons.mp hx with rfl | hx
    · exact ⟨a, rfl, by rw [e]; exact hS⟩
    · exact g1 x hx
theorem srtd_of {k : V → Int × Int} : ∀ {xs : List V}, ascB ltPr (xs.map k) = true → SrtO.Srtd (ltP k) xs
  | [], _ => List.Pairwise.nil
  | x :: xs, h => by
    obtain ⟨h1, h2⟩ := asc_tail (p := k x) (r := xs.map k) h
    refine List.Pairwise.cons (fun y hy => ?_) (srtd_of h2)
    have a := ltPr_iff.mp (h1 (k y) (List.mem_map.mpr ⟨y, hy, rfl⟩))
    refine SrtO.lexB_no.mpr ?_
    omega
/-- sorted of what is sorted -/
theorem sorted_same {K : PySem.W.Frag} {H : Hp} {a : Addr} {xs : List V} {L : List (Int × Int)} {Q : VK} (hS : SqL K H a xs) (hA : DaAll K H (L.map dPair) xs) (ha : ascB ltPr L = true)
    (q : ∀ p, H p = none → Q (.ref p) (upd H p (.lst xs))) : rSortedPO K [.ref a] H Q := by
  obtain ⟨h1, h2⟩ := keys_of hA
  refine ⟨a, xs, keyOf H, rfl, hS, h1, fun ys p s1 s2 hp => ?_⟩
  have s3 : SrtO.Srtd (ltP (keyOf H)) xs := srtd_of (by rw [h2]; exact ha)
  rw [SrtO.stb_uniq (ltP_swo (keyOf H)) s1 s3 s2]
  exact q p hp
/-- pairs outlast what is done to a list -/
theorem pairs_wr {K : PySem.W.Frag} {H : Hp} {D : Addr} {ys : List V} {o : HO} (hD : H D = some (.lst ys)) : ∀ {L : List (Int × Int)} {acc : List V}, DaAll K H (L.map dPair) acc → DaAll K (upd H D o) (L.map dPair) acc
  | [], _, h => h
  | p :: L, acc, h => by
    obtain ⟨x, xs, rfl, ⟨a, zs, rfl, hS, z1, r1, rfl, e1, z2, r2, rfl, e2, rfl⟩, h2⟩ := h
    obtain rfl := e1
    obtain rfl := e2
    refine ⟨_, _, rfl, dPair_of ?_, pairs_wr hD h2⟩
    rw [upd_ne (fun e => by rw [e, hD] at hS; cases hS)]
    exact hS
end Nw
/-! Webs turned and renumbered. -/
namespace Nw
open PySem PySem.Spec PyProof.Rows L2
section
variable {X : Cx}
theorem mt_indexK (K : PySem.W.Frag) (hK : X.K = K := by rfl) : MtR X "list.index" (rIndex K) := by
  subst hK
  exact mt_index
theorem bmK (K : PySem.W.Frag) {T : String} {r : V → List V → Hp → VK → Prop} {to : TE} {t : TA} {e : Expr} (h : PE X e (tBM X.K T r to t)) (hK : X.K = K := by rfl) : PE X e (tBM K T r to t) := by
  subst hK
  exact h
theorem pe_dgetK {k : Nat} {o i : Expr} {td ty : TE} {pos : Pos} (hr : Room k X.A) (ho : PE X o td) (hi : PE X i ty) (hs : NoSl i) : PE X (.Subscript o i pos) (tDGet td ty) :=
  pe_dget (by have := hr.un; omega) ho hi hs
end
/-- what a dict comprehension's reading asks -/
theorem dc_by {J : It} {g : TG} {tt : TT} {tk tv : TE} {vs : List Nat} {σ : L2.St} {D : Addr} {H1 : Hp} {Qd : Hp → Prop}
    (n : Nat) (Pv : Nat → Hp → Prop) (h0 : Pv 0 (upd H1 D (.dK [])))
    (hgo : ∀ i H, i < n → Pv i H → J.go i H) (hst : ∀ H, Pv n H → J.stop n H)
    (hs : ∀ i H x H', i < n → Pv i H → J.yld i H x H' → g x (wipe σ vs) H' fun σ2 H2 => wipe σ2 vs = wipe σ vs ∧ tt σ2 H2 fun b H3 =>
      if b = true then tk σ2 H3 fun y H4 => tv σ2 H4 fun z H5 => ∃ kvs k, y = kV k ∧ H5 D = some (.dK kvs) ∧ kvs.length < sizeLine ∧ Pv (i + 1) (upd H5 D (.dK (putK kvs k z))) else Pv (i + 1) H3)
    (hd : ∀ H, Pv n H → Qd H) :
    ∃ W : Nat → Nat → Hp → Prop, (∃ m, W 0 m (upd H1 D (.dK []))) ∧ ∀ i m H, W i m H →
      (J.stop i H ∧ Qd H) ∨ (J.go i H ∧ ∃ Nx : Hp → Prop, (∀ H', Nx H' → ∃ m', m' < m ∧ W (i + 1) m' H') ∧ ∀ x H', J.yld i H x H' → g x (wipe σ vs) H' fun σ2 H2 => wipe σ2 vs = wipe σ vs ∧ tt σ2 H2 fun b H3 =>
        if b = true then tk σ2 H3 fun y H4 => tv σ2 H4 fun z H5 => ∃ kvs k, y = kV k ∧ H5 D = some (.dK kvs) ∧ kvs.length < sizeLine ∧ Nx (upd H5 D (.dK (putK kvs k z))) else Nx H3) := by
  refine ⟨fun i m H => m = n - i ∧ i ≤ n ∧ Pv i H, ⟨n, by omega, Nat.zero_le _, h0⟩, ?_⟩
  rintro i m H ⟨rfl, hi, p⟩
  by_cases hlt : i < n
  · refine .inr ⟨hgo i H hlt p, Pv (i + 1), fun H' p' => ⟨n - (i + 1), by omega, rfl, hlt, p'⟩, ?_⟩
    intro x H' y
    exact hs i H x H' hlt p y
  · have e : i = n := by omega
    subst e
    exact .inl ⟨hst H p, hd H p⟩
/-! ### lists told by their members -/
theorem pw_ext {α : Type} {lt : α → α → Bool} (irr : ∀ x, lt x x = false) (asym : ∀ x y, lt x y = true → lt y x = false) :
    ∀ {a b : List α}, a.Pairwise (fun x y => lt x y = true) → b.Pairwise (fun x y => lt x y = true) → (∀ x, x ∈ a ↔ x ∈ b) → a = b
  | [], [], _, _, _ => rfl
  | [], y :: b, _, _, h => by
    have := (h y).mpr (by simp)
    cases this
  | x :: a, [], _, _, h => by
    have := (h x).mp (by simp)
    cases this
  | x :: a, y :: b, ha, hb, h => by
    obtain ⟨a1, a2⟩ := List.pairwise_cons.mp ha
    obtain ⟨b1, b2⟩ := List.pairwise_cons.mp hb
    have e : x = y := by
      rcases List.mem_cons.mp ((h x).mp (by simp)) with e | hx
      · exact e
      rcases List.mem_cons.mp ((h y).mpr (by simp)) with e | hy
      · exact e.symm
      have z1 := b1 x hx
      have z2 := a1 y hy
      rw [asym _ _ z1] at z2
      cases z2
    subst e
    have nx : ∀ {l : List α}, (∀ z ∈ l, lt x z = true) → x ∉ l := fun hl hx => by
      have := hl x hx
      rw [irr] at this
      cases this
    rw [pw_ext irr asym a2 b2 fun z => ?_]
    constructor
    · intro hz
      rcases List.mem_cons.mp ((h z).mp (List.mem_cons_of_mem _ hz)) with e | hz'
      · subst e
        exact absurd hz (nx a1)
      · exact hz'
    · intro hz
      rcases List.mem_cons.mp ((h z).mpr (List.mem_cons_of_mem _ hz)) with e | hz'
      · subst e
        exact absurd hz (nx b1)
      · exact hz'
theorem ltPr_no {p q : Int × Int} (h : ¬ (p.1 < q.1 ∨ (p.1 = q.1 ∧ p.2 < q.2))) : ltPr p q = false := by
  cases e : ltPr p q with
  | false => rfl
  | true => exact absurd (ltPr_iff.mp e) h
theorem pw_asc : ∀ {l : List (Int × Int)}, ascB ltPr l = true → l.Pairwise fun x y => ltPr x y = true
  | [], _ => List.Pairwise.nil
  | x :: l, h => by
    obtain ⟨h1, h2⟩ := asc_tail h
    exact List.Pairwise.cons h1 (pw_asc h2)
theorem asc_pw {α : Type} {lt : α → α → Bool} : ∀ {l : List α}, l.Pairwise (fun x y => lt x y = true) → ascB lt l = true
  | [], _ => rfl
  | [x], _ => rfl
  | x :: y :: l, h => by
    obtain ⟨h1, h2⟩ := List.pairwise_cons.mp h
    show (lt x y && ascB lt (y :: l)) = true
    rw [h1 y (by simp), asc_pw h2]
    rfl
theorem ascI_tail : ∀ {p : Int} {r : List Int}, ascB ltIn (p :: r) = true → (∀ q ∈ r, ltIn p q = true) ∧ ascB ltIn r = true
  | p, [], _ => ⟨fun q hq => (by cases hq), rfl⟩
  | p, q :: r, h => by
    simp only [ascB, Bool.and_eq_true] at h
    obtain ⟨h1, h2⟩ := ascI_tail (p := q) (r := r) h.2
    refine ⟨fun z hz => ?_, h.2⟩
    rcases List.mem_cons.mp hz with rfl | hz
    · exact h.1
    · have a := of_decide_eq_true h.1
      have b := of_decide_eq_true (h1 z hz)
      exact decide_eq_true (by omega)
theorem pwI_asc : ∀ {l : List Int}, ascB ltIn l = true → l.Pairwise fun x y => ltIn x y = true
  | [], _ => List.Pairwise.nil
  | x :: l, h => by
    obtain ⟨h1, h2⟩ := ascI_tail h
    exact List.Pairwise.cons h1 (pwI_asc h2)
theorem asc_ext {a b : List (Int × Int)} (ha : ascB ltPr a = true) (hb : ascB ltPr b = true) (h : ∀ x, x ∈ a ↔ x ∈ b) : a = b :=
  pw_ext (fun x => ltPr_no (by omega)) (fun x y e => ltPr_no (by have := ltPr_iff.mp e; omega)) (pw_asc ha) (pw_asc hb) h
theorem ltIn_no {p q : Int} (h : ¬ p < q) : ltIn p q = false := by
  unfold ltIn
  exact decide_eq_false h
theorem ltIn_yes {p q : Int} (h : ltIn p q = true) : p < q := by
  unfold ltIn at h
  exact of_decide_eq_true h
theorem ascI_ext {a b : List Int} (ha : ascB ltIn a = true) (hb : ascB ltIn b = true) (h : ∀ x, x ∈ a ↔ x ∈ b) : a = b :=
  pw_ext (fun x => ltIn_no (by omega)) (fun x y e => ltIn_no (by have := ltIn_yes e; omega)) (pwI_asc ha) (pwI_asc hb) h
theorem nodup_asc {l : List (Int × Int)} (h : ascB ltPr l = true) : l.Nodup :=
  (pw_asc h).imp fun {a b} e n => by
    subst n
    have := ltPr_iff.mp e
    omega
theorem nodup_ascI {l : List Int} (h : ascB ltIn l = true) : l.Nodup :=
  (pwI_asc h).imp fun {a b} e n => by
    subst n
    have := of_decide_eq_true e
    omega
/-- sorted ints that are apart -/
theorem asc_sortedI {l m : List Int} (hp : m.Perm l) (hs : m.Pairwise (· ≤ ·)) (hn : l.Nodup) : ascB ltIn m = true := by
  refine asc_pw ?_
  have hm : m.Nodup := hp.nodup_iff.mpr hn
  have := hs.and hm
  exact this.imp fun {a b} h => decide_eq_true (by have := h.1; have := h.2; omega)
/-- sorted pairs that are apart -/
theorem sortedP {K : PySem.W.Frag} {H : Hp} {L : List (Int × Int)} {xs ys : List V} (hA : DaAll K H (L.map dPair) xs) (hn : L.Nodup)
    (s1 : SrtO.Srtd (ltP (keyOf H)) ys) (s2 : SrtO.Stb (ltP (keyOf H)) ys xs) : ∃ M : List (Int × Int), DaAll K H (M.map dPair) ys ∧ ascB ltPr M = true ∧ (∀ p, p ∈ M ↔ p ∈ L) ∧ M.length = L.length := by
  obtain ⟨k1, k2⟩ := keys_of hA
  have hp : (ys.map (keyOf H)).Perm L := by
    rw [← k2]
    exact s2.perm.map _
  refine ⟨ys.map (keyOf H), ?_, ?_, fun p => hp.mem_iff, hp.length_eq⟩
  · have hy : ∀ x ∈ ys, ∃ t, x = V.ref t ∧ H t = some (.tup [.int (keyOf H x).1, .int (keyOf H x).2]) := fun x hx => k1 x (s2.perm.mem_iff.mp hx)
    clear s1 s2 hp
    induction ys with
    | nil => rfl
    | cons y ys ih =>
      obtain ⟨t, rfl, ht⟩ := hy y (by simp)
      exact ⟨_, _, rfl, dPair_of ht, ih fun x hx => hy x (List.mem_cons_of_mem _ hx)⟩
  · have hm : (ys.map (keyOf H)).Nodup := hp.nodup_iff.mpr hn
    have hs : (ys.map (keyOf H)).Pairwise fun x y => SrtO.lexB y x = false := List.pairwise_map.mpr s1
    refine asc_pw ((hs.and hm).imp fun {a b} h => ltPr_iff.mpr ?_)
    have h1 := SrtO.lexB_no.mp h.1
    have h2 : ¬ (a.1 = b.1 ∧ a.2 = b.2) := fun e => h.2 (Prod.ext e.1 e.2)
    omega
/-! ### orders -/
abbrev iota (n : Int) : List Int := (List.range n.toNat).map fun i : Nat => (i : Int)
abbrev IsOrd (n : Int) (o : List Int) : Prop := o.Perm (iota n)
theorem mem_iota {n x : Int} : x ∈ iota n ↔ 0 ≤ x ∧ x < n := by
  constructor
  · intro h
    obtain ⟨i, hi, rfl⟩ := List.mem_map.mp h
    have := List.mem_range.mp hi
    omega
  · rintro ⟨h1, h2⟩
    exact List.mem_map.mpr ⟨x.toNat, List.mem_range.mpr (by omega), by omega⟩
theorem asc_iota_aux : ∀ n : Nat, ((List.range n).map fun i : Nat => (i : Int)).Pairwise fun x y => ltIn x y = true := fun n =>
  List.pairwise_map.mpr (List.pairwise_lt_range.imp fun {a b} h => decide_eq_true (by omega))
theorem asc_iota (n : Int) : ascB ltIn (iota n) = true := asc_pw (asc_iota_aux _)
theorem nodup_iota (n : Int) : (iota n).Nodup := nodup_ascI (asc_iota n)
theorem IsOrd.mem {n : Int} {o : List Int} (h : IsOrd n o) {x : Int} : x ∈ o ↔ 0 ≤ x ∧ x < n := h.mem_iff.trans mem_iota
theorem IsOrd.len {n : Int} {o : List Int} (h : IsOrd n o) : o.length = n.toNat := by
  rw [h.length_eq, List.length_map, List.length_range]
theorem IsOrd.nd {n : Int} {o : List Int} (h : IsOrd n o) : o.Nodup := h.nodup_iff.mpr (nodup_iota n)
/-- the place of a quantity in an order -/
def pl (o : List Int) (q : Int) : Int := (o.idxOf q : Int)
theorem pl_at {o : List Int} (h : o.Nodup) {i : Nat} {q : Int} (e : o[i]? = some q) : pl o q = (i : Int) := by
  obtain ⟨hi, rfl⟩ := List.getElem?_eq_some_iff.mp e
  unfold pl
  rw [h.idxOf_getElem i hi]
theorem pl_get {n : Int} {o : List Int} (h : IsOrd n o) {q : Int} (hq : 0 ≤ q ∧ q < n) : ∃ j : Nat, o[j]? = some q ∧ pl o q = (j : Int) ∧ (j : Int) < n := by
  have hm := h.mem.mpr hq
  have hl := List.idxOf_lt_length_iff.mpr hm
  refine ⟨o.idxOf q, ?_, rfl, ?_⟩
  · rw [List.getElem?_eq_getElem hl, List.getElem_idxOf]
  · have := h.len
    omega
theorem pl_lt {n : Int} {o : List Int} (h : IsOrd n o) {q : Int} (hq : 0 ≤ q ∧ q < n) : 0 ≤ pl o q ∧ pl o q < n := by
  obtain ⟨j, _, e, l⟩ := pl_get h hq
  omega
theorem pl_inj {n : Int} {o : List Int} (h : IsOrd n o) {a b : Int} (ha : 0 ≤ a ∧ a < n) (hb : 0 ≤ b ∧ b < n) (e : pl o a = pl o b) : a = b := by
  obtain ⟨j, g1, e1, _⟩ := pl_get h ha
  obtain ⟨k, g2, e2, _⟩ := pl_get h hb
  have : j = k := by omega
  subst this
  rw [g1] at g2
  exact Option.some.inj g2
theorem iota_at {n : Int} {i : Nat} (h : (i : Int) < n) : (iota n)[i]? = some (i : Int) := by
  rw [List.getElem?_map, List.getElem?_range (by omega)]
  rfl
theorem list_ext_at {α : Type} {a b : List α} (hl : a.length = b.length) (h : ∀ (i : Nat) (x : α), b[i]? = some x → a[i]? = some x) : a = b := by
  refine List.ext_getElem? fun i => ?_
  cases e : b[i]? with
  | some x => exact h i x e
  | none =>
    have := List.getElem?_eq_none_iff.mp e
    exact List.getElem?_eq_none_iff.mpr (by omega)
theorem IsOrd.back {n : Int} {o : List Int} (h : IsOrd n o) : IsOrd n ((iota n).map (pl o)) := by
  have e : o.map (pl o) = iota n := by
    refine list_ext_at (by rw [List.length_map, h.len, List.length_map, List.length_range]) fun i x hx => ?_
    have hi : (i : Int) < n := by
      obtain ⟨hi, _⟩ := List.getElem?_eq_some_iff.mp hx
      rw [List.length_map, List.length_range] at hi
      omega
    rw [iota_at hi] at hx
    obtain rfl := (Option.some.inj hx)
    have hl : i < o.length := by rw [h.len]; omega
    have := List.getElem?_eq_getElem hl
    rw [List.getElem?_map, this, Option.map_some, pl_at h.nd this]
  have p := h.map (pl o)
  rw [e] at p
  exact p.symm
theorem pl_back {n : Int} {o : List Int} (h : IsOrd n o) {q : Int} (hq : 0 ≤ q ∧ q < n) : pl ((iota n).map (pl o)) (pl o q) = q := by
  have e : ((iota n).map (pl o))[q.toNat]? = some (pl o q) := by
    rw [List.getElem?_map, iota_at (by omega), Option.map_some, Int.toNat_of_nonneg hq.1]
  rw [pl_at h.back.nd e, Int.toNat_of_nonneg hq.1]
theorem IsOrd.both {n : Int} {o s : List Int} (h : IsOrd n o) (g : IsOrd n s) : IsOrd n (s.map fun x => o.getD x.toNat 0) := by
  have e : (iota n).map (fun x => o.getD x.toNat 0) = o := by
    refine list_ext_at (by rw [List.length_map, h.len, List.length_map, List.length_range]) fun i x hx => ?_
    have hi : (i : Int) < n := by
      obtain ⟨hi, _⟩ := List.getElem?_eq_some_iff.mp hx
      rw [h.len] at hi
      omega
    rw [List.getElem?_map, iota_at hi, Option.map_some, Int.toNat_natCast, List.getD_eq_getElem?_getD, hx]
    rfl
  have p := g.map fun x => o.getD x.toNat 0
  rw [e] at p
  exact p.trans h
theorem pl_both {n : Int} {o s : List Int} (h : IsOrd n o) (g : IsOrd n s) {q : Int} (hq : 0 ≤ q ∧ q < n) : pl (s.map fun x => o.getD x.toNat 0) q = pl s (pl o q) := by
  obtain ⟨j, g1, e1, l1⟩ := pl_get h hq
  obtain ⟨k, g2, e2, l2⟩ := pl_get g (q := pl o q) (by omega)
  rw [e2]
  refine pl_at (h.both g).nd ?_
  rw [List.getElem?_map, g2, Option.map_some, e1, Int.toNat_natCast, List.getD_eq_getElem?_getD, g1]
  rfl
/-! ### webs renumbered -/
abbrev RowRen (f : Int → Int) (r s : List Int) : Prop := ∀ t, t ∈ s ↔ ∃ q ∈ r, t = f q
structure Ren (f : Int → Int) (u w : Wb) : Prop where
  n : w.n = u.n
  ps : ∀ p, p ∈ w.ps ↔ ∃ q ∈ u.ps, p = (f q.1, f q.2)
  len : w.ns.length = u.ns.length
  ns : ∀ (k : Nat) (r s : List Int), u.ns[k]? = some r → w.ns[k]? = some s → RowRen f r s
theorem Ren.uniq {f : Int → Int} {u w v : Wb} (h : Ren f u w) (g : Ren f u v) (hw : w.Ok) (hv : v.Ok) : w = v := by
  have e1 : w.n = v.n := h.n.trans g.n.symm
  have e2 : w.ps = v.ps := asc_ext hw.asc hv.asc fun x => (h.ps x).trans (g.ps x).symm
  have e3 : w.ns = v.ns := by
    refine list_ext_at (h.len.trans g.len.symm) fun i x hx => ?_
    have hi : i < u.ns.length := by
      obtain ⟨hi, _⟩ := List.getElem?_eq_some_iff.mp hx
      have := g.len
      omega
    have hy := List.getElem?_eq_getElem (l := w.ns) (i := i) (by have := h.len; omega)
    have hr := List.getElem?_eq_getElem hi
    rw [hy]
    refine congrArg some (ascI_ext (hw.ns _ (List.mem_of_getElem? hy)).2.2 (hv.ns _ (List.mem_of_getElem? hx)).2.2 fun t => ?_)
    exact (h.ns i _ _ hr hy t).trans (g.ns i _ _ hr hx t).symm
  obtain ⟨a, b, c⟩ := w
  obtain ⟨d, e, f⟩ := v
  simp only at e1 e2 e3
  rw [e1, e2, e3]
theorem Ren.comp {f g h : Int → Int} {u v w : Wb} (a : Ren f u v) (b : Ren g v w) (hu : u.Ok) (e : ∀ q, 0 ≤ q ∧ q < u.n → h q = g (f q)) : Ren h u w := by
  refine ⟨b.n.trans a.n, fun p => ?_, b.len.trans a.len, fun k r s hr hs t => ?_⟩
  · rw [b.ps]
    constructor
    · rintro ⟨q, hq, rfl⟩
      obtain ⟨z, hz, rfl⟩ := (a.ps q).mp hq
      have := hu.ps z hz
      exact ⟨z, hz, by rw [e _ this.1, e _ this.2]⟩
    · rintro ⟨z, hz, rfl⟩
      have := hu.ps z hz
      exact ⟨(f z.1, f z.2), (a.ps _).mpr ⟨z, hz, rfl⟩, by rw [e _ this.1, e _ this.2]⟩
  · have hk : k < v.ns.length := by
      obtain ⟨hi, _⟩ := List.getElem?_eq_some_iff.mp hs
      have := b.len
      omega
    have hm := List.getElem?_eq_getElem hk
    rw [b.ns k _ s hm hs]
    constructor
    · rintro ⟨q, hq, rfl⟩
      obtain ⟨z, hz, rfl⟩ := (a.ns k r _ hr hm q).mp hq
      exact ⟨z, hz, by rw [e _ ((hu.ns r (List.mem_of_getElem? hr)).2.1 z hz)]⟩
    · rintro ⟨z, hz, rfl⟩
      exact ⟨f z, (a.ns k r _ hr hm _).mpr ⟨z, hz, rfl⟩, by rw [e _ ((hu.ns r (List.mem_of_getElem? hr)).2.1 z hz)]⟩
theorem Ren.refl {h : Int → Int} {u : Wb} (hu : u.Ok) (e : ∀ q, 0 ≤ q ∧ q < u.n → h q = q) : Ren h u u := by
  refine ⟨rfl, fun p => ?_, rfl, fun k r s hr hs t => ?_⟩
  · constructor
    · intro hp
      have := hu.ps p hp
      exact ⟨p, hp, by rw [e _ this.1, e _ this.2]⟩
    · rintro ⟨z, hz, rfl⟩
      have := hu.ps z hz
      rw [e _ this.1, e _ this.2]
      exact hz
  · rw [hr] at hs
    cases hs
    have b := (hu.ns r (List.mem_of_getElem? hr)).2.1
    constructor
    · intro ht
      exact ⟨t, ht, by rw [e _ (b t ht)]⟩
    · rintro ⟨z, hz, rfl⟩
      rw [e _ (b z hz)]
      exact hz
theorem Ren.ok {n : Int} {o : List Int} {u w : Wb} (h : Ren (pl o) u w) (hu : u.Ok) (ho : IsOrd u.n o) (ha : ascB ltPr w.ps = true) (hr : ∀ r ∈ w.ns, ascB ltIn r = true) : w.Ok := by
  refine ⟨by rw [h.n]; exact hu.lo, by rw [h.n]; exact hu.hi, fun p hp => ?_, ha, by rw [h.len]; exact hu.few, fun r hr' => ?_⟩
  · obtain ⟨q, hq, rfl⟩ := (h.ps p).mp hp
    have := hu.ps q hq
    rw [h.n]
    exact ⟨pl_lt ho this.1, pl_lt ho this.2⟩
  · obtain ⟨k, hk⟩ := List.mem_iff_getElem?.mp hr'
    have hk2 : k < u.ns.length := by
      obtain ⟨hi, _⟩ := List.getElem?_eq_some_iff.mp hk
      have := h.len
      omega
    have hm := List.getElem?_eq_getElem hk2
    have hR := h.ns k _ r hm hk
    obtain ⟨z1, z2, z3⟩ := hu.ns _ (List.mem_of_getElem? hm)
    refine ⟨?_, fun t ht => ?_, hr r hr'⟩
    · intro e
      subst e
      cases hc : u.ns[k] with
      | nil => exact z1 hc
      | cons x l =>
        have := (hR (pl o x)).mpr ⟨x, by rw [hc]; simp, rfl⟩
        cases this
    · obtain ⟨q, hq, rfl⟩ := (hR t).mp ht
      rw [h.n]
      exact pl_lt ho (z2 q hq)
structure Trn (u w : Wb) : Prop where
  n : w.n = u.n
  ps : ∀ p, p ∈ w.ps ↔ (p.2, p.1) ∈ u.ps
  ns : w.ns = u.ns
theorem Trn.uniq {u w v : Wb} (h : Trn u w) (g : Trn u v) (hw : ascB ltPr w.ps = true) (hv : ascB ltPr v.ps = true) : w = v := by
  have e1 : w.n = v.n := h.n.trans g.n.symm
  have e2 : w.ps = v.ps := asc_ext hw hv fun x => (h.ps x).trans (g.ps x).symm
  have e3 : w.ns = v.ns := h.ns.trans g.ns.symm
  obtain ⟨a, b, c⟩ := w
  obtain ⟨d, e, f⟩ := v
  simp only at e1 e2 e3
  rw [e1, e2, e3]
theorem Trn.back {u w v : Wb} (h : Trn u w) (g : Trn w v) (hu : ascB ltPr u.ps = true) (hv : ascB ltPr v.ps = true) : v = u := by
  have e1 : v.n = u.n := g.n.trans h.n
  have e2 : v.ps = u.ps := asc_ext hv hu fun x => (g.ps x).trans (h.ps _)
  have e3 : v.ns = u.ns := g.ns.trans h.ns
  obtain ⟨a, b, c⟩ := v
  obtain ⟨d, e, f⟩ := u
  simp only at e1 e2 e3
  rw [e1, e2, e3]
theorem Trn.ok {u w : Wb} (h : Trn u w) (hu : u.Ok) (ha : ascB ltPr w.ps = true) : w.Ok := by
  refine ⟨by rw [h.n]; exact hu.lo, by rw [h.n]; exact hu.hi, fun p hp => ?_, ha, by rw [h.ns]; exact hu.few, ?_⟩
  · have := hu.ps _ ((h.ps p).mp hp)
    rw [h.n]
    exact ⟨this.2, this.1⟩
  · rw [h.ns, h.n]
    exact hu.ns
/-! ### whole webs shown -/
theorem sm_rows : ∀ {rs : List (List Int)}, (∀ r ∈ rs, (∀ t ∈ r, Sm t) ∧ r.length ≤ 20) → PyData.leavesShortAll 8 (rs.map dInts) = true ∧ PyData.showableAll (rs.map dInts) = true ∧ PyData.weightAll (rs.map dInts) ≤ 200 * rs.length
  | [], _ => by simp [PyData.leavesShortAll, PyData.showableAll, PyData.weightAll]
  | a :: r, h => by
    obtain ⟨h1, h2, h3⟩ := sm_rows (rs := r) fun t ht => h t (List.mem_cons_of_mem _ ht)
    obtain ⟨s1, s2⟩ := h a (by simp)
    obtain ⟨g1, g2, g3⟩ := sm_ints s1
    refine ⟨?_, ?_, ?_⟩
    · simp only [List.map_cons, dInts, PyData.leavesShortAll, PyData.leavesShort, g1, Bool.true_and]
      exact h1
    · simp only [List.map_cons, dInts, PyData.showableAll, PyData.showable, g2, Bool.true_and]
      exact h2
    · have e : PyData.weight (dInts a) = PyData.weightAll (a.map PyData.int) := by
        simp only [dInts, PyData.weight]
      simp only [List.map_cons, PyData.weightAll, List.length_cons]
      omega
theorem show_web {u : Wb} (hu : u.Ok) : u.d.showable = true ∧ u.d.shown.length ≤ sizeLine ∧ u.d.depth ≤ 60 := by
  have b1 := hu.lo
  have b2 := hu.hi
  have b3 := hu.few
  have b4 := hu.len
  obtain ⟨p1, p2, p3⟩ := sm_pairs (r := u.ps) fun t ht => by
    have := hu.ps t ht
    exact ⟨⟨this.1.1, by omega⟩, ⟨this.2.1, by omega⟩⟩
  obtain ⟨r1, r2, r3⟩ := sm_rows (rs := u.ns) fun r hr => ⟨fun t ht => by
    have := (hu.ns r hr).2.1 t ht
    exact ⟨this.1, by omega⟩, hu.row hr⟩
  obtain ⟨g1, g2, g3⟩ := short_int (i := u.n) (by omega) (by omega)
  refine ⟨?_, ?_, ?_⟩
  · simp only [Wb.d, dPairs, dRows, PyData.showable, PyData.showableAll, p2, r2, Bool.and_true, decide_eq_true_eq]
    exact g2
  · refine PyData.shown_fits (B := 8) (by omega) (by omega) ?_ ?_
    · simp only [Wb.d, dPairs, dRows, PyData.leavesShort, PyData.leavesShortAll, p1, r1, Bool.and_true, decide_eq_true_eq]
      exact g1
    · have e : u.d.weight = PyData.weight (.int u.n) + 1 + (PyData.weightAll (u.ps.map dPair) + 1 + (PyData.weightAll (u.ns.map dInts) + 1 + 0)) := by
        simp only [Wb.d, dPairs, dRows, PyData.weight, PyData.weightAll]
      omega
  · have := dep_web u
    omega
/-! ### new webs -/
/-- new rows -/
structure NewR (H H' : Hp) (ns : List (List Int)) (L : Addr) (bs : List Addr) : Prop where
  ex : Ex H H'
  new : H L = none
  at_ : H' L = some (.lst (bs.map V.ref))
  len : bs.length = ns.length
  row : ∀ (k : Nat) (b : Addr), bs[k]? = some b → (H b = none ∧ b ≠ L) ∧ ∃ r, ns[k]? = some r ∧ H' b = some (.lst (r.map V.int))
  nd : bs.Nodup
theorem rows_of {K : PySem.W.Frag} {H' : Hp} : ∀ {ns : List (List Int)} {bs : List Addr}, bs.length = ns.length → (∀ (k : Nat) (b : Addr), bs[k]? = some b → ∃ r, ns[k]? = some r ∧ H' b = some (.lst (r.map V.int)) ∧ r.length ≤ 100000) →
    DaAll K H' (ns.map dInts) (bs.map V.ref)
  | [], [], _, _ => rfl
  | [], _ :: _, h, _ => by simp at h
  | _ :: _, [], h, _ => by simp at h
  | r :: ns, b :: bs, h, g => by
    obtain ⟨r', e, h1, h2⟩ := g 0 b rfl
    obtain rfl : r = r' := by simpa using e
    exact ⟨_, _, rfl, dInts_of h1 h2, rows_of (by simpa using h) fun k b' hb => g (k + 1) b' (by simpa using hb)⟩
/-- a new web -/
structure NewW (K : PySem.W.Frag) (H H' : Hp) (w : Wb) (T L1 L2 : Addr) (xs : List V) (bs : List Addr) : Prop where
  ex : Ex H H'
  tup : H' T = some (.tup [.int w.n, .ref L1, .ref L2])
  new : H L1 = none
  at_ : H' L1 = some (.lst xs)
  ps : DaAll K H' (w.ps.map dPair) xs
  new2 : H L2 = none
  at2 : H' L2 = some (.lst (bs.map V.ref))
  len : bs.length = w.ns.length
  row : ∀ (k : Nat) (b : Addr), bs[k]? = some b → (H b = none ∧ b ≠ L2 ∧ b ≠ L1) ∧ ∃ r, w.ns[k]? = some r ∧ H' b = some (.lst (r.map V.int))
  nd : bs.Nodup
  ne : L1 ≠ L2
theorem pairs_rm {K : PySem.W.Frag} {H : Hp} {D : Addr} {ys : List V} (hD : H D = some (.lst ys)) : ∀ {L : List (Int × Int)} {acc : List V}, DaAll K H (L.map dPair) acc → DaAll K (rm H D) (L.map dPair) acc
  | [], _, h => h
  | p :: L, acc, h => by
    obtain ⟨x, xs, rfl, ⟨a, zs, rfl, hS, z1, r1, rfl, e1, z2, r2, rfl, e2, rfl⟩, h2⟩ := h
    obtain rfl := e1
    obtain rfl := e2
    refine ⟨_, _, rfl, dPair_of ?_, pairs_rm hD h2⟩
    rw [rm_ne (fun e => by rw [e, hD] at hS; cases hS)]
    exact hS
theorem NewW.da {K : PySem.W.Frag} {H H' : Hp} {w : Wb} {T L1 L2 : Addr} {xs : List V} {bs : List Addr} (h : NewW K H H' w T L1 L2 xs bs) (hw : w.Ok) : Da K H' w.d (.ref T) := by
  have l1 := hw.len
  have l2 := hw.few
  refine ⟨T, _, rfl, h.tup, _, _, rfl, rfl, _, _, rfl, ⟨L1, xs, rfl, h.at_, h.ps, by rw [List.length_map]; omega⟩, _, _, rfl, ⟨L2, _, rfl, h.at2, ?_, by rw [List.length_map]; omega⟩, rfl⟩
  refine rows_of h.len fun k b hb => ?_
  obtain ⟨_, r, e, g⟩ := h.row k b hb
  have := hw.row (List.mem_of_getElem? e)
  exact ⟨r, e, g, by omega⟩
/-- a new web has nothing to do with an old list -/
theorem NewW.off {K : PySem.W.Frag} {H H' : Hp} {w : Wb} {T L1 L2 p : Addr} {xs zs : List V} {bs : List Addr} (h : NewW K H H' w T L1 L2 xs bs) (hw : w.Ok) (hp : H p = some (.lst zs)) : Da K (rm H' p) w.d (.ref T) := by
  have hp' := h.ex _ _ hp
  have l1 := hw.len
  have l2 := hw.few
  refine ⟨T, _, rfl, ?_, _, _, rfl, rfl, _, _, rfl, ⟨L1, xs, rfl, ?_, pairs_rm hp' h.ps, by rw [List.length_map]; omega⟩, _, _, rfl, ⟨L2, bs.map V.ref, rfl, ?_, ?_, by rw [List.length_map]; omega⟩, rfl⟩
  · rw [rm_ne (fun e => by have := h.tup; rw [e, hp'] at this; cases this)]
    exact h.tup
  · rw [rm_ne (fun e => by have := h.new; rw [e, hp] at this; cases this)]
    exact h.at_
  · rw [rm_ne (fun e => by have := h.new2; rw [e, hp] at this; cases this)]
    exact h.at2
  · refine rows_of h.len fun k b hb => ?_
    obtain ⟨n, r, e, g⟩ := h.row k b hb
    have := hw.row (List.mem_of_getElem? e)
    refine ⟨r, e, ?_, by omega⟩
    rw [rm_ne (fun e => by have := n.1; rw [e, hp] at this; cases this)]
    exact g
theorem NewR.nil {H : Hp} {D : Addr} (hD : H D = none) : NewR H (upd H D (.lst [])) [] D [] :=
  ⟨Ex.nw hD, hD, upd_same, rfl, fun k b hb => by simp at hb, List.nodup_nil⟩
theorem NewR.snoc {H H1 H2 : Hp} {D l : Addr} {ss : List (List Int)} {s : List Int} {bs : List Addr} (h : NewR H H1 ss D bs) (e : Ex H1 H2) (hl : H1 l = none) (h2 : H2 l = some (.lst (s.map V.int))) :
    NewR H (upd H2 D (.lst (bs.map V.ref ++ [.ref l]))) (ss ++ [s]) D (bs ++ [l]) := by
  have lD : l ≠ D := fun x => by
    have := h.at_
    rw [← x, hl] at this
    cases this
  refine ⟨(h.ex.tr e).wr h.new, h.new, ?_, ?_, ?_, ?_⟩
  · rw [upd_same, List.map_append]
    rfl
  · rw [List.length_append, List.length_append, h.len]
    rfl
  · intro k b hb
    by_cases hk : k < bs.length
    · rw [List.getElem?_append_left hk] at hb
      obtain ⟨n1, r', n2, n3⟩ := h.row k b hb
      refine ⟨n1, r', ?_, ?_⟩
      · rw [List.getElem?_append_left (by rw [← h.len]; exact hk)]
        exact n2
      · rw [upd_ne n1.2]
        exact e _ _ n3
    · have hk' : k = bs.length := by
        obtain ⟨z, _⟩ := List.getElem?_eq_some_iff.mp hb
        rw [List.length_append, List.length_singleton] at z
        omega
      subst hk'
      rw [List.getElem?_concat_length] at hb
      cases hb
      refine ⟨⟨h.ex.fr hl, lD⟩, s, ?_, by rw [upd_ne lD]; exact h2⟩
      rw [h.len, List.getElem?_concat_length]
  · refine nodup_snoc h.nd fun hm => ?_
    obtain ⟨k, hk⟩ := List.mem_iff_getElem?.mp hm
    obtain ⟨_, r', _, h3⟩ := h.row k l hk
    rw [h3] at hl
    cases hl
theorem putK_len (kvs : List (Key × V)) (k : Key) (v : V) : (putK kvs k v).length ≤ kvs.length + 1 := by
  unfold putK
  split
  · rw [List.length_map]
    omega
  · rw [List.length_append, List.length_singleton]
    omega
/-- a dict of the places, as far as it is made -/
def PlTo (o : List Int) (i : Nat) (kvs : List (Key × V)) : Prop := kvs.length ≤ i ∧ ∀ (j : Nat) (q : Int), j < i → o[j]? = some q → valV kvs (.inl q) = some (.int (j : Int))
theorem PlTo.step {o : List Int} (hn : o.Nodup) {i : Nat} {kvs : List (Key × V)} (h : PlTo o i kvs) {q : Int} (hq : o[i]? = some q) : PlTo o (i + 1) (putK kvs (.inl q) (.int (i : Int))) := by
  refine ⟨Nat.le_trans (putK_len _ _ _) (by have := h.1; omega), fun j z hj hz => ?_⟩
  rw [valV_put]
  by_cases e : j = i
  · subst e
    rw [hq] at hz
    cases hz
    rw [if_pos rfl]
  · have ne : z ≠ q := nodup_at hn hz hq e
    rw [if_neg (fun x => ne (Sum.inl.inj x))]
    exact h.2 j z (by omega) hz
theorem PlTo.get {n : Int} {o : List Int} (ho : IsOrd n o) {kvs : List (Key × V)} (h : PlTo o o.length kvs) {q : Int} (hq : 0 ≤ q ∧ q < n) : valV kvs (.inl q) = some (.int (pl o q)) := by
  obtain ⟨j, g, e, l⟩ := pl_get ho hq
  rw [e]
  refine h.2 j q ?_ g
  obtain ⟨z, _⟩ := List.getElem?_eq_some_iff.mp g
  exact z
/-- the pairs of a web by the places -/
theorem ren_nodup {o : List Int} {u : Wb} (hu : u.Ok) (ho : IsOrd u.n o) : (u.ps.map fun q => (pl o q.1, pl o q.2)).Nodup := by
  refine (List.pairwise_map).mpr ?_
  have h := nodup_asc hu.asc
  have h2 : u.ps.Pairwise fun a b => a ∈ u.ps ∧ b ∈ u.ps ∧ a ≠ b := by
    refine List.Pairwise.imp_of_mem (fun {a b} ha hb n => ⟨ha, hb, n⟩) h
  refine h2.imp fun {a b} n e => n.2.2 ?_
  have ha := hu.ps a n.1
  have hb := hu.ps b n.2.1
  simp only [Prod.mk.injEq] at e
  exact Prod.ext (pl_inj ho ha.1 hb.1 e.1) (pl_inj ho ha.2 hb.2 e.2)
theorem row_nodup {n : Int} {o : List Int} {r : List Int} (hr : ∀ t ∈ r, 0 ≤ t ∧ t < n) (ha : ascB ltIn r = true) (ho : IsOrd n o) : (r.map (pl o)).Nodup := by
  refine (List.pairwise_map).mpr ?_
  have h2 : r.Pairwise fun a b => a ∈ r ∧ b ∈ r ∧ a ≠ b := List.Pairwise.imp_of_mem (fun {a b} ha hb n => ⟨ha, hb, n⟩) (nodup_ascI ha)
  exact h2.imp fun {a b} n e => n.2.2 (pl_inj ho (hr a n.1) (hr b n.2.1) e)
theorem row_ren {n : Int} {o : List Int} {r s : List Int} (hr : ∀ t ∈ r, 0 ≤ t ∧ t < n) (ha : ascB ltIn r = true) (ho : IsOrd n o) (hp : s.Perm (r.map (pl o))) (hw : s.Pairwise (· ≤ ·)) : ascB ltIn s = true ∧ RowRen (pl o) r s ∧ s.length = r.length := by
  refine ⟨asc_sortedI hp hw (row_nodup hr ha ho), fun t => hp.mem_iff.trans ?_, by rw [hp.length_eq, List.length_map]⟩
  rw [List.mem_map]
  constructor
  · rintro ⟨q, hq, rfl⟩
    exact ⟨q, hq, rfl⟩
  · rintro ⟨q, hq, rfl⟩
    exact ⟨q, hq, rfl⟩
theorem ren_of {o : List Int} {u : Wb} {M : List (Int × Int)} {ss : List (List Int)} (hM : ∀ p, p ∈ M ↔ p ∈ u.ps.map fun q => (pl o q.1, pl o q.2)) (hl : ss.length = u.ns.length)
    (hs : ∀ (k : Nat) (s : List Int), ss[k]? = some s → ∃ r, u.ns[k]? = some r ∧ RowRen (pl o) r s) : Ren (pl o) u ⟨u.n, M, ss⟩ := by
  refine ⟨rfl, fun p => ?_, hl, fun k r s hr hs' => ?_⟩
  · show p ∈ M ↔ _
    rw [hM, List.mem_map]
    constructor
    · rintro ⟨q, hq, rfl⟩
      exact ⟨q, hq, rfl⟩
    · rintro ⟨q, hq, rfl⟩
      exact ⟨q, hq, rfl⟩
  · obtain ⟨r', e, g⟩ := hs k s hs'
    rw [hr] at e
    cases e
    exact g
theorem pop_perm {α : Type} : ∀ {l : List α} {k : Nat} {x : α}, l[k]? = some x → (x :: l.eraseIdx k).Perm l
  | [], _, _, h => by simp at h
  | a :: l, 0, x, h => by
    obtain rfl : a = x := by simpa using h
    exact List.Perm.refl _
  | a :: l, k + 1, x, h => by
    have ih := pop_perm (l := l) (k := k) (x := x) (by simpa using h)
    rw [List.eraseIdx_cons_succ]
    exact (List.Perm.swap a x _).trans (ih.cons a)
theorem map_pop {α β : Type} (f : α → β) : ∀ (l : List α) (k : Nat), (l.map f).eraseIdx k = (l.eraseIdx k).map f
  | [], _ => rfl
  | a :: l, 0 => rfl
  | a :: l, k + 1 => by
    rw [List.map_cons, List.eraseIdx_cons_succ, List.eraseIdx_cons_succ, List.map_cons, map_pop f l k]
end Nw
/-! How long data is when shown: by the number of its nodes and the longest leaf. -/
namespace Nw
open PySem PySem.Spec PyProof.Rows L2
mutual
/-- each leaf's text has at most B signs -/
def lf (B : Nat) : PyData → Bool
  | .none | .bool _ => true
  | .int i => decide ((PyData.shown (.int i)).length ≤ B)
  | .str x => decide ((PyData.shown (.str x)).length ≤ B)
  | .list xs | .tuple xs => lfAll B xs
  | .dict kvs => lfKv B kvs
def lfAll (B : Nat) : List PyData → Bool
  | [] => true
  | x :: xs => lf B x && lfAll B xs
def lfKv (B : Nat) : List (PyData × PyData) → Bool
  | [] => true
  | (k, v) :: r => lf B k && lf B v && lfKv B r
end
mutual
def nodes : PyData → Nat
  | .none | .bool _ | .int _ | .str _ => 1
  | .list xs | .tuple xs => 1 + nodesAll xs
  | .dict kvs => 1 + nodesKv kvs
def nodesAll : List PyData → Nat
  | [] => 0
  | x :: xs => nodes x + nodesAll xs
def nodesKv : List (PyData × PyData) → Nat
  | [] => 0
  | (k, v) :: r => nodes k + nodes v + nodesKv r
end
mutual
theorem len_lf (B : Nat) (hB : 8 ≤ B) : ∀ d : PyData, lf B d = true → d.shown.length + 4 ≤ (B + 4) * nodes d
  | .none, _ => by
    have e : (PyData.shown .none).length = 4 := rfl
    simp only [nodes]
    omega
  | .bool b, _ => by
    have e : (PyData.shown (.bool b)).length ≤ 5 := by cases b <;> decide
    simp only [nodes]
    omega
  | .int i, h => by
    have e : (PyData.shown (.int i)).length ≤ B := by simpa only [lf, decide_eq_true_eq] using h
    simp only [nodes]
    omega
  | .str x, h => by
    have e : (PyData.shown (.str x)).length ≤ B := by simpa only [lf, decide_eq_true_eq] using h
    simp only [nodes]
    omega
  | .list xs, h => by
    have h1 := len_lfAll B hB xs (by simpa only [lf] using h)
    have h2 := listText_len_le (PyData.shownAll xs)
    have h3 := PyData.shownAll_length xs
    simp only [PyData.shown, nodes]
    rw [Nat.mul_add]
    omega
  | .tuple xs, h => by
    have h1 := len_lfAll B hB xs (by simpa only [lf] using h)
    have h2 := tupleText_len_le (PyData.shownAll xs)
    have h3 := PyData.shownAll_length xs
    simp only [PyData.shown, nodes]
    rw [Nat.mul_add]
    omega
  | .dict kvs, h => by
    have h1 := len_lfKv B hB kvs (by simpa only [lf] using h)
    have h2 := dictText_len_le (PyData.shownKv kvs)
    have h3 := PyData.shownKv_length kvs
    simp only [PyData.shown, nodes]
    rw [Nat.mul_add]
    omega
theorem len_lfAll (B : Nat) (hB : 8 ≤ B) : ∀ xs : List PyData, lfAll B xs = true → ((PyData.shownAll xs).map (·.length)).sum + 4 * xs.length ≤ (B + 4) * nodesAll xs
  | [], _ => by
    simp only [PyData.shownAll, nodesAll, List.map_nil, List.sum_nil, List.length_nil]
    omega
  | x :: xs, h => by
    have h' : lf B x = true ∧ lfAll B xs = true := by simpa only [lfAll, Bool.and_eq_true] using h
    have h1 := len_lf B hB x h'.1
    have h2 := len_lfAll B hB xs h'.2
    have h3 := Nat.mul_add (B + 4) (nodes x) (nodesAll xs)
    simp only [PyData.shownAll, nodesAll, List.map_cons, List.sum_cons, List.length_cons]
    omega
theorem len_lfKv (B : Nat) (hB : 8 ≤ B) : ∀ kvs : List (PyData × PyData), lfKv B kvs = true → ((PyData.shownKv kvs).map (·.length)).sum + 2 * kvs.length ≤ (B + 4) * nodesKv kvs
  | [], _ => by
    simp only [PyData.shownKv, nodesKv, List.map_nil, List.sum_nil, List.length_nil]
    omega
  | (k, v) :: r, h => by
    have h' : (lf B k = true ∧ lf B v = true) ∧ lfKv B r = true := by simpa only [lfKv, Bool.and_eq_true] using h
    have h1 := len_lf B hB k h'.1.1
    have h2 := len_lf B hB v h'.1.2
    have h3 := len_lfKv B hB r h'.2
    have e2 : (k.shown ++ ": " ++ v.shown).length = k.shown.length + 2 + v.shown.length := by
      rw [strLen_append, strLen_append]
      rfl
    have h5 := Nat.mul_add (B + 4) (nodes k + nodes v) (nodesKv r)
    have h6 := Nat.mul_add (B + 4) (nodes k) (nodes v)
    simp only [PyData.shownKv, nodesKv, List.map_cons, List.sum_cons, List.length_cons]
    rw [e2]
    omega
end
theorem fits_lf {B n : Nat} (hB : 8 ≤ B) {d : PyData} (h : lf B d = true) (hn : nodes d ≤ n) (hz : (B + 4) * n ≤ 16000000) : d.shown.length ≤ sizeLine := by
  have h1 := len_lf B hB d h
  have h2 := Nat.mul_le_mul_left (B + 4) hn
  rw [sizeLine_eq]
  omega
theorem lf_int {i : Int} {k : Nat} (hk : 0 < k) (h : i.natAbs < 10 ^ k) : lf (k + 1) (.int i) = true := by
  simp only [lf, decide_eq_true_eq]
  have e := int_text_length_le10 hk h
  show (Str.ofString (toString i)).length ≤ k + 1
  rw [PySem.ofString_length]
  exact e
theorem lfAll_of {B : Nat} : ∀ {xs : List PyData}, (∀ x ∈ xs, lf B x = true) → lfAll B xs = true
  | [], _ => rfl
  | x :: xs, h => by
    simp only [lfAll, h x (by simp), lfAll_of fun y hy => h y (List.mem_cons_of_mem _ hy), Bool.and_self]
theorem showAll_of : ∀ {xs : List PyData}, (∀ x ∈ xs, x.showable = true) → PyData.showableAll xs = true
  | [], _ => rfl
  | x :: xs, h => by
    simp only [PyData.showableAll, h x (by simp), showAll_of fun y hy => h y (List.mem_cons_of_mem _ hy), Bool.and_self]
theorem nodesAll_of {n : Nat} : ∀ {xs : List PyData}, (∀ x ∈ xs, nodes x ≤ n) → nodesAll xs ≤ n * xs.length
  | [], _ => by simp [nodesAll]
  | x :: xs, h => by
    have h1 := h x (by simp)
    have h2 := nodesAll_of fun y hy => h y (List.mem_cons_of_mem _ hy)
    simp only [nodesAll, List.length_cons, Nat.mul_succ]
    omega
theorem depthAll_of {n : Nat} : ∀ {xs : List PyData}, (∀ x ∈ xs, x.depth ≤ n) → PyData.depthAll xs ≤ n
  | [], _ => by simp [PyData.depthAll]
  | x :: xs, h => by
    have h1 := h x (by simp)
    have h2 := depthAll_of fun y hy => h y (List.mem_cons_of_mem _ hy)
    simp only [PyData.depthAll]
    omega
/-- what repr asks: shown in a few leaves -/
structure Sh (B n k : Nat) (d : PyData) : Prop where
  s : d.showable = true
  l : lf B d = true
  n : nodes d ≤ n
  k : d.depth ≤ k
theorem Sh.fit {B n k : Nat} {d : PyData} (h : Sh B n k d) (hB : 8 ≤ B) (hz : (B + 4) * n ≤ 16000000) : d.shown.length ≤ sizeLine := fits_lf hB h.l h.n hz
theorem Sh.list {B n k m : Nat} {xs : List PyData} (h : ∀ x ∈ xs, Sh B n k x) (hm : xs.length ≤ m) : Sh B (1 + n * m) (k + 1) (.list xs) := by
  refine ⟨?_, ?_, ?_, ?_⟩
  · simp only [PyData.showable, showAll_of fun x hx => (h x hx).s]
  · simp only [lf, lfAll_of fun x hx => (h x hx).l]
  · have h1 := nodesAll_of fun x hx => (h x hx).n
    have h2 := Nat.mul_le_mul_left n hm
    simp only [nodes]
    omega
  · have h1 := depthAll_of fun x hx => (h x hx).k
    simp only [PyData.depth]
    omega
theorem Sh.tuple {B n k m : Nat} {xs : List PyData} (h : ∀ x ∈ xs, Sh B n k x) (hm : xs.length ≤ m) : Sh B (1 + n * m) (k + 1) (.tuple xs) := by
  refine ⟨?_, ?_, ?_, ?_⟩
  · simp only [PyData.showable, showAll_of fun x hx => (h x hx).s]
  · simp only [lf, lfAll_of fun x hx => (h x hx).l]
  · have h1 := nodesAll_of fun x hx => (h x hx).n
    have h2 := Nat.mul_le_mul_left n hm
    simp only [nodes]
    omega
  · have h1 := depthAll_of fun x hx => (h x hx).k
    simp only [PyData.depth]
    omega
theorem Sh.mono {B C n m k j : Nat} {d : PyData} (h : Sh B n k d) (hn : n ≤ m) (hk : k ≤ j) : Sh B m j d := ⟨h.s, h.l, Nat.le_trans h.n hn, Nat.le_trans h.k hk⟩
theorem Sh.int {i : Int} {k : Nat} (hk : 0 < k) (h2 : i.natAbs < 2 ^ 1920) (h : i.natAbs < 10 ^ k) : Sh (k + 1) 1 0 (.int i) := by
  refine ⟨?_, lf_int hk h, by simp only [nodes]; omega, by simp only [PyData.depth]; omega⟩
  simp only [PyData.showable, decide_eq_true_eq]
  by_cases hne : i.natAbs = 0
  · rw [hne]
    decide
  · exact (Nat.log2_lt hne).mpr h2
end Nw
/-! Fillings: what the looks at them answer; lines with numbers, steps, rows of states. -/
namespace Nw
open PySem PySem.Spec PyProof.Rows L2
/-! ### an item of a list, set anew -/
def rGetL (K : PySem.W.Frag) : V → V → Hp → VK → Prop := fun o i H Q => ∃ p xs k v, o = .ref p ∧ i = .int k ∧ 0 ≤ k ∧ SqL K H p xs ∧ xs[k.toNat]? = some v ∧ Q v H
theorem get_list {X : Cx} (K : PySem.W.Frag) (hK : X.K = K := by rfl) : PGet X (rGetL K) := by
  subst hK
  intro pins s σ H o i ov iv Q I ro ri h
  obtain ⟨p, xs, k, v, rfl, rfl, h0, hq, he, q⟩ := h
  cases ro
  obtain ⟨t, rfl⟩ := ri
  obtain ⟨its, r, pl, hz⟩ := I.list hq
  obtain ⟨u, ew, rw'⟩ := r.get he
  have hl := r.length
  have hn := line63
  have hk : k.toNat < xs.length := (List.getElem?_eq_some_iff.mp he).1
  exact wpAny_getItem_list pl.isList h0 (by omega) (by simpa using ew) ⟨v, H, I, rw', q⟩
/-! ### lines with numbers -/
abbrev NL := (Int × Int) × Int
def dNum (l : NL) : PyData := .tuple [.int l.1.1, .int l.1.2, .int l.2]
def stp (vals acc : List Int) (l : NL) : List Int := acc.set l.1.2.toNat (acc.getD l.1.2.toNat 0 + l.2 * vals.getD l.1.1.toNat 0)
def mvs (vals : List Int) (ls : List NL) (acc : List Int) : List Int := ls.foldl (stp vals) acc
theorem mvs_snoc (vals : List Int) (ls : List NL) (acc : List Int) (l : NL) : mvs vals (ls ++ [l]) acc = stp vals (mvs vals ls acc) l := by
  unfold mvs
  rw [List.foldl_append]
  rfl
theorem mvs_app (vals : List Int) (ls ms : List NL) (acc : List Int) : mvs vals (ls ++ ms) acc = mvs vals ms (mvs vals ls acc) := by
  unfold mvs
  rw [List.foldl_append]
theorem mvs_len (vals : List Int) : ∀ (ls : List NL) (acc : List Int), (mvs vals ls acc).length = acc.length
  | [], _ => rfl
  | l :: ls, acc => by
    show (mvs vals ls (stp vals acc l)).length = acc.length
    rw [mvs_len vals ls]
    unfold stp
    rw [List.length_set]
def mv (n : Nat) (ls : List NL) (vals : List Int) : List Int := mvs vals ls (List.replicate n 0)
theorem mv_len {n : Nat} {ls : List NL} {vals : List Int} : (mv n ls vals).length = n := by
  unfold mv
  rw [mvs_len, List.length_replicate]
def Bd (M x : Int) : Prop := -M ≤ x ∧ x ≤ M
theorem Bd.mono {M N x : Int} (h : Bd M x) (l : M ≤ N) : Bd N x := ⟨by have := h.1; omega, by have := h.2; omega⟩
theorem bd_mul {M a b : Int} (ha : Bd 1000000 a) (hb : Bd M b) (hM : 0 ≤ M) : Bd (1000000 * M) (a * b) := by
  have h1 : a.natAbs ≤ 1000000 := by have := ha.1; have := ha.2; omega
  have h2 : b.natAbs ≤ M.toNat := by have := hb.1; have := hb.2; omega
  have h3 := Nat.mul_le_mul h1 h2
  rw [← Int.natAbs_mul] at h3
  have e : ((1000000 * M.toNat : Nat) : Int) = 1000000 * M := by omega
  unfold Bd
  omega
theorem mvs_bd {vals : List Int} {M : Int} (hM : 0 ≤ M) (hv : ∀ v ∈ vals, Bd M v) : ∀ (ls : List NL) (acc : List Int) (A : Int), 0 ≤ A → (∀ l ∈ ls, Bd 1000000 l.2) → (∀ a ∈ acc, Bd A a) →
    ∀ a ∈ mvs vals ls acc, Bd (A + ls.length * (1000000 * M)) a
  | [], acc, A, hA, _, ha => fun a h => (ha a h).mono (by simp only [List.length_nil]; omega)
  | l :: ls, acc, A, hA, hl, ha => by
    have key : ∀ a ∈ stp vals acc l, Bd (A + 1000000 * M) a := by
      intro a h
      unfold stp at h
      rcases List.mem_or_eq_of_mem_set h with h | rfl
      · exact (ha a h).mono (by omega)
      · have h1 : Bd A (acc.getD l.1.2.toNat 0) := by
          rw [List.getD_eq_getElem?_getD]
          cases e : acc[l.1.2.toNat]? with
          | none => exact ⟨by simp only [Option.getD_none]; omega, by simp only [Option.getD_none]; omega⟩
          | some x => exact ha x (List.mem_of_getElem? e)
        have h2 : Bd M (vals.getD l.1.1.toNat 0) := by
          rw [List.getD_eq_getElem?_getD]
          cases e : vals[l.1.1.toNat]? with
          | none => exact ⟨by simp only [Option.getD_none]; omega, by simp only [Option.getD_none]; omega⟩
          | some x => exact hv x (List.mem_of_getElem? e)
        have h3 := bd_mul (hl l (by simp)) h2 hM
        have := h1.1
        have := h1.2
        have := h3.1
        have := h3.2
        unfold Bd
        omega
    have ih := mvs_bd hM hv ls (stp vals acc l) (A + 1000000 * M) (by omega) (fun x hx => hl x (List.mem_cons_of_mem _ hx)) key
    intro a h
    refine (ih a h).mono ?_
    rw [List.length_cons]
    have e : ((ls.length + 1 : Nat) : Int) * (1000000 * M) = ls.length * (1000000 * M) + 1000000 * M := by
      rw [Int.natCast_add, Int.add_mul]
      omega
    omega
/-! ### fillings -/
structure Fl where
  xs : List Int
  ss : List (List Int)
  deriving DecidableEq
def Fl.d (f : Fl) : PyData := .tuple [dInts f.xs, dRows f.ss]
def NumOk (x : Int) : Prop := x ≠ 0 ∧ Bd 1000000 x
structure Fl.Ok (u : Wb) (f : Fl) : Prop where
  len : f.xs.length = u.ps.length
  num : ∀ x ∈ f.xs, NumOk x
  rows : f.ss.map List.length = u.ns.map List.length
  rnum : ∀ r ∈ f.ss, ∀ x ∈ r, NumOk x
theorem Fl.Ok.slen {u : Wb} {f : Fl} (h : f.Ok u) : f.ss.length = u.ns.length := by
  have e := congrArg List.length h.rows
  rw [List.length_map, List.length_map] at e
  exact e
theorem Fl.Ok.rlen {u : Wb} {f : Fl} (h : f.Ok u) {k : Nat} {r s : List Int} (hr : f.ss[k]? = some r) (hs : u.ns[k]? = some s) : r.length = s.length := by
  have e := congrArg (fun l => l[k]?) h.rows
  simp only [List.getElem?_map, hr, hs, Option.map_some] at e
  exact Option.some.inj e
/-- what the looks answer -/
def intsB : PyData → Int → Bool
  | .list ds, m => decide ((ds.length : Int) = m) && ds.all isInt
  | _, _ => false
def rowsB : PyData → Int → Bool
  | .list ds, m => decide (ds.length ≤ 60) && ds.all fun d => intsB d m
  | _, _ => false
def noB : PyData → Bool
  | .int i => decide (i ≠ 0) && decide ((if i < 0 then -i else i) ≤ 1000000)
  | _ => false
def lineB : PyData → Int → Bool
  | .list ds, m => intsB (.list ds) m && ds.all noB
  | _, _ => false
def fillB (u : Wb) : PyData → Bool
  | .tuple [a, .list rs] => lineB a u.ps.length && (decide (rs.length = u.ns.length) && (rs.zip u.ns).all fun p => lineB p.1 p.2.length)
  | _ => false
theorem intsB_of {r : List Int} {m : Int} (h : (r.length : Int) = m) : intsB (dInts r) m = true := by
  unfold dInts intsB
  simp only [List.length_map, h, decide_true, Bool.true_and, List.all_map, List.all_eq_true]
  intro x _
  rfl
theorem rowsB_of {rs : List (List Int)} {m : Int} (h : ∀ r ∈ rs, (r.length : Int) = m) (h2 : rs.length ≤ 60) : rowsB (dRows rs) m = true := by
  unfold dRows rowsB
  simp only [List.length_map, h2, decide_true, Bool.true_and, List.all_map, List.all_eq_true]
  intro x hx
  exact intsB_of (h x hx)
theorem lineB_of {r : List Int} {m : Int} (h : (r.length : Int) = m) (h2 : ∀ x ∈ r, NumOk x) : lineB (dInts r) m = true := by
  have h3 := intsB_of h
  unfold dInts at h3 ⊢
  unfold lineB
  simp only [h3, Bool.true_and, List.all_map, List.all_eq_true]
  intro x hx
  have h4 := h2 x hx
  have h5 := h4.2.1
  have h6 := h4.2.2
  simp only [Function.comp, noB, decide_eq_true h4.1, Bool.true_and, decide_eq_true_eq]
  split <;> omega
theorem zip_all {α β : Type} {p : α × β → Bool} {as : List α} {bs : List β} (h : ∀ (k : Nat) (a : α) (b : β), as[k]? = some a → bs[k]? = some b → p (a, b) = true) : (as.zip bs).all p = true := by
  rw [List.all_eq_true]
  rintro ⟨a, b⟩ hx
  obtain ⟨k, hk⟩ := List.mem_iff_getElem?.mp hx
  rw [List.getElem?_zip_eq_some] at hk
  exact h k a b hk.1 hk.2
theorem Fl.Ok.fill {u : Wb} {f : Fl} (h : f.Ok u) : fillB u f.d = true := by
  have h1 := lineB_of (m := u.ps.length) (by rw [h.len]) h.num
  unfold Fl.d dRows fillB
  simp only [h1, List.length_map, h.slen, decide_true, Bool.true_and]
  refine zip_all fun k a b ha hb => ?_
  obtain ⟨r, hr, rfl⟩ := map_at ha
  exact lineB_of (by rw [h.rlen hr hb]) (h.rnum r (List.mem_of_getElem? hr))
/-- a filling as it stands -/
theorem Fl.at {K : PySem.W.Frag} {H : Hp} {f : Fl} {v : V} (h : Da K H f.d v) : ∃ t x1 x2, v = .ref t ∧ SqT K H t [x1, x2] ∧ Da K H (dInts f.xs) x1 ∧ Da K H (dRows f.ss) x2 := by
  obtain ⟨t, xs, rfl, hS, x1, r1, rfl, g1, x2, r2, rfl, g2, rfl⟩ := h
  exact ⟨t, x1, x2, rfl, .inl (.inl hS), g1, g2⟩
/-! ### the numbered lines -/
def Fl.nums (f : Fl) : List Int := f.xs ++ f.ss.flatten
def nl (u : Wb) (f : Fl) : List NL := u.lines.zip f.nums
def blkAt (n : Int) (i : Nat) (r s : List Int) : List NL := (pushedAt n i r).zip s
def nlFrom (n : Int) : Nat → List (List Int) → List (List Int) → List NL
  | i, r :: rs, s :: ss => blkAt n i r s ++ nlFrom n (i + 1) rs ss
  | _, _, _ => []
theorem zip_pushed (n : Int) : ∀ (rs ss : List (List Int)) (i : Nat), ss.map List.length = rs.map List.length → (pushedFrom n i rs).zip ss.flatten = nlFrom n i rs ss
  | [], ss, i, _ => by simp [pushedFrom, nlFrom]
  | r :: rs, [], i, h => by simp at h
  | r :: rs, s :: ss, i, h => by
    simp only [List.map_cons, List.cons.injEq] at h
    simp only [pushedFrom, nlFrom, List.flatten_cons]
    rw [List.zip_append (by simp only [pushedAt, List.length_map]; exact h.1.symm), zip_pushed n rs ss (i + 1) h.2]
    rfl
theorem Fl.Ok.nl {u : Wb} {f : Fl} (h : f.Ok u) : nl u f = u.ps.zip f.xs ++ nlFrom u.n 0 u.ns f.ss := by
  unfold Nw.nl Wb.lines Fl.nums
  rw [List.zip_append h.len.symm, zip_pushed u.n u.ns f.ss 0 h.rows]
theorem nlFrom_take (n : Int) : ∀ (rs ss : List (List Int)) (i k : Nat) (r s : List Int), rs[k]? = some r → ss[k]? = some s →
    nlFrom n i (rs.take (k + 1)) ss = nlFrom n i (rs.take k) ss ++ blkAt n (i + k) r s
  | [], _, _, _, _, _, h, _ => by simp at h
  | _ :: _, [], _, _, _, _, _, h => by simp at h
  | a :: rs, b :: ss, i, 0, r, s, h, g => by
    obtain rfl : a = r := by simpa using h
    obtain rfl : b = s := by simpa using g
    simp [nlFrom]
  | a :: rs, b :: ss, i, k + 1, r, s, h, g => by
    have ih := nlFrom_take n rs ss (i + 1) k r s (by simpa using h) (by simpa using g)
    simp only [List.take_succ_cons, nlFrom]
    rw [ih, List.append_assoc, show i + 1 + k = i + (k + 1) by omega]
theorem nums_len {f : Fl} : f.nums.length = f.xs.length + (f.ss.map List.length).sum := by
  unfold Fl.nums
  rw [List.length_append, List.length_flatten]
theorem pushed_sum (n : Int) : ∀ (rs : List (List Int)) (i : Nat), (pushedFrom n i rs).length = (rs.map List.length).sum
  | [], _ => rfl
  | r :: rs, i => by
    simp only [pushedFrom, List.length_append, pushedAt, List.length_map, List.map_cons, List.sum_cons, pushed_sum n rs (i + 1)]
theorem Fl.Ok.nlen {u : Wb} {f : Fl} (h : f.Ok u) : f.nums.length = u.lines.length := by
  rw [nums_len, h.rows, h.len]
  unfold Wb.lines
  rw [List.length_append, pushed_sum]
theorem Fl.Ok.bd {u : Wb} {f : Fl} (h : f.Ok u) : ∀ x ∈ f.nums, NumOk x := by
  intro x hx
  rcases List.mem_append.mp hx with hx | hx
  · exact h.num x hx
  · obtain ⟨r, hr, hx⟩ := List.mem_flatten.mp hx
    exact h.rnum r hr x hx
theorem Fl.Ok.line {u : Wb} {f : Fl} (h : f.Ok u) (hu : u.Ok) : ∀ l ∈ Nw.nl u f, ((0 ≤ l.1.1 ∧ l.1.1 < u.n + (u.ns.length : Int)) ∧ (0 ≤ l.1.2 ∧ l.1.2 < u.n)) ∧ Bd 1000000 l.2 := by
  rintro ⟨a, b⟩ hl
  have h1 := List.of_mem_zip hl
  exact ⟨hu.line a h1.1, (h.bd b h1.2).2⟩
theorem Fl.Ok.nl_len {u : Wb} {f : Fl} (h : f.Ok u) (hu : u.Ok) : (Nw.nl u f).length ≤ 1500 := by
  unfold Nw.nl
  rw [List.length_zip]
  have := hu.lines_len
  omega
/-! ### rows of states -/
def rn (n : Nat) (ls : List NL) (st : List Int) (rows : List (List Int)) : List (List Int) := rows.foldl (fun acc g => acc ++ [mv n ls (acc.getLastD [] ++ g)]) [st]
theorem rn_snoc (n : Nat) (ls : List NL) (st : List Int) (rows : List (List Int)) (g : List Int) : rn n ls st (rows ++ [g]) = rn n ls st rows ++ [mv n ls ((rn n ls st rows).getLastD [] ++ g)] := by
  unfold rn
  rw [List.foldl_append]
  rfl
theorem rn_len (n : Nat) (ls : List NL) (st : List Int) (rows : List (List Int)) : ∀ k, k ≤ rows.length → (rn n ls st (rows.take k)).length = k + 1
  | 0, _ => by simp [rn]
  | k + 1, h => by
    have hk : k < rows.length := h
    rw [take_snoc (List.getElem?_eq_getElem hk), rn_snoc, List.length_append, rn_len n ls st rows k (by omega)]
    rfl
theorem getLastD_mem {α : Type} : ∀ {l : List α} {d : α}, l ≠ [] → l.getLastD d ∈ l
  | [], _, h => (h rfl).elim
  | [a], _, _ => by simp [List.getLastD]
  | a :: b :: s, d, _ => by
    rw [List.getLastD_cons]
    exact List.mem_cons_of_mem _ (getLastD_mem (l := b :: s) (by simp))
/-- how great the numbers of states grow -/
theorem rn_bd {n : Nat} {ls : List NL} {st : List Int} {rows : List (List Int)} {M : Int} (hM : 0 ≤ M) (hst : ∀ x ∈ st, Bd M x) (hr : ∀ r ∈ rows, ∀ x ∈ r, Bd M x) (hl : ∀ l ∈ ls, Bd 1000000 l.2) (hz : ls.length ≤ 1500) :
    ∀ k, k ≤ rows.length → ∀ s ∈ rn n ls st (rows.take k), ∀ x ∈ s, Bd (M * 1500000000 ^ k) x
  | 0, _, s, hs, x, hx => by
    obtain rfl : s = st := by simpa [rn] using hs
    simpa using hst x hx
  | k + 1, h, s, hs, x, hx => by
    have hk : k < rows.length := h
    have p1 : (1 : Int) ≤ 1500000000 ^ k := by
      have := Int.pow_pos (n := 1500000000) (m := k) (by decide)
      omega
    have p2 : M ≤ M * 1500000000 ^ k := by
      have := Int.mul_le_mul_of_nonneg_left p1 hM
      omega
    have p3 : M * 1500000000 ^ (k + 1) = 1500000000 * (M * 1500000000 ^ k) := by
      rw [Int.pow_succ, ← Int.mul_assoc, Int.mul_comm]
    have p4 : 0 ≤ M * 1500000000 ^ k := by omega
    have ih := rn_bd (n := n) hM hst hr hl hz k (by omega)
    rw [take_snoc (List.getElem?_eq_getElem hk), rn_snoc] at hs
    rw [p3]
    rcases List.mem_append.mp hs with hs | hs
    · exact (ih s hs x hx).mono (by omega)
    · obtain rfl := List.mem_singleton.mp hs
      have h1 := mvs_bd (vals := (rn n ls st (rows.take k)).getLastD [] ++ rows[k]) (M := M * 1500000000 ^ k) p4 (by
        intro v hv
        rcases List.mem_append.mp hv with hv | hv
        · refine ih _ (getLastD_mem ?_) v hv
          intro e
          have := rn_len n ls st rows k (by omega)
          rw [e] at this
          simp at this
        · exact (hr _ (List.getElem_mem hk) v hv).mono p2) ls (List.replicate n 0) 0 (by decide) hl (by
        intro a ha
        obtain ⟨_, rfl⟩ := List.mem_replicate.mp ha
        exact ⟨by decide, by decide⟩)
      refine (h1 x hx).mono ?_
      have h2 : (ls.length : Int) * (1000000 * (M * 1500000000 ^ k)) ≤ 1500 * (1000000 * (M * 1500000000 ^ k)) := Int.mul_le_mul_of_nonneg_right (by omega) (by omega)
      omega
theorem ixN_int {n : Nat} {k : Int} (h0 : 0 ≤ k) (h : k < n) : ixN n k = some k.toNat := by
  unfold ixN
  rw [if_pos h0, if_pos h]
theorem rep_int (m : Nat) : (List.replicate m [V.int 0]).flatten = (List.replicate m (0 : Int)).map V.int := by
  induction m with
  | zero => rfl
  | succ m ih =>
    rw [List.replicate_succ, List.flatten_cons, ih]
    rfl
theorem last_row {α : Type} : ∀ {ns : List α} {n : Nat} {r d : α}, ns[n]? = some r → ns.length = n + 1 → ns.getLastD d = r
  | [], _, _, _, h, _ => by simp at h
  | [a], 0, r, d, h, _ => by simpa [List.getLastD] using h
  | [a], n + 1, r, d, h, g => by simp at h
  | a :: b :: s, 0, r, d, h, g => by simp at g
  | a :: b :: s, n + 1, r, d, h, g => by
    rw [List.getLastD_cons]
    exact last_row (ns := b :: s) (n := n) (by simpa using h) (by simpa using g)
theorem stp_at {vals acc : List Int} {l : NL} {x y : Int} (hx : acc[l.1.2.toNat]? = some x) (hy : vals[l.1.1.toNat]? = some y) : (acc.map V.int).set l.1.2.toNat (V.int (x + l.2 * y)) = (stp vals acc l).map V.int := by
  unfold stp
  rw [List.getD_eq_getElem?_getD, hx, List.getD_eq_getElem?_getD, hy, List.map_set]
  rfl
theorem flat_take {α : Type} {ss : List (List α)} {i : Nat} {r : List α} (h : ss[i]? = some r) : (ss.take (i + 1)).flatten = (ss.take i).flatten ++ r := by
  rw [take_snoc h, List.flatten_append]
  simp
theorem flat_len {α : Type} {ss : List (List α)} {i : Nat} : ((ss.take i).flatten).length ≤ ss.flatten.length := by
  have h : ss.flatten = (ss.take i).flatten ++ (ss.drop i).flatten := by rw [← List.flatten_append, List.take_append_drop]
  rw [h, List.length_append]
  omega
theorem row_len_flat {α : Type} {ss : List (List α)} {r : List α} (h : r ∈ ss) : r.length ≤ ss.flatten.length := by
  obtain ⟨i, hi⟩ := List.mem_iff_getElem?.mp h
  have h1 := flat_len (ss := ss) (i := i + 1)
  rw [flat_take hi, List.length_append] at h1
  omega
theorem dNum_of {K : PySem.W.Frag} {H : Hp} {l : NL} {a : Addr} (h : H a = some (.tup [.int l.1.1, .int l.1.2, .int l.2])) : Da K H (dNum l) (.ref a) :=
  ⟨a, _, rfl, h, _, _, rfl, rfl, _, _, rfl, rfl, _, _, rfl, rfl, rfl⟩
theorem nums_at {K : PySem.W.Frag} {H : Hp} {ls : List NL} {xs : List V} {i : Nat} {x : V} (h : DaAll K H (ls.map dNum) xs) (hx : xs[i]? = some x) :
    ∃ l, ls[i]? = some l ∧ ∃ a, x = .ref a ∧ SqT K H a [.int l.1.1, .int l.1.2, .int l.2] := by
  obtain ⟨d, hd, hdx⟩ := h.at' hx
  obtain ⟨p, hp, rfl⟩ := map_at hd
  obtain ⟨a, ys, rfl, hS, z1, r1, rfl, e1, z2, r2, rfl, e2, z3, r3, rfl, e3, rfl⟩ := hdx
  obtain rfl := e1
  obtain rfl := e2
  obtain rfl := e3
  exact ⟨p, hp, a, rfl, .inl (.inl hS)⟩
end Nw
/-! Fillings, states and rows of states shown. -/
namespace Nw
open PySem PySem.Spec PyProof.Rows L2
theorem rn_rows {n : Nat} {ls : List NL} {st : List Int} {rows : List (List Int)} (h : st.length = n) : ∀ k, k ≤ rows.length → ∀ z ∈ rn n ls st (rows.take k), z.length = n
  | 0, _, z, hz => by
    obtain rfl : z = st := by simpa [rn] using hz
    exact h
  | k + 1, hk, z, hz => by
    rw [take_snoc (List.getElem?_eq_getElem (show k < rows.length from hk)), rn_snoc] at hz
    rcases List.mem_append.mp hz with hz | hz
    · exact rn_rows h k (by omega) z hz
    · obtain rfl := List.mem_singleton.mp hz
      exact mv_len
theorem NewR.da {K : PySem.W.Frag} {H H' : Hp} {ns : List (List Int)} {L : Addr} {bs : List Addr} (h : NewR H H' ns L bs) (h1 : ∀ r ∈ ns, r.length ≤ 100000) (h2 : ns.length ≤ 100000) : Da K H' (dRows ns) (.ref L) := by
  refine ⟨L, _, rfl, h.at_, rows_of h.len fun k b hb => ?_, by rw [List.length_map]; exact h2⟩
  obtain ⟨_, r, e, g⟩ := h.row k b hb
  exact ⟨r, e, g, h1 r (List.mem_of_getElem? e)⟩
theorem lay_fl (f : Fl) : f.d.canLay0 = true := by simp [Fl.d, PyData.canLay0, PyData.canLayAll0, lay_dInts, lay_dRows]
theorem Sh.ints {r : List Int} {k m : Nat} (hk : 0 < k) (h2 : ∀ x ∈ r, x.natAbs < 2 ^ 1920) (h : ∀ x ∈ r, x.natAbs < 10 ^ k) (hm : r.length ≤ m) : Sh (k + 1) (1 + m) 1 (dInts r) := by
  have e : Sh (k + 1) (1 + 1 * m) (0 + 1) (dInts r) := Sh.list (fun x hx => by
    obtain ⟨y, hy, rfl⟩ := List.mem_map.mp hx
    exact Sh.int hk (h2 y hy) (h y hy)) (by rw [List.length_map]; exact hm)
  exact ⟨e.s, e.l, by have := e.n; omega, e.k⟩
theorem Sh.rows {rs : List (List Int)} {k m j : Nat} (hk : 0 < k) (h2 : ∀ r ∈ rs, ∀ x ∈ r, x.natAbs < 2 ^ 1920) (h : ∀ r ∈ rs, ∀ x ∈ r, x.natAbs < 10 ^ k) (hm : ∀ r ∈ rs, r.length ≤ m) (hj : rs.length ≤ j) :
    Sh (k + 1) (1 + (1 + m) * j) 2 (dRows rs) := Sh.list (fun x hx => by
  obtain ⟨y, hy, rfl⟩ := List.mem_map.mp hx
  exact Sh.ints hk (h2 y hy) (h y hy) (hm y hy)) (by rw [List.length_map]; exact hj)
theorem p1920 : (2 : Nat) ^ 1920 < 10 ^ 580 := by decide +kernel
theorem p40_1920 : (10 : Nat) ^ 40 < 2 ^ 1920 := by decide +kernel
theorem p40 : (10 : Nat) ^ 40 = 10000000000000000000000000000000000000000 := by decide +kernel
theorem small40 {x : Int} (h : x.natAbs < 10000000000000000000000000000000000000000) : x.natAbs < 2 ^ 1920 ∧ x.natAbs < 10 ^ 40 := by
  have h1 : x.natAbs < 10 ^ 40 := by
    rw [p40]
    exact h
  exact ⟨Nat.lt_trans h1 p40_1920, h1⟩
theorem sm_40 {x : Int} (h : Sm x) : x.natAbs < 10000000000000000000000000000000000000000 := by
  have := h.1
  have := h.2
  omega
theorem Sh.pair {p : Int × Int} (h1 : Sm p.1) (h2 : Sm p.2) : Sh 41 3 1 (dPair p) := by
  have e : Sh 41 (1 + 1 * 2) (0 + 1) (dPair p) := Sh.tuple (fun x hx => by
    rcases List.mem_cons.mp hx with rfl | hx
    · exact Sh.int (k := 40) (by decide) (small40 (sm_40 h1)).1 (small40 (sm_40 h1)).2
    · obtain rfl := List.mem_singleton.mp hx
      exact Sh.int (k := 40) (by decide) (small40 (sm_40 h2)).1 (small40 (sm_40 h2)).2) (Nat.le_refl 2)
  exact e
theorem Sh.wide {B n k m j : Nat} {d : PyData} (h : Sh B n k d) (hn : n ≤ m) (hk : k ≤ j) : Sh B m j d := ⟨h.s, h.l, Nat.le_trans h.n hn, Nat.le_trans h.k hk⟩
theorem Wb.Ok.sh {u : Wb} (hu : u.Ok) : Sh 41 12000 3 u.d := by
  have b1 := hu.lo
  have b2 := hu.hi
  have e : Sh 41 (1 + 3901 * 3) (2 + 1) u.d := Sh.tuple (fun x hx => by
    rcases List.mem_cons.mp hx with rfl | hx
    · exact (Sh.int (k := 40) (by decide) (small40 (by omega)).1 (small40 (by omega)).2).wide (by decide) (by decide)
    rcases List.mem_cons.mp hx with rfl | hx
    · have e : Sh 41 (1 + 3 * 1300) (1 + 1) (dPairs u.ps) := Sh.list (fun x hx => by
        obtain ⟨y, hy, rfl⟩ := List.mem_map.mp hx
        have := hu.ps y hy
        exact Sh.pair ⟨this.1.1, by omega⟩ ⟨this.2.1, by omega⟩) (by rw [List.length_map]; exact hu.len)
      exact e
    · obtain rfl := List.mem_singleton.mp hx
      have hs : ∀ r ∈ u.ns, ∀ x ∈ r, x.natAbs < 10000000000000000000000000000000000000000 := by
        intro r hr x hx
        have := (hu.ns r hr).2.1 x hx
        omega
      exact (Sh.rows (k := 40) (m := 20) (j := 8) (by decide) (fun r hr x hx => (small40 (hs r hr x hx)).1) (fun r hr x hx => (small40 (hs r hr x hx)).2) (fun r hr => hu.row hr) hu.few).wide (by decide) (by decide)) (Nat.le_refl 3)
  exact e.wide (by decide) (by decide)
theorem Fl.Ok.sh {u : Wb} {f : Fl} (hu : u.Ok) (h : f.Ok u) : Sh 41 12000 3 f.d := by
  have b1 := hu.len
  have b2 := hu.few
  have hn : ∀ x : Int, NumOk x → x.natAbs < 10000000000000000000000000000000000000000 := by
    intro x hx
    have := hx.2.1
    have := hx.2.2
    omega
  have e : Sh 41 (1 + 1301 * 2) (2 + 1) f.d := Sh.tuple (fun x hx => by
    rcases List.mem_cons.mp hx with rfl | hx
    · exact (Sh.ints (k := 40) (m := 1300) (by decide) (fun x hx => (small40 (hn x (h.num x hx))).1) (fun x hx => (small40 (hn x (h.num x hx))).2) (by rw [h.len]; exact b1)).wide (by decide) (by decide)
    · obtain rfl := List.mem_singleton.mp hx
      refine (Sh.rows (k := 40) (m := 20) (j := 8) (by decide) (fun r hr x hx => (small40 (hn x (h.rnum r hr x hx))).1) (fun r hr x hx => (small40 (hn x (h.rnum r hr x hx))).2) (fun r hr => ?_) (by rw [h.slen]; exact b2)).wide (by decide) (by decide)
      obtain ⟨k, hk⟩ := List.mem_iff_getElem?.mp hr
      have hk2 : k < u.ns.length := by
        rw [← h.slen]
        exact (List.getElem?_eq_some_iff.mp hk).1
      rw [h.rlen hk (List.getElem?_eq_getElem hk2)]
      exact hu.row (List.getElem_mem hk2)) (Nat.le_refl 2)
  exact e.wide (by decide) (by decide)
/-- what repr asks of data that stands -/
theorem repr_of {K : PySem.W.Frag} {H : Hp} {d : PyData} {v : V} {B n k : Nat} (hd : Da K H d v) (hn : d.hasDict = false) (h : Sh B n k d) (hB : 8 ≤ B) (hz : (B + 4) * n ≤ 16000000) (hk : k ≤ 60) :
    Dp K H v d ∧ d.showable = true ∧ d.shown.length ≤ sizeLine ∧ d.depth ≤ 60 := ⟨hd.dp _ _ hn, h.s, h.fit hB hz, Nat.le_trans h.k hk⟩
theorem bd_abs {M x : Int} {N : Nat} (h : Bd M x) (hM : M.toNat < N) (h0 : 0 ≤ M) : x.natAbs < N := by
  have := h.1
  have := h.2
  omega
theorem pow1500 {w : Int} {k : Nat} (h0 : 0 ≤ w) {n : Nat} (hk : k ≤ n) : w * 1500000000 ^ k ≤ w * 1500000000 ^ n := by
  refine Int.mul_le_mul_of_nonneg_left ?_ h0
  have h1 : (1500000000 : Nat) ^ k ≤ 1500000000 ^ n := Nat.pow_le_pow_right (by decide) hk
  have h2 := Int.ofNat_le.mpr h1
  rw [Int.natCast_pow, Int.natCast_pow] at h2
  exact h2
end Nw
namespace Nw
open PySem PySem.Spec PyProof.Rows L2
theorem rn_pre {n : Nat} {ls : List NL} {st : List Int} {rows : List (List Int)} {k i : Nat} (hi : i ≤ k) : ∀ j, k ≤ j → j ≤ rows.length → (rn n ls st (rows.take j))[i]? = (rn n ls st (rows.take k))[i]?
  | 0, h, _ => by
    obtain rfl : k = 0 := by omega
    rfl
  | j + 1, h, hj => by
    by_cases e : k = j + 1
    · rw [e]
    · rw [take_snoc (List.getElem?_eq_getElem (show j < rows.length from hj)), rn_snoc, List.getElem?_append_left, rn_pre hi j (by omega) (by omega)]
      rw [rn_len n ls st rows j (by omega)]
      omega
theorem rn_one {n : Nat} {ls : List NL} {st r : List Int} {rows : List (List Int)} (h : rows[0]? = some r) : (rn n ls st rows)[1]? = some (mv n ls (st ++ r)) := by
  have hl : 0 < rows.length := (List.getElem?_eq_some_iff.mp h).1
  have e := rn_pre (n := n) (ls := ls) (st := st) (rows := rows) (k := 1) (i := 1) (by decide) rows.length (by omega) (by omega)
  rw [List.take_length] at e
  rw [e, show rows.take 1 = rows.take (0 + 1) from rfl, take_snoc h]
  rfl
theorem p6 : (10 : Int) ^ Int.toNat 6 = 1000000 := by decide +kernel
theorem p29 : (10 : Int) ^ Int.toNat 29 = 100000000000000000000000000000 := by decide +kernel
end Nw
/-! Any data of bounded size: put together, cut, looked up. -/
namespace Nw
open PySem PySem.Spec PyProof.Rows L2
def rTupQ (K : PySem.W.Frag) : List V → Hp → VK → Prop := fun xs H Q => ∃ p ys, xs = [.ref p] ∧ ((SqL K H p ys ∧ ∀ l, H l = none → Q (.ref l) (upd H l (.tup ys))) ∨ (SqT K H p ys ∧ Q (.ref p) H))
theorem call_tupleK {X : Cx} (K : PySem.W.Frag) (hK : X.K = K := by rfl) : CallR X (.type "tuple") (rTupQ K) := by
  subst hK
  exact call_tuple_of
def shB (n k : Nat) (d : PyData) : Bool := d.showable && (lf 41 d && (decide (nodes d ≤ n) && decide (d.depth ≤ k)))
theorem shB_sh {n k : Nat} {d : PyData} (h : shB n k d = true) : Sh 41 n k d := by
  simp only [shB, Bool.and_eq_true, decide_eq_true_eq] at h
  exact ⟨h.1, h.2.1, h.2.2.1, h.2.2.2⟩
theorem sh_all {n k : Nat} {ds : List PyData} (h : ds.all (shB n k) = true) : ∀ x ∈ ds, Sh 41 n k x := fun x hx => shB_sh (List.all_eq_true.mp h x hx)
section
variable {K : PySem.W.Frag} {H H' : Hp} {n k m j : Nat}
/-- some data of so many nodes, so deep -/
def Gd (K : PySem.W.Frag) (H : Hp) (n k : Nat) (v : V) : Prop := ∃ d, Da K H d v ∧ Sh 41 n k d
def GdAll (K : PySem.W.Frag) (H : Hp) (n k : Nat) (vs : List V) : Prop := ∃ ds, DaAll K H ds vs ∧ ∀ x ∈ ds, Sh 41 n k x
theorem Gd.up {v : V} (h : Gd K H n k v) (e : Ex H H') : Gd K H' n k v := by
  obtain ⟨d, h1, h2⟩ := h
  exact ⟨d, h1.up e, h2⟩
theorem GdAll.up {vs : List V} (h : GdAll K H n k vs) (e : Ex H H') : GdAll K H' n k vs := by
  obtain ⟨d, h1, h2⟩ := h
  exact ⟨d, h1.up e, h2⟩
theorem Gd.wide {v : V} (h : Gd K H n k v) (hn : n ≤ m) (hk : k ≤ j) : Gd K H m j v := by
  obtain ⟨d, h1, h2⟩ := h
  exact ⟨d, h1, h2.wide hn hk⟩
theorem GdAll.wide {vs : List V} (h : GdAll K H n k vs) (hn : n ≤ m) (hk : k ≤ j) : GdAll K H m j vs := by
  obtain ⟨d, h1, h2⟩ := h
  exact ⟨d, h1, fun x hx => (h2 x hx).wide hn hk⟩
theorem GdAll.nil : GdAll K H n k [] := ⟨[], rfl, fun x hx => by cases hx⟩
theorem GdAll.cons {v : V} {vs : List V} (h : Gd K H n k v) (t : GdAll K H n k vs) : GdAll K H n k (v :: vs) := by
  obtain ⟨d, h1, h2⟩ := h
  obtain ⟨ds, t1, t2⟩ := t
  refine ⟨d :: ds, ⟨_, _, rfl, h1, t1⟩, fun x hx => ?_⟩
  rcases List.mem_cons.mp hx with rfl | hx
  · exact h2
  · exact t2 x hx
theorem GdAll.at {vs : List V} {i : Nat} {x : V} (h : GdAll K H n k vs) (hx : vs[i]? = some x) : Gd K H n k x := by
  obtain ⟨ds, h1, h2⟩ := h
  obtain ⟨d, hd, hdx⟩ := h1.at' hx
  exact ⟨d, hdx, h2 d (List.mem_of_getElem? hd)⟩
theorem GdAll.app {vs ws : List V} (h : GdAll K H n k vs) (g : GdAll K H n k ws) : GdAll K H n k (vs ++ ws) := by
  obtain ⟨ds, h1, h2⟩ := h
  obtain ⟨es, g1, g2⟩ := g
  refine ⟨ds ++ es, h1.app g1, fun x hx => ?_⟩
  rcases List.mem_append.mp hx with hx | hx
  · exact h2 x hx
  · exact g2 x hx
theorem DaAll.of_mem : ∀ {ds : List PyData} {vs ws : List V}, DaAll K H ds vs → (∀ x ∈ ws, x ∈ vs) → ∃ es, DaAll K H es ws ∧ ∀ e ∈ es, e ∈ ds
  | ds, vs, [], _, _ => ⟨[], rfl, fun e he => by cases he⟩
  | ds, vs, w :: ws, h, hm => by
    obtain ⟨es, h1, h2⟩ := DaAll.of_mem h (ws := ws) fun x hx => hm x (List.mem_cons_of_mem _ hx)
    obtain ⟨d, hd, hdw⟩ := h.mem w (hm w (by simp))
    refine ⟨d :: es, ⟨_, _, rfl, hdw, h1⟩, fun e he => ?_⟩
    rcases List.mem_cons.mp he with rfl | he
    · exact hd
    · exact h2 e he
theorem GdAll.sub {vs ws : List V} (h : GdAll K H n k vs) (hm : ∀ x ∈ ws, x ∈ vs) : GdAll K H n k ws := by
  obtain ⟨ds, h1, h2⟩ := h
  obtain ⟨es, g1, g2⟩ := DaAll.of_mem h1 hm
  exact ⟨es, g1, fun x hx => h2 x (g2 x hx)⟩
theorem GdAll.cut {vs : List V} {lo hi : Option Int} (h : GdAll K H n k vs) : GdAll K H n k (cutV vs lo hi) := h.sub fun x hx => List.mem_of_mem_drop (List.mem_of_mem_take hx)
theorem GdAll.rev {vs : List V} (h : GdAll K H n k vs) : GdAll K H n k vs.reverse := h.sub fun x hx => List.mem_reverse.mp hx
theorem Gd.list {a : Addr} {vs : List V} (h : H a = some (.lst vs)) (g : GdAll K H n k vs) (hl : vs.length ≤ m) (hm : m ≤ 100000) : Gd K H (1 + n * m) (k + 1) (.ref a) := by
  obtain ⟨ds, h1, h2⟩ := g
  have e := h1.len
  exact ⟨.list ds, ⟨a, vs, rfl, h, h1, by omega⟩, Sh.list h2 (by omega)⟩
theorem Gd.tup {a : Addr} {vs : List V} (h : H a = some (.tup vs)) (g : GdAll K H n k vs) (hl : vs.length ≤ m) : Gd K H (1 + n * m) (k + 1) (.ref a) := by
  obtain ⟨ds, h1, h2⟩ := g
  have e := h1.len
  exact ⟨.tuple ds, ⟨a, vs, rfl, h, h1⟩, Sh.tuple h2 (by omega)⟩
theorem Gd.non : Gd K H (n + 1) k .non := ⟨.none, rfl, ⟨rfl, rfl, by simp only [nodes]; omega, by simp only [PyData.depth]; omega⟩⟩
theorem Gd.bl {b : Bool} : Gd K H (n + 1) k (.bl b) := ⟨.bool b, rfl, ⟨rfl, rfl, by simp only [nodes]; omega, by simp only [PyData.depth]; omega⟩⟩
theorem Gd.int {i : Int} (h : i.natAbs < 10000000000000000000000000000000000000000) : Gd K H (n + 1) k (.int i) :=
  ⟨.int i, rfl, (Sh.int (k := 40) (by decide) (small40 h).1 (small40 h).2).wide (by omega) (by omega)⟩
theorem Gd.str {x : Str} (h : (PyData.shown (.str x)).length ≤ 41) : Gd K H (n + 1) k (.str x) :=
  ⟨.str x, rfl, ⟨rfl, by simpa only [lf, decide_eq_true_eq] using h, by simp only [nodes]; omega, by simp only [PyData.depth]; omega⟩⟩
theorem Gd.dict0 {a : Addr} (h : H a = some (.dK [])) : Gd K H (n + 1) (k + 1) (.ref a) :=
  ⟨.dict [], ⟨a, [], rfl, h, rfl⟩, ⟨rfl, rfl, by simp only [nodes, nodesKv]; omega, by simp only [PyData.depth, PyData.depthKv]; omega⟩⟩
theorem Gd.of {d : PyData} {v : V} (h : Da K H d v) (hs : Sh 41 n k d) : Gd K H n k v := ⟨d, h, hs⟩
end
end Nw
namespace K21
open PySem PySem.Spec PyProof.Rows L2 Nw
def topS (i : Nat) : Stmt := PySem.Challenge.pw_nudgewebs_k21_fillings_judged.main.body.getD i (.Pass ⟨0, 0, 0, 0⟩)
structure Txt (K : PySem.W.Frag) (mg : Str → Option Value) : Prop where
  b_isinstance : mg "isinstance" = none
  b_len : mg "len" = none
  b_all : mg "all" = none
  b_repr : mg "repr" = none
  b_abs : mg "abs" = none
  b_max : mg "max" = none
  b_min : mg "min" = none
  b_int : mg "int" = none
  b_bool : mg "bool" = none
  b_list : mg "list" = none
  b_tuple : mg "tuple" = none
  b_range : mg "range" = none
  b_zip : mg "zip" = none
  c_MOST_QUANTITIES : ∃ t, mg "MOST_QUANTITIES" = some (.int 20 t)
  c_MOST_NUDGES : ∃ t, mg "MOST_NUDGES" = some (.int 8 t)
  c_GREATEST_NUMBER : ∃ t, mg "GREATEST_NUMBER" = some (.int 1000000 t)
/-! is_integer: slots 0 value -/
abbrev s_is_integer : Stmt := topS 7
abbrev N_is_integer : List Str := ["value"]
abbrev P_is_integer : List Str := ["value"]
theorem sc_is_integer : FnScope N_is_integer P_is_integer (defScope s_is_integer) := ⟨rfl, rfl, rfl, by decide +kernel, rfl, by decide +kernel, by decide +kernel⟩
def sp_is_integer (K : PySem.W.Frag) : Sp := fun vs H Q _ => ∃ v d, vs = [v] ∧ Da K H d v ∧ Q (.bl (isInt d)) H
section
variable {P : Program} {w : World} {K : PySem.W.Frag} {mg : Str → Option Value} {base : Heap}
theorem ok_is_integer {f : Addr} {fd : FuncData} (T : Txt K mg) (F : Fun K "is_integer" "is_integer" s_is_integer f fd) :
    FnG P w K mg base CX0 1 f fd P_is_integer (sp_is_integer K) := by
  refine okG0 F sc_is_integer (fun vs H Q E h => ?_) (fun cdv A outer s H vs Q E hr hq h => ?_)
  · obtain ⟨v, d, rfl, _⟩ := h
    rfl
  · obtain ⟨v, d, rfl, hd, q⟩ := h
    refine ⟨_, (pss_one (ps_ret (pe_and (pe_callB (call_isiK K) (by rfl) T.b_isinstance bt_isinstance (pa_cons (pv 0) (pa_cons (pe_bty T.b_int bt_int) pa_nil))) (pe_one (pe_not (pe_callB (call_isiK K) (by rfl) T.b_isinstance bt_isinstance (pa_cons (pv 0) (pa_cons (pe_bty T.b_bool bt_bool) pa_nil)))))))), ?_⟩
    refine ⟨_, rfl, _, _, _, _, _, rfl, .ty _, hd.ty, isa_int d, _, rfl, ?_⟩
    rw [← isInt_eq] at q
    refine ite2 (fun h1 => ?_) (fun h1 => ?_)
    · refine ⟨_, rfl, _, _, _, _, _, rfl, .ty _, hd.ty, isa_bool d, _, rfl, ?_⟩
      rw [h1, Bool.true_and] at q
      exact q
    · rw [Bool.not_eq_true] at h1
      rw [h1, Bool.false_and] at q
      exact q
end

/-! is_number_below: slots 0 value, 1 limit -/
abbrev s_is_number_below : Stmt := topS 8
abbrev N_is_number_below : List Str := ["value", "limit"]
abbrev P_is_number_below : List Str := ["value", "limit"]
theorem sc_is_number_below : FnScope N_is_number_below P_is_number_below (defScope s_is_number_below) := ⟨rfl, rfl, rfl, by decide +kernel, rfl, by decide +kernel, by decide +kernel⟩
def sp_is_number_below (K : PySem.W.Frag) : Sp := fun vs H Q _ => ∃ v d m, vs = [v, .int m] ∧ Da K H d v ∧ Q (.bl (numB d m)) H
section
variable {P : Program} {w : World} {K : PySem.W.Frag} {mg : Str → Option Value} {base : Heap}
theorem ok_is_number_below {f : Addr} {fd : FuncData} (T : Txt K mg) (F : Fun K "is_number_below" "is_number_below" s_is_number_below f fd)
    (D_is_integer : DefOk P w K mg base CX0 1 "is_integer" P_is_integer (sp_is_integer K)) :
    FnG P w K mg base CX0 2 f fd P_is_number_below (sp_is_number_below K) := by
  refine okG0 F sc_is_number_below (fun vs H Q E h => ?_) (fun cdv A outer s H vs Q E hr hq h => ?_)
  · obtain ⟨v, d, m, rfl, _⟩ := h
    rfl
  · obtain ⟨v, d, m, rfl, hd, q⟩ := h
    refine ⟨_, (pss_one (ps_ret (pe_and (pe_callD D_is_integer (hr.mono (by decide)) hq pass0 (pa_cons (pv 0) pa_nil)) (pe_one (pe_chain op_le op_lt pe_int (pv 0) (pv 1)))))), ?_⟩
    refine ⟨_, rfl, _, _, rfl, hd, _, rfl, ?_⟩
    cases d with
    | int i =>
      obtain rfl := hd
      refine ⟨_, rfl, _, _, rfl, rfl, _, rfl, ?_⟩
      refine ite2 (fun h1 => ?_) (fun h1 => ?_)
      · refine ⟨_, rfl, _, _, rfl, rfl, ?_⟩
        simp only [numB, h1, Bool.true_and] at q
        exact q
      · rw [Bool.not_eq_true] at h1
        simp only [numB, h1, Bool.false_and] at q
        exact q
    | _ => exact q
end

/-! is_tuple_below: slots 0 value, 1 first_limit, 2 second_limit -/
abbrev s_is_tuple_below : Stmt := topS 9
abbrev N_is_tuple_below : List Str := ["value", "first_limit", "second_limit"]
abbrev P_is_tuple_below : List Str := ["value", "first_limit", "second_limit"]
theorem sc_is_tuple_below : FnScope N_is_tuple_below P_is_tuple_below (defScope s_is_tuple_below) := ⟨rfl, rfl, rfl, by decide +kernel, rfl, by decide +kernel, by decide +kernel⟩
def sp_is_tuple_below (K : PySem.W.Frag) : Sp := fun vs H Q _ => ∃ v d m n, vs = [v, .int m, .int n] ∧ Da K H d v ∧ Q (.bl (tupB d m n)) H
section
variable {P : Program} {w : World} {K : PySem.W.Frag} {mg : Str → Option Value} {base : Heap}
theorem ok_is_tuple_below {f : Addr} {fd : FuncData} (T : Txt K mg) (F : Fun K "is_tuple_below" "is_tuple_below" s_is_tuple_below f fd)
    (D_is_number_below : DefOk P w K mg base CX0 2 "is_number_below" P_is_number_below (sp_is_number_below K)) :
    FnG P w K mg base CX0 3 f fd P_is_tuple_below (sp_is_tuple_below K) := by
  refine okG0 F sc_is_tuple_below (fun vs H Q E h => ?_) (fun cdv A outer s H vs Q E hr hq h => ?_)
  · obtain ⟨v, d, m, n, rfl, _⟩ := h
    rfl
  · obtain ⟨v, d, m, n, rfl, hd, q⟩ := h
    refine ⟨_, (pss_cons (ps_if (PW.pt (pw_or (pt_not (pt_val (pe_callB (call_isiK K) (by rfl) T.b_isinstance bt_isinstance (pa_cons (pv 0) (pa_cons (pe_bty T.b_tuple bt_tuple) pa_nil))))) (pw_or1 (pt_cmpR op_ne (pe_callB (call_lenK K) (by rfl) T.b_len bt_len (pa_cons (pv 0) pa_nil)) pe_int (nomark _))))) (pss_one (ps_ret pe_bl)) pss_nil)
      (pss_one (ps_ret (pe_and (pe_callD D_is_number_below (hr.mono (by decide)) hq pass0 (pa_cons (pe_ix (ix_seqK K) (pv 0) pe_int (fun _ _ => rfl)) (pa_cons (pv 1) pa_nil))) (pe_one (pe_callD D_is_number_below (hr.mono (by decide)) hq pass0 (pa_cons (pe_ix (ix_seqK K) (pv 0) pe_int (fun _ _ => rfl)) (pa_cons (pv 2) pa_nil)))))))), ?_⟩
    refine ⟨_, rfl, _, _, _, _, _, rfl, .ty _, hd.ty, isa_tuple d, _, rfl, ?_⟩
    cases d with
    | tuple ds =>
      obtain ⟨a, xs, rfl, hS0, hA⟩ := hd
      have hS : SqT K _ a xs := .inl (.inl hS0)
      have hl := hA.len
      refine ⟨_, rfl, a, _, rfl, .inr hS, rfl, _, rfl, ?_⟩
      refine ite2 (fun h1 => ?_) (fun h1 => ?_)
      · have e : tupB (.tuple ds) m n = false := by
          unfold tupB
          split
          · rename_i heq
            cases heq
            rw [← hl] at h1
            simp at h1
          · rfl
        rw [e] at q
        exact q
      · have h2 : ds.length = 2 := by
          simp at h1
          omega
        obtain ⟨d1, d2, rfl⟩ : ∃ d1 d2, ds = [d1, d2] := by
          match ds, h2 with
          | [d1, d2], _ => exact ⟨d1, d2, rfl⟩
        obtain ⟨x1, r1, rfl, g1, x2, r2, rfl, g2, rfl⟩ := hA
        refine ⟨_, rfl, .inr (.inl ⟨a, _, 0, x1, rfl, rfl, hS, rfl, _, rfl, _, _, _, rfl, g1, _, rfl, ?_⟩)⟩
        refine ite2 (fun h3 => ?_) (fun h3 => ?_)
        · refine ⟨_, rfl, .inr (.inl ⟨a, _, 1, x2, rfl, rfl, hS, rfl, _, rfl, _, _, _, rfl, g2, ?_⟩)⟩
          simp only [tupB, h3, Bool.true_and] at q
          exact q
        · rw [Bool.not_eq_true] at h3
          simp only [tupB, h3, Bool.false_and] at q
          exact q
    | _ => exact q
end

/-! are_below: slots 0 value, 1 limit, 2 one -/
abbrev s_are_below : Stmt := topS 10
abbrev N_are_below : List Str := ["value", "limit", "one"]
abbrev P_are_below : List Str := ["value", "limit"]
theorem sc_are_below : FnScope N_are_below P_are_below (defScope s_are_below) := ⟨rfl, rfl, rfl, by decide +kernel, rfl, by decide +kernel, by decide +kernel⟩
def sp_are_below (K : PySem.W.Frag) : Sp := fun vs H Q _ => ∃ v d m, vs = [v, .int m] ∧ Da K H d v ∧ ∀ H', Ex H H' → Q (.bl (listB d m)) H'
section
variable {P : Program} {w : World} {K : PySem.W.Frag} {mg : Str → Option Value} {base : Heap}
theorem ok_are_below {f : Addr} {fd : FuncData} (T : Txt K mg) (F : Fun K "are_below" "are_below" s_are_below f fd)
    (D_is_number_below : DefOk P w K mg base CX0 2 "is_number_below" P_is_number_below (sp_is_number_below K)) :
    FnG P w K mg base CX0 3 f fd P_are_below (sp_are_below K) := by
  refine okG0 F sc_are_below (fun vs H Q E h => ?_) (fun cdv A outer s H vs Q E hr hq h => ?_)
  · obtain ⟨v, d, m, rfl, _⟩ := h
    rfl
  · obtain ⟨v, d, m, rfl, hd, q⟩ := h
    refine ⟨_, (pss_one (ps_ret (pe_and (pe_callB (call_isiK K) (by rfl) T.b_isinstance bt_isinstance (pa_cons (pv 0) (pa_cons (pe_bty T.b_list bt_list) pa_nil))) (pe_one (pe_callB (cr_allK K rfl) (by rfl) T.b_all bt_all (pa_cons (pe_lc (own := [("one", 2)]) rfl sc_are_below.nd (pi_listK K (pv 0)) (blkOk_by (N := N_are_below) (sc := defScope s_are_below) (by decide +kernel)) (fun _ _ _ _ _ => (pg_name (i := 2) sc_are_below.nd rfl (by first | exact .inl rfl | exact .inr rfl))) (fun _ _ _ _ _ => pts_nil) (fun _ _ _ _ _ => (pe_callD D_is_number_below (hr.mono (by decide)) hq pass0 (pa_cons (pv 2) (pa_cons (pv 1) pa_nil))))) pa_nil)))))), ?_⟩
    refine ⟨_, rfl, _, _, _, _, _, rfl, .ty _, hd.ty, isa_list d, _, rfl, ?_⟩
    cases d with
    | list ds =>
      obtain ⟨a, xs, rfl, hS0, hA, hz⟩ := hd
      have hS : SqL K _ a xs := .inl (.inl hS0)
      have hl := hA.len
      refine ⟨_, rfl, a, rfl, ⟨_, hS⟩, fun D hD => ?_⟩
      refine lc_ev xs.length (fun _ => true) (fun i y _ => y = .bl (numB (ds.getD i .none) m)) (by omega) hD (fun _ _ _ _ _ h => h)
        (fun i H' hi e => itl_go hS e hi) (fun H' e => itl_stop hS e) ?_ ?_
      · intro i H' x H'' hi e _ y Q' N' hQ _
        obtain ⟨rfl, hx⟩ := itl_yld y hS e
        obtain ⟨d, hd, hx'⟩ := hA.at' hx
        refine ⟨rfl, _, rfl, _, rfl, _, _, _, rfl, hx'.up e, ?_⟩
        refine hQ rfl _ _ Ex.rfl ?_
        rw [List.getD_eq_getElem?_getD, hd]
        rfl
      · intro ys H' e hy gv
        refine ⟨D, (List.range xs.length).map fun i => numB (ds.getD i .none) m, rfl, .inl (.inl ?_), ?_⟩
        · rw [hy, gv.all, given_bl]
        · rw [← hl, all_range_get (fun d => numB d m) .none ds]
          exact q _ e
    | _ => exact q _ Ex.rfl
end

/-! are_ascending: slots 0 values, 1 one, 2 following -/
abbrev s_are_ascending : Stmt := topS 11
abbrev N_are_ascending : List Str := ["values", "one", "following"]
abbrev P_are_ascending : List Str := ["values"]
theorem sc_are_ascending : FnScope N_are_ascending P_are_ascending (defScope s_are_ascending) := ⟨rfl, rfl, rfl, by decide +kernel, rfl, by decide +kernel, by decide +kernel⟩
def sp_are_ascending (K : PySem.W.Frag) : Sp := fun vs H Q _ => ∃ v, vs = [v] ∧
  ((∃ ns : List Int, Da K H (.list (ns.map PyData.int)) v ∧ ∀ H', Ex H H' → Q (.bl (ascB ltIn ns)) H') ∨
   (∃ ps : List (Int × Int), Da K H (.list (ps.map dPair)) v ∧ ∀ H', Ex H H' → Q (.bl (ascB ltPr ps)) H'))
section
variable {P : Program} {w : World} {K : PySem.W.Frag} {mg : Str → Option Value} {base : Heap}
theorem ok_are_ascending {f : Addr} {fd : FuncData} (T : Txt K mg) (F : Fun K "are_ascending" "are_ascending" s_are_ascending f fd) :
    FnG P w K mg base CX0 1 f fd P_are_ascending (sp_are_ascending K) := by
  refine okG0 F sc_are_ascending (fun vs H Q E h => ?_) (fun cdv A outer s H vs Q E hr hq h => ?_)
  · obtain ⟨v, rfl, _⟩ := h
    rfl
  · obtain ⟨v, rfl, h⟩ := h
    refine ⟨_, (pss_one (ps_ret (pe_callB (cr_allK K rfl) (by rfl) T.b_all bt_all (pa_cons (pe_lc (own := [("one", 1), ("following", 2)]) rfl sc_are_ascending.nd (pi_zip (by rfl) T.b_zip (pa_cons (pv 0) (pa_cons (pe_slice (sl_listK K) (pv 0) (po_some pe_int) po_none) pa_nil))) (blkOk_by (N := N_are_ascending) (sc := defScope s_are_ascending) (by decide +kernel)) (fun _ _ _ _ _ => (pg_tupK (n := 2) K rfl (pgs_cons (pg_name (i := 1) sc_are_ascending.nd rfl (by first | exact .inl rfl | exact .inr rfl)) (pgs_cons (pg_name (i := 2) sc_are_ascending.nd rfl (by first | exact .inl rfl | exact .inr rfl)) pgs_nil)))) (fun _ _ _ _ _ => pts_nil) (fun _ _ _ _ _ => (pe_cmpR (op_ltA K hr.units0) (pv 1) (pv 2) (nomark _)))) pa_nil)))), ?_⟩
    rcases h with ⟨ns, ⟨a, xs, rfl, hS0, hA, hz⟩, q⟩ | ⟨ps, ⟨a, xs, rfl, hS0, hA, hz⟩, q⟩
    · obtain rfl := DaAll.ints.mp hA
      have hS : SqL K _ a (ns.map V.int) := .inl (.inl hS0)
      rw [List.length_map] at hz
      refine ⟨_, rfl, .ref a, rfl, 1, rfl, a, _, rfl, hS, fun p hp => ?_⟩
      have hS' := (Ex.nw (o := .lst (cutV (ns.map V.int) (some 1) none)) hp).l hS
      have hC : SqL K (upd H p (.lst (cutV (ns.map V.int) (some 1) none))) p ((ns.map V.int).drop 1) := .inl (.inl (by rw [upd_same, cut1]))
      refine ⟨a, p, _, _, rfl, hS', hC, fun D hD => ?_⟩
      refine lc_ev (min (ns.map V.int).length ((ns.map V.int).drop 1).length) (fun _ => true) (fun i y _ => y = .bl (ascAt ltIn ns i)) (by rw [List.length_map]; omega) hD
        (fun _ _ _ _ _ h => h) (fun i H' hi e => itz_go hS' hC e hi) (fun H' e => itz_stop hS' hC e) ?_ ?_
      · rintro i H' x H'' hi e _ ⟨T', x1, x2, rfl, hT, rfl, h1, h2⟩ Q' N' hQ _
        obtain ⟨n1, g1, rfl⟩ := map_at (h1 _ (e.l hS'))
        obtain ⟨n2, g2, rfl⟩ := map_at (drop1_at (h2 _ (e.l hC)))
        refine ⟨T', _, rfl, .inl (.inl upd_same), rfl, _, _, rfl, _, _, rfl, rfl, rfl, _, rfl, _, rfl, .inl ⟨_, _, rfl, rfl, hQ rfl _ _ (Ex.nw hT) ?_⟩⟩
        show V.bl (decide (n1 < n2)) = V.bl (ascAt ltIn ns i)
        simp only [ascAt, g1, g2, ltIn]
      · intro ys H' e hy gv
        refine ⟨D, (List.range (min (ns.map V.int).length ((ns.map V.int).drop 1).length)).map fun i => ascAt ltIn ns i, rfl, .inl (.inl ?_), ?_⟩
        · rw [hy, gv.all, given_bl]
        · rw [min_drop1, List.length_map, ascB_range]
          exact q _ ((Ex.nw hp).tr e)
    · have hS : SqL K _ a xs := .inl (.inl hS0)
      have hl : ps.length = xs.length := by
        have := hA.len
        rw [List.length_map] at this
        exact this
      rw [List.length_map] at hz
      refine ⟨_, rfl, .ref a, rfl, 1, rfl, a, _, rfl, hS, fun p hp => ?_⟩
      have e0 : Ex H (upd H p (.lst (cutV xs (some 1) none))) := Ex.nw hp
      have hS' := e0.l hS
      have hC : SqL K (upd H p (.lst (cutV xs (some 1) none))) p (xs.drop 1) := .inl (.inl (by rw [upd_same, cut1]))
      refine ⟨a, p, _, _, rfl, hS', hC, fun D hD => ?_⟩
      refine lc_ev (min xs.length (xs.drop 1).length) (fun _ => true) (fun i y _ => y = .bl (ascAt ltPr ps i)) (by omega) hD
        (fun _ _ _ _ _ h => h) (fun i H' hi e => itz_go hS' hC e hi) (fun H' e => itz_stop hS' hC e) ?_ ?_
      · rintro i H' x H'' hi e _ ⟨T', x1, x2, rfl, hT, rfl, h1, h2⟩ Q' N' hQ _
        obtain ⟨p1, g1, a1, rfl, t1⟩ := pairs_at hA (h1 _ (e.l hS'))
        obtain ⟨p2, g2, a2, rfl, t2⟩ := pairs_at hA (drop1_at (h2 _ (e.l hC)))
        have e3 := (e0.tr e).tr (Ex.nw (o := .tup [.ref a1, .ref a2]) hT)
        refine ⟨T', _, rfl, .inl (.inl upd_same), rfl, _, _, rfl, _, _, rfl, rfl, rfl, _, rfl, _, rfl,
          .inr ⟨a1, a2, [p1.1, p1.2], [p2.1, p2.2], rfl, rfl, e3.t t1, e3.t t2, hQ rfl _ _ (Ex.nw hT) ?_⟩⟩
        show V.bl (HT.lexLt [p1.1, p1.2] [p2.1, p2.2]) = V.bl (ascAt ltPr ps i)
        simp only [ascAt, g1, g2, ltPr]
      · intro ys H' e hy gv
        refine ⟨D, (List.range (min xs.length (xs.drop 1).length)).map fun i => ascAt ltPr ps i, rfl, .inl (.inl ?_), ?_⟩
        · rw [hy, gv.all, given_bl]
        · rw [min_drop1, ← hl, ascB_range]
          exact q _ ((Ex.nw hp).tr e)
end

/-! are_ascending_tuples: slots 0 value, 1 first_limit, 2 second_limit, 3 one -/
abbrev s_are_ascending_tuples : Stmt := topS 12
abbrev N_are_ascending_tuples : List Str := ["value", "first_limit", "second_limit", "one"]
abbrev P_are_ascending_tuples : List Str := ["value", "first_limit", "second_limit"]
theorem sc_are_ascending_tuples : FnScope N_are_ascending_tuples P_are_ascending_tuples (defScope s_are_ascending_tuples) := ⟨rfl, rfl, rfl, by decide +kernel, rfl, by decide +kernel, by decide +kernel⟩
def sp_are_ascending_tuples (K : PySem.W.Frag) : Sp := fun vs H Q _ => ∃ v d m n, vs = [v, .int m, .int n] ∧ Da K H d v ∧ ∀ H', Ex H H' → Q (.bl (tuplesB d m n)) H'
section
variable {P : Program} {w : World} {K : PySem.W.Frag} {mg : Str → Option Value} {base : Heap}
theorem ok_are_ascending_tuples {f : Addr} {fd : FuncData} (T : Txt K mg) (F : Fun K "are_ascending_tuples" "are_ascending_tuples" s_are_ascending_tuples f fd)
    (D_is_tuple_below : DefOk P w K mg base CX0 3 "is_tuple_below" P_is_tuple_below (sp_is_tuple_below K))
    (D_are_ascending : DefOk P w K mg base CX0 1 "are_ascending" P_are_ascending (sp_are_ascending K)) :
    FnG P w K mg base CX0 4 f fd P_are_ascending_tuples (sp_are_ascending_tuples K) := by
  refine okG0 F sc_are_ascending_tuples (fun vs H Q E h => ?_) (fun cdv A outer s H vs Q E hr hq h => ?_)
  · obtain ⟨v, d, m, n, rfl, _⟩ := h
    rfl
  · obtain ⟨v, d, m, n, rfl, hd, q⟩ := h
    refine ⟨_, (pss_cons (ps_if (pt_not (pt_val (pe_callB (call_isiK K) (by rfl) T.b_isinstance bt_isinstance (pa_cons (pv 0) (pa_cons (pe_bty T.b_list bt_list) pa_nil))))) (pss_one (ps_ret pe_bl)) pss_nil)
      (pss_cons (ps_if (pt_not (pt_val (pe_callB (cr_allK K rfl) (by rfl) T.b_all bt_all (pa_cons (pe_lc (own := [("one", 3)]) rfl sc_are_ascending_tuples.nd (pi_listK K (pv 0)) (blkOk_by (N := N_are_ascending_tuples) (sc := defScope s_are_ascending_tuples) (by decide +kernel)) (fun _ _ _ _ _ => (pg_name (i := 3) sc_are_ascending_tuples.nd rfl (by first | exact .inl rfl | exact .inr rfl))) (fun _ _ _ _ _ => pts_nil) (fun _ _ _ _ _ => (pe_callD D_is_tuple_below (hr.mono (by decide)) hq pass0 (pa_cons (pv 3) (pa_cons (pv 1) (pa_cons (pv 2) pa_nil)))))) pa_nil)))) (pss_one (ps_ret pe_bl)) pss_nil)
      (pss_one (ps_ret (pe_callD D_are_ascending (hr.mono (by decide)) hq pass0 (pa_cons (pv 0) pa_nil)))))), ?_⟩
    refine ⟨_, rfl, _, _, _, _, _, rfl, .ty _, hd.ty, isa_list d, _, rfl, ?_⟩
    cases d with
    | list ds =>
      have hd0 := hd
      obtain ⟨a, xs, rfl, hS0, hA, hz⟩ := hd
      have hS : SqL K _ a xs := .inl (.inl hS0)
      have hl := hA.len
      refine ⟨_, rfl, a, rfl, ⟨_, hS⟩, fun D hD => ?_⟩
      refine lc_ev xs.length (fun _ => true) (fun i y _ => y = .bl (tupB (ds.getD i .none) m n)) (by omega) hD (fun _ _ _ _ _ h => h)
        (fun i H' hi e => itl_go hS e hi) (fun H' e => itl_stop hS e) ?_ ?_
      · intro i H' x H'' hi e _ y Q' N' hQ _
        obtain ⟨rfl, hx⟩ := itl_yld y hS e
        obtain ⟨d, hd, hx'⟩ := hA.at' hx
        refine ⟨rfl, _, rfl, _, rfl, _, rfl, _, _, _, _, rfl, hx'.up e, ?_⟩
        refine hQ rfl _ _ Ex.rfl ?_
        rw [List.getD_eq_getElem?_getD, hd]
        rfl
      · intro ys H' e hy gv
        refine ⟨D, (List.range xs.length).map fun i => tupB (ds.getD i .none) m n, rfl, .inl (.inl ?_), _, rfl, ?_⟩
        · rw [hy, gv.all, given_bl]
        · rw [← hl, all_range_get (fun d => tupB d m n) .none ds]
          refine ite2 (fun h1 => ?_) (fun h1 => ?_)
          · rw [Bool.not_eq_true'] at h1
            have e2 : tuplesB (.list ds) m n = false := by simp only [tuplesB, h1, Bool.false_and]
            rw [e2] at q
            exact q _ e
          · rw [Bool.not_eq_true', Bool.not_eq_false] at h1
            obtain ⟨ps, rfl, _⟩ := pairs_of_all h1
            refine ⟨_, rfl, _, rfl, .inr ⟨ps, hd0.up e, fun H2 e2 => ?_⟩⟩
            have e3 : tuplesB (.list (ps.map dPair)) m n = ascB ltPr ps := by simp only [tuplesB, h1, Bool.true_and, pairsOf_map]
            rw [e3] at q
            exact q _ (e.tr e2)
    | _ => exact q _ Ex.rfl
end

/-! are_targets: slots 0 value, 1 count -/
abbrev s_are_targets : Stmt := topS 13
abbrev N_are_targets : List Str := ["value", "count"]
abbrev P_are_targets : List Str := ["value", "count"]
theorem sc_are_targets : FnScope N_are_targets P_are_targets (defScope s_are_targets) := ⟨rfl, rfl, rfl, by decide +kernel, rfl, by decide +kernel, by decide +kernel⟩
def sp_are_targets (K : PySem.W.Frag) : Sp := fun vs H Q _ => ∃ v d m, vs = [v, .int m] ∧ Da K H d v ∧ ∀ H', Ex H H' → Q (.bl (targetsB d m)) H'
section
variable {P : Program} {w : World} {K : PySem.W.Frag} {mg : Str → Option Value} {base : Heap}
theorem ok_are_targets {f : Addr} {fd : FuncData} (T : Txt K mg) (F : Fun K "are_targets" "are_targets" s_are_targets f fd)
    (D_are_below : DefOk P w K mg base CX0 3 "are_below" P_are_below (sp_are_below K))
    (D_are_ascending : DefOk P w K mg base CX0 1 "are_ascending" P_are_ascending (sp_are_ascending K)) :
    FnG P w K mg base CX0 4 f fd P_are_targets (sp_are_targets K) := by
  refine okG0 F sc_are_targets (fun vs H Q E h => ?_) (fun cdv A outer s H vs Q E hr hq h => ?_)
  · obtain ⟨v, d, m, rfl, _⟩ := h
    rfl
  · obtain ⟨v, d, m, rfl, hd, q⟩ := h
    refine ⟨_, (pss_one (ps_ret (pe_and (pe_callD D_are_below (hr.mono (by decide)) hq pass0 (pa_cons (pv 0) (pa_cons (pv 1) pa_nil))) (pe_and (pe_cmpR op_gt (pe_callB (call_lenK K) (by rfl) T.b_len bt_len (pa_cons (pv 0) pa_nil)) pe_int (nomark _)) (pe_one (pe_callD D_are_ascending (hr.mono (by decide)) hq pass0 (pa_cons (pv 0) pa_nil))))))), ?_⟩
    refine ⟨_, rfl, _, rfl, _, _, _, rfl, hd, fun H1 e1 => ⟨_, rfl, ?_⟩⟩
    refine ite2 (fun h1 => ?_) (fun h1 => ?_)
    · cases d with
      | list ds =>
        obtain ⟨ns, rfl, _⟩ := ints_of_all (show (ds.all fun d => numB d m) = true from h1)
        have hd1 := hd.up e1
        obtain ⟨a, xs, rfl, hS0, hA, hz⟩ := hd1
        have hS : SqL K _ a xs := .inl (.inl hS0)
        have hl := hA.len
        refine ⟨_, rfl, a, _, rfl, .inl hS, _, _, rfl, rfl, _, rfl, ?_⟩
        refine ite2 (fun h2 => ?_) (fun h2 => ?_)
        · refine ⟨_, rfl, _, rfl, .inl ⟨ns, hd.up e1, fun H2 e2 => ?_⟩⟩
          have e3 : targetsB (.list (ns.map PyData.int)) m = ascB ltIn ns := by
            have h3 : ((ns.map PyData.int).all fun d => numB d m) = true := h1
            have h4 : decide (0 < (ns.map PyData.int).length) = true := by
              rw [hl]
              simpa using h2
            simp only [targetsB, h3, h4, Bool.true_and, intsOf_map]
          rw [e3] at q
          exact q _ (e1.tr e2)
        · have e3 : targetsB (.list (ns.map PyData.int)) m = false := by
            have h4 : decide (0 < (ns.map PyData.int).length) = false := by
              rw [hl]
              simpa using h2
            simp only [targetsB, h4, Bool.false_and, Bool.and_false]
          rw [e3] at q
          exact q _ e1
      | _ => exact (Bool.noConfusion h1 : False).elim
    · rw [Bool.not_eq_true] at h1
      have e3 : targetsB d m = false := by
        cases d with
        | list ds =>
          have h3 : (ds.all fun d => numB d m) = false := h1
          simp only [targetsB, h3, Bool.false_and]
        | _ => rfl
      rw [e3] at q
      exact q _ e1
end

/-! are_nudges: slots 0 value, 1 count, 2 nudge -/
abbrev s_are_nudges : Stmt := topS 14
abbrev N_are_nudges : List Str := ["value", "count", "nudge"]
abbrev P_are_nudges : List Str := ["value", "count"]
theorem sc_are_nudges : FnScope N_are_nudges P_are_nudges (defScope s_are_nudges) := ⟨rfl, rfl, rfl, by decide +kernel, rfl, by decide +kernel, by decide +kernel⟩
def sp_are_nudges (K : PySem.W.Frag) : Sp := fun vs H Q _ => ∃ v d m, vs = [v, .int m] ∧ Da K H d v ∧ ∀ H', Ex H H' → Q (.bl (nudgesB d m)) H'
section
variable {P : Program} {w : World} {K : PySem.W.Frag} {mg : Str → Option Value} {base : Heap}
theorem ok_are_nudges {f : Addr} {fd : FuncData} (T : Txt K mg) (F : Fun K "are_nudges" "are_nudges" s_are_nudges f fd)
    (D_are_targets : DefOk P w K mg base CX0 4 "are_targets" P_are_targets (sp_are_targets K)) :
    FnG P w K mg base CX0 5 f fd P_are_nudges (sp_are_nudges K) := by
  refine okG0 F sc_are_nudges (fun vs H Q E h => ?_) (fun cdv A outer s H vs Q E hr hq h => ?_)
  · obtain ⟨v, d, m, rfl, _⟩ := h
    rfl
  · obtain ⟨v, d, m, rfl, hd, q⟩ := h
    refine ⟨_, (pss_cons (ps_if (PW.pt (pw_or (pt_not (pt_val (pe_callB (call_isiK K) (by rfl) T.b_isinstance bt_isinstance (pa_cons (pv 0) (pa_cons (pe_bty T.b_list bt_list) pa_nil))))) (pw_or1 (pt_cmpR op_gt (pe_callB (call_lenK K) (by rfl) T.b_len bt_len (pa_cons (pv 0) pa_nil)) (pe_globI T.c_MOST_NUDGES) (nomark _))))) (pss_one (ps_ret pe_bl)) pss_nil)
      (pss_one (ps_ret (pe_callB (cr_allK K rfl) (by rfl) T.b_all bt_all (pa_cons (pe_lc (own := [("nudge", 2)]) rfl sc_are_nudges.nd (pi_listK K (pv 0)) (blkOk_by (N := N_are_nudges) (sc := defScope s_are_nudges) (by decide +kernel)) (fun _ _ _ _ _ => (pg_name (i := 2) sc_are_nudges.nd rfl (by first | exact .inl rfl | exact .inr rfl))) (fun _ _ _ _ _ => pts_nil) (fun _ _ _ _ _ => (pe_callD D_are_targets (hr.mono (by decide)) hq pass0 (pa_cons (pv 2) (pa_cons (pv 1) pa_nil))))) pa_nil))))), ?_⟩
    refine ⟨_, rfl, _, _, _, _, _, rfl, .ty _, hd.ty, isa_list d, _, rfl, ?_⟩
    cases d with
    | list ds =>
      obtain ⟨a, xs, rfl, hS0, hA, hz⟩ := hd
      have hS : SqL K _ a xs := .inl (.inl hS0)
      have hl := hA.len
      refine ⟨_, rfl, a, _, rfl, .inl hS, _, _, rfl, rfl, _, rfl, ?_⟩
      refine ite2 (fun h1 => ?_) (fun h1 => ?_)
      · have e3 : nudgesB (.list ds) m = false := by
          have h4 : decide (ds.length ≤ 8) = false := by
            rw [hl]
            simp at h1
            simp
            omega
          simp only [nudgesB, h4, Bool.false_and]
        rw [e3] at q
        exact q _ Ex.rfl
      · have e3 : nudgesB (.list ds) m = ds.all fun d => targetsB d m := by
          have h4 : decide (ds.length ≤ 8) = true := by
            rw [hl]
            simp at h1
            simp
            omega
          simp only [nudgesB, h4, Bool.true_and]
        rw [e3] at q
        refine ⟨_, rfl, a, rfl, ⟨_, hS⟩, fun D hD => ?_⟩
        refine lc_ev xs.length (fun _ => true) (fun i y _ => y = .bl (targetsB (ds.getD i .none) m)) (by omega) hD (fun _ _ _ _ _ h => h)
          (fun i H' hi e => itl_go hS e hi) (fun H' e => itl_stop hS e) ?_ ?_
        · intro i H' x H'' hi e _ y Q' N' hQ _
          obtain ⟨rfl, hx⟩ := itl_yld y hS e
          obtain ⟨d, hd, hx'⟩ := hA.at' hx
          refine ⟨rfl, _, rfl, _, rfl, _, _, _, rfl, hx'.up e, fun H2 e2 => ?_⟩
          refine hQ rfl _ _ e2 ?_
          rw [List.getD_eq_getElem?_getD, hd]
          rfl
        · intro ys H' e hy gv
          refine ⟨D, (List.range xs.length).map fun i => targetsB (ds.getD i .none) m, rfl, .inl (.inl ?_), ?_⟩
          · rw [hy, gv.all, given_bl]
          · rw [← hl, all_range_get (fun d => targetsB d m) .none ds]
            exact q _ e
    | _ => exact q _ Ex.rfl
end

/-! has_web_shape: slots 0 value, 1 count, 2 pairs, 3 nudges -/
abbrev s_has_web_shape : Stmt := topS 15
abbrev N_has_web_shape : List Str := ["value", "count", "pairs", "nudges"]
abbrev P_has_web_shape : List Str := ["value"]
theorem sc_has_web_shape : FnScope N_has_web_shape P_has_web_shape (defScope s_has_web_shape) := ⟨rfl, rfl, rfl, by decide +kernel, rfl, by decide +kernel, by decide +kernel⟩
def sp_has_web_shape (K : PySem.W.Frag) : Sp := fun vs H Q _ => ∃ v d, vs = [v] ∧ Da K H d v ∧ ∀ H', Ex H H' → Q (.bl (webB d)) H'
section
variable {P : Program} {w : World} {K : PySem.W.Frag} {mg : Str → Option Value} {base : Heap}
theorem ok_has_web_shape {f : Addr} {fd : FuncData} (T : Txt K mg) (F : Fun K "has_web_shape" "has_web_shape" s_has_web_shape f fd)
    (D_is_integer : DefOk P w K mg base CX0 1 "is_integer" P_is_integer (sp_is_integer K))
    (D_are_ascending_tuples : DefOk P w K mg base CX0 4 "are_ascending_tuples" P_are_ascending_tuples (sp_are_ascending_tuples K))
    (D_are_nudges : DefOk P w K mg base CX0 5 "are_nudges" P_are_nudges (sp_are_nudges K)) :
    FnG P w K mg base CX0 6 f fd P_has_web_shape (sp_has_web_shape K) := by
  refine okG0 F sc_has_web_shape (fun vs H Q E h => ?_) (fun cdv A outer s H vs Q E hr hq h => ?_)
  · obtain ⟨v, d, rfl, _⟩ := h
    rfl
  · obtain ⟨v, d, rfl, hd, q⟩ := h
    refine ⟨_, (pss_cons (ps_if (PW.pt (pw_or (pt_not (pt_val (pe_callB (call_isiK K) (by rfl) T.b_isinstance bt_isinstance (pa_cons (pv 0) (pa_cons (pe_bty T.b_tuple bt_tuple) pa_nil))))) (pw_or1 (pt_cmpR op_ne (pe_callB (call_lenK K) (by rfl) T.b_len bt_len (pa_cons (pv 0) pa_nil)) pe_int (nomark _))))) (pss_one (ps_ret pe_bl)) pss_nil)
      (pss_cons (ps_asg (pv 0) (pg_tupK (n := 3) K rfl (pgs_cons (pg_name (i := 1) sc_has_web_shape.nd rfl (by first | exact .inl rfl | exact .inr rfl)) (pgs_cons (pg_name (i := 2) sc_has_web_shape.nd rfl (by first | exact .inl rfl | exact .inr rfl)) (pgs_cons (pg_name (i := 3) sc_has_web_shape.nd rfl (by first | exact .inl rfl | exact .inr rfl)) pgs_nil)))))
      (pss_cons (ps_if (PW.pt (pw_or (pt_not (pt_val (pe_callD D_is_integer (hr.mono (by decide)) hq pass0 (pa_cons (pv 1) pa_nil)))) (pw_or1 (pt_not (pt_chain op_le op_le pe_int (pv 1) (pe_globI T.c_MOST_QUANTITIES)))))) (pss_one (ps_ret pe_bl)) pss_nil)
      (pss_one (ps_ret (pe_and (pe_callD D_are_ascending_tuples (hr.mono (by decide)) hq pass0 (pa_cons (pv 2) (pa_cons (pv 1) (pa_cons (pv 1) pa_nil)))) (pe_one (pe_callD D_are_nudges (hr.mono (by decide)) hq pass0 (pa_cons (pv 3) (pa_cons (pv 1) pa_nil)))))))))), ?_⟩
    refine ⟨_, rfl, _, _, _, _, _, rfl, .ty _, hd.ty, isa_tuple d, _, rfl, ?_⟩
    cases d with
    | tuple ds =>
      obtain ⟨a, xs, rfl, hS0, hA⟩ := hd
      have hS : SqT K _ a xs := .inl (.inl hS0)
      have hl := hA.len
      refine ⟨_, rfl, a, _, rfl, .inr hS, rfl, _, rfl, ?_⟩
      refine ite2 (fun h1 => ?_) (fun h1 => ?_)
      · have e : webB (.tuple ds) = false := by
          unfold webB
          split
          · rename_i heq
            cases heq
            rw [← hl] at h1
            simp at h1
          · rfl
        rw [e] at q
        exact q _ Ex.rfl
      · have h2 : ds.length = 3 := by
          simp at h1
          omega
        obtain ⟨d1, d2, d3, rfl⟩ : ∃ d1 d2 d3, ds = [d1, d2, d3] := by
          match ds, h2 with
          | [d1, d2, d3], _ => exact ⟨d1, d2, d3, rfl⟩
        obtain ⟨x1, r1, rfl, g1, x2, r2, rfl, g2, x3, r3, rfl, g3, rfl⟩ := hA
        refine ⟨_, rfl, a, _, rfl, hS, rfl, _, _, rfl, _, _, rfl, _, _, rfl, rfl, ?_⟩
        refine ⟨_, rfl, _, _, rfl, g1, _, rfl, ?_⟩
        cases d1 with
        | int n =>
          obtain rfl := g1
          refine ⟨_, rfl, _, _, rfl, rfl, _, rfl, ?_⟩
          refine ite2 (fun h3 => ?_) (fun h3 => ?_)
          · refine ⟨_, _, rfl, rfl, _, rfl, ?_⟩
            refine ite2 (fun h4 => ?_) (fun h4 => ?_)
            · have e : webB (.tuple [.int n, d2, d3]) = false := by
                have h5 : decide (n ≤ 20) = false := by simpa using h4
                simp only [webB, h5, Bool.and_false, Bool.false_and]
              rw [e] at q
              exact q _ Ex.rfl
            · have e : webB (.tuple [.int n, d2, d3]) = (tuplesB d2 n n && nudgesB d3 n) := by
                have h5 : decide (n ≤ 20) = true := by simpa using h4
                simp only [webB, h5, h3, Bool.true_and]
              rw [e] at q
              refine ⟨_, rfl, _, rfl, _, rfl, _, _, _, _, rfl, g2, fun H1 e1 => ⟨_, rfl, ?_⟩⟩
              refine ite2 (fun h6 => ?_) (fun h6 => ?_)
              · refine ⟨_, rfl, _, rfl, _, _, _, rfl, g3.up e1, fun H2 e2 => ?_⟩
                rw [h6, Bool.true_and] at q
                exact q _ (e1.tr e2)
              · rw [Bool.not_eq_true] at h6
                rw [h6, Bool.false_and] at q
                exact q _ e1
          · have e : webB (.tuple [.int n, d2, d3]) = false := by
              rw [Bool.not_eq_true] at h3
              simp only [webB, h3, Bool.false_and]
            rw [e] at q
            exact ⟨_, rfl, q _ Ex.rfl⟩
        | _ => exact q _ Ex.rfl
    | _ => exact q _ Ex.rfl
end

end K21
namespace K21
open PySem PySem.Spec PyProof.Rows L2 Nw
/-! are_integers: slots 0 value, 1 many, 2 one -/
abbrev s_are_integers : Stmt := topS 16
abbrev N_are_integers : List Str := ["value", "many", "one"]
abbrev P_are_integers : List Str := ["value", "many"]
theorem sc_are_integers : FnScope N_are_integers P_are_integers (defScope s_are_integers) := ⟨rfl, rfl, rfl, by decide +kernel, rfl, by decide +kernel, by decide +kernel⟩
def sp_are_integers (K : PySem.W.Frag) : Sp := fun vs H Q _ => ∃ v d m, vs = [v, .int m] ∧ Da K H d v ∧ ∀ H', Ex H H' → Q (.bl (intsB d m)) H'
section
variable {P : Program} {w : World} {K : PySem.W.Frag} {mg : Str → Option Value} {base : Heap}
theorem ok_are_integers {f : Addr} {fd : FuncData} (T : Txt K mg) (F : Fun K "are_integers" "are_integers" s_are_integers f fd)
    (D_is_integer : DefOk P w K mg base CX0 1 "is_integer" P_is_integer (sp_is_integer K)) :
    FnG P w K mg base CX0 2 f fd P_are_integers (sp_are_integers K) := by
  refine okG0 F sc_are_integers (fun vs H Q E h => ?_) (fun cdv A outer s H vs Q E hr hq h => ?_)
  · obtain ⟨v, d, m, rfl, _⟩ := h
    rfl
  · obtain ⟨v, d, m, rfl, hd, q⟩ := h
    refine ⟨_, (pss_one (ps_ret (pe_and (pe_callB (call_isiK K) (by rfl) T.b_isinstance bt_isinstance (pa_cons (pv 0) (pa_cons (pe_bty T.b_list bt_list) pa_nil))) (pe_and (pe_cmpR op_eq (pe_callB (call_lenK K) (by rfl) T.b_len bt_len (pa_cons (pv 0) pa_nil)) (pv 1) (nomark _)) (pe_one (pe_callB (cr_allK K rfl) (by rfl) T.b_all bt_all (pa_cons (pe_lc (own := [("one", 2)]) rfl sc_are_integers.nd (pi_listK K (pv 0)) (blkOk_by (N := N_are_integers) (sc := defScope s_are_integers) (by decide +kernel)) (fun _ _ _ _ _ => (pg_name (i := 2) sc_are_integers.nd rfl (by first | exact .inl rfl | exact .inr rfl))) (fun _ _ _ _ _ => pts_nil) (fun _ _ _ _ _ => (pe_callD D_is_integer (hr.mono (by decide)) hq pass0 (pa_cons (pv 2) pa_nil)))) pa_nil))))))), ?_⟩
    refine ⟨_, rfl, _, _, _, _, _, rfl, .ty _, hd.ty, isa_list d, _, rfl, ?_⟩
    cases d with
    | list ds =>
      obtain ⟨a, xs, rfl, hS0, hA, hz⟩ := hd
      have hS : SqL K _ a xs := .inl (.inl hS0)
      have hl := hA.len
      refine ⟨_, rfl, a, _, rfl, .inl hS, _, rfl, rfl, _, rfl, ?_⟩
      refine ite2 (fun h1 => ?_) (fun h1 => ?_)
      · have e3 : intsB (.list ds) m = ds.all isInt := by
          have h4 : decide ((ds.length : Int) = m) = true := by
            rw [hl]
            simpa using h1
          simp only [intsB, h4, Bool.true_and]
        rw [e3] at q
        refine ⟨_, rfl, a, rfl, ⟨_, hS⟩, fun D hD => ?_⟩
        refine lc_ev xs.length (fun _ => true) (fun i y _ => y = .bl (isInt (ds.getD i .none))) (by omega) hD (fun _ _ _ _ _ h => h)
          (fun i H' hi e => itl_go hS e hi) (fun H' e => itl_stop hS e) ?_ ?_
        · intro i H' x H'' hi e _ y Q' N' hQ _
          obtain ⟨rfl, hx⟩ := itl_yld y hS e
          obtain ⟨d, hd, hx'⟩ := hA.at' hx
          refine ⟨rfl, _, rfl, _, _, rfl, hx'.up e, ?_⟩
          refine hQ rfl _ _ Ex.rfl ?_
          rw [List.getD_eq_getElem?_getD, hd]
          rfl
        · intro ys H' e hy gv
          refine ⟨D, (List.range xs.length).map fun i => isInt (ds.getD i .none), rfl, .inl (.inl ?_), ?_⟩
          · rw [hy, gv.all, given_bl]
          · rw [← hl, all_range_get isInt .none ds]
            exact q _ e
      · have e3 : intsB (.list ds) m = false := by
          have h4 : decide ((ds.length : Int) = m) = false := by
            rw [hl]
            simpa using h1
          simp only [intsB, h4, Bool.false_and]
        rw [e3] at q
        exact q _ Ex.rfl
    | _ => exact q _ Ex.rfl
end

/-! are_line_numbers: slots 0 value, 1 many, 2 number -/
abbrev s_are_line_numbers : Stmt := topS 17
abbrev N_are_line_numbers : List Str := ["value", "many", "number"]
abbrev P_are_line_numbers : List Str := ["value", "many"]
theorem sc_are_line_numbers : FnScope N_are_line_numbers P_are_line_numbers (defScope s_are_line_numbers) := ⟨rfl, rfl, rfl, by decide +kernel, rfl, by decide +kernel, by decide +kernel⟩
def sp_are_line_numbers (K : PySem.W.Frag) : Sp := fun vs H Q _ => ∃ v d m, vs = [v, .int m] ∧ Da K H d v ∧ ∀ H', Ex H H' → Q (.bl (lineB d m)) H'
section
variable {P : Program} {w : World} {K : PySem.W.Frag} {mg : Str → Option Value} {base : Heap}
theorem ok_are_line_numbers {f : Addr} {fd : FuncData} (T : Txt K mg) (F : Fun K "are_line_numbers" "are_line_numbers" s_are_line_numbers f fd)
    (D_are_integers : DefOk P w K mg base CX0 2 "are_integers" P_are_integers (sp_are_integers K)) :
    FnG P w K mg base CX0 3 f fd P_are_line_numbers (sp_are_line_numbers K) := by
  refine okG0 F sc_are_line_numbers (fun vs H Q E h => ?_) (fun cdv A outer s H vs Q E hr hq h => ?_)
  · obtain ⟨v, d, m, rfl, _⟩ := h
    rfl
  · obtain ⟨v, d, m, rfl, hd, q⟩ := h
    refine ⟨_, (pss_cons (ps_if (pt_not (pt_val (pe_callD D_are_integers (hr.mono (by decide)) hq pass0 (pa_cons (pv 0) (pa_cons (pv 1) pa_nil))))) (pss_one (ps_ret pe_bl)) pss_nil)
      (pss_one (ps_ret (pe_callB (cr_allK K rfl) (by rfl) T.b_all bt_all (pa_cons (pe_lc (own := [("number", 2)]) rfl sc_are_line_numbers.nd (pi_listK K (pv 0)) (blkOk_by (N := N_are_line_numbers) (sc := defScope s_are_line_numbers) (by decide +kernel)) (fun _ _ _ _ _ => (pg_name (i := 2) sc_are_line_numbers.nd rfl (by first | exact .inl rfl | exact .inr rfl))) (fun _ _ _ _ _ => pts_nil) (fun _ _ _ _ _ => (pe_and (pe_cmpR op_ne (pv 2) pe_int (nomark _)) (pe_one (pe_cmpR op_le (pe_callB call_abs (by rfl) T.b_abs bt_abs (pa_cons (pv 2) pa_nil)) (pe_globI T.c_GREATEST_NUMBER) (nomark _)))))) pa_nil))))), ?_⟩
    refine ⟨_, rfl, _, rfl, _, _, _, rfl, hd, fun H1 e1 => ⟨_, rfl, ?_⟩⟩
    refine ite2 (fun h1 => ?_) (fun h1 => ?_)
    · have e3 : lineB d m = false := by
        have h2 : intsB d m = false := by simpa using h1
        cases d with
        | list ds => simp only [lineB, h2, Bool.false_and]
        | _ => rfl
      rw [e3] at q
      exact q _ e1
    · have h2 : intsB d m = true := by simpa using h1
      cases d with
      | list ds =>
        have e3 : lineB (.list ds) m = ds.all noB := by simp only [lineB, h2, Bool.true_and]
        have h3 : ds.all isInt = true := by
          simp only [intsB, Bool.and_eq_true] at h2
          exact h2.2
        obtain ⟨a, xs, rfl, hS0, hA, hz⟩ := hd.up e1
        have hS : SqL K _ a xs := .inl (.inl hS0)
        have hl := hA.len
        refine ⟨_, rfl, a, rfl, ⟨_, hS⟩, fun D hD => ?_⟩
        refine lc_ev xs.length (fun _ => true) (fun i y _ => y = .bl (noB (ds.getD i .none))) (by omega) hD (fun _ _ _ _ _ h => h)
          (fun i H' hi e => itl_go hS e hi) (fun H' e => itl_stop hS e) ?_ ?_
        · intro i H' x H'' hi e _ y Q' N' hQ _
          obtain ⟨rfl, hx⟩ := itl_yld y hS e
          obtain ⟨d, hd, hx'⟩ := hA.at' hx
          have h4 := (List.all_eq_true.mp h3) d (List.mem_of_getElem? hd)
          cases d with
          | int z =>
            obtain rfl := hx'
            have en : noB (ds.getD i .none) = (decide (z ≠ 0) && decide ((if z < 0 then -z else z) ≤ 1000000)) := by
              rw [List.getD_eq_getElem?_getD, hd]
              rfl
            refine ⟨rfl, _, rfl, rfl, _, rfl, ?_⟩
            refine ite2 (fun h5 => ?_) (fun h5 => ?_)
            · refine ⟨_, rfl, _, rfl, _, _, rfl, rfl, ?_⟩
              refine hQ rfl _ _ Ex.rfl ?_
              rw [en]
              have h6 : decide (z ≠ 0) = true := by simpa using h5
              rw [h6, Bool.true_and]
            · refine hQ rfl _ _ Ex.rfl ?_
              rw [en]
              have h6 : decide (z ≠ 0) = false := by simpa using h5
              rw [h6, Bool.false_and]
          | _ => exact (Bool.noConfusion h4 : False).elim
        · intro ys H' e hy gv
          refine ⟨D, (List.range xs.length).map fun i => noB (ds.getD i .none), rfl, .inl (.inl ?_), ?_⟩
          · rw [hy, gv.all, given_bl]
          · rw [← hl, all_range_get noB .none ds, ← e3]
            exact q _ (e1.tr e)
      | _ => exact (Bool.noConfusion h2 : False).elim
end

end K21
namespace K21
open PySem PySem.Spec PyProof.Rows L2 Nw
/-! has_filling_shape: slots 0 web, 1 value, 2 _, 3 pairs, 4 nudges, 5 numbers, 6 strengths, 7 row, 8 nudge -/
abbrev s_has_filling_shape : Stmt := topS 18
abbrev N_has_filling_shape : List Str := ["web", "value", "_", "pairs", "nudges", "numbers", "strengths", "row", "nudge"]
abbrev P_has_filling_shape : List Str := ["web", "value"]
theorem sc_has_filling_shape : FnScope N_has_filling_shape P_has_filling_shape (defScope s_has_filling_shape) := ⟨rfl, rfl, rfl, by decide +kernel, rfl, by decide +kernel, by decide +kernel⟩
def sp_has_filling_shape (K : PySem.W.Frag) : Sp := fun vs H Q _ => ∃ x u v d, vs = [x, v] ∧ Da K H (Wb.d u) x ∧ u.Ok ∧ Da K H d v ∧ ∀ H', Ex H H' → Q (.bl (fillB u d)) H'
section
variable {P : Program} {w : World} {K : PySem.W.Frag} {mg : Str → Option Value} {base : Heap}
theorem ok_has_filling_shape {f : Addr} {fd : FuncData} (T : Txt K mg) (F : Fun K "has_filling_shape" "has_filling_shape" s_has_filling_shape f fd)
    (D_are_line_numbers : DefOk P w K mg base CX0 3 "are_line_numbers" P_are_line_numbers (sp_are_line_numbers K)) :
    FnG P w K mg base CX0 4 f fd P_has_filling_shape (sp_has_filling_shape K) := by
  refine okG0 F sc_has_filling_shape (fun vs H Q E h => ?_) (fun cdv A outer s H vs Q E hr hq h => ?_)
  · obtain ⟨x, u, v, d, rfl, _⟩ := h
    rfl
  · obtain ⟨x, u, v, d, rfl, hw, hu, hd, q⟩ := h
    obtain ⟨t, x2, x3, rfl, hT, g2, g3⟩ := Wb.at hw
    refine ⟨_, (pss_cons (ps_if (PW.pt (pw_or (pt_not (pt_val (pe_callB (call_isiK K) (by rfl) T.b_isinstance bt_isinstance (pa_cons (pv 1) (pa_cons (pe_bty T.b_tuple bt_tuple) pa_nil))))) (pw_or1 (pt_cmpR op_ne (pe_callB (call_lenK K) (by rfl) T.b_len bt_len (pa_cons (pv 1) pa_nil)) pe_int (nomark _))))) (pss_one (ps_ret pe_bl)) pss_nil)
      (pss_cons (ps_asg (pv 0) (pg_tupK (n := 3) K rfl (pgs_cons (pg_name (i := 2) sc_has_filling_shape.nd rfl (by first | exact .inl rfl | exact .inr rfl)) (pgs_cons (pg_name (i := 3) sc_has_filling_shape.nd rfl (by first | exact .inl rfl | exact .inr rfl)) (pgs_cons (pg_name (i := 4) sc_has_filling_shape.nd rfl (by first | exact .inl rfl | exact .inr rfl)) pgs_nil)))))
      (pss_cons (ps_asg (pv 1) (pg_tupK (n := 2) K rfl (pgs_cons (pg_name (i := 5) sc_has_filling_shape.nd rfl (by first | exact .inl rfl | exact .inr rfl)) (pgs_cons (pg_name (i := 6) sc_has_filling_shape.nd rfl (by first | exact .inl rfl | exact .inr rfl)) pgs_nil))))
      (pss_cons (ps_if (pt_not (pt_val (pe_callD D_are_line_numbers (hr.mono (by decide)) hq pass0 (pa_cons (pv 5) (pa_cons (pe_callB (call_lenK K) (by rfl) T.b_len bt_len (pa_cons (pv 3) pa_nil)) pa_nil))))) (pss_one (ps_ret pe_bl)) pss_nil)
      (pss_cons (ps_if (PW.pt (pw_or (pt_not (pt_val (pe_callB (call_isiK K) (by rfl) T.b_isinstance bt_isinstance (pa_cons (pv 6) (pa_cons (pe_bty T.b_list bt_list) pa_nil))))) (pw_or1 (pt_cmpR op_ne (pe_callB (call_lenK K) (by rfl) T.b_len bt_len (pa_cons (pv 6) pa_nil)) (pe_callB (call_lenK K) (by rfl) T.b_len bt_len (pa_cons (pv 4) pa_nil)) (nomark _))))) (pss_one (ps_ret pe_bl)) pss_nil)
      (pss_one (ps_ret (pe_callB (cr_allK K rfl) (by rfl) T.b_all bt_all (pa_cons (pe_lc (own := [("row", 7), ("nudge", 8)]) rfl sc_has_filling_shape.nd (pi_zip (by rfl) T.b_zip (pa_cons (pv 6) (pa_cons (pv 4) pa_nil))) (blkOk_by (N := N_has_filling_shape) (sc := defScope s_has_filling_shape) (by decide +kernel)) (fun _ _ _ _ _ => (pg_tupK (n := 2) K rfl (pgs_cons (pg_name (i := 7) sc_has_filling_shape.nd rfl (by first | exact .inl rfl | exact .inr rfl)) (pgs_cons (pg_name (i := 8) sc_has_filling_shape.nd rfl (by first | exact .inl rfl | exact .inr rfl)) pgs_nil)))) (fun _ _ _ _ _ => pts_nil) (fun _ _ _ _ _ => (pe_callD D_are_line_numbers (hr.mono (by decide)) hq pass0 (pa_cons (pv 7) (pa_cons (pe_callB (call_lenK K) (by rfl) T.b_len bt_len (pa_cons (pv 8) pa_nil)) pa_nil))))) pa_nil))))))))), ?_⟩
    refine ⟨_, rfl, _, _, _, _, _, rfl, .ty _, hd.ty, isa_tuple d, _, rfl, ?_⟩
    cases d with
    | tuple ds =>
      obtain ⟨a, xs, rfl, hS0, hA⟩ := hd
      have hS : SqT K _ a xs := .inl (.inl hS0)
      have hl := hA.len
      refine ⟨_, rfl, a, _, rfl, .inr hS, rfl, _, rfl, ?_⟩
      refine ite2 (fun h1 => ?_) (fun h1 => ?_)
      · have e : fillB u (.tuple ds) = false := by
          unfold fillB
          split
          · rename_i heq
            cases heq
            rw [← hl] at h1
            simp at h1
          · rfl
        rw [e] at q
        exact q _ Ex.rfl
      · have h2 : ds.length = 2 := by
          simp at h1
          omega
        obtain ⟨d1, d2, rfl⟩ : ∃ d1 d2, ds = [d1, d2] := by
          match ds, h2 with
          | [d1, d2], _ => exact ⟨d1, d2, rfl⟩
        obtain ⟨y1, r1, rfl, k1, y2, r2, rfl, k2, rfl⟩ := hA
        obtain ⟨a2, zs, rfl, hL2, hA2, hz2⟩ := g2
        obtain ⟨a3, ws, rfl, hL3, hA3, hz3⟩ := g3
        have hl2 := hA2.len
        have hl3 := hA3.len
        rw [List.length_map] at hl2 hl3
        refine ⟨_, rfl, t, _, rfl, hT, rfl, _, _, rfl, _, _, rfl, _, _, rfl, rfl, ?_⟩
        refine ⟨_, rfl, a, _, rfl, hS, rfl, _, _, rfl, _, _, rfl, rfl, ?_⟩
        refine ⟨_, rfl, _, rfl, a2, _, rfl, .inl (.inl (.inl hL2)), _, _, _, rfl, k1, fun H1 e1 => ⟨_, rfl, ?_⟩⟩
        rw [← hl2]
        refine ite2 (fun h3 => ?_) (fun h3 => ?_)
        · have e : fillB u (.tuple [d1, d2]) = false := by
            have h4 : lineB d1 u.ps.length = false := by simpa using h3
            cases d2 <;> simp only [fillB, h4, Bool.false_and]
          rw [e] at q
          exact q _ e1
        · have h4 : lineB d1 u.ps.length = true := by simpa using h3
          refine ⟨_, rfl, _, _, _, _, _, rfl, .ty _, (k2.up e1).ty, isa_list d2, _, rfl, ?_⟩
          cases d2 with
          | list rs =>
            obtain ⟨b, bs, rfl, hB, hAB, hzB⟩ := k2.up e1
            have hSB : SqL K _ b bs := .inl (.inl hB)
            have hSW : SqL K _ a3 ws := .inl (.inl (e1 _ _ hL3))
            have hlB := hAB.len
            refine ⟨_, rfl, b, _, rfl, .inl hSB, _, rfl, a3, _, rfl, .inl hSW, rfl, _, rfl, ?_⟩
            refine ite2 (fun h5 => ?_) (fun h5 => ?_)
            · have e : fillB u (.tuple [d1, .list rs]) = false := by
                have h6 : decide (rs.length = u.ns.length) = false := by
                  rw [hlB, hl3]
                  simp at h5
                  simp
                  omega
                simp only [fillB, h6, Bool.false_and, Bool.and_false]
              rw [e] at q
              exact q _ e1
            · have h7 : rs.length = u.ns.length := by
                rw [hlB, hl3]
                simp at h5
                omega
              have e : fillB u (.tuple [d1, .list rs]) = (rs.zip u.ns).all fun p => lineB p.1 p.2.length := by
                simp only [fillB, h4, decide_eq_true h7, Bool.true_and]
              rw [e] at q
              refine ⟨_, rfl, _, rfl, b, a3, bs, ws, rfl, hSB, hSW, fun D hD => ?_⟩
              have hlz : (rs.zip u.ns).length = min bs.length ws.length := by rw [List.length_zip, hlB, hl3]
              refine lc_ev (min bs.length ws.length) (fun _ => true) (fun i y _ => y = .bl ((fun p : PyData × List Int => lineB p.1 p.2.length) ((rs.zip u.ns).getD i (.none, [])))) (by omega) hD (fun _ _ _ _ _ h => h)
                (fun i H' hi e => itz_go hSB hSW e hi) (fun H' e => itz_stop hSB hSW e) ?_ ?_
              · rintro i H' x H'' hi e _ ⟨T1, z1, z2, rfl, hT1, rfl, hz1, hz2'⟩ Q' N' hQ _
                have i1 := hz1 bs (e.l hSB)
                have i2 := hz2' ws (e.l hSW)
                obtain ⟨dr, hdr, hx1⟩ := hAB.at' i1
                obtain ⟨ds2, hds2, hx2⟩ := hA3.at' i2
                obtain ⟨r, hr2, rfl⟩ := map_at hds2
                obtain ⟨ar, rfl, hLr⟩ := dInts_at hx2
                have e2 : Ex H' (upd H' T1 (.tup [z1, .ref ar])) := Ex.nw hT1
                refine ⟨T1, _, rfl, .inl (.inl upd_same), rfl, _, _, rfl, _, _, rfl, rfl, rfl, ?_⟩
                refine ⟨_, rfl, _, rfl, ar, _, rfl, .inl (((e1.tr e).tr e2).l hLr), _, _, _, rfl, hx1.up (e.tr e2), fun H2 e3 => ?_⟩
                refine hQ rfl _ _ (e2.tr e3) ?_
                have eg : (rs.zip u.ns).getD i (.none, []) = (dr, r) := by
                  rw [List.getD_eq_getElem?_getD, (List.getElem?_zip_eq_some (z := (dr, r))).mpr ⟨hdr, hr2⟩]
                  rfl
                rw [eg, List.length_map]
              · intro ys H' e hy gv
                refine ⟨D, (List.range (min bs.length ws.length)).map fun i => (fun p : PyData × List Int => lineB p.1 p.2.length) ((rs.zip u.ns).getD i (.none, [])), rfl, .inl (.inl ?_), ?_⟩
                · rw [hy, gv.all, given_bl]
                · rw [← hlz, all_range_get (fun p : PyData × List Int => lineB p.1 p.2.length) (.none, []) (rs.zip u.ns)]
                  exact q _ (e1.tr e)
          | _ =>
            have e : ∀ d2, (∀ rs, d2 ≠ .list rs) → fillB u (.tuple [d1, d2]) = false := fun d2 h => by
              cases d2 <;> first | rfl | exact (h _ rfl).elim
            rw [e _ (fun rs h => by cases h)] at q
            exact q _ e1
    | _ => exact q _ Ex.rfl
end

end K21
namespace K21
open PySem PySem.Spec PyProof.Rows L2 Nw
/-! check_web: slots 0 web -/
abbrev s_check_web : Stmt := topS 20
abbrev N_check_web : List Str := ["web"]
abbrev P_check_web : List Str := ["web"]
theorem sc_check_web : FnScope N_check_web P_check_web (defScope s_check_web) := ⟨rfl, rfl, rfl, by decide +kernel, rfl, by decide +kernel, by decide +kernel⟩
/-- of a right value: nothing is raised -/
def sp_check_web (K : PySem.W.Frag) : Sp := fun vs H Q _ => ∃ v d, vs = [v] ∧ Da K H d v ∧ webB d = true ∧ ∀ H', Ex H H' → Q .non H'
section
variable {P : Program} {w : World} {K : PySem.W.Frag} {mg : Str → Option Value} {base : Heap}
theorem ok_check_web {f : Addr} {fd : FuncData} (T : Txt K mg) (F : Fun K "check_web" "check_web" s_check_web f fd)
    (D_has_web_shape : DefOk P w K mg base CX0 6 "has_web_shape" P_has_web_shape (sp_has_web_shape K)) :
    FnG P w K mg base CX0 7 f fd P_check_web (sp_check_web K) := by
  refine okG0 F sc_check_web (fun vs H Q E h => ?_) (fun cdv A outer s H vs Q E hr hq h => ?_)
  · obtain ⟨v, d, rfl, _⟩ := h
    rfl
  · obtain ⟨v, d, rfl, hd, hw, q⟩ := h
    refine ⟨_, (pss_one (ps_if (pt_not (pt_val (pe_callD D_has_web_shape (hr.mono (by decide)) hq pass0 (pa_cons (pv 0) pa_nil)))) (pss_one ps_never) pss_nil)), ?_⟩
    refine ⟨_, rfl, _, _, rfl, hd, fun H1 e1 => ⟨_, rfl, ?_⟩⟩
    rw [hw]
    exact q _ e1
end

/-! is_filling: slots 0 web, 1 value -/
abbrev s_is_filling : Stmt := topS 22
abbrev N_is_filling : List Str := ["web", "value"]
abbrev P_is_filling : List Str := ["web", "value"]
theorem sc_is_filling : FnScope N_is_filling P_is_filling (defScope s_is_filling) := ⟨rfl, rfl, rfl, by decide +kernel, rfl, by decide +kernel, by decide +kernel⟩
def sp_is_filling (K : PySem.W.Frag) : Sp := fun vs H Q _ => ∃ x u v d, vs = [x, v] ∧ Da K H (Wb.d u) x ∧ u.Ok ∧ Da K H d v ∧ ∀ H', Ex H H' → Q (.bl (fillB u d)) H'
section
variable {P : Program} {w : World} {K : PySem.W.Frag} {mg : Str → Option Value} {base : Heap}
theorem ok_is_filling {f : Addr} {fd : FuncData} (T : Txt K mg) (F : Fun K "is_filling" "is_filling" s_is_filling f fd)
    (D_has_filling_shape : DefOk P w K mg base CX0 4 "has_filling_shape" P_has_filling_shape (sp_has_filling_shape K))
    (D_check_web : DefOk P w K mg base CX0 7 "check_web" P_check_web (sp_check_web K)) :
    FnG P w K mg base CX0 8 f fd P_is_filling (sp_is_filling K) := by
  refine okG0 F sc_is_filling (fun vs H Q E h => ?_) (fun cdv A outer s H vs Q E hr hq h => ?_)
  · obtain ⟨x, u, v, d, rfl, _⟩ := h
    rfl
  · obtain ⟨x, u, v, d, rfl, hw, hu, hd, q⟩ := h
    refine ⟨_, (pss_cons (ps_expr (pe_callD D_check_web (hr.mono (by decide)) hq pass0 (pa_cons (pv 0) pa_nil)))
      (pss_one (ps_ret (pe_callD D_has_filling_shape (hr.mono (by decide)) hq pass0 (pa_cons (pv 0) (pa_cons (pv 1) pa_nil)))))), ?_⟩
    refine ⟨_, rfl, _, _, rfl, hw, hu.web, fun H1 e1 => ?_⟩
    exact ⟨_, rfl, _, rfl, _, u, _, d, rfl, hw.up e1, hu, hd.up e1, fun H2 e2 => q _ (e1.tr e2)⟩
end

end K21
namespace K21
open PySem PySem.Spec PyProof.Rows L2 Nw
/-! _law_purse: slots 0 _law_script, 1 _law_k, 2 _law_cell -/
abbrev s_purse : Stmt := topS 24
abbrev N_purse : List Str := ["_law_script", "_law_k", "_law_cell"]
abbrev P_purse : List Str := ["_law_script", "_law_k"]
theorem sc_purse : FnScope N_purse P_purse (defScope s_purse) := ⟨rfl, rfl, rfl, by decide +kernel, rfl, by decide +kernel, by decide +kernel⟩
def sp_purse (K : PySem.W.Frag) : Sp := fun vs H Q _ => ∃ (a : Addr) (ns : List Int) (k : Int), vs = [.ref a, .int k] ∧ SqL K H a (ns.map V.int) ∧ (0 ≤ k ∧ k ≤ 63) ∧
  ∀ p H', H p = none → Ex H H' → Purse H' p 0 → Q (.ref p) H'
section
variable {P : Program} {w : World} {K : PySem.W.Frag} {mg : Str → Option Value} {base : Heap}
theorem ok_purse {f : Addr} {fd : FuncData} (T : Txt K mg) (F : Fun K "_law_purse" "_law_purse" s_purse f fd) :
    FnG P w K mg base CX0 1 f fd P_purse (sp_purse K) := by
  refine okG0 F sc_purse (fun vs H Q E h => ?_) (fun cdv A outer s H vs Q E hr hq h => ?_)
  · obtain ⟨a, ns, k, rfl, _⟩ := h
    rfl
  · obtain ⟨a, ns, k, rfl, hS, hk, q⟩ := h
    have fin : ∀ (z x y : Int) (p : Addr), H p = none → 0 ≤ x → Q (.ref p) (upd H p (.lst [.int x, .int (y.fmod (10 ^ Int.toNat 41 + 37) + 90001 * k + 17), .int 0])) :=
      fun z x y p hp hx => q p _ hp (Ex.nw hp) ⟨_, _, _, upd_same, hx, purse_new (x := z) hk, by omega, by omega⟩
    refine ⟨_, (pss_cons (ps_set (i := 2) sc_purse.nd rfl (by first | exact .inl rfl | exact .inr rfl) (pe_ifExp (pt_cmpR op_lt (pv 1) (pe_callB (call_lenK K) (by rfl) T.b_len bt_len (pa_cons (pv 0) pa_nil)) (nomark _)) (pe_ix (ix_listK K) (pv 0) (pv 1) (fun _ _ => rfl)) pe_int))
      (pss_one (ps_ret (pe_lst (pa_cons (pe_callB (call_max2 rfl) (by rfl) T.b_max bt_max (pa_cons pe_int (pa_cons (pe_op op_sub (pv 2) (pe_op op_powW pe_int pe_int)) pa_nil))) (pa_cons (pe_op op_add (pe_op op_add (pe_op op_modN (pe_callTy call_int1 (by rfl) T.b_int bt_int (pa_cons (pe_callB call_abs (by rfl) T.b_abs bt_abs (pa_cons (pv 2) pa_nil)) pa_nil)) (pe_op op_add (pe_op op_powW pe_int pe_int) pe_int)) (pe_op op_mul pe_int (pv 1))) pe_int) (pa_cons pe_int pa_nil))))))), ?_⟩
    refine ⟨_, rfl, _, rfl, a, _, rfl, .inl hS, _, _, rfl, rfl, _, rfl, ?_⟩
    refine ite2 (fun h1 => ?_) (fun h1 => ?_)
    · have h2 : k.toNat < ns.length := by
        simp only [List.length_map, decide_eq_true_eq] at h1
        omega
      refine ⟨_, rfl, _, rfl, a, _, k, .int (ns[k.toNat]), rfl, rfl, hS, atI_int hk.1 (by rw [List.getElem?_map, List.getElem?_eq_getElem h2]; rfl), ?_⟩
      refine ⟨_, rfl, _, _, rfl, rfl, cpow10 (by decide) (by decide), _, _, rfl, rfl, _, _, rfl, ?_⟩
      refine ⟨_, rfl, _, rfl, .inl ⟨_, rfl, _, _, rfl, rfl, cpow10 (by decide) (by decide), _, _, rfl, rfl, _, _, rfl, rfl, ne41, ?_⟩⟩
      refine ⟨_, rfl, _, _, rfl, rfl, .inl ⟨by decide, by decide⟩, _, _, rfl, rfl, _, _, rfl, rfl, by show 3 ≤ sizeLine; decide, fun p hp => ?_⟩
      exact fin (ns[k.toNat]) _ _ p hp (by split <;> omega)
    · refine ⟨_, rfl, _, _, rfl, rfl, cpow10 (by decide) (by decide), _, _, rfl, rfl, _, _, rfl, ?_⟩
      refine ⟨_, rfl, _, rfl, .inl ⟨_, rfl, _, _, rfl, rfl, cpow10 (by decide) (by decide), _, _, rfl, rfl, _, _, rfl, rfl, ne41, ?_⟩⟩
      refine ⟨_, rfl, _, _, rfl, rfl, .inl ⟨by decide, by decide⟩, _, _, rfl, rfl, _, _, rfl, rfl, by show 3 ≤ sizeLine; decide, fun p hp => ?_⟩
      exact fin 0 _ _ p hp (by split <;> omega)
end

/-! _law_coin: slots 0 _law_purse_here, 1 _law_many, 2 _law_found, 3 _law_mixed -/
abbrev s_coin : Stmt := topS 25
abbrev N_coin : List Str := ["_law_purse_here", "_law_many", "_law_found", "_law_mixed"]
abbrev P_coin : List Str := ["_law_purse_here", "_law_many"]
theorem sc_coin : FnScope N_coin P_coin (defScope s_coin) := ⟨rfl, rfl, rfl, by decide +kernel, rfl, by decide +kernel, by decide +kernel⟩
def sp_coin (K : PySem.W.Frag) : Sp := fun vs H Q _ => ∃ (p : Addr) (m : Int) (n : Nat), vs = [.ref p, .int m] ∧ (0 < m ∧ m < 1000000000000000000000000000000000000000000000000000000000000) ∧ Purse H p n ∧ n ≤ 1000000000 ∧
  ∀ z H', (0 ≤ z ∧ z < m) → Purse H' p (n + 1) → ExD p H H' → Q (.int z) H'
section
variable {P : Program} {w : World} {K : PySem.W.Frag} {mg : Str → Option Value} {base : Heap}
theorem ok_coin {f : Addr} {fd : FuncData} (T : Txt K mg) (F : Fun K "_law_coin" "_law_coin" s_coin f fd) :
    FnG P w K mg base CX0 1 f fd P_coin (sp_coin K) := by
  refine okG0 F sc_coin (fun vs H Q E h => ?_) (fun cdv A outer s H vs Q E hr hq h => ?_)
  · obtain ⟨p, m, n, rfl, _⟩ := h
    rfl
  · obtain ⟨p, m, n, rfl, hm, ⟨b, c, e, hp, hb, hc, he⟩, hn, q⟩ := h
    have hS : SqL K H p [.int b, .int c, .int e] := .inl (.inl hp)
    refine ⟨_, (pss_cons (ps_if (pt_cmpR op_gt (pe_ix (ix_listK K) (pv 0) pe_int (fun _ _ => rfl)) pe_int (nomark _)) (pss_cons (ps_set (i := 2) sc_coin.nd rfl (by first | exact .inl rfl | exact .inr rfl) (pe_op op_modN (pe_callTy call_int1 (by rfl) T.b_int bt_int (pa_cons (pe_ix (ix_listK K) (pv 0) pe_int (fun _ _ => rfl)) pa_nil)) (pv 1)))
      (pss_cons (ps_asg (pe_op op_fdivW (pe_ix (ix_listK K) (pv 0) pe_int (fun _ _ => rfl)) (pv 1)) (pg_sub (pv 0) pe_int set_list))
      (pss_one (ps_ret (pv 2))))) pss_nil)
      (pss_cons (ps_asg (pe_op op_add (pe_ix (ix_listK K) (pv 0) pe_int (fun _ _ => rfl)) pe_int) (pg_sub (pv 0) pe_int set_list))
      (pss_cons (ps_set (i := 3) sc_coin.nd rfl (by first | exact .inl rfl | exact .inr rfl) (pe_op op_modN (pe_callTy call_int1 (by rfl) T.b_int bt_int (pa_cons (pe_op op_powW (pe_op op_add (pe_ix (ix_listK K) (pv 0) pe_int (fun _ _ => rfl)) (pe_op op_mul pe_int (pe_ix (ix_listK K) (pv 0) pe_int (fun _ _ => rfl)))) pe_int) pa_nil)) (pe_op op_add (pe_op op_powW pe_int pe_int) pe_int)))
      (pss_cons (ps_set (i := 3) sc_coin.nd rfl (by first | exact .inl rfl | exact .inr rfl) (pe_op op_modN (pe_callTy call_int1 (by rfl) T.b_int bt_int (pa_cons (pe_op op_powW (pe_op op_add (pv 3) (pe_op op_mul pe_int (pe_ix (ix_listK K) (pv 0) pe_int (fun _ _ => rfl)))) pe_int) pa_nil)) (pe_op op_add (pe_op op_powW pe_int pe_int) pe_int)))
      (pss_one (ps_ret (pe_op op_modN (pe_callTy call_int1 (by rfl) T.b_int bt_int (pa_cons (pe_op op_fdivW (pv 3) pe_int) pa_nil)) (pv 1)))))))), ?_⟩
    refine ⟨_, rfl, p, _, 0, _, rfl, rfl, hS, rfl, _, _, rfl, rfl, _, rfl, ?_⟩
    refine ite2 (fun h1 => ?_) (fun h1 => ?_)
    · refine ⟨_, rfl, p, _, 0, _, rfl, rfl, hS, rfl, .inl ⟨_, rfl, _, rfl, _, _, rfl, rfl, by omega, ?_⟩⟩
      refine ⟨_, rfl, p, _, 0, _, rfl, rfl, hS, rfl, _, rfl, _, _, rfl, rfl, great_div hm.1 hm.2, ?_⟩
      refine ⟨_, rfl, p, _, 0, 0, rfl, rfl, hp, rfl, _, rfl, ?_⟩
      exact q _ _ (fmod_in hm.1) ⟨_, _, _, upd_same, div_in hb hm.1, hc, he.1, by omega⟩ ExD.put
    · refine ⟨_, rfl, p, _, 2, _, rfl, rfl, hS, rfl, _, _, rfl, rfl, ?_⟩
      refine ⟨_, rfl, p, _, 2, 2, rfl, rfl, hp, rfl, ?_⟩
      have hS2 : SqL K (upd H p (.lst [.int b, .int c, .int (e + 1)])) p [.int b, .int c, .int (e + 1)] := .inl (.inl upd_same)
      have b1 : 0 ≤ c + 15485863 * (e + 1) ∧ c + 15485863 * (e + 1) < 10 ^ 60 := by
        rw [p42] at hc
        rw [p60]
        omega
      refine ⟨_, rfl, p, _, 1, _, rfl, rfl, hS2, rfl, _, rfl, p, _, 2, _, rfl, rfl, hS2, rfl, _, _, rfl, rfl, .inl ⟨by decide, by decide⟩, _, _, rfl, rfl, ?_⟩
      refine ⟨_, _, rfl, rfl, cpow3 b1.1 b1.2, .inl ⟨_, rfl, _, _, rfl, rfl, cpow10 (by decide) (by decide), _, _, rfl, rfl, _, _, rfl, rfl, ne43, ?_⟩⟩
      have b2 := fmod_in (a := (c + 15485863 * (e + 1)) ^ Int.toNat 3) (m := 10 ^ Int.toNat 43 + 29) (by rw [p43]; decide)
      have b3 : ∀ y : Int, 0 ≤ y ∧ y < 10 ^ Int.toNat 43 + 29 → 0 ≤ y + 49979687 * (e + 1) ∧ y + 49979687 * (e + 1) < 10 ^ 60 := by
        intro y b2
        rw [p43] at b2
        rw [p60]
        omega
      refine ⟨_, rfl, _, rfl, p, _, 2, _, rfl, rfl, hS2, rfl, _, _, rfl, rfl, .inl ⟨by decide, by decide⟩, _, _, rfl, rfl, ?_⟩
      refine ⟨_, _, rfl, rfl, cpow3 (b3 _ b2).1 (b3 _ b2).2, .inl ⟨_, rfl, _, _, rfl, rfl, cpow10 (by decide) (by decide), _, _, rfl, rfl, _, _, rfl, rfl, ne45, ?_⟩⟩
      refine ⟨_, rfl, _, _, rfl, rfl, small_div' (by decide) (by decide), .inl ⟨_, rfl, _, rfl, _, _, rfl, rfl, by omega, ?_⟩⟩
      exact q _ _ (fmod_in hm.1) ⟨_, _, _, upd_same, hb, hc, by omega, by omega⟩ ExD.put
end

/-! _law_targets: slots 0 _law_purse_here, 1 _law_count_here, 2 _law_found, 3 _law_at -/
abbrev s_targets : Stmt := topS 26
abbrev N_targets : List Str := ["_law_purse_here", "_law_count_here", "_law_found", "_law_at"]
abbrev P_targets : List Str := ["_law_purse_here", "_law_count_here"]
theorem sc_targets : FnScope N_targets P_targets (defScope s_targets) := ⟨rfl, rfl, rfl, by decide +kernel, rfl, by decide +kernel, by decide +kernel⟩
def sp_targets (K : PySem.W.Frag) : Sp := fun vs H Q _ => ∃ (p : Addr) (n : Int) (m : Nat), vs = [.ref p, .int n] ∧ (1 ≤ n ∧ n ≤ 20) ∧ Purse H p m ∧ m ≤ 1000000 ∧
  ∀ (l : Addr) (r : List Int) H', H l = none → ExD p H H' → Purse H' p (m + 21) → H' l = some (.lst (r.map V.int)) →
    r ≠ [] ∧ (∀ t ∈ r, 0 ≤ t ∧ t < n) ∧ ascB ltIn r = true → Q (.ref l) H'
section
variable {P : Program} {w : World} {K : PySem.W.Frag} {mg : Str → Option Value} {base : Heap}
theorem ok_targets {f : Addr} {fd : FuncData} (T : Txt K mg) (F : Fun K "_law_targets" "_law_targets" s_targets f fd)
    (D_coin : DefOk P w K mg base CX0 1 "_law_coin" P_coin (sp_coin K)) :
    FnG P w K mg base CX0 2 f fd P_targets (sp_targets K) := by
  refine okG0 F sc_targets (fun vs H Q E h => ?_) (fun cdv A outer s H vs Q E hr hq h => ?_)
  · obtain ⟨p, n, m, rfl, _⟩ := h
    rfl
  · obtain ⟨p, n, m, rfl, hn, hp, hm, q⟩ := h
    refine ⟨_, (pss_cons (ps_setLc (i := 2) (own := [("_law_at", 3)]) rfl sc_targets.nd rfl rfl (sw_true rfl rfl rfl (by decide +kernel)) (pi_range1 (by rfl) T.b_range (pa_cons (pv 1) pa_nil)) (blkOk_by (N := N_targets) (sc := defScope s_targets) (by decide +kernel)) (fun _ _ _ _ _ => (pg_name (i := 3) sc_targets.nd rfl (by first | exact .inl rfl | exact .inr rfl))) (fun _ _ _ _ _ => (pts_one (pt_cmpR op_eq (pe_callD D_coin (hr.mono (by decide)) hq pass0 (pa_cons (pv 0) (pa_cons pe_int pa_nil))) pe_int (nomark _)))) (fun _ _ _ _ _ => (pv 3)))
      (pss_one (ps_ret (pe_ifExp (pt_cmpR (op_neDk K hr.units) (pv 2) (pe_lst pa_nil) (nomark _)) (pv 2) (pe_lst (pa_cons (pe_callD D_coin (hr.mono (by decide)) hq pass0 (pa_cons (pv 0) (pa_cons (pv 1) pa_nil))) pa_nil)))))), ?_⟩
    refine ⟨_, rfl, _, rfl, by omega, by omega, fun D hD => ?_⟩
    have pD := hp.off hD
    refine lc_by n.toNat (fun i H' => ExD p H H' ∧ Purse H' p (m + i) ∧ ∃ r : List Int, H' D = some (.lst (r.map V.int)) ∧ ascB ltIn r = true ∧
        (∀ t ∈ r, 0 ≤ t ∧ t < (i : Int)) ∧ r.length ≤ i)
      ⟨ExD.nw hD, hp.put pD.symm, [], upd_same, rfl, fun t ht => (by cases ht), Nat.le_refl _⟩ (fun i H' hi _ => hi) (fun H' _ => Nat.le_refl _) ?_ ?_
    · rintro i H1 x H2 hi ⟨e1, p1, r, hr1, ha, hb, hl⟩ ⟨rfl, rfl⟩
      refine ⟨rfl, ?_⟩
      refine ⟨_, rfl, p, 3, _, rfl, by decide, p1, by omega, fun z H3 hz p3 e3 => ?_⟩
      have hr3 := e3 D _ pD hr1
      refine ⟨rfl, _, rfl, ite2 (fun _ => ?_) (fun _ => ?_)⟩
      · refine ⟨_, rfl, _, hr3, mil' (by rw [List.length_map]; omega), (e1.tr e3).wr hD, p3.put pD.symm, r ++ [0 + (i : Int)], ?_, ?_, ?_, ?_⟩
        · rw [upd_same, List.map_append]
          rfl
        · exact asc_snoc ha fun t ht => by have := hb t ht; omega
        · intro t ht
          rcases List.mem_append.mp ht with ht | ht
          · have := hb t ht
            omega
          · obtain rfl := List.mem_singleton.mp ht
            omega
        · rw [List.length_append, List.length_singleton]
          omega
      · exact ⟨e1.tr e3, p3, r, hr3, ha, fun t ht => by have := hb t ht; omega, by omega⟩
    · rintro H1 ⟨e1, p1, r, hr1, ha, hb, hl⟩
      have lr : r.length ≤ 100000 := by omega
      refine ⟨_, rfl, Nat.zero_le _, fun z hz => ?_⟩
      have dD : Dp K (upd H1 z (.lst [])) (.ref D) (dInts r) := ((dInts_of hr1 lr).up (Ex.nw hz)).dInts
      have dz : Dp K (upd H1 z (.lst [])) (.ref z) (dInts []) := Da.dInts (dInts_of upd_same (by decide))
      refine ⟨_, _, dD, dz, sh_dInts _, sh_dInts _, _, rfl, ?_⟩
      rw [eqv_dInts]
      refine ite2 (fun h1 => ?_) (fun h1 => ?_)
      · refine ⟨_, rfl, q D r _ hD (e1.tr (ExD.nw hz)) ((p1.up (Ex.nw hz)).mono (by omega)) ?_ ⟨by simpa using h1, fun t ht => by have := hb t ht; omega, ha⟩⟩
        rw [upd_ne (ne_of_none hr1 hz)]
        exact hr1
      · refine ⟨_, rfl, _, rfl, p, n, m + n.toNat, rfl, by omega, p1.up (Ex.nw hz), by omega, fun y H2 hy p2 e2 => ⟨by show 1 ≤ sizeLine; decide, fun l hl => ?_⟩⟩
        refine q l [y] _ ?_ ((e1.tr (ExD.nw hz)).tr (e2.tr (ExD.nw hl))) ((p2.up (Ex.nw hl)).mono (by omega)) upd_same ⟨by simp, ?_, rfl⟩
        · exact Purse.fr ((e1.tr (ExD.nw hz)).tr e2) p2 hl
        · intro t ht
          obtain rfl := List.mem_singleton.mp ht
          exact hy
end

/-! _law_web: slots 0 _law_purse_here, 1 _law_most_here, 2 _law_most_nudges, 3 _law_count_here, 4 _law_chance, 5 _law_pairs_here, 6 _law_one, 7 _law_other, 8 _law_nudges_here, 9 _law_turn -/
abbrev s_web : Stmt := topS 27
abbrev N_web : List Str := ["_law_purse_here", "_law_most_here", "_law_most_nudges", "_law_count_here", "_law_chance", "_law_pairs_here", "_law_one", "_law_other", "_law_nudges_here", "_law_turn"]
abbrev P_web : List Str := ["_law_purse_here", "_law_most_here", "_law_most_nudges"]
theorem sc_web : FnScope N_web P_web (defScope s_web) := ⟨rfl, rfl, rfl, by decide +kernel, rfl, by decide +kernel, by decide +kernel⟩
/-- some web, off the purse -/
def sp_web (K : PySem.W.Frag) : Sp := fun vs H Q _ => ∃ (p : Addr) (most mn : Int) (m : Nat), vs = [.ref p, .int most, .int mn] ∧ (1 ≤ most ∧ most ≤ 20) ∧ (0 ≤ mn ∧ mn ≤ 8) ∧
  Purse H p m ∧ m ≤ 100000 ∧
  ∀ (v : V) (u : Wb) H', ExD p H H' → Purse H' p (m + 700) → Da K (rm H' p) u.d v → u.Ok → u.n ≤ most → (u.ns.length : Int) ≤ mn → Q v H'
section
variable {P : Program} {w : World} {K : PySem.W.Frag} {mg : Str → Option Value} {base : Heap}
theorem ok_web {f : Addr} {fd : FuncData} (T : Txt K mg) (F : Fun K "_law_web" "_law_web" s_web f fd)
    (D_coin : DefOk P w K mg base CX0 1 "_law_coin" P_coin (sp_coin K))
    (D_targets : DefOk P w K mg base CX0 2 "_law_targets" P_targets (sp_targets K)) :
    FnG P w K mg base CX0 3 f fd P_web (sp_web K) := by
  refine okG0 F sc_web (fun vs H Q E h => ?_) (fun cdv A outer s H vs Q E hr hq h => ?_)
  · obtain ⟨p, most, mn, m, rfl, _⟩ := h
    rfl
  · obtain ⟨p, most, mn, m, rfl, hmost, hmn, hp, hm, q⟩ := h
    refine ⟨_, (pss_cons (ps_asg (pe_tup (pa_cons (pe_op op_add pe_int (pe_callD D_coin (hr.mono (by decide)) hq pass0 (pa_cons (pv 0) (pa_cons (pv 1) pa_nil)))) (pa_cons (pe_op op_add pe_int (pe_callD D_coin (hr.mono (by decide)) hq pass0 (pa_cons (pv 0) (pa_cons pe_int pa_nil)))) (pa_cons (pe_lst pa_nil) pa_nil)))) (pg_tupK (n := 3) K rfl (pgs_cons (pg_name (i := 3) sc_web.nd rfl (by first | exact .inl rfl | exact .inr rfl)) (pgs_cons (pg_name (i := 4) sc_web.nd rfl (by first | exact .inl rfl | exact .inr rfl)) (pgs_cons (pg_name (i := 5) sc_web.nd rfl (by first | exact .inl rfl | exact .inr rfl)) pgs_nil)))))
      (pss_cons (ps_for PassesOwn.never rfl (pi_range1 (by rfl) T.b_range (pa_cons (pv 3) pa_nil)) (pg_name (i := 6) sc_web.nd rfl (by first | exact .inl rfl | exact .inr rfl)) (pss_one (ps_expr (pe_bm PySem.F.plainAttrs_list PySem.F.slot_list_extend PySem.F.type_list_extend mt_extend (pv 5) (pa_cons (pe_lc (own := [("_law_other", 7)]) rfl sc_web.nd (pi_range1 (by rfl) T.b_range (pa_cons (pv 3) pa_nil)) (blkOk_by (N := N_web) (sc := defScope s_web) (by decide +kernel)) (fun _ _ _ _ _ => (pg_name (i := 7) sc_web.nd rfl (by first | exact .inl rfl | exact .inr rfl))) (fun _ _ _ _ _ => (pts_one (pt_cmpR op_eq (pe_callD D_coin (hr.mono (by decide)) hq pass0 (pa_cons (pv 0) (pa_cons (pv 4) pa_nil))) pe_int (nomark _)))) (fun _ _ _ _ _ => (pe_tup (pa_cons (pv 6) (pa_cons (pv 7) pa_nil))))) pa_nil)))))
      (pss_cons (ps_setLc (i := 8) (own := [("_law_turn", 9)]) rfl sc_web.nd rfl rfl (sw_true rfl rfl rfl (by decide +kernel)) (pi_range1 (by rfl) T.b_range (pa_cons (pe_callD D_coin (hr.mono (by decide)) hq pass0 (pa_cons (pv 0) (pa_cons (pe_op op_add (pv 2) pe_int) pa_nil))) pa_nil)) (blkOk_by (N := N_web) (sc := defScope s_web) (by decide +kernel)) (fun _ _ _ _ _ => (pg_name (i := 9) sc_web.nd rfl (by first | exact .inl rfl | exact .inr rfl))) (fun _ _ _ _ _ => pts_nil) (fun _ _ _ _ _ => (pe_callD D_targets (hr.mono (by decide)) hq pass0 (pa_cons (pv 0) (pa_cons (pv 3) pa_nil)))))
      (pss_one (ps_ret (pe_tup (pa_cons (pv 3) (pa_cons (pv 5) (pa_cons (pv 8) pa_nil))))))))), ?_⟩
    refine ⟨_, rfl, _, rfl, p, most, m, rfl, by omega, hp, by omega, fun z1 H1 hz1 p1 e1 => ⟨_, _, rfl, rfl, ?_⟩⟩
    refine ⟨_, rfl, p, 7, m + 1, rfl, by decide, p1, by omega, fun z2 H2 hz2 p2 e2 => ⟨_, _, rfl, rfl, ?_⟩⟩
    refine ⟨Nat.zero_le _, fun L hL => ⟨by show 3 ≤ sizeLine; decide, fun T1 hT1 => ?_⟩⟩
    have pL := p2.off hL
    have TL : T1 ≠ L := fun e => by
      rw [e, upd_same] at hT1
      cases hT1
    refine ⟨T1, _, rfl, .inl (.inl upd_same), rfl, _, _, rfl, _, _, rfl, _, _, rfl, rfl, ?_⟩
    -- the pairs
    refine ⟨_, rfl, _, rfl, by omega, by omega, ?_⟩
    have e20 : ExD p H (upd (upd H2 L (.lst [])) T1 (.tup [.int (1 + z1), .int (1 + z2), .ref L])) := ((e1.tr e2).tr (ExD.nw hL)).tr (ExD.nw hT1)
    have hL0 : (upd (upd H2 L (.lst [])) T1 (.tup [.int (1 + z1), .int (1 + z2), .ref L])) L = some (.lst []) := by
      rw [upd_ne TL.symm, upd_same]
    have HL : H L = none := Purse.fr (e1.tr e2) p2 hL
    have HT1 : H2 T1 = none := by rw [upd_ne TL] at hT1; exact hT1
    have p20 : Purse (upd (upd H2 L (.lst [])) T1 (.tup [.int (1 + z1), .int (1 + z2), .ref L])) p (m + 2) :=
      (p2.put pL.symm).put (p2.off HT1).symm
    refine for_by (1 + z1).toNat (fun i σ H' => ∃ y6 y7 y8 y9, σ = [some (V.ref p), some (V.int most), some (V.int mn), some (V.int (1 + z1)), some (V.int (1 + z2)), some (V.ref L), y6, y7, y8, y9] ∧
        ExD p H H' ∧ Purse H' p (m + 2 + 20 * i) ∧ ∃ (acc : List V) (ps : List (Int × Int)), H' L = some (.lst acc) ∧ DaAll K (rm (rm H' p) L) (ps.map dPair) acc ∧
        ascB ltPr ps = true ∧ (∀ x ∈ ps, (0 ≤ x.1 ∧ x.1 < (i : Int)) ∧ (0 ≤ x.2 ∧ x.2 < 1 + z1)) ∧ ps.length ≤ 20 * i)
      ⟨_, _, _, _, rfl, e20, p20, [], [], hL0, rfl, rfl, fun x hx => (by cases hx), Nat.le_refl _⟩ (fun i σ H' hi _ => hi) (fun σ H' _ => Nat.le_refl _) ?_ ?_
    · rintro i σ H3 x H4 hi ⟨y6, y7, y8, y9, rfl, e3, p3, acc, ps, hL3, hA3, ha, hb, hl⟩ ⟨rfl, rfl⟩
      refine ⟨_, rfl, .inl ⟨rfl, _, .inl (.inl hL3)⟩, ?_⟩
      refine ⟨_, rfl, _, rfl, by omega, by omega, fun D hD => ?_⟩
      have Dp := p3.off hD
      have DL : D ≠ L := fun e => by
        rw [e, hL3] at hD
        cases hD
      refine lc_by (1 + z1).toNat (fun j H' => ExD p H4 H' ∧ Purse H' p (m + 2 + 20 * i + j) ∧ ∃ (ac2 : List V) (p2 : List (Int × Int)), H' D = some (.lst ac2) ∧
          DaAll K (rm (rm (rm H' p) L) D) (p2.map dPair) ac2 ∧ ascB ltPr p2 = true ∧ (∀ x ∈ p2, x.1 = (i : Int) ∧ (0 ≤ x.2 ∧ x.2 < (j : Int))) ∧ p2.length ≤ j)
        ⟨ExD.nw hD, p3.put Dp.symm, [], [], upd_same, rfl, rfl, fun x hx => (by cases hx), Nat.le_refl _⟩ (fun j H' hj _ => hj) (fun H' _ => Nat.le_refl _) ?_ ?_
      · rintro j H5 x H6 hj ⟨e5, p5, ac2, ps2, hD5, hA5, ha5, hb5, hl5⟩ ⟨rfl, rfl⟩
        refine ⟨rfl, ?_⟩
        refine ⟨_, rfl, _, rfl, p, 1 + z2, _, rfl, by omega, p5, by omega, fun z H7 hz p7 e7 => ?_⟩
        have hD7 := e7 D _ Dp hD5
        have hA7 : DaAll K (rm (rm (rm H7 p) L) D) (ps2.map dPair) ac2 := hA5.up (Ex.rm (Ex.rm e7.rm))
        refine ⟨rfl, _, rfl, ite2 (fun _ => ?_) (fun _ => ?_)⟩
        · refine ⟨_, rfl, _, rfl, by show 2 ≤ sizeLine; decide, fun T2 hT2 => ?_⟩
          have T2D : T2 ≠ D := fun e => by
            rw [e, hD7] at hT2
            cases hT2
          have T2p := p7.off hT2
          have T2L : T2 ≠ L := fun e => by
            have h9 := e7 L _ pL (e5 L _ pL hL3)
            rw [e, h9] at hT2
            cases hT2
          have hA8 := hA7.len
          rw [List.length_map] at hA8
          refine ⟨ac2, by rw [upd_ne T2D.symm]; exact hD7, mil' (by omega), ((e5.tr e7).tr (ExD.nw hT2)).wr hD, (p7.up (Ex.nw hT2)).put Dp.symm, ac2 ++ [.ref T2], ps2 ++ [(0 + (i : Int), 0 + (j : Int))], upd_same, ?_, ?_, ?_, ?_⟩
          · rw [List.map_append]
            refine (hA7.up (ex_rm3 fun b o _ _ n3 h => ?_)).app ⟨_, _, rfl, dPair_of (p := (0 + (i : Int), 0 + (j : Int))) ?_, rfl⟩
            · rw [upd_ne n3, upd_ne (ne_of_none h hT2)]
              exact h
            · rw [rm_ne T2D, rm_ne T2L, rm_ne T2p, upd_ne T2D, upd_same]
          · exact ascP_snoc ha5 fun t ht => ltPr_iff.mpr (by have := hb5 t ht; simp only; omega)
          · intro x hx
            rcases List.mem_append.mp hx with hx | hx
            · have := hb5 x hx
              omega
            · obtain rfl := List.mem_singleton.mp hx
              simp only
              omega
          · rw [List.length_append, List.length_singleton]
            omega
        · exact ⟨e5.tr e7, p7, ac2, ps2, hD7, hA7, ha5, fun x hx => by have := hb5 x hx; omega, by omega⟩
      · rintro H5 ⟨e5, p5, ac2, ps2, hD5, hA5, ha5, hb5, hl5⟩
        have hL5 := e5 L _ pL hL3
        have l1 := hA3.len
        have l2 := hA5.len
        rw [List.length_map] at l1 l2
        refine ⟨L, D, acc, ac2, rfl, rfl, hL5, hD5, mil (by omega), ?_⟩
        refine ⟨_, _, _, _, rfl, (e3.tr e5).wr HL, (p5.put pL.symm).mono (by omega), acc ++ ac2, ps ++ ps2, upd_same, ?_, ?_, ?_, ?_⟩
        · rw [List.map_append]
          refine (hA3.up (ex_rm2 fun b o n1 n2 h => ?_)).app (hA5.up (rm_ex.tr (ex_rm2 fun b o n1 n2 h => ?_)))
          · rw [upd_ne n2]
            exact e5 b o n1 h
          · rw [upd_ne n2]
            exact h
        · refine asc_app ha ha5 fun x hx y hy => ltPr_iff.mpr (.inl ?_)
          have := hb x hx
          have := hb5 y hy
          omega
        · intro x hx
          rcases List.mem_append.mp hx with hx | hx
          · have := hb x hx
            omega
          · have := hb5 x hx
            omega
        · rw [List.length_append]
          omega
    · rintro σ H3 ⟨y6, y7, y8, y9, rfl, e3, p3, acc, ps, hL3, hA3, ha, hb, hl⟩
      -- the nudges
      refine ⟨_, rfl, _, rfl, _, _, rfl, rfl, p, mn + 1, _, rfl, by omega, p3, by omega, fun z3 H4 hz3 p4 e4 => ⟨_, rfl, by omega, by omega, fun D hD => ?_⟩⟩
      have Dp := p4.off hD
      have hL4 := e4 L _ pL hL3
      have DL : D ≠ L := fun e => by
        rw [e, hL4] at hD
        cases hD
      have hm0 : m + 2 + 20 * (1 + z1).toNat + 1 ≤ m + 403 := by omega
      have p40 := p4.mono hm0
      refine lc_by z3.toNat (fun i H' => ExD p H4 H' ∧ Purse H' p (m + 403 + 21 * i) ∧ ∃ (ac : List V) (rs : List (List Int)), H' D = some (.lst ac) ∧
          DaAll K (rm (rm H' p) D) (rs.map dInts) ac ∧ (∀ r ∈ rs, r ≠ [] ∧ (∀ t ∈ r, 0 ≤ t ∧ t < 1 + z1) ∧ ascB ltIn r = true) ∧ rs.length = i)
        ⟨ExD.nw hD, p40.put Dp.symm, [], [], upd_same, rfl, fun r hr => (by cases hr), rfl⟩ (fun i H' hi _ => hi) (fun H' _ => Nat.le_refl _) ?_ ?_
      · rintro i H5 x H6 hi ⟨e5, p5, ac, rs, hD5, hA5, hr5, hl5⟩ ⟨rfl, rfl⟩
        refine ⟨rfl, ?_⟩
        refine ⟨_, rfl, _, rfl, p, 1 + z1, _, rfl, by omega, p5, by omega, fun l r H7 hl e7 p7 h7 hr7 => ?_⟩
        have hD7 := e7 D _ Dp hD5
        have lD : l ≠ D := fun e => by
          rw [e, hD5] at hl
          cases hl
        have lp := p5.off hl
        have l1 := hA5.len
        rw [List.length_map] at l1
        have lr : r.length ≤ 20 := by
          have := asc_len r 0 hr7.2.1 hr7.2.2
          omega
        refine ⟨ac, hD7, mil' (by omega), (e5.tr e7).wr hD, p7.put Dp.symm, ac ++ [.ref l], rs ++ [r], upd_same, ?_, ?_, ?_⟩
        · rw [List.map_append]
          refine (hA5.up (ex_rm2 fun b o n1 n2 h => ?_)).app ⟨_, _, rfl, dInts_of ?_ (by omega), rfl⟩
          · rw [upd_ne n2]
            exact e7 b o n1 h
          · rw [rm_ne lD, rm_ne lp, upd_ne lD]
            exact h7
        · intro s hs
          rcases List.mem_append.mp hs with hs | hs
          · exact hr5 s hs
          · obtain rfl := List.mem_singleton.mp hs
            exact hr7
        · rw [List.length_append, hl5]
          rfl
      · rintro H5 ⟨e5, p5, ac, rs, hD5, hA5, hr5, hl5⟩
        refine ⟨_, rfl, _, rfl, _, rfl, by show 3 ≤ sizeLine; decide, fun T3 hT3 => ?_⟩
        have hL5 := e5 L _ pL hL4
        have T3p := p5.off hT3
        have T3L : T3 ≠ L := fun e => by
          rw [e, hL5] at hT3
          cases hT3
        have T3D : T3 ≠ D := fun e => by
          rw [e, hD5] at hT3
          cases hT3
        have l1 := hA3.len
        have l2 := hA5.len
        rw [List.length_map] at l1 l2
        refine q (.ref T3) ⟨1 + z1, ps, rs⟩ _ (((e3.tr e4).tr e5).tr (ExD.nw hT3)) ((p5.up (Ex.nw hT3)).mono (by omega)) ?_ ?_ (by show 1 + z1 ≤ most; omega) (by show (rs.length : Int) ≤ mn; omega)
        · refine ⟨T3, _, rfl, by rw [rm_ne T3p, upd_same], _, _, rfl, rfl, _, _, rfl, ⟨L, acc, rfl, ?_, ?_, ?_⟩, _, _, rfl, ⟨D, ac, rfl, ?_, ?_, ?_⟩, rfl⟩
          · rw [rm_ne pL, upd_ne T3L.symm]
            exact hL5
          · refine hA3.up (rm_ex.tr (ex_rm1 fun b o n h => ?_))
            rw [upd_ne (ne_of_none (e5 b o n (e4 b o n h)) hT3)]
            exact e5 b o n (e4 b o n h)
          · rw [List.length_map]
            show ps.length ≤ 100000
            omega
          · rw [rm_ne Dp, upd_ne T3D.symm]
            exact hD5
          · refine hA5.up (rm_ex.tr (ex_rm1 fun b o n h => ?_))
            rw [upd_ne (ne_of_none h hT3)]
            exact h
          · rw [List.length_map]
            show rs.length ≤ 100000
            omega
        · refine ⟨by show 1 ≤ 1 + z1; omega, by show 1 + z1 ≤ 20; omega, ?_, ha, by show rs.length ≤ 8; omega, hr5⟩
          intro x hx
          have := hb x hx
          refine ⟨⟨this.1.1, ?_⟩, this.2⟩
          show x.1 < 1 + z1
          omega
end

end K21
namespace K21
open PySem PySem.Spec PyProof.Rows L2 Nw
/-! _law_filling: slots 0 _law_purse_here, 1 _law_web_here, 2 _law_wide, 3 _law_numbers_here, 4 _law_pair, 5 _law_strengths_here, 6 _law_row, 7 _law_goal -/
abbrev s_filling : Stmt := topS 28
abbrev N_filling : List Str := ["_law_purse_here", "_law_web_here", "_law_wide", "_law_numbers_here", "_law_pair", "_law_strengths_here", "_law_row", "_law_goal"]
abbrev P_filling : List Str := ["_law_purse_here", "_law_web_here", "_law_wide"]
theorem sc_filling : FnScope N_filling P_filling (defScope s_filling) := ⟨rfl, rfl, rfl, by decide +kernel, rfl, by decide +kernel, by decide +kernel⟩
/-- some filling, off the purse -/
def sp_filling (K : PySem.W.Frag) : Sp := fun vs H Q _ => ∃ (p : Addr) (v : V) (u : Wb) (wide : Int) (m : Nat), vs = [.ref p, v, .int wide] ∧ Da K (rm H p) (Wb.d u) v ∧ u.Ok ∧ (1 ≤ wide ∧ wide ≤ 1000000) ∧
  Purse H p m ∧ m ≤ 100000 ∧
  ∀ (t : V) (f : Fl) H', ExD p H H' → Purse H' p (m + 3000) → Da K (rm H' p) (Fl.d f) t → f.Ok u → Q t H'
section
variable {P : Program} {w : World} {K : PySem.W.Frag} {mg : Str → Option Value} {base : Heap}
theorem ok_filling {f : Addr} {fd : FuncData} (T : Txt K mg) (F : Fun K "_law_filling" "_law_filling" s_filling f fd)
    (D_coin : DefOk P w K mg base CX0 1 "_law_coin" P_coin (sp_coin K)) :
    FnG P w K mg base CX0 2 f fd P_filling (sp_filling K) := by
  refine okG0 F sc_filling (fun vs H Q E h => ?_) (fun cdv A outer s H vs Q E hr hq h => ?_)
  · obtain ⟨p, v, u, wide, m, rfl, _⟩ := h
    rfl
  · obtain ⟨p, v, u, wide, m, rfl, hw, hu, hwd, hp, hm, q⟩ := h
    have hw0 := hw
    obtain ⟨t, x2, x3, rfl, hT, ⟨a2, ys, rfl, hL2, hA2, hz2⟩, ⟨a3, ws, rfl, hL3, hA3, hz3⟩⟩ := Wb.at hw
    have hl2 := hA2.len
    have hl3 := hA3.len
    rw [List.length_map] at hl2 hl3
    have b1 := hu.len
    have b3 := hu.few
    have s2 : SqL K (rm H p) a2 ys := .inl (.inl hL2)
    have s3 : SqL K (rm H p) a3 ws := .inl (.inl hL3)
    have nk : ∀ z : Int, 0 ≤ z ∧ z < wide → ∀ y : Int, y = 1 ∨ y = -1 → NumOk ((1 + z) * y) := by
      rintro z hz y (rfl | rfl)
      · refine ⟨by omega, ?_, ?_⟩ <;> omega
      · refine ⟨by omega, ?_, ?_⟩ <;> omega
    refine ⟨_, (pss_cons (ps_setLc (i := 3) (own := [("_law_pair", 4)]) rfl sc_filling.nd rfl rfl (sw_true rfl rfl rfl (by decide +kernel)) (pi_listK K (pe_ix (ix_tupK K) (pv 1) pe_int (fun _ _ => rfl))) (blkOk_by (N := N_filling) (sc := defScope s_filling) (by decide +kernel)) (fun _ _ _ _ _ => (pg_name (i := 4) sc_filling.nd rfl (by first | exact .inl rfl | exact .inr rfl))) (fun _ _ _ _ _ => pts_nil) (fun _ _ _ _ _ => (pe_op op_mul (pe_op op_add pe_int (pe_callD D_coin (hr.mono (by decide)) hq pass0 (pa_cons (pv 0) (pa_cons (pv 2) pa_nil)))) (pe_ix (ix_listK K) (pe_lst (pa_cons pe_int (pa_cons (pe_un un_neg pe_int) pa_nil))) (pe_callD D_coin (hr.mono (by decide)) hq pass0 (pa_cons (pv 0) (pa_cons pe_int pa_nil))) (fun _ _ => rfl)))))
      (pss_cons (ps_set (i := 5) sc_filling.nd rfl (by first | exact .inl rfl | exact .inr rfl) (pe_lst pa_nil))
      (pss_cons (ps_for PassesOwn.never rfl (pi_listK K (pe_ix (ix_tupK K) (pv 1) pe_int (fun _ _ => rfl))) (pg_name (i := 6) sc_filling.nd rfl (by first | exact .inl rfl | exact .inr rfl)) (pss_one (ps_expr (pe_bm PySem.F.plainAttrs_list PySem.F.slot_list_append PySem.F.type_list_append mt_append (pv 5) (pa_cons (pe_lc (own := [("_law_goal", 7)]) rfl sc_filling.nd (pi_listK K (pv 6)) (blkOk_by (N := N_filling) (sc := defScope s_filling) (by decide +kernel)) (fun _ _ _ _ _ => (pg_name (i := 7) sc_filling.nd rfl (by first | exact .inl rfl | exact .inr rfl))) (fun _ _ _ _ _ => pts_nil) (fun _ _ _ _ _ => (pe_op op_mul (pe_op op_add pe_int (pe_callD D_coin (hr.mono (by decide)) hq pass0 (pa_cons (pv 0) (pa_cons (pv 2) pa_nil)))) (pe_ix (ix_listK K) (pe_lst (pa_cons pe_int (pa_cons (pe_un un_neg pe_int) pa_nil))) (pe_callD D_coin (hr.mono (by decide)) hq pass0 (pa_cons (pv 0) (pa_cons pe_int pa_nil))) (fun _ _ => rfl))))) pa_nil)))))
      (pss_one (ps_ret (pe_tup (pa_cons (pv 3) (pa_cons (pv 5) pa_nil)))))))), ?_⟩
    refine ⟨_, rfl, t, _, 1, _, rfl, rfl, rm_ex.t hT, rfl, a2, rfl, ⟨_, rm_ex.l s2⟩, fun D hD => ?_⟩
    have Dp := hp.off hD
    refine lc_by ys.length (fun i H' => ExD p H H' ∧ Purse H' p (m + 2 * i) ∧ ∃ r : List Int, H' D = some (.lst (r.map V.int)) ∧ r.length = i ∧ ∀ x ∈ r, NumOk x)
      ⟨ExD.nw hD, hp.put Dp.symm, [], upd_same, rfl, fun x hx => (by cases hx)⟩ (fun i H' hi pv => itl_go s2 (pv.1.rm.tr rm_ex) hi) (fun H' pv => itl_stop s2 (pv.1.rm.tr rm_ex)) ?_ ?_
    · rintro i H1 x H2 hi ⟨e1, p1, r, hr1, hrl, hrn⟩ y
      obtain ⟨rfl, _⟩ := itl_yld y s2 (e1.rm.tr rm_ex)
      refine ⟨rfl, ?_⟩
      refine ⟨_, rfl, _, rfl, p, wide, _, rfl, by omega, p1, by omega, fun z H3 hz p3 e3 => ⟨_, _, rfl, rfl, ?_⟩⟩
      refine ⟨_, rfl, by show 2 ≤ sizeLine; decide, fun l hl => ?_⟩
      have p4 := p3.up (Ex.nw (o := .lst [.int 1, .int (-1)]) hl)
      have e4 : ExD p H3 (upd H3 l (.lst [.int 1, .int (-1)])) := ExD.nw hl
      have f4 : (upd H3 l (.lst [.int 1, .int (-1)])) l = some (.lst [.int 1, .int (-1)]) := upd_same
      have lp := p3.off hl
      generalize upd H3 l (.lst [.int 1, .int (-1)]) = H4 at p4 e4 f4
      refine ⟨_, rfl, p, 2, _, rfl, by decide, p4, by omega, fun z2 H5 hz2' p5 e5 => ?_⟩
      have f5 := e5 _ _ lp f4
      have e6 := (e3.tr e4).tr e5
      have hr5 := e6 _ _ Dp hr1
      have fin : ∀ y : Int, y = 1 ∨ y = -1 → ExD p H (upd H5 D (.lst (r.map V.int ++ [.int ((1 + z) * y)]))) ∧ Purse (upd H5 D (.lst (r.map V.int ++ [.int ((1 + z) * y)]))) p (m + 2 * (i + 1)) ∧
          ∃ r' : List Int, (upd H5 D (.lst (r.map V.int ++ [.int ((1 + z) * y)]))) D = some (.lst (r'.map V.int)) ∧ r'.length = i + 1 ∧ ∀ x ∈ r', NumOk x := by
        intro y hy
        refine ⟨(e1.tr e6).wr hD, (p5.mono (by omega)).put Dp.symm, r ++ [(1 + z) * y], ?_, ?_, ?_⟩
        · rw [upd_same, List.map_append]
          rfl
        · rw [List.length_append, hrl]
          rfl
        · intro x hx
          rcases List.mem_append.mp hx with hx | hx
          · exact hrn x hx
          · obtain rfl := List.mem_singleton.mp hx
            exact nk z hz y hy
      rcases (show z2 = 0 ∨ z2 = 1 by omega) with rfl | rfl
      · exact ⟨l, _, 0, .int 1, rfl, rfl, .inl (.inl f5), rfl, _, _, rfl, rfl, .inr ⟨by decide, by decide⟩, _, hr5, mil' (by rw [List.length_map]; omega), fin 1 (.inl rfl)⟩
      · exact ⟨l, _, 1, .int (-1), rfl, rfl, .inl (.inl f5), rfl, _, _, rfl, rfl, .inr ⟨by decide, by decide⟩, _, hr5, mil' (by rw [List.length_map]; omega), fin (-1) (.inr rfl)⟩
    · rintro H1 ⟨e1, p1, r, hr1, hrl, hrn⟩
      refine ⟨Nat.zero_le _, fun S hS => ?_⟩
      have Sp := p1.off hS
      have SD : S ≠ D := fun e => by
        rw [e, hr1] at hS
        cases hS
      refine ⟨_, rfl, t, _, 2, _, rfl, rfl, ((e1.tr (ExD.nw hS)).rm.tr rm_ex).t hT, rfl, a3, rfl, ⟨_, ((e1.tr (ExD.nw hS)).rm.tr rm_ex).l s3⟩, ?_⟩
      refine for_by ws.length (fun i σ H' => ∃ y6 y7, σ = [some (V.ref p), some (V.ref t), some (V.int wide), some (V.ref D), none, some (V.ref S), y6, y7] ∧ ExD p H H' ∧ Purse H' p (m + 2600 + 40 * i) ∧
          H' D = some (.lst (r.map V.int)) ∧ ∃ (acc : List V) (ss : List (List Int)), H' S = some (.lst acc) ∧ DaAll K (rm (rm H' p) S) (ss.map dInts) acc ∧
          ss.map List.length = (u.ns.take i).map List.length ∧ ∀ r ∈ ss, ∀ x ∈ r, NumOk x)
        ⟨_, _, rfl, e1.tr (ExD.nw hS), (p1.up (Ex.nw hS)).mono (by omega), ?_, [], [], upd_same, rfl, rfl, fun r hr => (by cases hr)⟩ (fun i σ H' hi pv => ?_) (fun σ H' pv => ?_) ?_ ?_
      · rw [upd_ne SD.symm]
        exact hr1
      · obtain ⟨_, _, _, e, _⟩ := pv
        exact itl_go s3 (e.rm.tr rm_ex) hi
      · obtain ⟨_, _, _, e, _⟩ := pv
        exact itl_stop s3 (e.rm.tr rm_ex)
      · rintro i σ H3 x H4 hi ⟨y6, y7, rfl, e3, p3, hD3, acc, ss, hS3, hA, hsl, hsn⟩ y
        obtain ⟨rfl, hx⟩ := itl_yld y s3 (e3.rm.tr rm_ex)
        obtain ⟨dr, hdr, hxd⟩ := hA3.at' hx
        obtain ⟨g, hgr, rfl⟩ := map_at hdr
        obtain ⟨ar, rfl, hLr⟩ := dInts_at hxd
        have hg20 := hu.row (List.mem_of_getElem? hgr)
        have hal := hA.len
        rw [List.length_map] at hal
        have hsl1 := congrArg List.length hsl
        rw [List.length_map, List.length_map, List.length_take] at hsl1
        refine ⟨_, rfl, .inl ⟨rfl, _, .inl (.inl hS3)⟩, ?_⟩
        have sr : SqL K (rm H p) ar (g.map V.int) := hLr
        refine ⟨_, rfl, ar, rfl, ⟨_, (e3.rm.tr rm_ex).l sr⟩, fun C hC => ?_⟩
        have Cp := p3.off hC
        have CS : C ≠ S := fun e => by
          rw [e, hS3] at hC
          cases hC
        have CD : C ≠ D := fun e => by
          rw [e, hD3] at hC
          cases hC
        refine lc_by (g.map V.int).length (fun j H' => ExD p H4 H' ∧ Purse H' p (m + 2600 + 40 * i + 2 * j) ∧ ∃ r : List Int, H' C = some (.lst (r.map V.int)) ∧ r.length = j ∧ ∀ x ∈ r, NumOk x)
          ⟨ExD.nw hC, p3.put Cp.symm, [], upd_same, rfl, fun x hx => (by cases hx)⟩ (fun j H' hj pv => itl_go sr ((e3.tr pv.1).rm.tr rm_ex) hj) (fun H' pv => itl_stop sr ((e3.tr pv.1).rm.tr rm_ex)) ?_ ?_
        · rintro j H5 x H6 hj ⟨e5, p5, r5, hr5, hrl5, hrn5⟩ y
          obtain ⟨rfl, _⟩ := itl_yld y sr ((e3.tr e5).rm.tr rm_ex)
          rw [List.length_map] at hj
          refine ⟨rfl, ?_⟩
          refine ⟨_, rfl, _, rfl, p, wide, _, rfl, by omega, p5, by omega, fun z H7 hz p7 e7 => ⟨_, _, rfl, rfl, ?_⟩⟩
          refine ⟨_, rfl, by show 2 ≤ sizeLine; decide, fun l hl => ?_⟩
          have p8 := p7.up (Ex.nw (o := .lst [.int 1, .int (-1)]) hl)
          have e8 : ExD p H7 (upd H7 l (.lst [.int 1, .int (-1)])) := ExD.nw hl
          have f8 : (upd H7 l (.lst [.int 1, .int (-1)])) l = some (.lst [.int 1, .int (-1)]) := upd_same
          have lp := p7.off hl
          generalize upd H7 l (.lst [.int 1, .int (-1)]) = H8 at p8 e8 f8
          refine ⟨_, rfl, p, 2, _, rfl, by decide, p8, by omega, fun z2 H9 hz2' p9 e9 => ?_⟩
          have f9 := e9 _ _ lp f8
          have e10 := (e7.tr e8).tr e9
          have hr9 := e10 _ _ Cp hr5
          have fin : ∀ y : Int, y = 1 ∨ y = -1 → ExD p H4 (upd H9 C (.lst (r5.map V.int ++ [.int ((1 + z) * y)]))) ∧ Purse (upd H9 C (.lst (r5.map V.int ++ [.int ((1 + z) * y)]))) p (m + 2600 + 40 * i + 2 * (j + 1)) ∧
              ∃ r' : List Int, (upd H9 C (.lst (r5.map V.int ++ [.int ((1 + z) * y)]))) C = some (.lst (r'.map V.int)) ∧ r'.length = j + 1 ∧ ∀ x ∈ r', NumOk x := by
            intro y hy
            refine ⟨(e5.tr e10).wr hC, (p9.mono (by omega)).put Cp.symm, r5 ++ [(1 + z) * y], ?_, ?_, ?_⟩
            · rw [upd_same, List.map_append]
              rfl
            · rw [List.length_append, hrl5]
              rfl
            · intro x hx
              rcases List.mem_append.mp hx with hx | hx
              · exact hrn5 x hx
              · obtain rfl := List.mem_singleton.mp hx
                exact nk z hz y hy
          rcases (show z2 = 0 ∨ z2 = 1 by omega) with rfl | rfl
          · exact ⟨l, _, 0, .int 1, rfl, rfl, .inl (.inl f9), rfl, _, _, rfl, rfl, .inr ⟨by decide, by decide⟩, _, hr9, mil' (by rw [List.length_map]; omega), fin 1 (.inl rfl)⟩
          · exact ⟨l, _, 1, .int (-1), rfl, rfl, .inl (.inl f9), rfl, _, _, rfl, rfl, .inr ⟨by decide, by decide⟩, _, hr9, mil' (by rw [List.length_map]; omega), fin (-1) (.inr rfl)⟩
        · rintro H5 ⟨e5, p5, r5, hr5, hrl5, hrn5⟩
          rw [List.length_map] at hrl5
          have hS5 := e5 _ _ Sp hS3
          have hD5 := e5 _ _ Dp hD3
          rw [List.length_map] at p5
          refine ⟨S, _, _, rfl, rfl, hS5, mil' (by omega), ?_⟩
          refine ⟨_, _, rfl, (e3.tr e5).wr (?_ : H S = none), (p5.mono (by omega)).put Sp.symm, by rw [upd_ne SD.symm]; exact hD5, acc ++ [.ref C], ss ++ [r5], upd_same, ?_, ?_, ?_⟩
          · exact Purse.fr e1 p1 hS
          · rw [List.map_append]
            refine (hA.up (ex_rm2 fun b o n1 n2 h => ?_)).app ⟨_, _, rfl, dInts_of ?_ (by omega), rfl⟩
            · rw [upd_ne n2]
              exact e5 b o n1 h
            · rw [rm_ne CS, rm_ne Cp, upd_ne CS]
              exact hr5
          · rw [take_snoc hgr, List.map_append, List.map_append, hsl]
            simp [hrl5]
          · intro s hs
            rcases List.mem_append.mp hs with hs | hs
            · exact hsn s hs
            · obtain rfl := List.mem_singleton.mp hs
              exact hrn5
      · rintro σ H3 ⟨y6, y7, rfl, e3, p3, hD3, acc, ss, hS3, hA, hsl, hsn⟩
        have hal := hA.len
        rw [List.length_map] at hal
        have hsl1 := congrArg List.length hsl
        rw [List.length_map, List.length_map, List.length_take] at hsl1
        refine ⟨_, rfl, _, rfl, by show 2 ≤ sizeLine; decide, fun T hT => ?_⟩
        have Tp := p3.off hT
        have TS : T ≠ S := fun e => by
          rw [e, hS3] at hT
          cases hT
        have TD : T ≠ D := fun e => by
          rw [e, hD3] at hT
          cases hT
        refine q (.ref T) ⟨r, ss⟩ _ (e3.tr (ExD.nw hT)) ((p3.up (Ex.nw hT)).mono (by omega)) ?_ ?_
        · refine ⟨T, _, rfl, by rw [rm_ne Tp, upd_same], _, _, rfl, dInts_of (by rw [rm_ne Dp, upd_ne TD.symm]; exact hD3) (by show r.length ≤ 100000; omega), _, _, rfl, ⟨S, acc, rfl, by rw [rm_ne Sp, upd_ne TS.symm]; exact hS3, ?_, ?_⟩, rfl⟩
          · refine hA.up (rm_ex.tr (ex_rm1 fun b o n h => ?_))
            rw [upd_ne (ne_of_none h hT)]
            exact h
          · rw [List.length_map]
            show ss.length ≤ 100000
            omega
        · refine ⟨?_, hrn, ?_, hsn⟩
          · show r.length = u.ps.length
            omega
          · show ss.map List.length = u.ns.map List.length
            rw [hsl, ← hl3, List.take_length]
end

end K21
namespace K21
open PySem PySem.Spec PyProof.Rows L2 Nw
/-! _law_are: slots 0 _law_value, 1 _law_size, 2 _law_one -/
abbrev s_are : Stmt := topS 29
abbrev N_are : List Str := ["_law_value", "_law_size", "_law_one"]
abbrev P_are : List Str := ["_law_value", "_law_size"]
theorem sc_are : FnScope N_are P_are (defScope s_are) := ⟨rfl, rfl, rfl, by decide +kernel, rfl, by decide +kernel, by decide +kernel⟩
theorem noB_int : ∀ d : PyData, noB d = true → isInt d = true := fun d h => by
  cases d with
  | int i => rfl
  | _ => exact (Bool.noConfusion h : False).elim
theorem lineB_len {ds : List PyData} {m : Int} (h : (ds.length : Int) = m) : lineB (.list ds) m = ds.all noB := by
  cases e : ds.all noB with
  | false => simp only [lineB, e, Bool.and_false]
  | true =>
    have h2 : ds.all isInt = true := List.all_eq_true.mpr fun x hx => noB_int x (List.all_eq_true.mp e x hx)
    simp only [lineB, intsB, decide_eq_true h, h2, e, Bool.and_self]
def sp_are (K : PySem.W.Frag) : Sp := fun vs H Q _ => ∃ v d m, vs = [v, .int m] ∧ Da K H d v ∧ ∀ H', Ex H H' → Q (.bl (lineB d m)) H'
section
variable {P : Program} {w : World} {K : PySem.W.Frag} {mg : Str → Option Value} {base : Heap}
theorem ok_are {f : Addr} {fd : FuncData} (T : Txt K mg) (F : Fun K "_law_are" "_law_are" s_are f fd) :
    FnG P w K mg base CX0 1 f fd P_are (sp_are K) := by
  refine okG0 F sc_are (fun vs H Q E h => ?_) (fun cdv A outer s H vs Q E hr hq h => ?_)
  · obtain ⟨v, d, m, rfl, _⟩ := h
    rfl
  · obtain ⟨v, d, m, rfl, hd, q⟩ := h
    refine ⟨_, (pss_cons (ps_if (PW.pt (pw_or (pt_not (pt_val (pe_callB (call_isiK K) (by rfl) T.b_isinstance bt_isinstance (pa_cons (pv 0) (pa_cons (pe_bty T.b_list bt_list) pa_nil))))) (pw_or1 (pt_cmpR op_ne (pe_callB (call_lenK K) (by rfl) T.b_len bt_len (pa_cons (pv 0) pa_nil)) (pv 1) (nomark _))))) (pss_one (ps_ret pe_bl)) pss_nil)
      (pss_cons (ps_for PassesOwn.never rfl (pi_listK K (pv 0)) (pg_name (i := 2) sc_are.nd rfl (by first | exact .inl rfl | exact .inr rfl)) (pss_one (ps_if (PW.pt (pw_or (pt_not (pt_val (pe_callB (call_isiK K) (by rfl) T.b_isinstance bt_isinstance (pa_cons (pv 2) (pa_cons (pe_bty T.b_int bt_int) pa_nil))))) (pw_or (pt_val (pe_callB (call_isiK K) (by rfl) T.b_isinstance bt_isinstance (pa_cons (pv 2) (pa_cons (pe_bty T.b_bool bt_bool) pa_nil)))) (pw_or (pt_cmpR op_eq (pv 2) pe_int (nomark _)) (pw_or1 (pt_cmpR op_gt (pe_callB call_abs (by rfl) T.b_abs bt_abs (pa_cons (pv 2) pa_nil)) (pe_op op_powW pe_int pe_int) (nomark _))))))) (pss_one (ps_ret pe_bl)) pss_nil)))
      (pss_one (ps_ret pe_bl)))), ?_⟩
    refine ⟨_, rfl, _, _, _, _, _, rfl, .ty _, hd.ty, isa_list d, _, rfl, ?_⟩
    cases d with
    | list ds =>
      obtain ⟨a, xs, rfl, hS0, hA, hz⟩ := hd
      have hS : SqL K _ a xs := .inl (.inl hS0)
      have hl := hA.len
      refine ⟨_, rfl, a, _, rfl, .inl hS, _, rfl, rfl, _, rfl, ?_⟩
      refine ite2 (fun h1 => ?_) (fun h1 => ?_)
      · have e3 : lineB (.list ds) m = false := by
          have h4 : decide ((ds.length : Int) = m) = false := by
            rw [hl]
            simpa using h1
          simp only [lineB, intsB, h4, Bool.false_and]
        rw [e3] at q
        exact q _ Ex.rfl
      · have h4 : (ds.length : Int) = m := by
          rw [hl]
          simpa using h1
        rw [lineB_len h4] at q
        refine ⟨_, rfl, a, rfl, ⟨_, hS⟩, ?_⟩
        refine for_by xs.length (fun i σ H' => ∃ y2, σ = [some (V.ref a), some (V.int m), y2] ∧ Ex H H' ∧ (ds.take i).all noB = true)
          ⟨_, rfl, Ex.rfl, rfl⟩ (fun i σ H' hi p => ?_) (fun σ H' p => ?_) ?_ ?_
        · obtain ⟨_, _, e, _⟩ := p
          exact itl_go hS e hi
        · obtain ⟨_, _, e, _⟩ := p
          exact itl_stop hS e
        · rintro i σ H1 x H2 hi ⟨y2, rfl, e, hp⟩ y
          obtain ⟨rfl, hx⟩ := itl_yld y hS e
          obtain ⟨d, hd, hx'⟩ := hA.at' hx
          have bad : ∀ H3, Ex H H3 → noB d = false → Q (.bl false) H3 := fun H3 e3 h => by
            have h5 : ds.all noB = false := by
              rw [Bool.eq_false_iff]
              intro h6
              rw [List.all_eq_true.mp h6 d (List.mem_of_getElem? hd)] at h
              cases h
            rw [h5] at q
            exact q _ e3
          refine ⟨_, rfl, _, _, _, _, _, rfl, .ty _, (hx'.up e).ty, isa_int d, _, rfl, ?_⟩
          cases d with
          | int z =>
            obtain rfl := hx'
            have ok : noB (.int z) = true → ∃ y2, [some (V.ref a), some (V.int m), some (V.int z)] = [some (V.ref a), some (V.int m), y2] ∧ Ex H H2 ∧ (ds.take (i + 1)).all noB = true := fun h => by
              refine ⟨_, rfl, e, ?_⟩
              rw [take_snoc hd, List.all_append, hp]
              simp [h]
            refine ⟨_, rfl, _, _, _, _, _, rfl, .ty _, (show Da K H2 (.int z) (.int z) from rfl).ty, isa_bool (.int z), _, rfl, ?_⟩
            refine ⟨_, rfl, rfl, _, rfl, ?_⟩
            refine ite2 (fun h5 => ?_) (fun h5 => ?_)
            · refine bad _ e ?_
              have h6 : z = 0 := by simpa using h5
              rw [h6]
              rfl
            · have h6 : z ≠ 0 := by simpa using h5
              refine ⟨_, rfl, _, rfl, _, _, rfl, rfl, cpow10 (by decide) (by decide), _, _, rfl, rfl, _, rfl, ?_⟩
              rw [p6]
              refine ite2 (fun h7 => ?_) (fun h7 => ?_)
              · refine bad _ e ?_
                have h8 : 1000000 < (if z < 0 then -z else z) := by simpa using h7
                simp only [noB, decide_eq_true h6, Bool.true_and, decide_eq_false_iff_not]
                omega
              · refine ok ?_
                have h8 : ¬ 1000000 < (if z < 0 then -z else z) := by simpa using h7
                simp only [noB, decide_eq_true h6, Bool.true_and, decide_eq_true_eq]
                omega
          | bool b =>
            obtain rfl := hx'
            exact ⟨_, rfl, _, _, _, _, _, rfl, .ty _, (show Da K H2 (.bool b) (.bl b) from rfl).ty, isa_bool (.bool b), _, rfl, bad _ e rfl⟩
          | _ => exact bad _ e rfl
        · rintro σ H1 ⟨y2, rfl, e, hp⟩
          rw [← hl, List.take_length] at hp
          rw [hp] at q
          exact q _ e
    | _ => exact q _ Ex.rfl
end

end K21
namespace K21
open PySem PySem.Spec PyProof.Rows L2 Nw
/-! _law_is: slots 0 _law_web_here, 1 _law_value, 2 _law_rows, 3 _law_at -/
abbrev s_is : Stmt := topS 30
abbrev N_is : List Str := ["_law_web_here", "_law_value", "_law_rows", "_law_at"]
abbrev P_is : List Str := ["_law_web_here", "_law_value"]
theorem sc_is : FnScope N_is P_is (defScope s_is) := ⟨rfl, rfl, rfl, by decide +kernel, rfl, by decide +kernel, by decide +kernel⟩
theorem range_none {n : Nat} {f : Nat → Bool} : decide (((List.range n).filter fun i => !f i).map (fun i : Nat => (i : Int)) = []) = (List.range n).all f := by
  rw [Bool.eq_iff_iff, decide_eq_true_eq, List.map_eq_nil_iff, List.filter_eq_nil_iff, List.all_eq_true]
  constructor
  · intro h x hx
    have := h x hx
    simpa using this
  · intro h x hx
    have := h x hx
    simp [this]
theorem zip_range {α β : Type} {p : α × β → Bool} {as : List α} {bs : List β} {d : α} {e : β} (h : as.length = bs.length) : (as.zip bs).all p = (List.range bs.length).all fun i => p (as.getD i d, bs.getD i e) := by
  rw [Bool.eq_iff_iff, List.all_eq_true, List.all_eq_true]
  constructor
  · intro g i hi
    have hi := List.mem_range.mp hi
    have ha := List.getElem?_eq_getElem (show i < as.length by omega)
    have hb := List.getElem?_eq_getElem hi
    rw [List.getD_eq_getElem?_getD, ha, List.getD_eq_getElem?_getD, hb]
    refine g _ (List.mem_of_getElem? (i := i) ?_)
    exact (List.getElem?_zip_eq_some (z := (as[i], bs[i]))).mpr ⟨ha, hb⟩
  · rintro g ⟨a, b⟩ hx
    obtain ⟨i, hi⟩ := List.mem_iff_getElem?.mp hx
    rw [List.getElem?_zip_eq_some] at hi
    have := g i (List.mem_range.mpr (List.getElem?_eq_some_iff.mp hi.2).1)
    rw [List.getD_eq_getElem?_getD, hi.1, List.getD_eq_getElem?_getD, hi.2] at this
    exact this
def sp_is (K : PySem.W.Frag) : Sp := fun vs H Q _ => ∃ x u v d, vs = [x, v] ∧ Da K H (Wb.d u) x ∧ u.Ok ∧ Da K H d v ∧ ∀ H', Ex H H' → Q (.bl (fillB u d)) H'
section
variable {P : Program} {w : World} {K : PySem.W.Frag} {mg : Str → Option Value} {base : Heap}
theorem ok_is {f : Addr} {fd : FuncData} (T : Txt K mg) (F : Fun K "_law_is" "_law_is" s_is f fd)
    (D_are : DefOk P w K mg base CX0 1 "_law_are" P_are (sp_are K)) :
    FnG P w K mg base CX0 2 f fd P_is (sp_is K) := by
  refine okG0 F sc_is (fun vs H Q E h => ?_) (fun cdv A outer s H vs Q E hr hq h => ?_)
  · obtain ⟨x, u, v, d, rfl, _⟩ := h
    rfl
  · obtain ⟨x, u, v, d, rfl, hw, hu, hd, q⟩ := h
    obtain ⟨t, x2, x3, rfl, hT, ⟨a2, zs, rfl, hL2, hA2, hz2⟩, ⟨a3, ws, rfl, hL3, hA3, hz3⟩⟩ := Wb.at hw
    have hl2 := hA2.len
    have hl3 := hA3.len
    rw [List.length_map] at hl2 hl3
    have b3 := hu.few
    refine ⟨_, (pss_cons (ps_if (PW.pt (pw_or (pt_not (pt_val (pe_callB (call_isiK K) (by rfl) T.b_isinstance bt_isinstance (pa_cons (pv 1) (pa_cons (pe_bty T.b_tuple bt_tuple) pa_nil))))) (pw_or (pt_cmpR op_ne (pe_callB (call_lenK K) (by rfl) T.b_len bt_len (pa_cons (pv 1) pa_nil)) pe_int (nomark _)) (pw_or1 (pt_not (pt_val (pe_callD D_are (hr.mono (by decide)) hq pass0 (pa_cons (pe_ix (ix_seqK K) (pv 1) pe_int (fun _ _ => rfl)) (pa_cons (pe_callB (call_lenK K) (by rfl) T.b_len bt_len (pa_cons (pe_ix (ix_tupK K) (pv 0) pe_int (fun _ _ => rfl)) pa_nil)) pa_nil))))))))) (pss_one (ps_ret pe_bl)) pss_nil)
      (pss_cons (ps_set (i := 2) sc_is.nd rfl (by first | exact .inl rfl | exact .inr rfl) (pe_ix (ix_tupK K) (pv 0) pe_int (fun _ _ => rfl)))
      (pss_cons (ps_if (PW.pt (pw_or (pt_not (pt_val (pe_callB (call_isiK K) (by rfl) T.b_isinstance bt_isinstance (pa_cons (pe_ix (ix_seqK K) (pv 1) pe_int (fun _ _ => rfl)) (pa_cons (pe_bty T.b_list bt_list) pa_nil))))) (pw_or1 (pt_cmpR op_ne (pe_callB (call_lenK K) (by rfl) T.b_len bt_len (pa_cons (pe_ix (ix_seqK K) (pv 1) pe_int (fun _ _ => rfl)) pa_nil)) (pe_callB (call_lenK K) (by rfl) T.b_len bt_len (pa_cons (pv 2) pa_nil)) (nomark _))))) (pss_one (ps_ret pe_bl)) pss_nil)
      (pss_one (ps_ret (pe_cmpR (op_eqDk K hr.units) (pe_lc (own := [("_law_at", 3)]) rfl sc_is.nd (pi_range1 (by rfl) T.b_range (pa_cons (pe_callB (call_lenK K) (by rfl) T.b_len bt_len (pa_cons (pv 2) pa_nil)) pa_nil)) (blkOk_by (N := N_is) (sc := defScope s_is) (by decide +kernel)) (fun _ _ _ _ _ => (pg_name (i := 3) sc_is.nd rfl (by first | exact .inl rfl | exact .inr rfl))) (fun _ _ _ _ _ => (pts_one (pt_not (pt_val (pe_callD D_are (hr.mono (by decide)) hq pass0 (pa_cons (pe_ix (ix_seqK K) (pe_ix (ix_seqK K) (pv 1) pe_int (fun _ _ => rfl)) (pv 3) (fun _ _ => rfl)) (pa_cons (pe_callB (call_lenK K) (by rfl) T.b_len bt_len (pa_cons (pe_ix (ix_listK K) (pv 2) (pv 3) (fun _ _ => rfl)) pa_nil)) pa_nil))))))) (fun _ _ _ _ _ => (pv 3))) (pe_lst pa_nil) (nomark _))))))), ?_⟩
    refine ⟨_, rfl, _, _, _, _, _, rfl, .ty _, hd.ty, isa_tuple d, _, rfl, ?_⟩
    cases d with
    | tuple ds =>
      obtain ⟨a, xs, rfl, hS0, hA⟩ := hd
      have hS : SqT K _ a xs := .inl (.inl hS0)
      have hl := hA.len
      refine ⟨_, rfl, a, _, rfl, .inr hS, rfl, _, rfl, ?_⟩
      refine ite2 (fun h1 => ?_) (fun h1 => ?_)
      · have e : fillB u (.tuple ds) = false := by
          unfold fillB
          split
          · rename_i heq
            cases heq
            rw [← hl] at h1
            simp at h1
          · rfl
        rw [e] at q
        exact q _ Ex.rfl
      · have h2 : ds.length = 2 := by
          simp at h1
          omega
        obtain ⟨d1, d2, rfl⟩ : ∃ d1 d2, ds = [d1, d2] := by
          match ds, h2 with
          | [d1, d2], _ => exact ⟨d1, d2, rfl⟩
        obtain ⟨y1, r1, rfl, k1, y2, r2, rfl, k2, rfl⟩ := hA
        refine ⟨_, rfl, .inr (.inl ⟨a, _, 0, y1, rfl, rfl, hS, rfl, _, rfl, t, _, 1, _, rfl, rfl, hT, rfl, a2, _, rfl, .inl (.inl (.inl hL2)), _, _, _, rfl, k1, fun H1 e1 => ⟨_, rfl, ?_⟩⟩)⟩
        rw [← hl2]
        refine ite2 (fun h3 => ?_) (fun h3 => ?_)
        · have e : fillB u (.tuple [d1, d2]) = false := by
            have h4 : lineB d1 u.ps.length = false := by simpa using h3
            cases d2 <;> simp only [fillB, h4, Bool.false_and]
          rw [e] at q
          exact q _ e1
        · have h4 : lineB d1 u.ps.length = true := by simpa using h3
          refine ⟨_, rfl, t, _, 2, _, rfl, rfl, e1.t hT, rfl, ?_⟩
          refine ⟨_, rfl, .inr (.inl ⟨a, _, 1, y2, rfl, rfl, e1.t hS, rfl, _, _, _, _, _, rfl, .ty _, (k2.up e1).ty, isa_list d2, _, rfl, ?_⟩)⟩
          cases d2 with
          | list rs =>
            obtain ⟨b, bs, rfl, hB, hAB, hzB⟩ := k2.up e1
            have hSB : SqL K _ b bs := .inl (.inl hB)
            have hSW : SqL K _ a3 ws := .inl (.inl (e1 _ _ hL3))
            have hlB := hAB.len
            refine ⟨_, rfl, .inr (.inl ⟨a, _, 1, .ref b, rfl, rfl, e1.t hS, rfl, b, _, rfl, .inl hSB, _, rfl, a3, _, rfl, .inl hSW, rfl, _, rfl, ?_⟩)⟩
            refine ite2 (fun h5 => ?_) (fun h5 => ?_)
            · have e : fillB u (.tuple [d1, .list rs]) = false := by
                have h6 : decide (rs.length = u.ns.length) = false := by
                  rw [hlB, hl3]
                  simp at h5
                  simp
                  omega
                simp only [fillB, h6, Bool.false_and, Bool.and_false]
              rw [e] at q
              exact q _ e1
            · have h7 : rs.length = u.ns.length := by
                rw [hlB, hl3]
                simp at h5
                omega
              have e : fillB u (.tuple [d1, .list rs]) = (List.range u.ns.length).all fun i => lineB (rs.getD i .none) (u.ns.getD i []).length := by
                simp only [fillB, h4, decide_eq_true h7, Bool.true_and]
                exact zip_range (p := fun p : PyData × List Int => lineB p.1 p.2.length) h7
              rw [e, ← range_none] at q
              refine ⟨_, rfl, a3, _, rfl, .inl hSW, _, rfl, by omega, by omega, fun D hD => ?_⟩
              refine lc_ev u.ns.length (fun i => !lineB (rs.getD i .none) (u.ns.getD i []).length) (fun i y _ => y = .int (i : Int)) (by omega) hD (fun _ _ _ _ _ h => h)
                (fun i H' hi e => by show i < _; omega) (fun H' e => by show _ ≤ _; omega) ?_ ?_
              · rintro i H' x H'' hi e _ ⟨rfl, rfl⟩ Q' N' hQ hN
                have i1 := List.getElem?_eq_getElem (show i < bs.length by omega)
                have i2 := List.getElem?_eq_getElem (show i < ws.length by omega)
                generalize bs[i] = z1 at i1
                generalize ws[i] = z2 at i2
                obtain ⟨dr, hdr, hx1⟩ := hAB.at' i1
                obtain ⟨ds2, hds2, hx2⟩ := hA3.at' i2
                obtain ⟨r, hr2, rfl⟩ := map_at hds2
                obtain ⟨ar, rfl, hLr⟩ := dInts_at hx2
                have g1 : rs.getD i .none = dr := by rw [List.getD_eq_getElem?_getD, hdr]; rfl
                have g2 : u.ns.getD i [] = r := by rw [List.getD_eq_getElem?_getD, hr2]; rfl
                simp only [g1, g2] at hQ hN
                refine ⟨rfl, ?_⟩
                refine ⟨_, rfl, .inr (.inl ⟨a, _, 1, .ref b, rfl, rfl, (e1.tr e).t hS, rfl, _, rfl, .inl ⟨b, _, (0 + (i : Nat) : Int), z1, rfl, rfl, e.l hSB, by rw [Int.zero_add]; exact atI_nat i1, ?_⟩⟩)⟩
                refine ⟨_, rfl, _, rfl, a3, _, (0 + (i : Nat) : Int), .ref ar, rfl, rfl, e.l hSW, by rw [Int.zero_add]; exact atI_nat i2, ar, _, rfl, .inl ((e1.tr e).l hLr), _, dr, _, rfl, hx1.up e, fun H3 e3 => ⟨_, rfl, ?_⟩⟩
                rw [List.length_map]
                refine ite2 (fun h8 => ?_) (fun h8 => ?_)
                · exact ⟨_, rfl, hQ h8 _ _ e3 (by rw [Int.zero_add])⟩
                · exact hN (by simpa using h8) _ e3
              · intro ys H3 e3 hy gv
                refine ⟨Nat.zero_le _, fun z hz => ?_⟩
                have hy2 := gv.eq (v := fun i => V.int (i : Int))
                have e4 : Ex H3 (upd H3 z (.lst [])) := Ex.nw hz
                have dz : Da K (upd H3 z (.lst [])) (dInts []) (.ref z) := dInts_of (r := []) upd_same (by decide)
                have dD : Da K (upd H3 z (.lst [])) (dInts (((List.range u.ns.length).filter fun i => !lineB (rs.getD i .none) (u.ns.getD i []).length).map fun i : Nat => (i : Int))) (.ref D) := by
                  refine dInts_of (e4 _ _ ?_) ?_
                  · rw [hy, hy2, List.map_map]
                    rfl
                  · rw [List.length_map]
                    have := List.length_filter_le (fun i => !lineB (rs.getD i .none) (u.ns.getD i []).length) (List.range u.ns.length)
                    rw [List.length_range] at this
                    omega
                refine ⟨_, _, dD.dInts, dz.dInts, sh_dInts _, sh_dInts _, ?_⟩
                rw [eqv_dInts]
                exact q _ ((e1.tr e3).tr e4)
          | _ =>
            have e : ∀ d2, (∀ rs, d2 ≠ .list rs) → fillB u (.tuple [d1, d2]) = false := fun d2 h => by
              cases d2 <;> first | rfl | exact (h _ rfl).elim
            rw [e _ (fun rs h => by cases h)] at q
            exact q _ e1
    | _ => exact q _ Ex.rfl
end

end K21
namespace K21
open PySem PySem.Spec PyProof.Rows L2 Nw
/-! _law_bent_list: slots 0 _law_purse_here, 1 _law_row, 2 _law_odd, 3 _law_at, 4 _law_bad, 5 _law_way -/
abbrev s_bent_list : Stmt := topS 31
abbrev N_bent_list : List Str := ["_law_purse_here", "_law_row", "_law_odd", "_law_at", "_law_bad", "_law_way"]
abbrev P_bent_list : List Str := ["_law_purse_here", "_law_row"]
theorem sc_bent_list : FnScope N_bent_list P_bent_list (defScope s_bent_list) := ⟨rfl, rfl, rfl, by decide +kernel, rfl, by decide +kernel, by decide +kernel⟩
/-- a list with one thing otherwise -/
def sp_bent_list (K : PySem.W.Frag) : Sp := fun vs H Q _ => ∃ (p a : Addr) (r : List Int) (m : Nat), vs = [.ref p, .ref a] ∧ rm H p a = some (.lst (r.map V.int)) ∧ r.length ≤ 1300 ∧ (∀ x ∈ r, NumOk x) ∧ Purse H p m ∧ m ≤ 1000000 ∧
  ∀ v H', ExD p H H' → Purse H' p (m + 4) → Gd K (rm H' p) 6000 5 v → Q v H'
section
variable {P : Program} {w : World} {K : PySem.W.Frag} {mg : Str → Option Value} {base : Heap}
theorem ok_bent_list {f : Addr} {fd : FuncData} (T : Txt K mg) (F : Fun K "_law_bent_list" "_law_bent_list" s_bent_list f fd)
    (D_coin : DefOk P w K mg base CX0 1 "_law_coin" P_coin (sp_coin K)) :
    FnG P w K mg base CX0 2 f fd P_bent_list (sp_bent_list K) := by
  refine okG0 F sc_bent_list (fun vs H Q E h => ?_) (fun cdv A outer s H vs Q E hr hq h => ?_)
  · obtain ⟨p, a, r, m, rfl, _⟩ := h
    rfl
  · obtain ⟨p, a, r, m, rfl, ha, hrl, hrn, hp, hm, q⟩ := h
    have gr : GdAll K (rm H p) 1 0 (r.map V.int) := ⟨r.map PyData.int, DaAll.ints.mpr rfl, fun x hx => by
      obtain ⟨y, hy, rfl⟩ := List.mem_map.mp hx
      have h1 := (hrn y hy).2.1
      have h2 := (hrn y hy).2.2
      exact Sh.int (k := 40) (by decide) (small40 (by omega)).1 (small40 (by omega)).2⟩
    have Lr : (r.map V.int).length ≤ 1300 := by
      rw [List.length_map]
      exact hrl
    generalize r.map V.int = xs at ha gr Lr
    refine ⟨_, (pss_cons (ps_set (i := 2) sc_bent_list.nd rfl (by first | exact .inl rfl | exact .inr rfl) (pe_lst (pa_cons pe_int (pa_cons pe_non (pa_cons pe_bl (pa_cons pe_bl (pa_cons pe_str (pa_cons (pe_tup (pa_cons pe_int pa_nil)) (pa_cons (pe_lst (pa_cons pe_int pa_nil)) (pa_cons (pe_op op_add (pe_op op_powW pe_int pe_int) pe_int) (pa_cons (pe_op op_sub (pe_op op_sub pe_int (pe_op op_powW pe_int pe_int)) pe_int) (pa_cons (pe_op op_powW pe_int pe_int) (pa_cons (pe_op op_powW pe_int pe_int) (pa_cons (pe_op op_sub pe_int (pe_op op_powW pe_int pe_int)) (pa_cons pe_dnewK pa_nil)))))))))))))))
      (pss_cons (ps_par (i := 3) (j := 4) (by rfl) sc_bent_list.nd rfl rfl (by decide) rfl rfl (pa_cons (pe_callD D_coin (hr.mono (by decide)) hq pass0 (pa_cons (pv 0) (pa_cons (pe_op op_add (pe_callB (call_lenK K) (by rfl) T.b_len bt_len (pa_cons (pv 1) pa_nil)) pe_int) pa_nil))) (pa_cons (pe_ix (ix_listK K) (pv 2) (pe_callD D_coin (hr.mono (by decide)) hq pass0 (pa_cons (pv 0) (pa_cons (pe_callB (call_lenK K) (by rfl) T.b_len bt_len (pa_cons (pv 2) pa_nil)) pa_nil))) (fun _ _ => rfl)) pa_nil)) (by rfl))
      (pss_cons (ps_set (i := 5) sc_bent_list.nd rfl (by first | exact .inl rfl | exact .inr rfl) (pe_callD D_coin (hr.mono (by decide)) hq pass0 (pa_cons (pv 0) (pa_cons pe_int pa_nil))))
      (pss_cons (ps_if (pt_cmpR op_eq (pv 5) pe_int (nomark _)) (pss_one (ps_ret (pe_ix (ix_listK K) (pe_lst (pa_cons (pe_callTy (call_tupleK K) (by rfl) T.b_tuple bt_tuple (pa_cons (pv 1) pa_nil)) (pa_cons pe_non (pa_cons pe_str (pa_cons pe_int (pa_cons pe_dnewK (pa_cons (pe_lst (pa_cons (pv 1) pa_nil)) pa_nil))))))) (pe_callD D_coin (hr.mono (by decide)) hq pass0 (pa_cons (pv 0) (pa_cons pe_int pa_nil))) (fun _ _ => rfl)))) pss_nil)
      (pss_cons (ps_if (pt_cmpR op_eq (pv 5) pe_int (nomark _)) (pss_one (ps_ret (pe_op (op_catS K) (pe_slice (sl_listK K) (pv 1) po_none (po_some (pv 3))) (pe_slice (sl_listK K) (pv 1) (po_some (pe_op op_add (pv 3) pe_int)) po_none)))) pss_nil)
      (pss_cons (ps_if (pt_cmpR op_eq (pv 5) pe_int (nomark _)) (pss_one (ps_ret (pe_op (op_catS K) (pe_op (op_catS K) (pe_slice (sl_listK K) (pv 1) po_none (po_some (pv 3))) (pe_lst (pa_cons pe_int pa_nil))) (pe_slice (sl_listK K) (pv 1) (po_some (pv 3)) po_none)))) pss_nil)
      (pss_one (ps_ret (pe_op (op_catS K) (pe_op (op_catS K) (pe_slice (sl_listK K) (pv 1) po_none (po_some (pv 3))) (pe_lst (pa_cons (pv 4) pa_nil))) (pe_slice (sl_listK K) (pv 1) (po_some (pe_op op_add (pv 3) pe_int)) po_none)))))))))), ?_⟩
    refine ⟨by show 1 ≤ sizeLine; decide, fun bt1 bh1 => ?_⟩
    have bE1 : Ex H (upd H bt1 (.tup [.int 1])) := Ex.nw bh1
    have bN1 : bt1 ≠ p := hp.off bh1
    have bP1 := hp.up bE1
    have bF1 : (upd H bt1 (.tup [.int 1])) bt1 = some (.tup [.int 1]) := upd_same
    generalize upd H bt1 (.tup [.int 1]) = bG1 at bE1 bP1 bF1
    have bR1 : Ex (rm H p) (rm bG1 p) := bE1.rm
    have bF1 : rm bG1 p bt1 = some (.tup [.int 1]) := by rw [rm_ne bN1]; exact bF1
    have bD1 : ExD p H bG1 := bE1.d
    have bg1 : GdAll K (rm bG1 p) 1 1 [.int 1] := (GdAll.cons (Gd.int (by decide +kernel)) GdAll.nil)
    refine ⟨by show 1 ≤ sizeLine; decide, fun bt2 bh2 => ?_⟩
    have bE2 : Ex bG1 (upd bG1 bt2 (.lst [.int 1])) := Ex.nw bh2
    have bN2 : bt2 ≠ p := bP1.off bh2
    have bP2 := bP1.up bE2
    have bF2 : (upd bG1 bt2 (.lst [.int 1])) bt2 = some (.lst [.int 1]) := upd_same
    generalize upd bG1 bt2 (.lst [.int 1]) = bG2 at bE2 bP2 bF2
    have bR2 : Ex (rm bG1 p) (rm bG2 p) := bE2.rm
    have bF2 : rm bG2 p bt2 = some (.lst [.int 1]) := by rw [rm_ne bN2]; exact bF2
    have bD2 : ExD p bG1 bG2 := bE2.d
    have bg2 : GdAll K (rm bG2 p) 1 1 [.int 1] := (GdAll.cons (Gd.int (by decide +kernel)) GdAll.nil)
    refine ⟨_, _, rfl, rfl, cpow10 (by decide) (by decide), _, _, rfl, rfl, _, _, rfl, rfl, cpow10 (by decide) (by decide), _, _, rfl, rfl, _, _, rfl, rfl, _, _, rfl, rfl, cpow10 (by decide) (by decide), _, _, rfl, rfl, cpow10 (by decide) (by decide), _, _, rfl, rfl, cpow10 (by decide) (by decide), _, _, rfl, rfl, fun bt3 bh3 => ?_⟩
    have bE3 : Ex bG2 (upd bG2 bt3 (.dK [])) := Ex.nw bh3
    have bN3 : bt3 ≠ p := bP2.off bh3
    have bP3 := bP2.up bE3
    have bF3 : (upd bG2 bt3 (.dK [])) bt3 = some (.dK []) := upd_same
    generalize upd bG2 bt3 (.dK []) = bG3 at bE3 bP3 bF3
    have bR3 : Ex (rm bG2 p) (rm bG3 p) := bE3.rm
    have bF3 : rm bG3 p bt3 = some (.dK []) := by rw [rm_ne bN3]; exact bF3
    have bD3 : ExD p bG2 bG3 := bE3.d
    refine ⟨by show 13 ≤ sizeLine; decide, fun bt4 bh4 => ?_⟩
    have bE4 : Ex bG3 (upd bG3 bt4 (.lst [.int 0, .non, .bl true, .bl false, .str "1", .ref bt1, .ref bt2, .int ((10 ^ Int.toNat 6) + 1), .int ((0 - (10 ^ Int.toNat 6)) - 1), .int (10 ^ Int.toNat 29), .int (10 ^ Int.toNat 6), .int (0 - (10 ^ Int.toNat 6)), .ref bt3])) := Ex.nw bh4
    have bN4 : bt4 ≠ p := bP3.off bh4
    have bP4 := bP3.up bE4
    have bF4 : (upd bG3 bt4 (.lst [.int 0, .non, .bl true, .bl false, .str "1", .ref bt1, .ref bt2, .int ((10 ^ Int.toNat 6) + 1), .int ((0 - (10 ^ Int.toNat 6)) - 1), .int (10 ^ Int.toNat 29), .int (10 ^ Int.toNat 6), .int (0 - (10 ^ Int.toNat 6)), .ref bt3])) bt4 = some (.lst [.int 0, .non, .bl true, .bl false, .str "1", .ref bt1, .ref bt2, .int ((10 ^ Int.toNat 6) + 1), .int ((0 - (10 ^ Int.toNat 6)) - 1), .int (10 ^ Int.toNat 29), .int (10 ^ Int.toNat 6), .int (0 - (10 ^ Int.toNat 6)), .ref bt3]) := upd_same
    generalize upd bG3 bt4 (.lst [.int 0, .non, .bl true, .bl false, .str "1", .ref bt1, .ref bt2, .int ((10 ^ Int.toNat 6) + 1), .int ((0 - (10 ^ Int.toNat 6)) - 1), .int (10 ^ Int.toNat 29), .int (10 ^ Int.toNat 6), .int (0 - (10 ^ Int.toNat 6)), .ref bt3]) = bG4 at bE4 bP4 bF4
    have bR4 : Ex (rm bG3 p) (rm bG4 p) := bE4.rm
    have bF4 : rm bG4 p bt4 = some (.lst [.int 0, .non, .bl true, .bl false, .str "1", .ref bt1, .ref bt2, .int ((10 ^ Int.toNat 6) + 1), .int ((0 - (10 ^ Int.toNat 6)) - 1), .int (10 ^ Int.toNat 29), .int (10 ^ Int.toNat 6), .int (0 - (10 ^ Int.toNat 6)), .ref bt3]) := by rw [rm_ne bN4]; exact bF4
    have bD4 : ExD p bG3 bG4 := bE4.d
    have bg4 : GdAll K (rm bG4 p) 2 2 [.int 0, .non, .bl true, .bl false, .str "1", .ref bt1, .ref bt2, .int ((10 ^ Int.toNat 6) + 1), .int ((0 - (10 ^ Int.toNat 6)) - 1), .int (10 ^ Int.toNat 29), .int (10 ^ Int.toNat 6), .int (0 - (10 ^ Int.toNat 6)), .ref bt3] := (GdAll.cons (Gd.int (by decide +kernel)) (GdAll.cons Gd.non (GdAll.cons Gd.bl (GdAll.cons Gd.bl (GdAll.cons (Gd.str (by decide +kernel)) (GdAll.cons ((Gd.tup (m := 1) ((bR2.tr (bR3.tr bR4)) _ _ bF1) (bg1.up (bR2.tr (bR3.tr bR4))) (by show 1 ≤ 1; decide)).wide (by decide) (by decide)) (GdAll.cons ((Gd.list (m := 1) ((bR3.tr bR4) _ _ bF2) (bg2.up (bR3.tr bR4)) (by show 1 ≤ 1; decide) (by decide)).wide (by decide) (by decide)) (GdAll.cons (Gd.int (by decide +kernel)) (GdAll.cons (Gd.int (by decide +kernel)) (GdAll.cons (Gd.int (by decide +kernel)) (GdAll.cons (Gd.int (by decide +kernel)) (GdAll.cons (Gd.int (by decide +kernel)) (GdAll.cons (Gd.dict0 (bR4 _ _ bF3)) GdAll.nil)))))))))))))
    refine ⟨_, rfl, _, rfl, a, _, rfl, .inl (.inl (.inl (rm_ex _ _ ((bR1.tr (bR2.tr (bR3.tr bR4))) _ _ ha)))), _, _, rfl, rfl, p, (((xs : List V).length : Int) + 1), _, rfl, by omega, bP4, by omega, fun bz5 bG5 bhz5 bP5 bD5 => ?_⟩
    have bR5 : Ex (rm bG4 p) (rm bG5 p) := bD5.rm
    refine ⟨_, rfl, _, rfl, _, rfl, bt4, _, rfl, .inl (.inl (.inl (rm_ex _ _ (bR5 _ _ bF4)))), p, 13, _, rfl, by decide, bP5, by omega, fun bz6 bG6 bhz6 bP6 bD6 => ?_⟩
    have bR6 : Ex (rm bG5 p) (rm bG6 p) := bD6.rm
    obtain ⟨bx7, bhx7⟩ : ∃ x, ([.int 0, .non, .bl true, .bl false, .str "1", .ref bt1, .ref bt2, .int ((10 ^ Int.toNat 6) + 1), .int ((0 - (10 ^ Int.toNat 6)) - 1), .int (10 ^ Int.toNat 29), .int (10 ^ Int.toNat 6), .int (0 - (10 ^ Int.toNat 6)), .ref bt3] : List V)[(bz6).toNat]? = some x := ⟨_, List.getElem?_eq_getElem (show (bz6).toNat < ([.int 0, .non, .bl true, .bl false, .str "1", .ref bt1, .ref bt2, .int ((10 ^ Int.toNat 6) + 1), .int ((0 - (10 ^ Int.toNat 6)) - 1), .int (10 ^ Int.toNat 29), .int (10 ^ Int.toNat 6), .int (0 - (10 ^ Int.toNat 6)), .ref bt3] : List V).length by show _ < 13; omega)⟩
    have bg7 := (bg4.up (bR5.tr bR6)).at bhx7
    refine ⟨bt4, _, bz6, bx7, rfl, rfl, (.inl (.inl (rm_ex _ _ ((bR5.tr bR6) _ _ bF4)))), atI_int bhz6.1 bhx7, _, _, rfl, _, rfl, p, 5, _, rfl, by decide, bP6, by omega, fun bz8 bG8 bhz8 bP8 bD8 => ?_⟩
    have bR8 : Ex (rm bG6 p) (rm bG8 p) := bD8.rm
    refine ⟨_, rfl, rfl, _, rfl, ite2 (fun _ => ?_) (fun _ => ?_)⟩
    · refine ⟨_, rfl, a, _, rfl, .inl ⟨(.inl (.inl (rm_ex _ _ ((bR1.tr (bR2.tr (bR3.tr (bR4.tr (bR5.tr (bR6.tr bR8)))))) _ _ ha)))), fun bt9 bh9 => ?_⟩⟩
      have bE9 : Ex bG8 (upd bG8 bt9 (.tup xs)) := Ex.nw bh9
      have bN9 : bt9 ≠ p := bP8.off bh9
      have bP9 := bP8.up bE9
      have bF9 : (upd bG8 bt9 (.tup xs)) bt9 = some (.tup xs) := upd_same
      generalize upd bG8 bt9 (.tup xs) = bG9 at bE9 bP9 bF9
      have bR9 : Ex (rm bG8 p) (rm bG9 p) := bE9.rm
      have bF9 : rm bG9 p bt9 = some (.tup xs) := by rw [rm_ne bN9]; exact bF9
      have bD9 : ExD p bG8 bG9 := bE9.d
      have bg9 : GdAll K (rm bG9 p) 1 0 xs := gr.up (bR1.tr (bR2.tr (bR3.tr (bR4.tr (bR5.tr (bR6.tr (bR8.tr bR9)))))))
      have bL9 : (xs : List V).length ≤ 1300 := Lr
      generalize (xs : List V) = bys9 at bF9 bg9 bL9
      refine fun bt10 bh10 => ?_
      have bE10 : Ex bG9 (upd bG9 bt10 (.dK [])) := Ex.nw bh10
      have bN10 : bt10 ≠ p := bP9.off bh10
      have bP10 := bP9.up bE10
      have bF10 : (upd bG9 bt10 (.dK [])) bt10 = some (.dK []) := upd_same
      generalize upd bG9 bt10 (.dK []) = bG10 at bE10 bP10 bF10
      have bR10 : Ex (rm bG9 p) (rm bG10 p) := bE10.rm
      have bF10 : rm bG10 p bt10 = some (.dK []) := by rw [rm_ne bN10]; exact bF10
      have bD10 : ExD p bG9 bG10 := bE10.d
      refine ⟨_, rfl, by show 1 ≤ sizeLine; decide, fun bt11 bh11 => ?_⟩
      have bE11 : Ex bG10 (upd bG10 bt11 (.lst [.ref a])) := Ex.nw bh11
      have bN11 : bt11 ≠ p := bP10.off bh11
      have bP11 := bP10.up bE11
      have bF11 : (upd bG10 bt11 (.lst [.ref a])) bt11 = some (.lst [.ref a]) := upd_same
      generalize upd bG10 bt11 (.lst [.ref a]) = bG11 at bE11 bP11 bF11
      have bR11 : Ex (rm bG10 p) (rm bG11 p) := bE11.rm
      have bF11 : rm bG11 p bt11 = some (.lst [.ref a]) := by rw [rm_ne bN11]; exact bF11
      have bD11 : ExD p bG10 bG11 := bE11.d
      have bg11 : GdAll K (rm bG11 p) 1301 1 [.ref a] := (GdAll.cons ((Gd.list (m := 1300) ((bR1.tr (bR2.tr (bR3.tr (bR4.tr (bR5.tr (bR6.tr (bR8.tr (bR9.tr (bR10.tr bR11))))))))) _ _ ha) (gr.up (bR1.tr (bR2.tr (bR3.tr (bR4.tr (bR5.tr (bR6.tr (bR8.tr (bR9.tr (bR10.tr bR11)))))))))) (Lr) (by decide)).wide (by decide) (by decide)) GdAll.nil)
      refine ⟨by show 6 ≤ sizeLine; decide, fun bt12 bh12 => ?_⟩
      have bE12 : Ex bG11 (upd bG11 bt12 (.lst [.ref bt9, .non, .str "", .int 0, .ref bt10, .ref bt11])) := Ex.nw bh12
      have bN12 : bt12 ≠ p := bP11.off bh12
      have bP12 := bP11.up bE12
      have bF12 : (upd bG11 bt12 (.lst [.ref bt9, .non, .str "", .int 0, .ref bt10, .ref bt11])) bt12 = some (.lst [.ref bt9, .non, .str "", .int 0, .ref bt10, .ref bt11]) := upd_same
      generalize upd bG11 bt12 (.lst [.ref bt9, .non, .str "", .int 0, .ref bt10, .ref bt11]) = bG12 at bE12 bP12 bF12
      have bR12 : Ex (rm bG11 p) (rm bG12 p) := bE12.rm
      have bF12 : rm bG12 p bt12 = some (.lst [.ref bt9, .non, .str "", .int 0, .ref bt10, .ref bt11]) := by rw [rm_ne bN12]; exact bF12
      have bD12 : ExD p bG11 bG12 := bE12.d
      have bg12 : GdAll K (rm bG12 p) 1302 2 [.ref bt9, .non, .str "", .int 0, .ref bt10, .ref bt11] := (GdAll.cons ((Gd.tup (m := 1300) ((bR10.tr (bR11.tr bR12)) _ _ bF9) (bg9.up (bR10.tr (bR11.tr bR12))) (bL9)).wide (by decide) (by decide)) (GdAll.cons Gd.non (GdAll.cons (Gd.str (by decide +kernel)) (GdAll.cons (Gd.int (by decide +kernel)) (GdAll.cons (Gd.dict0 ((bR11.tr bR12) _ _ bF10)) (GdAll.cons ((Gd.list (m := 1) (bR12 _ _ bF11) (bg11.up bR12) (by show 1 ≤ 1; decide) (by decide)).wide (by decide) (by decide)) GdAll.nil))))))
      refine ⟨_, rfl, p, 6, _, rfl, by decide, bP12, by omega, fun bz13 bG13 bhz13 bP13 bD13 => ?_⟩
      have bR13 : Ex (rm bG12 p) (rm bG13 p) := bD13.rm
      obtain ⟨bx14, bhx14⟩ : ∃ x, ([.ref bt9, .non, .str "", .int 0, .ref bt10, .ref bt11] : List V)[(bz13).toNat]? = some x := ⟨_, List.getElem?_eq_getElem (show (bz13).toNat < ([.ref bt9, .non, .str "", .int 0, .ref bt10, .ref bt11] : List V).length by show _ < 6; omega)⟩
      have bg14 := (bg12.up bR13).at bhx14
      exact ⟨bt12, _, bz13, bx14, rfl, rfl, (.inl (.inl (rm_ex _ _ (bR13 _ _ bF12)))), atI_int bhz13.1 bhx14, q _ _ (bD1.tr (bD2.tr (bD3.tr (bD4.tr (bD5.tr (bD6.tr (bD8.tr (bD9.tr (bD10.tr (bD11.tr (bD12.tr bD13))))))))))) (bP13.mono (by omega)) (((bg14.up Ex.rfl).wide (by decide) (by decide)))⟩
    refine ⟨_, rfl, rfl, _, rfl, ite2 (fun _ => ?_) (fun _ => ?_)⟩
    · refine ⟨_, rfl, _, rfl, _, rfl, a, _, rfl, (.inl (.inl (rm_ex _ _ ((bR1.tr (bR2.tr (bR3.tr (bR4.tr (bR5.tr (bR6.tr bR8)))))) _ _ ha)))), fun bt9 bh9 => ?_⟩
      have bE9 : Ex bG8 (upd bG8 bt9 (.lst (cutV xs none (some bz5)))) := Ex.nw bh9
      have bN9 : bt9 ≠ p := bP8.off bh9
      have bP9 := bP8.up bE9
      have bF9 : (upd bG8 bt9 (.lst (cutV xs none (some bz5)))) bt9 = some (.lst (cutV xs none (some bz5))) := upd_same
      generalize upd bG8 bt9 (.lst (cutV xs none (some bz5))) = bG9 at bE9 bP9 bF9
      have bR9 : Ex (rm bG8 p) (rm bG9 p) := bE9.rm
      have bF9 : rm bG9 p bt9 = some (.lst (cutV xs none (some bz5))) := by rw [rm_ne bN9]; exact bF9
      have bD9 : ExD p bG8 bG9 := bE9.d
      have bg9 : GdAll K (rm bG9 p) 1 0 (cutV xs none (some bz5)) := (gr.up (bR1.tr (bR2.tr (bR3.tr (bR4.tr (bR5.tr (bR6.tr (bR8.tr bR9)))))))).cut
      have bL9 : ((cutV xs none (some bz5)) : List V).length ≤ 1300 := Nat.le_trans (cutV_length _ _ _) (Lr)
      generalize ((cutV xs none (some bz5)) : List V) = bys9 at bF9 bg9 bL9
      refine ⟨_, rfl, _, rfl, _, _, rfl, rfl, _, rfl, a, _, rfl, (.inl (.inl (rm_ex _ _ ((bR1.tr (bR2.tr (bR3.tr (bR4.tr (bR5.tr (bR6.tr (bR8.tr bR9))))))) _ _ ha)))), fun bt10 bh10 => ?_⟩
      have bE10 : Ex bG9 (upd bG9 bt10 (.lst (cutV xs (some (bz5 + 1)) none))) := Ex.nw bh10
      have bN10 : bt10 ≠ p := bP9.off bh10
      have bP10 := bP9.up bE10
      have bF10 : (upd bG9 bt10 (.lst (cutV xs (some (bz5 + 1)) none))) bt10 = some (.lst (cutV xs (some (bz5 + 1)) none)) := upd_same
      generalize upd bG9 bt10 (.lst (cutV xs (some (bz5 + 1)) none)) = bG10 at bE10 bP10 bF10
      have bR10 : Ex (rm bG9 p) (rm bG10 p) := bE10.rm
      have bF10 : rm bG10 p bt10 = some (.lst (cutV xs (some (bz5 + 1)) none)) := by rw [rm_ne bN10]; exact bF10
      have bD10 : ExD p bG9 bG10 := bE10.d
      have bg10 : GdAll K (rm bG10 p) 1 0 (cutV xs (some (bz5 + 1)) none) := (gr.up (bR1.tr (bR2.tr (bR3.tr (bR4.tr (bR5.tr (bR6.tr (bR8.tr (bR9.tr bR10))))))))).cut
      have bL10 : ((cutV xs (some (bz5 + 1)) none) : List V).length ≤ 1300 := Nat.le_trans (cutV_length _ _ _) (Lr)
      generalize ((cutV xs (some (bz5 + 1)) none) : List V) = bys10 at bF10 bg10 bL10
      refine ⟨bt9, bt10, _, _, rfl, rfl, (.inl (.inl (rm_ex _ _ (bR10 _ _ bF9)))), (.inl (.inl (rm_ex _ _ (Ex.rfl _ _ bF10)))), Nat.le_trans (Nat.add_le_add (bL9) (bL10)) (by decide : 1300 + 1300 ≤ 1000000), fun bt11 bh11 => ?_⟩
      have bE11 : Ex bG10 (upd bG10 bt11 (.lst (bys9 ++ bys10))) := Ex.nw bh11
      have bN11 : bt11 ≠ p := bP10.off bh11
      have bP11 := bP10.up bE11
      have bF11 : (upd bG10 bt11 (.lst (bys9 ++ bys10))) bt11 = some (.lst (bys9 ++ bys10)) := upd_same
      generalize upd bG10 bt11 (.lst (bys9 ++ bys10)) = bG11 at bE11 bP11 bF11
      have bR11 : Ex (rm bG10 p) (rm bG11 p) := bE11.rm
      have bF11 : rm bG11 p bt11 = some (.lst (bys9 ++ bys10)) := by rw [rm_ne bN11]; exact bF11
      have bD11 : ExD p bG10 bG11 := bE11.d
      have bg11 : GdAll K (rm bG11 p) 1 0 (bys9 ++ bys10) := ((bg9.up (bR10.tr bR11)).wide (by decide) (by decide)).app ((bg10.up bR11).wide (by decide) (by decide))
      have bL11 : ((bys9 ++ bys10) : List V).length ≤ 2600 := by rw [List.length_append]; exact Nat.add_le_add (bL9) (bL10)
      generalize ((bys9 ++ bys10) : List V) = bys11 at bF11 bg11 bL11
      exact q _ _ (bD1.tr (bD2.tr (bD3.tr (bD4.tr (bD5.tr (bD6.tr (bD8.tr (bD9.tr (bD10.tr bD11))))))))) (bP11.mono (by omega)) (((Gd.list (m := 2600) (Ex.rfl _ _ bF11) (bg11.up Ex.rfl) (bL11) (by decide)).wide (by decide) (by decide)))
    refine ⟨_, rfl, rfl, _, rfl, ite2 (fun _ => ?_) (fun _ => ?_)⟩
    · refine ⟨_, rfl, _, rfl, _, rfl, a, _, rfl, (.inl (.inl (rm_ex _ _ ((bR1.tr (bR2.tr (bR3.tr (bR4.tr (bR5.tr (bR6.tr bR8)))))) _ _ ha)))), fun bt9 bh9 => ?_⟩
      have bE9 : Ex bG8 (upd bG8 bt9 (.lst (cutV xs none (some bz5)))) := Ex.nw bh9
      have bN9 : bt9 ≠ p := bP8.off bh9
      have bP9 := bP8.up bE9
      have bF9 : (upd bG8 bt9 (.lst (cutV xs none (some bz5)))) bt9 = some (.lst (cutV xs none (some bz5))) := upd_same
      generalize upd bG8 bt9 (.lst (cutV xs none (some bz5))) = bG9 at bE9 bP9 bF9
      have bR9 : Ex (rm bG8 p) (rm bG9 p) := bE9.rm
      have bF9 : rm bG9 p bt9 = some (.lst (cutV xs none (some bz5))) := by rw [rm_ne bN9]; exact bF9
      have bD9 : ExD p bG8 bG9 := bE9.d
      have bg9 : GdAll K (rm bG9 p) 1 0 (cutV xs none (some bz5)) := (gr.up (bR1.tr (bR2.tr (bR3.tr (bR4.tr (bR5.tr (bR6.tr (bR8.tr bR9)))))))).cut
      have bL9 : ((cutV xs none (some bz5)) : List V).length ≤ 1300 := Nat.le_trans (cutV_length _ _ _) (Lr)
      generalize ((cutV xs none (some bz5)) : List V) = bys9 at bF9 bg9 bL9
      refine ⟨by show 1 ≤ sizeLine; decide, fun bt10 bh10 => ?_⟩
      have bE10 : Ex bG9 (upd bG9 bt10 (.lst [.int 1])) := Ex.nw bh10
      have bN10 : bt10 ≠ p := bP9.off bh10
      have bP10 := bP9.up bE10
      have bF10 : (upd bG9 bt10 (.lst [.int 1])) bt10 = some (.lst [.int 1]) := upd_same
      generalize upd bG9 bt10 (.lst [.int 1]) = bG10 at bE10 bP10 bF10
      have bR10 : Ex (rm bG9 p) (rm bG10 p) := bE10.rm
      have bF10 : rm bG10 p bt10 = some (.lst [.int 1]) := by rw [rm_ne bN10]; exact bF10
      have bD10 : ExD p bG9 bG10 := bE10.d
      have bg10 : GdAll K (rm bG10 p) 1 1 [.int 1] := (GdAll.cons (Gd.int (by decide +kernel)) GdAll.nil)
      refine ⟨bt9, bt10, _, _, rfl, rfl, (.inl (.inl (rm_ex _ _ (bR10 _ _ bF9)))), (.inl (.inl (rm_ex _ _ (Ex.rfl _ _ bF10)))), Nat.le_trans (Nat.add_le_add (bL9) (by show 1 ≤ 1; decide)) (by decide : 1300 + 1 ≤ 1000000), fun bt11 bh11 => ?_⟩
      have bE11 : Ex bG10 (upd bG10 bt11 (.lst (bys9 ++ [.int 1]))) := Ex.nw bh11
      have bN11 : bt11 ≠ p := bP10.off bh11
      have bP11 := bP10.up bE11
      have bF11 : (upd bG10 bt11 (.lst (bys9 ++ [.int 1]))) bt11 = some (.lst (bys9 ++ [.int 1])) := upd_same
      generalize upd bG10 bt11 (.lst (bys9 ++ [.int 1])) = bG11 at bE11 bP11 bF11
      have bR11 : Ex (rm bG10 p) (rm bG11 p) := bE11.rm
      have bF11 : rm bG11 p bt11 = some (.lst (bys9 ++ [.int 1])) := by rw [rm_ne bN11]; exact bF11
      have bD11 : ExD p bG10 bG11 := bE11.d
      have bg11 : GdAll K (rm bG11 p) 1 1 (bys9 ++ [.int 1]) := ((bg9.up (bR10.tr bR11)).wide (by decide) (by decide)).app ((bg10.up bR11).wide (by decide) (by decide))
      have bL11 : ((bys9 ++ [.int 1]) : List V).length ≤ 1301 := by rw [List.length_append]; exact Nat.add_le_add (bL9) (by show 1 ≤ 1; decide)
      generalize ((bys9 ++ [.int 1]) : List V) = bys11 at bF11 bg11 bL11
      refine ⟨_, rfl, _, rfl, _, rfl, a, _, rfl, (.inl (.inl (rm_ex _ _ ((bR1.tr (bR2.tr (bR3.tr (bR4.tr (bR5.tr (bR6.tr (bR8.tr (bR9.tr (bR10.tr bR11))))))))) _ _ ha)))), fun bt12 bh12 => ?_⟩
      have bE12 : Ex bG11 (upd bG11 bt12 (.lst (cutV xs (some bz5) none))) := Ex.nw bh12
      have bN12 : bt12 ≠ p := bP11.off bh12
      have bP12 := bP11.up bE12
      have bF12 : (upd bG11 bt12 (.lst (cutV xs (some bz5) none))) bt12 = some (.lst (cutV xs (some bz5) none)) := upd_same
      generalize upd bG11 bt12 (.lst (cutV xs (some bz5) none)) = bG12 at bE12 bP12 bF12
      have bR12 : Ex (rm bG11 p) (rm bG12 p) := bE12.rm
      have bF12 : rm bG12 p bt12 = some (.lst (cutV xs (some bz5) none)) := by rw [rm_ne bN12]; exact bF12
      have bD12 : ExD p bG11 bG12 := bE12.d
      have bg12 : GdAll K (rm bG12 p) 1 0 (cutV xs (some bz5) none) := (gr.up (bR1.tr (bR2.tr (bR3.tr (bR4.tr (bR5.tr (bR6.tr (bR8.tr (bR9.tr (bR10.tr (bR11.tr bR12))))))))))).cut
      have bL12 : ((cutV xs (some bz5) none) : List V).length ≤ 1300 := Nat.le_trans (cutV_length _ _ _) (Lr)
      generalize ((cutV xs (some bz5) none) : List V) = bys12 at bF12 bg12 bL12
      refine ⟨bt11, bt12, _, _, rfl, rfl, (.inl (.inl (rm_ex _ _ (bR12 _ _ bF11)))), (.inl (.inl (rm_ex _ _ (Ex.rfl _ _ bF12)))), Nat.le_trans (Nat.add_le_add (bL11) (bL12)) (by decide : 1301 + 1300 ≤ 1000000), fun bt13 bh13 => ?_⟩
      have bE13 : Ex bG12 (upd bG12 bt13 (.lst (bys11 ++ bys12))) := Ex.nw bh13
      have bN13 : bt13 ≠ p := bP12.off bh13
      have bP13 := bP12.up bE13
      have bF13 : (upd bG12 bt13 (.lst (bys11 ++ bys12))) bt13 = some (.lst (bys11 ++ bys12)) := upd_same
      generalize upd bG12 bt13 (.lst (bys11 ++ bys12)) = bG13 at bE13 bP13 bF13
      have bR13 : Ex (rm bG12 p) (rm bG13 p) := bE13.rm
      have bF13 : rm bG13 p bt13 = some (.lst (bys11 ++ bys12)) := by rw [rm_ne bN13]; exact bF13
      have bD13 : ExD p bG12 bG13 := bE13.d
      have bg13 : GdAll K (rm bG13 p) 1 1 (bys11 ++ bys12) := ((bg11.up (bR12.tr bR13)).wide (by decide) (by decide)).app ((bg12.up bR13).wide (by decide) (by decide))
      have bL13 : ((bys11 ++ bys12) : List V).length ≤ 2601 := by rw [List.length_append]; exact Nat.add_le_add (bL11) (bL12)
      generalize ((bys11 ++ bys12) : List V) = bys13 at bF13 bg13 bL13
      exact q _ _ (bD1.tr (bD2.tr (bD3.tr (bD4.tr (bD5.tr (bD6.tr (bD8.tr (bD9.tr (bD10.tr (bD11.tr (bD12.tr bD13))))))))))) (bP13.mono (by omega)) (((Gd.list (m := 2601) (Ex.rfl _ _ bF13) (bg13.up Ex.rfl) (bL13) (by decide)).wide (by decide) (by decide)))
    refine ⟨_, rfl, _, rfl, _, rfl, a, _, rfl, (.inl (.inl (rm_ex _ _ ((bR1.tr (bR2.tr (bR3.tr (bR4.tr (bR5.tr (bR6.tr bR8)))))) _ _ ha)))), fun bt9 bh9 => ?_⟩
    have bE9 : Ex bG8 (upd bG8 bt9 (.lst (cutV xs none (some bz5)))) := Ex.nw bh9
    have bN9 : bt9 ≠ p := bP8.off bh9
    have bP9 := bP8.up bE9
    have bF9 : (upd bG8 bt9 (.lst (cutV xs none (some bz5)))) bt9 = some (.lst (cutV xs none (some bz5))) := upd_same
    generalize upd bG8 bt9 (.lst (cutV xs none (some bz5))) = bG9 at bE9 bP9 bF9
    have bR9 : Ex (rm bG8 p) (rm bG9 p) := bE9.rm
    have bF9 : rm bG9 p bt9 = some (.lst (cutV xs none (some bz5))) := by rw [rm_ne bN9]; exact bF9
    have bD9 : ExD p bG8 bG9 := bE9.d
    have bg9 : GdAll K (rm bG9 p) 1 0 (cutV xs none (some bz5)) := (gr.up (bR1.tr (bR2.tr (bR3.tr (bR4.tr (bR5.tr (bR6.tr (bR8.tr bR9)))))))).cut
    have bL9 : ((cutV xs none (some bz5)) : List V).length ≤ 1300 := Nat.le_trans (cutV_length _ _ _) (Lr)
    generalize ((cutV xs none (some bz5)) : List V) = bys9 at bF9 bg9 bL9
    refine ⟨_, rfl, by show 1 ≤ sizeLine; decide, fun bt10 bh10 => ?_⟩
    have bE10 : Ex bG9 (upd bG9 bt10 (.lst [bx7])) := Ex.nw bh10
    have bN10 : bt10 ≠ p := bP9.off bh10
    have bP10 := bP9.up bE10
    have bF10 : (upd bG9 bt10 (.lst [bx7])) bt10 = some (.lst [bx7]) := upd_same
    generalize upd bG9 bt10 (.lst [bx7]) = bG10 at bE10 bP10 bF10
    have bR10 : Ex (rm bG9 p) (rm bG10 p) := bE10.rm
    have bF10 : rm bG10 p bt10 = some (.lst [bx7]) := by rw [rm_ne bN10]; exact bF10
    have bD10 : ExD p bG9 bG10 := bE10.d
    have bg10 : GdAll K (rm bG10 p) 2 2 [bx7] := (GdAll.cons ((bg7.up (bR8.tr (bR9.tr bR10))).wide (by decide) (by decide)) GdAll.nil)
    refine ⟨bt9, bt10, _, _, rfl, rfl, (.inl (.inl (rm_ex _ _ (bR10 _ _ bF9)))), (.inl (.inl (rm_ex _ _ (Ex.rfl _ _ bF10)))), Nat.le_trans (Nat.add_le_add (bL9) (by show 1 ≤ 1; decide)) (by decide : 1300 + 1 ≤ 1000000), fun bt11 bh11 => ?_⟩
    have bE11 : Ex bG10 (upd bG10 bt11 (.lst (bys9 ++ [bx7]))) := Ex.nw bh11
    have bN11 : bt11 ≠ p := bP10.off bh11
    have bP11 := bP10.up bE11
    have bF11 : (upd bG10 bt11 (.lst (bys9 ++ [bx7]))) bt11 = some (.lst (bys9 ++ [bx7])) := upd_same
    generalize upd bG10 bt11 (.lst (bys9 ++ [bx7])) = bG11 at bE11 bP11 bF11
    have bR11 : Ex (rm bG10 p) (rm bG11 p) := bE11.rm
    have bF11 : rm bG11 p bt11 = some (.lst (bys9 ++ [bx7])) := by rw [rm_ne bN11]; exact bF11
    have bD11 : ExD p bG10 bG11 := bE11.d
    have bg11 : GdAll K (rm bG11 p) 2 2 (bys9 ++ [bx7]) := ((bg9.up (bR10.tr bR11)).wide (by decide) (by decide)).app ((bg10.up bR11).wide (by decide) (by decide))
    have bL11 : ((bys9 ++ [bx7]) : List V).length ≤ 1301 := by rw [List.length_append]; exact Nat.add_le_add (bL9) (by show 1 ≤ 1; decide)
    generalize ((bys9 ++ [bx7]) : List V) = bys11 at bF11 bg11 bL11
    refine ⟨_, rfl, _, rfl, _, _, rfl, rfl, _, rfl, a, _, rfl, (.inl (.inl (rm_ex _ _ ((bR1.tr (bR2.tr (bR3.tr (bR4.tr (bR5.tr (bR6.tr (bR8.tr (bR9.tr (bR10.tr bR11))))))))) _ _ ha)))), fun bt12 bh12 => ?_⟩
    have bE12 : Ex bG11 (upd bG11 bt12 (.lst (cutV xs (some (bz5 + 1)) none))) := Ex.nw bh12
    have bN12 : bt12 ≠ p := bP11.off bh12
    have bP12 := bP11.up bE12
    have bF12 : (upd bG11 bt12 (.lst (cutV xs (some (bz5 + 1)) none))) bt12 = some (.lst (cutV xs (some (bz5 + 1)) none)) := upd_same
    generalize upd bG11 bt12 (.lst (cutV xs (some (bz5 + 1)) none)) = bG12 at bE12 bP12 bF12
    have bR12 : Ex (rm bG11 p) (rm bG12 p) := bE12.rm
    have bF12 : rm bG12 p bt12 = some (.lst (cutV xs (some (bz5 + 1)) none)) := by rw [rm_ne bN12]; exact bF12
    have bD12 : ExD p bG11 bG12 := bE12.d
    have bg12 : GdAll K (rm bG12 p) 1 0 (cutV xs (some (bz5 + 1)) none) := (gr.up (bR1.tr (bR2.tr (bR3.tr (bR4.tr (bR5.tr (bR6.tr (bR8.tr (bR9.tr (bR10.tr (bR11.tr bR12))))))))))).cut
    have bL12 : ((cutV xs (some (bz5 + 1)) none) : List V).length ≤ 1300 := Nat.le_trans (cutV_length _ _ _) (Lr)
    generalize ((cutV xs (some (bz5 + 1)) none) : List V) = bys12 at bF12 bg12 bL12
    refine ⟨bt11, bt12, _, _, rfl, rfl, (.inl (.inl (rm_ex _ _ (bR12 _ _ bF11)))), (.inl (.inl (rm_ex _ _ (Ex.rfl _ _ bF12)))), Nat.le_trans (Nat.add_le_add (bL11) (bL12)) (by decide : 1301 + 1300 ≤ 1000000), fun bt13 bh13 => ?_⟩
    have bE13 : Ex bG12 (upd bG12 bt13 (.lst (bys11 ++ bys12))) := Ex.nw bh13
    have bN13 : bt13 ≠ p := bP12.off bh13
    have bP13 := bP12.up bE13
    have bF13 : (upd bG12 bt13 (.lst (bys11 ++ bys12))) bt13 = some (.lst (bys11 ++ bys12)) := upd_same
    generalize upd bG12 bt13 (.lst (bys11 ++ bys12)) = bG13 at bE13 bP13 bF13
    have bR13 : Ex (rm bG12 p) (rm bG13 p) := bE13.rm
    have bF13 : rm bG13 p bt13 = some (.lst (bys11 ++ bys12)) := by rw [rm_ne bN13]; exact bF13
    have bD13 : ExD p bG12 bG13 := bE13.d
    have bg13 : GdAll K (rm bG13 p) 2 2 (bys11 ++ bys12) := ((bg11.up (bR12.tr bR13)).wide (by decide) (by decide)).app ((bg12.up bR13).wide (by decide) (by decide))
    have bL13 : ((bys11 ++ bys12) : List V).length ≤ 2601 := by rw [List.length_append]; exact Nat.add_le_add (bL11) (bL12)
    generalize ((bys11 ++ bys12) : List V) = bys13 at bF13 bg13 bL13
    exact q _ _ (bD1.tr (bD2.tr (bD3.tr (bD4.tr (bD5.tr (bD6.tr (bD8.tr (bD9.tr (bD10.tr (bD11.tr (bD12.tr bD13))))))))))) (bP13.mono (by omega)) (((Gd.list (m := 2601) (Ex.rfl _ _ bF13) (bg13.up Ex.rfl) (bL13) (by decide)).wide (by decide) (by decide)))
end

end K21
namespace K21
open PySem PySem.Spec PyProof.Rows L2 Nw
/-! _law_bent: slots 0 _law_purse_here, 1 _law_filling_here, 2 _law_numbers_here, 3 _law_rows, 4 _law_way, 5 _law_some, 6 _law_at -/
abbrev s_bent : Stmt := topS 32
abbrev N_bent : List Str := ["_law_purse_here", "_law_filling_here", "_law_numbers_here", "_law_rows", "_law_way", "_law_some", "_law_at"]
abbrev P_bent : List Str := ["_law_purse_here", "_law_filling_here"]
theorem sc_bent : FnScope N_bent P_bent (defScope s_bent) := ⟨rfl, rfl, rfl, by decide +kernel, rfl, by decide +kernel, by decide +kernel⟩
/-- a filling with one thing otherwise, or something else -/
def sp_bent (K : PySem.W.Frag) : Sp := fun vs H Q _ => ∃ (p : Addr) (v : V) (u : Wb) (f : Fl) (m : Nat), vs = [.ref p, v] ∧ Da K (rm H p) (Fl.d f) v ∧ u.Ok ∧ f.Ok u ∧ Purse H p m ∧ m ≤ 900000 ∧
  ∀ v H', ExD p H H' → Purse H' p (m + 8) → Gd K (rm H' p) 300000 9 v → Q v H'
section
variable {P : Program} {w : World} {K : PySem.W.Frag} {mg : Str → Option Value} {base : Heap}
theorem ok_bent {f : Addr} {fd : FuncData} (T : Txt K mg) (F : Fun K "_law_bent" "_law_bent" s_bent f fd)
    (D_coin : DefOk P w K mg base CX0 1 "_law_coin" P_coin (sp_coin K))
    (D_bent_list : DefOk P w K mg base CX0 2 "_law_bent_list" P_bent_list (sp_bent_list K)) :
    FnG P w K mg base CX0 3 f fd P_bent (sp_bent K) := by
  refine okG0 F sc_bent (fun vs H Q E h => ?_) (fun cdv A outer s H vs Q E hr hq h => ?_)
  · obtain ⟨p, v, u, f, m, rfl, _⟩ := h
    rfl
  · obtain ⟨p, v, u, f, m, rfl, hf, hu, hok, hp, hm, q⟩ := h
    obtain ⟨t, x1, x2, rfl, hT, g1, ⟨b, ys, rfl, hB, hAB, hzB⟩⟩ := Fl.at hf
    obtain ⟨a, zs, rfl, hA, hAA, hzA⟩ := g1
    obtain rfl := DaAll.ints.mp hAA
    have hlx : f.xs.length ≤ 1300 := by
      have h1 := hok.len
      have h2 := hu.len
      omega
    have hls : f.ss.length ≤ 8 := by
      have h1 := hok.slen
      have h2 := hu.few
      omega
    have hlr : ∀ r ∈ f.ss, r.length ≤ 20 := by
      intro r hr
      obtain ⟨k, hk⟩ := List.mem_iff_getElem?.mp hr
      have hk2 : k < u.ns.length := by
        rw [← hok.slen]
        exact (List.getElem?_eq_some_iff.mp hk).1
      rw [hok.rlen hk (List.getElem?_eq_getElem hk2)]
      exact hu.row (List.getElem_mem hk2)
    have hn : ∀ x : Int, NumOk x → x.natAbs < 10000000000000000000000000000000000000000 := by
      intro x hx
      have := hx.2.1
      have := hx.2.2
      omega
    have ga : GdAll K (rm H p) 1 0 (f.xs.map V.int) := ⟨_, hAA, fun x hx => by
      obtain ⟨y, hy, rfl⟩ := List.mem_map.mp hx
      exact Sh.int (k := 40) (by decide) (small40 (hn y (hok.num y hy))).1 (small40 (hn y (hok.num y hy))).2⟩
    have La : (f.xs.map V.int).length ≤ 1300 := by
      rw [List.length_map]
      exact hlx
    have gb : GdAll K (rm H p) 21 1 ys := ⟨_, hAB, fun x hx => by
      obtain ⟨r, hr, rfl⟩ := List.mem_map.mp hx
      exact Sh.ints (k := 40) (m := 20) (by decide) (fun x hx => (small40 (hn x (hok.rnum r hr x hx))).1) (fun x hx => (small40 (hn x (hok.rnum r hr x hx))).2) (hlr r hr)⟩
    have hby := hAB.len
    rw [List.length_map] at hby
    have Lb : ys.length ≤ 8 := by omega
    refine ⟨_, (pss_cons (ps_asg (pv 1) (pg_tupK (n := 2) K rfl (pgs_cons (pg_name (i := 2) sc_bent.nd rfl (by first | exact .inl rfl | exact .inr rfl)) (pgs_cons (pg_name (i := 3) sc_bent.nd rfl (by first | exact .inl rfl | exact .inr rfl)) pgs_nil))))
      (pss_cons (ps_set (i := 4) sc_bent.nd rfl (by first | exact .inl rfl | exact .inr rfl) (pe_callD D_coin (hr.mono (by decide)) hq pass0 (pa_cons (pv 0) (pa_cons pe_int pa_nil))))
      (pss_cons (ps_if (pt_cmpR op_eq (pv 4) pe_int (nomark _)) (pss_cons (ps_set (i := 5) sc_bent.nd rfl (by first | exact .inl rfl | exact .inr rfl) (pe_lst (pa_cons (pe_lst (pa_cons (pv 2) (pa_cons (pv 3) pa_nil))) (pa_cons (pe_tup (pa_cons (pv 2) pa_nil)) (pa_cons (pe_tup (pa_cons (pv 2) (pa_cons (pv 3) (pa_cons (pe_lst pa_nil) pa_nil)))) (pa_cons (pe_tup (pa_cons (pv 3) (pa_cons (pv 2) pa_nil))) (pa_cons pe_non pa_nil)))))))
      (pss_one (ps_ret (pe_ix (ix_listK K) (pv 5) (pe_callD D_coin (hr.mono (by decide)) hq pass0 (pa_cons (pv 0) (pa_cons pe_int pa_nil))) (fun _ _ => rfl))))) pss_nil)
      (pss_cons (ps_if (pt_cmpR op_eq (pv 4) pe_int (nomark _)) (pss_one (ps_ret (pe_tup (pa_cons (pv 2) (pa_cons (pe_ix (ix_listK K) (pe_lst (pa_cons (pe_callTy (call_tupleK K) (by rfl) T.b_tuple bt_tuple (pa_cons (pv 3) pa_nil)) (pa_cons pe_non (pa_cons pe_str (pa_cons (pe_op (op_catS K) (pv 3) (pe_lst (pa_cons (pe_lst (pa_cons pe_int pa_nil)) pa_nil))) (pa_cons (pe_slice (sl_listK K) (pv 3) (po_some pe_int) po_none) (pa_cons (pe_revL (pv 3)) (pa_cons pe_dnewK pa_nil)))))))) (pe_callD D_coin (hr.mono (by decide)) hq pass0 (pa_cons (pv 0) (pa_cons pe_int pa_nil))) (fun _ _ => rfl)) pa_nil))))) pss_nil)
      (pss_cons (ps_if (PW.pt (pw_and (pt_cmpR op_eq (pv 4) pe_int (nomark _)) (pw_and1 (pt_cmpR (op_neDk K hr.units) (pv 3) (pe_lst pa_nil) (nomark _))))) (pss_cons (ps_set (i := 6) sc_bent.nd rfl (by first | exact .inl rfl | exact .inr rfl) (pe_callD D_coin (hr.mono (by decide)) hq pass0 (pa_cons (pv 0) (pa_cons (pe_callB (call_lenK K) (by rfl) T.b_len bt_len (pa_cons (pv 3) pa_nil)) pa_nil))))
      (pss_one (ps_ret (pe_tup (pa_cons (pv 2) (pa_cons (pe_op (op_catS K) (pe_op (op_catS K) (pe_slice (sl_listK K) (pv 3) po_none (po_some (pv 6))) (pe_lst (pa_cons (pe_callD D_bent_list (hr.mono (by decide)) hq pass0 (pa_cons (pv 0) (pa_cons (pe_ix (ix_listK K) (pv 3) (pv 6) (fun _ _ => rfl)) pa_nil))) pa_nil))) (pe_slice (sl_listK K) (pv 3) (po_some (pe_op op_add (pv 6) pe_int)) po_none)) pa_nil)))))) pss_nil)
      (pss_one (ps_ret (pe_tup (pa_cons (pe_callD D_bent_list (hr.mono (by decide)) hq pass0 (pa_cons (pv 0) (pa_cons (pv 2) pa_nil))) (pa_cons (pv 3) pa_nil)))))))))), ?_⟩
    refine ⟨_, rfl, t, _, rfl, rm_ex.t hT, rfl, _, _, rfl, _, _, rfl, rfl, _, rfl, p, 6, _, rfl, by decide, hp, by omega, fun bz1 bG1 bhz1 bP1 bD1 => ?_⟩
    have bR1 : Ex (rm H p) (rm bG1 p) := bD1.rm
    refine ⟨_, rfl, rfl, _, rfl, ite2 (fun _ => ?_) (fun _ => ?_)⟩
    · refine ⟨_, rfl, _, rfl, by show 2 ≤ sizeLine; decide, fun bt2 bh2 => ?_⟩
      have bE2 : Ex bG1 (upd bG1 bt2 (.lst [.ref a, .ref b])) := Ex.nw bh2
      have bN2 : bt2 ≠ p := bP1.off bh2
      have bP2 := bP1.up bE2
      have bF2 : (upd bG1 bt2 (.lst [.ref a, .ref b])) bt2 = some (.lst [.ref a, .ref b]) := upd_same
      generalize upd bG1 bt2 (.lst [.ref a, .ref b]) = bG2 at bE2 bP2 bF2
      have bR2 : Ex (rm bG1 p) (rm bG2 p) := bE2.rm
      have bF2 : rm bG2 p bt2 = some (.lst [.ref a, .ref b]) := by rw [rm_ne bN2]; exact bF2
      have bD2 : ExD p bG1 bG2 := bE2.d
      have bg2 : GdAll K (rm bG2 p) 1301 2 [.ref a, .ref b] := (GdAll.cons ((Gd.list (m := 1300) ((bR1.tr bR2) _ _ hA) (ga.up (bR1.tr bR2)) (La) (by decide)).wide (by decide) (by decide)) (GdAll.cons ((Gd.list (m := 8) ((bR1.tr bR2) _ _ hB) (gb.up (bR1.tr bR2)) (Lb) (by decide)).wide (by decide) (by decide)) GdAll.nil))
      refine ⟨_, rfl, by show 1 ≤ sizeLine; decide, fun bt3 bh3 => ?_⟩
      have bE3 : Ex bG2 (upd bG2 bt3 (.tup [.ref a])) := Ex.nw bh3
      have bN3 : bt3 ≠ p := bP2.off bh3
      have bP3 := bP2.up bE3
      have bF3 : (upd bG2 bt3 (.tup [.ref a])) bt3 = some (.tup [.ref a]) := upd_same
      generalize upd bG2 bt3 (.tup [.ref a]) = bG3 at bE3 bP3 bF3
      have bR3 : Ex (rm bG2 p) (rm bG3 p) := bE3.rm
      have bF3 : rm bG3 p bt3 = some (.tup [.ref a]) := by rw [rm_ne bN3]; exact bF3
      have bD3 : ExD p bG2 bG3 := bE3.d
      have bg3 : GdAll K (rm bG3 p) 1301 1 [.ref a] := (GdAll.cons ((Gd.list (m := 1300) ((bR1.tr (bR2.tr bR3)) _ _ hA) (ga.up (bR1.tr (bR2.tr bR3))) (La) (by decide)).wide (by decide) (by decide)) GdAll.nil)
      refine ⟨_, rfl, _, rfl, Nat.zero_le _, fun bt4 bh4 => ?_⟩
      have bE4 : Ex bG3 (upd bG3 bt4 (.lst [])) := Ex.nw bh4
      have bN4 : bt4 ≠ p := bP3.off bh4
      have bP4 := bP3.up bE4
      have bF4 : (upd bG3 bt4 (.lst [])) bt4 = some (.lst []) := upd_same
      generalize upd bG3 bt4 (.lst []) = bG4 at bE4 bP4 bF4
      have bR4 : Ex (rm bG3 p) (rm bG4 p) := bE4.rm
      have bF4 : rm bG4 p bt4 = some (.lst []) := by rw [rm_ne bN4]; exact bF4
      have bD4 : ExD p bG3 bG4 := bE4.d
      have bg4 : GdAll K (rm bG4 p) 1 1 [] := GdAll.nil
      refine ⟨by show 3 ≤ sizeLine; decide, fun bt5 bh5 => ?_⟩
      have bE5 : Ex bG4 (upd bG4 bt5 (.tup [.ref a, .ref b, .ref bt4])) := Ex.nw bh5
      have bN5 : bt5 ≠ p := bP4.off bh5
      have bP5 := bP4.up bE5
      have bF5 : (upd bG4 bt5 (.tup [.ref a, .ref b, .ref bt4])) bt5 = some (.tup [.ref a, .ref b, .ref bt4]) := upd_same
      generalize upd bG4 bt5 (.tup [.ref a, .ref b, .ref bt4]) = bG5 at bE5 bP5 bF5
      have bR5 : Ex (rm bG4 p) (rm bG5 p) := bE5.rm
      have bF5 : rm bG5 p bt5 = some (.tup [.ref a, .ref b, .ref bt4]) := by rw [rm_ne bN5]; exact bF5
      have bD5 : ExD p bG4 bG5 := bE5.d
      have bg5 : GdAll K (rm bG5 p) 1301 2 [.ref a, .ref b, .ref bt4] := (GdAll.cons ((Gd.list (m := 1300) ((bR1.tr (bR2.tr (bR3.tr (bR4.tr bR5)))) _ _ hA) (ga.up (bR1.tr (bR2.tr (bR3.tr (bR4.tr bR5))))) (La) (by decide)).wide (by decide) (by decide)) (GdAll.cons ((Gd.list (m := 8) ((bR1.tr (bR2.tr (bR3.tr (bR4.tr bR5)))) _ _ hB) (gb.up (bR1.tr (bR2.tr (bR3.tr (bR4.tr bR5))))) (Lb) (by decide)).wide (by decide) (by decide)) (GdAll.cons ((Gd.list (m := 1) (bR5 _ _ bF4) (bg4.up bR5) (by show 0 ≤ 1; decide) (by decide)).wide (by decide) (by decide)) GdAll.nil)))
      refine ⟨_, rfl, _, rfl, by show 2 ≤ sizeLine; decide, fun bt6 bh6 => ?_⟩
      have bE6 : Ex bG5 (upd bG5 bt6 (.tup [.ref b, .ref a])) := Ex.nw bh6
      have bN6 : bt6 ≠ p := bP5.off bh6
      have bP6 := bP5.up bE6
      have bF6 : (upd bG5 bt6 (.tup [.ref b, .ref a])) bt6 = some (.tup [.ref b, .ref a]) := upd_same
      generalize upd bG5 bt6 (.tup [.ref b, .ref a]) = bG6 at bE6 bP6 bF6
      have bR6 : Ex (rm bG5 p) (rm bG6 p) := bE6.rm
      have bF6 : rm bG6 p bt6 = some (.tup [.ref b, .ref a]) := by rw [rm_ne bN6]; exact bF6
      have bD6 : ExD p bG5 bG6 := bE6.d
      have bg6 : GdAll K (rm bG6 p) 1301 2 [.ref b, .ref a] := (GdAll.cons ((Gd.list (m := 8) ((bR1.tr (bR2.tr (bR3.tr (bR4.tr (bR5.tr bR6))))) _ _ hB) (gb.up (bR1.tr (bR2.tr (bR3.tr (bR4.tr (bR5.tr bR6)))))) (Lb) (by decide)).wide (by decide) (by decide)) (GdAll.cons ((Gd.list (m := 1300) ((bR1.tr (bR2.tr (bR3.tr (bR4.tr (bR5.tr bR6))))) _ _ hA) (ga.up (bR1.tr (bR2.tr (bR3.tr (bR4.tr (bR5.tr bR6)))))) (La) (by decide)).wide (by decide) (by decide)) GdAll.nil))
      refine ⟨by show 5 ≤ sizeLine; decide, fun bt7 bh7 => ?_⟩
      have bE7 : Ex bG6 (upd bG6 bt7 (.lst [.ref bt2, .ref bt3, .ref bt5, .ref bt6, .non])) := Ex.nw bh7
      have bN7 : bt7 ≠ p := bP6.off bh7
      have bP7 := bP6.up bE7
      have bF7 : (upd bG6 bt7 (.lst [.ref bt2, .ref bt3, .ref bt5, .ref bt6, .non])) bt7 = some (.lst [.ref bt2, .ref bt3, .ref bt5, .ref bt6, .non]) := upd_same
      generalize upd bG6 bt7 (.lst [.ref bt2, .ref bt3, .ref bt5, .ref bt6, .non]) = bG7 at bE7 bP7 bF7
      have bR7 : Ex (rm bG6 p) (rm bG7 p) := bE7.rm
      have bF7 : rm bG7 p bt7 = some (.lst [.ref bt2, .ref bt3, .ref bt5, .ref bt6, .non]) := by rw [rm_ne bN7]; exact bF7
      have bD7 : ExD p bG6 bG7 := bE7.d
      have bg7 : GdAll K (rm bG7 p) 3904 3 [.ref bt2, .ref bt3, .ref bt5, .ref bt6, .non] := (GdAll.cons ((Gd.list (m := 2) ((bR3.tr (bR4.tr (bR5.tr (bR6.tr bR7)))) _ _ bF2) (bg2.up (bR3.tr (bR4.tr (bR5.tr (bR6.tr bR7))))) (by show 2 ≤ 2; decide) (by decide)).wide (by decide) (by decide)) (GdAll.cons ((Gd.tup (m := 1) ((bR4.tr (bR5.tr (bR6.tr bR7))) _ _ bF3) (bg3.up (bR4.tr (bR5.tr (bR6.tr bR7)))) (by show 1 ≤ 1; decide)).wide (by decide) (by decide)) (GdAll.cons ((Gd.tup (m := 3) ((bR6.tr bR7) _ _ bF5) (bg5.up (bR6.tr bR7)) (by show 3 ≤ 3; decide)).wide (by decide) (by decide)) (GdAll.cons ((Gd.tup (m := 2) (bR7 _ _ bF6) (bg6.up bR7) (by show 2 ≤ 2; decide)).wide (by decide) (by decide)) (GdAll.cons Gd.non GdAll.nil)))))
      refine ⟨_, rfl, _, rfl, p, 5, _, rfl, by decide, bP7, by omega, fun bz8 bG8 bhz8 bP8 bD8 => ?_⟩
      have bR8 : Ex (rm bG7 p) (rm bG8 p) := bD8.rm
      obtain ⟨bx9, bhx9⟩ : ∃ x, ([.ref bt2, .ref bt3, .ref bt5, .ref bt6, .non] : List V)[(bz8).toNat]? = some x := ⟨_, List.getElem?_eq_getElem (show (bz8).toNat < ([.ref bt2, .ref bt3, .ref bt5, .ref bt6, .non] : List V).length by show _ < 5; omega)⟩
      have bg9 := (bg7.up bR8).at bhx9
      exact ⟨bt7, _, bz8, bx9, rfl, rfl, (.inl (.inl (rm_ex _ _ (bR8 _ _ bF7)))), atI_int bhz8.1 bhx9, q _ _ (bD1.tr (bD2.tr (bD3.tr (bD4.tr (bD5.tr (bD6.tr (bD7.tr bD8))))))) (bP8.mono (by omega)) (((bg9.up Ex.rfl).wide (by decide) (by decide)))⟩
    refine ⟨_, rfl, rfl, _, rfl, ite2 (fun _ => ?_) (fun _ => ?_)⟩
    · refine ⟨_, rfl, _, rfl, b, _, rfl, .inl ⟨(.inl (.inl (rm_ex _ _ (bR1 _ _ hB)))), fun bt2 bh2 => ?_⟩⟩
      have bE2 : Ex bG1 (upd bG1 bt2 (.tup ys)) := Ex.nw bh2
      have bN2 : bt2 ≠ p := bP1.off bh2
      have bP2 := bP1.up bE2
      have bF2 : (upd bG1 bt2 (.tup ys)) bt2 = some (.tup ys) := upd_same
      generalize upd bG1 bt2 (.tup ys) = bG2 at bE2 bP2 bF2
      have bR2 : Ex (rm bG1 p) (rm bG2 p) := bE2.rm
      have bF2 : rm bG2 p bt2 = some (.tup ys) := by rw [rm_ne bN2]; exact bF2
      have bD2 : ExD p bG1 bG2 := bE2.d
      have bg2 : GdAll K (rm bG2 p) 21 1 ys := gb.up (bR1.tr bR2)
      have bL2 : (ys : List V).length ≤ 8 := Lb
      generalize (ys : List V) = bys2 at bF2 bg2 bL2
      refine ⟨_, rfl, by show 1 ≤ sizeLine; decide, fun bt3 bh3 => ?_⟩
      have bE3 : Ex bG2 (upd bG2 bt3 (.lst [.int 1])) := Ex.nw bh3
      have bN3 : bt3 ≠ p := bP2.off bh3
      have bP3 := bP2.up bE3
      have bF3 : (upd bG2 bt3 (.lst [.int 1])) bt3 = some (.lst [.int 1]) := upd_same
      generalize upd bG2 bt3 (.lst [.int 1]) = bG3 at bE3 bP3 bF3
      have bR3 : Ex (rm bG2 p) (rm bG3 p) := bE3.rm
      have bF3 : rm bG3 p bt3 = some (.lst [.int 1]) := by rw [rm_ne bN3]; exact bF3
      have bD3 : ExD p bG2 bG3 := bE3.d
      have bg3 : GdAll K (rm bG3 p) 1 1 [.int 1] := (GdAll.cons (Gd.int (by decide +kernel)) GdAll.nil)
      refine ⟨by show 1 ≤ sizeLine; decide, fun bt4 bh4 => ?_⟩
      have bE4 : Ex bG3 (upd bG3 bt4 (.lst [.ref bt3])) := Ex.nw bh4
      have bN4 : bt4 ≠ p := bP3.off bh4
      have bP4 := bP3.up bE4
      have bF4 : (upd bG3 bt4 (.lst [.ref bt3])) bt4 = some (.lst [.ref bt3]) := upd_same
      generalize upd bG3 bt4 (.lst [.ref bt3]) = bG4 at bE4 bP4 bF4
      have bR4 : Ex (rm bG3 p) (rm bG4 p) := bE4.rm
      have bF4 : rm bG4 p bt4 = some (.lst [.ref bt3]) := by rw [rm_ne bN4]; exact bF4
      have bD4 : ExD p bG3 bG4 := bE4.d
      have bg4 : GdAll K (rm bG4 p) 2 2 [.ref bt3] := (GdAll.cons ((Gd.list (m := 1) (bR4 _ _ bF3) (bg3.up bR4) (by show 1 ≤ 1; decide) (by decide)).wide (by decide) (by decide)) GdAll.nil)
      refine ⟨b, bt4, _, _, rfl, rfl, (.inl (.inl (rm_ex _ _ ((bR1.tr (bR2.tr (bR3.tr bR4))) _ _ hB)))), (.inl (.inl (rm_ex _ _ (Ex.rfl _ _ bF4)))), Nat.le_trans (Nat.add_le_add (Lb) (by show 1 ≤ 1; decide)) (by decide : 8 + 1 ≤ 1000000), fun bt5 bh5 => ?_⟩
      have bE5 : Ex bG4 (upd bG4 bt5 (.lst (ys ++ [.ref bt3]))) := Ex.nw bh5
      have bN5 : bt5 ≠ p := bP4.off bh5
      have bP5 := bP4.up bE5
      have bF5 : (upd bG4 bt5 (.lst (ys ++ [.ref bt3]))) bt5 = some (.lst (ys ++ [.ref bt3])) := upd_same
      generalize upd bG4 bt5 (.lst (ys ++ [.ref bt3])) = bG5 at bE5 bP5 bF5
      have bR5 : Ex (rm bG4 p) (rm bG5 p) := bE5.rm
      have bF5 : rm bG5 p bt5 = some (.lst (ys ++ [.ref bt3])) := by rw [rm_ne bN5]; exact bF5
      have bD5 : ExD p bG4 bG5 := bE5.d
      have bg5 : GdAll K (rm bG5 p) 21 2 (ys ++ [.ref bt3]) := ((gb.up (bR1.tr (bR2.tr (bR3.tr (bR4.tr bR5))))).wide (by decide) (by decide)).app ((bg4.up bR5).wide (by decide) (by decide))
      have bL5 : ((ys ++ [.ref bt3]) : List V).length ≤ 9 := by rw [List.length_append]; exact Nat.add_le_add (Lb) (by show 1 ≤ 1; decide)
      generalize ((ys ++ [.ref bt3]) : List V) = bys5 at bF5 bg5 bL5
      refine ⟨_, rfl, _, rfl, b, _, rfl, (.inl (.inl (rm_ex _ _ ((bR1.tr (bR2.tr (bR3.tr (bR4.tr bR5)))) _ _ hB)))), fun bt6 bh6 => ?_⟩
      have bE6 : Ex bG5 (upd bG5 bt6 (.lst (cutV ys (some 1) none))) := Ex.nw bh6
      have bN6 : bt6 ≠ p := bP5.off bh6
      have bP6 := bP5.up bE6
      have bF6 : (upd bG5 bt6 (.lst (cutV ys (some 1) none))) bt6 = some (.lst (cutV ys (some 1) none)) := upd_same
      generalize upd bG5 bt6 (.lst (cutV ys (some 1) none)) = bG6 at bE6 bP6 bF6
      have bR6 : Ex (rm bG5 p) (rm bG6 p) := bE6.rm
      have bF6 : rm bG6 p bt6 = some (.lst (cutV ys (some 1) none)) := by rw [rm_ne bN6]; exact bF6
      have bD6 : ExD p bG5 bG6 := bE6.d
      have bg6 : GdAll K (rm bG6 p) 21 1 (cutV ys (some 1) none) := (gb.up (bR1.tr (bR2.tr (bR3.tr (bR4.tr (bR5.tr bR6)))))).cut
      have bL6 : ((cutV ys (some 1) none) : List V).length ≤ 8 := Nat.le_trans (cutV_length _ _ _) (Lb)
      generalize ((cutV ys (some 1) none) : List V) = bys6 at bF6 bg6 bL6
      refine ⟨_, rfl, b, _, rfl, (.inl (.inl (rm_ex _ _ ((bR1.tr (bR2.tr (bR3.tr (bR4.tr (bR5.tr bR6))))) _ _ hB)))), fun bt7 bh7 => ?_⟩
      have bE7 : Ex bG6 (upd bG6 bt7 (.lst (ys.reverse))) := Ex.nw bh7
      have bN7 : bt7 ≠ p := bP6.off bh7
      have bP7 := bP6.up bE7
      have bF7 : (upd bG6 bt7 (.lst (ys.reverse))) bt7 = some (.lst (ys.reverse)) := upd_same
      generalize upd bG6 bt7 (.lst (ys.reverse)) = bG7 at bE7 bP7 bF7
      have bR7 : Ex (rm bG6 p) (rm bG7 p) := bE7.rm
      have bF7 : rm bG7 p bt7 = some (.lst (ys.reverse)) := by rw [rm_ne bN7]; exact bF7
      have bD7 : ExD p bG6 bG7 := bE7.d
      have bg7 : GdAll K (rm bG7 p) 21 1 (ys.reverse) := (gb.up (bR1.tr (bR2.tr (bR3.tr (bR4.tr (bR5.tr (bR6.tr bR7))))))).rev
      have bL7 : ((ys.reverse) : List V).length ≤ 8 := by rw [List.length_reverse]; exact Lb
      generalize ((ys.reverse) : List V) = bys7 at bF7 bg7 bL7
      refine fun bt8 bh8 => ?_
      have bE8 : Ex bG7 (upd bG7 bt8 (.dK [])) := Ex.nw bh8
      have bN8 : bt8 ≠ p := bP7.off bh8
      have bP8 := bP7.up bE8
      have bF8 : (upd bG7 bt8 (.dK [])) bt8 = some (.dK []) := upd_same
      generalize upd bG7 bt8 (.dK []) = bG8 at bE8 bP8 bF8
      have bR8 : Ex (rm bG7 p) (rm bG8 p) := bE8.rm
      have bF8 : rm bG8 p bt8 = some (.dK []) := by rw [rm_ne bN8]; exact bF8
      have bD8 : ExD p bG7 bG8 := bE8.d
      refine ⟨by show 7 ≤ sizeLine; decide, fun bt9 bh9 => ?_⟩
      have bE9 : Ex bG8 (upd bG8 bt9 (.lst [.ref bt2, .non, .str "", .ref bt5, .ref bt6, .ref bt7, .ref bt8])) := Ex.nw bh9
      have bN9 : bt9 ≠ p := bP8.off bh9
      have bP9 := bP8.up bE9
      have bF9 : (upd bG8 bt9 (.lst [.ref bt2, .non, .str "", .ref bt5, .ref bt6, .ref bt7, .ref bt8])) bt9 = some (.lst [.ref bt2, .non, .str "", .ref bt5, .ref bt6, .ref bt7, .ref bt8]) := upd_same
      generalize upd bG8 bt9 (.lst [.ref bt2, .non, .str "", .ref bt5, .ref bt6, .ref bt7, .ref bt8]) = bG9 at bE9 bP9 bF9
      have bR9 : Ex (rm bG8 p) (rm bG9 p) := bE9.rm
      have bF9 : rm bG9 p bt9 = some (.lst [.ref bt2, .non, .str "", .ref bt5, .ref bt6, .ref bt7, .ref bt8]) := by rw [rm_ne bN9]; exact bF9
      have bD9 : ExD p bG8 bG9 := bE9.d
      have bg9 : GdAll K (rm bG9 p) 190 3 [.ref bt2, .non, .str "", .ref bt5, .ref bt6, .ref bt7, .ref bt8] := (GdAll.cons ((Gd.tup (m := 8) ((bR3.tr (bR4.tr (bR5.tr (bR6.tr (bR7.tr (bR8.tr bR9)))))) _ _ bF2) (bg2.up (bR3.tr (bR4.tr (bR5.tr (bR6.tr (bR7.tr (bR8.tr bR9))))))) (bL2)).wide (by decide) (by decide)) (GdAll.cons Gd.non (GdAll.cons (Gd.str (by decide +kernel)) (GdAll.cons ((Gd.list (m := 9) ((bR6.tr (bR7.tr (bR8.tr bR9))) _ _ bF5) (bg5.up (bR6.tr (bR7.tr (bR8.tr bR9)))) (bL5) (by decide)).wide (by decide) (by decide)) (GdAll.cons ((Gd.list (m := 8) ((bR7.tr (bR8.tr bR9)) _ _ bF6) (bg6.up (bR7.tr (bR8.tr bR9))) (bL6) (by decide)).wide (by decide) (by decide)) (GdAll.cons ((Gd.list (m := 8) ((bR8.tr bR9) _ _ bF7) (bg7.up (bR8.tr bR9)) (bL7) (by decide)).wide (by decide) (by decide)) (GdAll.cons (Gd.dict0 (bR9 _ _ bF8)) GdAll.nil)))))))
      refine ⟨_, rfl, p, 7, _, rfl, by decide, bP9, by omega, fun bz10 bG10 bhz10 bP10 bD10 => ?_⟩
      have bR10 : Ex (rm bG9 p) (rm bG10 p) := bD10.rm
      obtain ⟨bx11, bhx11⟩ : ∃ x, ([.ref bt2, .non, .str "", .ref bt5, .ref bt6, .ref bt7, .ref bt8] : List V)[(bz10).toNat]? = some x := ⟨_, List.getElem?_eq_getElem (show (bz10).toNat < ([.ref bt2, .non, .str "", .ref bt5, .ref bt6, .ref bt7, .ref bt8] : List V).length by show _ < 7; omega)⟩
      have bg11 := (bg9.up bR10).at bhx11
      refine ⟨bt9, _, bz10, bx11, rfl, rfl, (.inl (.inl (rm_ex _ _ (bR10 _ _ bF9)))), atI_int bhz10.1 bhx11, by show 2 ≤ sizeLine; decide, fun bt12 bh12 => ?_⟩
      have bE12 : Ex bG10 (upd bG10 bt12 (.tup [.ref a, bx11])) := Ex.nw bh12
      have bN12 : bt12 ≠ p := bP10.off bh12
      have bP12 := bP10.up bE12
      have bF12 : (upd bG10 bt12 (.tup [.ref a, bx11])) bt12 = some (.tup [.ref a, bx11]) := upd_same
      generalize upd bG10 bt12 (.tup [.ref a, bx11]) = bG12 at bE12 bP12 bF12
      have bR12 : Ex (rm bG10 p) (rm bG12 p) := bE12.rm
      have bF12 : rm bG12 p bt12 = some (.tup [.ref a, bx11]) := by rw [rm_ne bN12]; exact bF12
      have bD12 : ExD p bG10 bG12 := bE12.d
      have bg12 : GdAll K (rm bG12 p) 1301 3 [.ref a, bx11] := (GdAll.cons ((Gd.list (m := 1300) ((bR1.tr (bR2.tr (bR3.tr (bR4.tr (bR5.tr (bR6.tr (bR7.tr (bR8.tr (bR9.tr (bR10.tr bR12)))))))))) _ _ hA) (ga.up (bR1.tr (bR2.tr (bR3.tr (bR4.tr (bR5.tr (bR6.tr (bR7.tr (bR8.tr (bR9.tr (bR10.tr bR12))))))))))) (La) (by decide)).wide (by decide) (by decide)) (GdAll.cons ((bg11.up bR12).wide (by decide) (by decide)) GdAll.nil))
      exact q _ _ (bD1.tr (bD2.tr (bD3.tr (bD4.tr (bD5.tr (bD6.tr (bD7.tr (bD8.tr (bD9.tr (bD10.tr bD12)))))))))) (bP12.mono (by omega)) (((Gd.tup (m := 2) (Ex.rfl _ _ bF12) (bg12.up Ex.rfl) (by show 2 ≤ 2; decide)).wide (by decide) (by decide)))
    refine ⟨_, rfl, rfl, _, rfl, ite2 (fun _ => ?_) (fun _ => ?_)⟩
    · refine ⟨_, rfl, Nat.zero_le _, fun bt3 bh3 => ?_⟩
      have bE3 : Ex bG1 (upd bG1 bt3 (.lst [])) := Ex.nw bh3
      have bN3 : bt3 ≠ p := bP1.off bh3
      have bP3 := bP1.up bE3
      have bF3 : (upd bG1 bt3 (.lst [])) bt3 = some (.lst []) := upd_same
      generalize upd bG1 bt3 (.lst []) = bG3 at bE3 bP3 bF3
      have bR3 : Ex (rm bG1 p) (rm bG3 p) := bE3.rm
      have bF3 : rm bG3 p bt3 = some (.lst []) := by rw [rm_ne bN3]; exact bF3
      have bD3 : ExD p bG1 bG3 := bE3.d
      have bg3 : GdAll K (rm bG3 p) 1 1 [] := GdAll.nil
      have hne : Da K bG3 (dRows f.ss) (.ref b) := ⟨b, ys, rfl, rm_ex _ _ ((bR1.tr bR3) _ _ hB), hAB.up ((bR1.tr bR3).tr rm_ex), hzB⟩
      have hnz : Da K bG3 (dRows []) (.ref bt3) := ⟨bt3, [], rfl, rm_ex _ _ (bF3), rfl, by decide⟩
      refine ⟨_, _, hne.dRows, hnz.dRows, sh_dRows _, sh_dRows _, _, rfl, ?_⟩
      rw [eqv_dRows]
      refine ite2 (fun hb => ?_) (fun _ => ?_)
      · have hpos : 0 < ys.length := by
          have hx : f.ss ≠ [] := by simpa using hb
          have := List.length_pos_iff.mpr hx
          omega
        refine ⟨_, rfl, _, rfl, b, _, rfl, .inl (.inl (.inl (rm_ex _ _ ((bR1.tr bR3) _ _ hB)))), p, ((ys : List V).length : Int), _, rfl, by omega, bP3, by omega, fun bz4 bG4 bhz4 bP4 bD4 => ?_⟩
        have bR4 : Ex (rm bG3 p) (rm bG4 p) := bD4.rm
        refine ⟨_, rfl, _, rfl, _, rfl, _, rfl, b, _, rfl, (.inl (.inl (rm_ex _ _ ((bR1.tr (bR3.tr bR4)) _ _ hB)))), fun bt5 bh5 => ?_⟩
        have bE5 : Ex bG4 (upd bG4 bt5 (.lst (cutV ys none (some bz4)))) := Ex.nw bh5
        have bN5 : bt5 ≠ p := bP4.off bh5
        have bP5 := bP4.up bE5
        have bF5 : (upd bG4 bt5 (.lst (cutV ys none (some bz4)))) bt5 = some (.lst (cutV ys none (some bz4))) := upd_same
        generalize upd bG4 bt5 (.lst (cutV ys none (some bz4))) = bG5 at bE5 bP5 bF5
        have bR5 : Ex (rm bG4 p) (rm bG5 p) := bE5.rm
        have bF5 : rm bG5 p bt5 = some (.lst (cutV ys none (some bz4))) := by rw [rm_ne bN5]; exact bF5
        have bD5 : ExD p bG4 bG5 := bE5.d
        have bg5 : GdAll K (rm bG5 p) 21 1 (cutV ys none (some bz4)) := (gb.up (bR1.tr (bR3.tr (bR4.tr bR5)))).cut
        have bL5 : ((cutV ys none (some bz4)) : List V).length ≤ 8 := Nat.le_trans (cutV_length _ _ _) (Lb)
        generalize ((cutV ys none (some bz4)) : List V) = bys5 at bF5 bg5 bL5
        obtain ⟨bx6, bhx6⟩ : ∃ x, (ys : List V)[(bz4).toNat]? = some x := ⟨_, List.getElem?_eq_getElem (show (bz4).toNat < (ys : List V).length by omega)⟩
        have bg6 := (gb.up (bR1.tr (bR3.tr (bR4.tr bR5)))).at bhx6
        obtain ⟨bd7, bh7, bhF7⟩ := (hAB.up (bR1.tr (bR3.tr (bR4.tr bR5)))).at' bhx6
        obtain ⟨br7, br7h, rfl⟩ := map_at bh7
        obtain ⟨bar7, br7z, rfl, br7F, br7A, _⟩ := bhF7
        obtain rfl := DaAll.ints.mp br7A
        refine ⟨_, rfl, _, rfl, _, rfl, b, _, bz4, (.ref bar7), rfl, rfl, (.inl (.inl (rm_ex _ _ ((bR1.tr (bR3.tr (bR4.tr bR5))) _ _ hB)))), atI_int bhz4.1 bhx6, p, bar7, br7, _, rfl, br7F, (by have := hlr br7 (List.mem_of_getElem? br7h); omega), (hok.rnum br7 (List.mem_of_getElem? br7h)), bP5, by omega, fun bv8 bG8 bD8 bP8 bg8 => ?_⟩
        have bR8 : Ex (rm bG5 p) (rm bG8 p) := bD8.rm
        refine ⟨by show 1 ≤ sizeLine; decide, fun bt9 bh9 => ?_⟩
        have bE9 : Ex bG8 (upd bG8 bt9 (.lst [bv8])) := Ex.nw bh9
        have bN9 : bt9 ≠ p := bP8.off bh9
        have bP9 := bP8.up bE9
        have bF9 : (upd bG8 bt9 (.lst [bv8])) bt9 = some (.lst [bv8]) := upd_same
        generalize upd bG8 bt9 (.lst [bv8]) = bG9 at bE9 bP9 bF9
        have bR9 : Ex (rm bG8 p) (rm bG9 p) := bE9.rm
        have bF9 : rm bG9 p bt9 = some (.lst [bv8]) := by rw [rm_ne bN9]; exact bF9
        have bD9 : ExD p bG8 bG9 := bE9.d
        have bg9 : GdAll K (rm bG9 p) 6000 5 [bv8] := (GdAll.cons ((bg8.up bR9).wide (by decide) (by decide)) GdAll.nil)
        refine ⟨bt5, bt9, _, _, rfl, rfl, (.inl (.inl (rm_ex _ _ ((bR8.tr bR9) _ _ bF5)))), (.inl (.inl (rm_ex _ _ (Ex.rfl _ _ bF9)))), Nat.le_trans (Nat.add_le_add (bL5) (by show 1 ≤ 1; decide)) (by decide : 8 + 1 ≤ 1000000), fun bt10 bh10 => ?_⟩
        have bE10 : Ex bG9 (upd bG9 bt10 (.lst (bys5 ++ [bv8]))) := Ex.nw bh10
        have bN10 : bt10 ≠ p := bP9.off bh10
        have bP10 := bP9.up bE10
        have bF10 : (upd bG9 bt10 (.lst (bys5 ++ [bv8]))) bt10 = some (.lst (bys5 ++ [bv8])) := upd_same
        generalize upd bG9 bt10 (.lst (bys5 ++ [bv8])) = bG10 at bE10 bP10 bF10
        have bR10 : Ex (rm bG9 p) (rm bG10 p) := bE10.rm
        have bF10 : rm bG10 p bt10 = some (.lst (bys5 ++ [bv8])) := by rw [rm_ne bN10]; exact bF10
        have bD10 : ExD p bG9 bG10 := bE10.d
        have bg10 : GdAll K (rm bG10 p) 6000 5 (bys5 ++ [bv8]) := ((bg5.up (bR8.tr (bR9.tr bR10))).wide (by decide) (by decide)).app ((bg9.up bR10).wide (by decide) (by decide))
        have bL10 : ((bys5 ++ [bv8]) : List V).length ≤ 9 := by rw [List.length_append]; exact Nat.add_le_add (bL5) (by show 1 ≤ 1; decide)
        generalize ((bys5 ++ [bv8]) : List V) = bys10 at bF10 bg10 bL10
        refine ⟨_, rfl, _, rfl, _, _, rfl, rfl, _, rfl, b, _, rfl, (.inl (.inl (rm_ex _ _ ((bR1.tr (bR3.tr (bR4.tr (bR5.tr (bR8.tr (bR9.tr bR10)))))) _ _ hB)))), fun bt11 bh11 => ?_⟩
        have bE11 : Ex bG10 (upd bG10 bt11 (.lst (cutV ys (some (bz4 + 1)) none))) := Ex.nw bh11
        have bN11 : bt11 ≠ p := bP10.off bh11
        have bP11 := bP10.up bE11
        have bF11 : (upd bG10 bt11 (.lst (cutV ys (some (bz4 + 1)) none))) bt11 = some (.lst (cutV ys (some (bz4 + 1)) none)) := upd_same
        generalize upd bG10 bt11 (.lst (cutV ys (some (bz4 + 1)) none)) = bG11 at bE11 bP11 bF11
        have bR11 : Ex (rm bG10 p) (rm bG11 p) := bE11.rm
        have bF11 : rm bG11 p bt11 = some (.lst (cutV ys (some (bz4 + 1)) none)) := by rw [rm_ne bN11]; exact bF11
        have bD11 : ExD p bG10 bG11 := bE11.d
        have bg11 : GdAll K (rm bG11 p) 21 1 (cutV ys (some (bz4 + 1)) none) := (gb.up (bR1.tr (bR3.tr (bR4.tr (bR5.tr (bR8.tr (bR9.tr (bR10.tr bR11)))))))).cut
        have bL11 : ((cutV ys (some (bz4 + 1)) none) : List V).length ≤ 8 := Nat.le_trans (cutV_length _ _ _) (Lb)
        generalize ((cutV ys (some (bz4 + 1)) none) : List V) = bys11 at bF11 bg11 bL11
        refine ⟨bt10, bt11, _, _, rfl, rfl, (.inl (.inl (rm_ex _ _ (bR11 _ _ bF10)))), (.inl (.inl (rm_ex _ _ (Ex.rfl _ _ bF11)))), Nat.le_trans (Nat.add_le_add (bL10) (bL11)) (by decide : 9 + 8 ≤ 1000000), fun bt12 bh12 => ?_⟩
        have bE12 : Ex bG11 (upd bG11 bt12 (.lst (bys10 ++ bys11))) := Ex.nw bh12
        have bN12 : bt12 ≠ p := bP11.off bh12
        have bP12 := bP11.up bE12
        have bF12 : (upd bG11 bt12 (.lst (bys10 ++ bys11))) bt12 = some (.lst (bys10 ++ bys11)) := upd_same
        generalize upd bG11 bt12 (.lst (bys10 ++ bys11)) = bG12 at bE12 bP12 bF12
        have bR12 : Ex (rm bG11 p) (rm bG12 p) := bE12.rm
        have bF12 : rm bG12 p bt12 = some (.lst (bys10 ++ bys11)) := by rw [rm_ne bN12]; exact bF12
        have bD12 : ExD p bG11 bG12 := bE12.d
        have bg12 : GdAll K (rm bG12 p) 6000 5 (bys10 ++ bys11) := ((bg10.up (bR11.tr bR12)).wide (by decide) (by decide)).app ((bg11.up bR12).wide (by decide) (by decide))
        have bL12 : ((bys10 ++ bys11) : List V).length ≤ 17 := by rw [List.length_append]; exact Nat.add_le_add (bL10) (bL11)
        generalize ((bys10 ++ bys11) : List V) = bys12 at bF12 bg12 bL12
        refine ⟨by show 2 ≤ sizeLine; decide, fun bt13 bh13 => ?_⟩
        have bE13 : Ex bG12 (upd bG12 bt13 (.tup [.ref a, .ref bt12])) := Ex.nw bh13
        have bN13 : bt13 ≠ p := bP12.off bh13
        have bP13 := bP12.up bE13
        have bF13 : (upd bG12 bt13 (.tup [.ref a, .ref bt12])) bt13 = some (.tup [.ref a, .ref bt12]) := upd_same
        generalize upd bG12 bt13 (.tup [.ref a, .ref bt12]) = bG13 at bE13 bP13 bF13
        have bR13 : Ex (rm bG12 p) (rm bG13 p) := bE13.rm
        have bF13 : rm bG13 p bt13 = some (.tup [.ref a, .ref bt12]) := by rw [rm_ne bN13]; exact bF13
        have bD13 : ExD p bG12 bG13 := bE13.d
        have bg13 : GdAll K (rm bG13 p) 102001 6 [.ref a, .ref bt12] := (GdAll.cons ((Gd.list (m := 1300) ((bR1.tr (bR3.tr (bR4.tr (bR5.tr (bR8.tr (bR9.tr (bR10.tr (bR11.tr (bR12.tr bR13))))))))) _ _ hA) (ga.up (bR1.tr (bR3.tr (bR4.tr (bR5.tr (bR8.tr (bR9.tr (bR10.tr (bR11.tr (bR12.tr bR13)))))))))) (La) (by decide)).wide (by decide) (by decide)) (GdAll.cons ((Gd.list (m := 17) (bR13 _ _ bF12) (bg12.up bR13) (bL12) (by decide)).wide (by decide) (by decide)) GdAll.nil))
        exact q _ _ (bD1.tr (bD3.tr (bD4.tr (bD5.tr (bD8.tr (bD9.tr (bD10.tr (bD11.tr (bD12.tr bD13))))))))) (bP13.mono (by omega)) (((Gd.tup (m := 2) (Ex.rfl _ _ bF13) (bg13.up Ex.rfl) (by show 2 ≤ 2; decide)).wide (by decide) (by decide)))
      · refine ⟨_, rfl, _, rfl, p, a, f.xs, _, rfl, ((bR1.tr bR3) _ _ hA), hlx, hok.num, bP3, by omega, fun bv4 bG4 bD4 bP4 bg4 => ?_⟩
        have bR4 : Ex (rm bG3 p) (rm bG4 p) := bD4.rm
        refine ⟨_, rfl, by show 2 ≤ sizeLine; decide, fun bt5 bh5 => ?_⟩
        have bE5 : Ex bG4 (upd bG4 bt5 (.tup [bv4, .ref b])) := Ex.nw bh5
        have bN5 : bt5 ≠ p := bP4.off bh5
        have bP5 := bP4.up bE5
        have bF5 : (upd bG4 bt5 (.tup [bv4, .ref b])) bt5 = some (.tup [bv4, .ref b]) := upd_same
        generalize upd bG4 bt5 (.tup [bv4, .ref b]) = bG5 at bE5 bP5 bF5
        have bR5 : Ex (rm bG4 p) (rm bG5 p) := bE5.rm
        have bF5 : rm bG5 p bt5 = some (.tup [bv4, .ref b]) := by rw [rm_ne bN5]; exact bF5
        have bD5 : ExD p bG4 bG5 := bE5.d
        have bg5 : GdAll K (rm bG5 p) 6000 5 [bv4, .ref b] := (GdAll.cons ((bg4.up bR5).wide (by decide) (by decide)) (GdAll.cons ((Gd.list (m := 8) ((bR1.tr (bR3.tr (bR4.tr bR5))) _ _ hB) (gb.up (bR1.tr (bR3.tr (bR4.tr bR5)))) (Lb) (by decide)).wide (by decide) (by decide)) GdAll.nil))
        exact q _ _ (bD1.tr (bD3.tr (bD4.tr bD5))) (bP5.mono (by omega)) (((Gd.tup (m := 2) (Ex.rfl _ _ bF5) (bg5.up Ex.rfl) (by show 2 ≤ 2; decide)).wide (by decide) (by decide)))
    · refine ⟨_, rfl, _, rfl, p, a, f.xs, _, rfl, (bR1 _ _ hA), hlx, hok.num, bP1, by omega, fun bv2 bG2 bD2 bP2 bg2 => ?_⟩
      have bR2 : Ex (rm bG1 p) (rm bG2 p) := bD2.rm
      refine ⟨_, rfl, by show 2 ≤ sizeLine; decide, fun bt3 bh3 => ?_⟩
      have bE3 : Ex bG2 (upd bG2 bt3 (.tup [bv2, .ref b])) := Ex.nw bh3
      have bN3 : bt3 ≠ p := bP2.off bh3
      have bP3 := bP2.up bE3
      have bF3 : (upd bG2 bt3 (.tup [bv2, .ref b])) bt3 = some (.tup [bv2, .ref b]) := upd_same
      generalize upd bG2 bt3 (.tup [bv2, .ref b]) = bG3 at bE3 bP3 bF3
      have bR3 : Ex (rm bG2 p) (rm bG3 p) := bE3.rm
      have bF3 : rm bG3 p bt3 = some (.tup [bv2, .ref b]) := by rw [rm_ne bN3]; exact bF3
      have bD3 : ExD p bG2 bG3 := bE3.d
      have bg3 : GdAll K (rm bG3 p) 6000 5 [bv2, .ref b] := (GdAll.cons ((bg2.up bR3).wide (by decide) (by decide)) (GdAll.cons ((Gd.list (m := 8) ((bR1.tr (bR2.tr bR3)) _ _ hB) (gb.up (bR1.tr (bR2.tr bR3))) (Lb) (by decide)).wide (by decide) (by decide)) GdAll.nil))
      exact q _ _ (bD1.tr (bD2.tr bD3)) (bP3.mono (by omega)) (((Gd.tup (m := 2) (Ex.rfl _ _ bF3) (bg3.up Ex.rfl) (by show 2 ≤ 2; decide)).wide (by decide) (by decide)))
end

end K21
namespace K21
open PySem PySem.Spec PyProof.Rows L2 Nw
/-! law: slots 0 _law_script, 1 _law_k, 2 _law_purse_here, 3 _law_size, 4 _law_web_here, 5 _law_filling_here, 6 _law_turn, 7 _law_value, 8 _law_before, 9 _law_told, 10 _law_some -/
abbrev s_law : Stmt := topS 33
abbrev N_law : List Str := ["_law_script", "_law_k", "_law_purse_here", "_law_size", "_law_web_here", "_law_filling_here", "_law_turn", "_law_value", "_law_before", "_law_told", "_law_some"]
abbrev P_law : List Str := ["_law_script"]
theorem sc_law : FnScope N_law P_law (defScope s_law) := ⟨rfl, rfl, rfl, by decide +kernel, rfl, by decide +kernel, by decide +kernel⟩
def sp_law (K : PySem.W.Frag) : Sp := fun vs H Q _ => ∃ (a : Addr) (ns : List Int), vs = [.ref a] ∧ ns.length ≤ 63 ∧ SqL K H a (ns.map V.int) ∧ ∀ H', Ex H H' → Q (.bl true) H'
theorem sp_law_start {K : PySem.W.Frag} {H : Hp} {a : Addr} {ns : List Int} (hl : ns.length ≤ 63) (hS : SqL K H a (ns.map V.int)) : sp_law K [.ref a] H (fun v _ => v = .bl true) (fun _ _ _ => False) :=
  ⟨a, ns, rfl, hl, hS, fun _ _ => rfl⟩
theorem two_bools (b : Bool) : Sh 41 5 2 (.list [.bool b, .bool b]) := shB_sh (by cases b <;> decide +kernel)
section
variable {P : Program} {w : World} {K : PySem.W.Frag} {mg : Str → Option Value} {base : Heap}
theorem ok_law {f : Addr} {fd : FuncData} (T : Txt K mg) (F : Fun K "law" "law" s_law f fd)
    (SM : SysAt base)
    (D_is_filling : DefOk P w K mg base CX0 8 "is_filling" P_is_filling (sp_is_filling K))
    (D_purse : DefOk P w K mg base CX0 1 "_law_purse" P_purse (sp_purse K))
    (D_coin : DefOk P w K mg base CX0 1 "_law_coin" P_coin (sp_coin K))
    (D_web : DefOk P w K mg base CX0 3 "_law_web" P_web (sp_web K))
    (D_filling : DefOk P w K mg base CX0 2 "_law_filling" P_filling (sp_filling K))
    (D_is : DefOk P w K mg base CX0 2 "_law_is" P_is (sp_is K))
    (D_bent : DefOk P w K mg base CX0 3 "_law_bent" P_bent (sp_bent K)) :
    FnG P w K mg base CX0 9 f fd P_law (sp_law K) := by
  refine okG0 F sc_law (fun vs H Q E h => ?_) (fun cdv A outer s H vs Q E hr hq h => ?_)
  · obtain ⟨a, ns, rfl, _⟩ := h
    rfl
  · obtain ⟨a, ns, rfl, hn, hS, q⟩ := h
    refine ⟨_, (pss_cons (ps_for PassesOwn.never rfl (pi_range1 (by rfl) T.b_range (pa_cons (pe_callB (call_max2 rfl) (by rfl) T.b_max bt_max (pa_cons pe_int (pa_cons (pe_callB (call_min2 rfl) (by rfl) T.b_min bt_min (pa_cons pe_int (pa_cons (pe_callB (call_lenK K) (by rfl) T.b_len bt_len (pa_cons (pv 0) pa_nil)) pa_nil))) pa_nil))) pa_nil)) (pg_name (i := 1) sc_law.nd rfl (by first | exact .inl rfl | exact .inr rfl)) (pss_cons (ps_set (i := 2) sc_law.nd rfl (by first | exact .inl rfl | exact .inr rfl) (pe_callD D_purse (hr.mono (by decide)) hq pass0 (pa_cons (pv 0) (pa_cons (pv 1) pa_nil))))
      (pss_one (ps_for PassesOwn.never rfl (pi_listK K (pe_lst (pa_cons pe_int (pa_cons pe_int (pa_cons pe_int pa_nil))))) (pg_name (i := 3) sc_law.nd rfl (by first | exact .inl rfl | exact .inr rfl)) (pss_cons (ps_set (i := 4) sc_law.nd rfl (by first | exact .inl rfl | exact .inr rfl) (pe_callD D_web (hr.mono (by decide)) hq pass0 (pa_cons (pv 2) (pa_cons (pv 3) (pa_cons pe_int pa_nil)))))
      (pss_cons (ps_set (i := 5) sc_law.nd rfl (by first | exact .inl rfl | exact .inr rfl) (pe_callD D_filling (hr.mono (by decide)) hq pass0 (pa_cons (pv 2) (pa_cons (pv 4) (pa_cons (pe_ix (ix_listK K) (pe_lst (pa_cons pe_int (pa_cons (pe_op op_powW pe_int pe_int) pa_nil))) (pe_callD D_coin (hr.mono (by decide)) hq pass0 (pa_cons (pv 2) (pa_cons pe_int pa_nil))) (fun _ _ => rfl)) pa_nil)))))
      (pss_cons (ps_if (pt_cmpR op_notBl (pe_callD D_is_filling (hr.mono (by decide)) hq pass0 (pa_cons (pv 4) (pa_cons (pv 5) pa_nil))) pe_bl (nomark _)) (pss_one (ps_ret pe_bl)) pss_nil)
      (pss_one (ps_for PassesOwn.never rfl (pi_range1 (by rfl) T.b_range (pa_cons pe_int pa_nil)) (pg_name (i := 6) sc_law.nd rfl (by first | exact .inl rfl | exact .inr rfl)) (pss_cons (ps_set (i := 7) sc_law.nd rfl (by first | exact .inl rfl | exact .inr rfl) (pe_callD D_bent (hr.mono (by decide)) hq pass0 (pa_cons (pv 2) (pa_cons (pv 5) pa_nil))))
      (pss_cons (ps_set (i := 8) sc_law.nd rfl (by first | exact .inl rfl | exact .inr rfl) (pe_callB (call_reprS K hq hr SM) (by rfl) T.b_repr bt_repr (pa_cons (pv 7) pa_nil)))
      (pss_cons (ps_set (i := 9) sc_law.nd rfl (by first | exact .inl rfl | exact .inr rfl) (pe_lst (pa_cons (pe_callD D_is_filling (hr.mono (by decide)) hq pass0 (pa_cons (pv 4) (pa_cons (pv 7) pa_nil))) (pa_cons (pe_callD D_is_filling (hr.mono (by decide)) hq pass0 (pa_cons (pv 4) (pa_cons (pv 7) pa_nil))) pa_nil))))
      (pss_one (ps_if (PW.pt (pw_or (pt_cmpR op_ne (pe_callB (call_reprS K hq hr SM) (by rfl) T.b_repr bt_repr (pa_cons (pv 9) pa_nil)) (pe_callB (call_reprS K hq hr SM) (by rfl) T.b_repr bt_repr (pa_cons (pe_op op_rep (pe_lst (pa_cons (pe_callD D_is (hr.mono (by decide)) hq pass0 (pa_cons (pv 4) (pa_cons (pv 7) pa_nil))) pa_nil)) pe_int) pa_nil)) (nomark _)) (pw_or1 (pt_cmpR op_ne (pe_callB (call_reprS K hq hr SM) (by rfl) T.b_repr bt_repr (pa_cons (pv 7) pa_nil)) (pv 8) (nomark _))))) (pss_one (ps_ret pe_bl)) pss_nil))))))))))))))
      (pss_cons (ps_set (i := 10) sc_law.nd rfl (by first | exact .inl rfl | exact .inr rfl) (pe_tup (pa_cons pe_int (pa_cons (pe_lst (pa_cons (pe_tup (pa_cons pe_int (pa_cons pe_int pa_nil))) pa_nil)) (pa_cons (pe_lst (pa_cons (pe_lst (pa_cons pe_int pa_nil)) pa_nil)) pa_nil)))))
      (pss_cons (ps_setLc (i := 9) (own := [("_law_value", 7)]) rfl sc_law.nd rfl rfl (sw_true rfl rfl rfl (by decide +kernel)) (pi_listK K (pe_lst (pa_cons (pe_tup (pa_cons (pe_lst (pa_cons pe_int pa_nil)) (pa_cons (pe_lst (pa_cons (pe_lst (pa_cons pe_int pa_nil)) pa_nil)) pa_nil))) (pa_cons (pe_tup (pa_cons (pe_lst (pa_cons pe_int pa_nil)) (pa_cons (pe_lst (pa_cons (pe_lst (pa_cons pe_int pa_nil)) pa_nil)) pa_nil))) (pa_cons (pe_tup (pa_cons (pe_lst (pa_cons pe_int pa_nil)) (pa_cons (pe_lst (pa_cons (pe_lst (pa_cons pe_int pa_nil)) pa_nil)) pa_nil))) (pa_cons (pe_tup (pa_cons (pe_lst (pa_cons pe_int pa_nil)) (pa_cons (pe_lst pa_nil) pa_nil))) (pa_cons (pe_tup (pa_cons (pe_lst pa_nil) (pa_cons (pe_lst (pa_cons (pe_lst (pa_cons pe_int pa_nil)) pa_nil)) pa_nil))) pa_nil))))))) (blkOk_by (N := N_law) (sc := defScope s_law) (by decide +kernel)) (fun _ _ _ _ _ => (pg_name (i := 7) sc_law.nd rfl (by first | exact .inl rfl | exact .inr rfl))) (fun _ _ _ _ _ => pts_nil) (fun _ _ _ _ _ => (pe_callD D_is_filling (hr.mono (by decide)) hq pass0 (pa_cons (pv 10) (pa_cons (pv 7) pa_nil)))))
      (pss_one (ps_ret (pe_and (pe_cmpR (op_eqDk K hr.units) (pv 9) (pe_lst (pa_cons pe_bl (pa_cons pe_bl (pa_cons pe_bl (pa_cons pe_bl (pa_cons pe_bl pa_nil)))))) (nomark _)) (pe_one (pe_cmpR op_isBl (pe_callD D_is_filling (hr.mono (by decide)) hq pass0 (pa_cons (pe_tup (pa_cons pe_int (pa_cons (pe_lst pa_nil) (pa_cons (pe_lst pa_nil) pa_nil)))) (pa_cons (pe_tup (pa_cons (pe_lst pa_nil) (pa_cons (pe_lst pa_nil) pa_nil))) pa_nil))) pe_bl (nomark _))))))))), ?_⟩
    refine ⟨_, rfl, a, _, rfl, .inl hS, ?_⟩
    have hmm : ∃ m : Int, m = (if (if ((ns.map V.int).length : Int) < 6 then ((ns.map V.int).length : Int) else 6) > 1 then (if ((ns.map V.int).length : Int) < 6 then ((ns.map V.int).length : Int) else 6) else 1) ∧ 0 ≤ m ∧ m ≤ 6 := by
      refine ⟨_, rfl, ?_, ?_⟩
      · split <;> split <;> omega
      · split <;> split <;> omega
    obtain ⟨m, em, m0, m6⟩ := hmm
    refine ⟨_, _, rfl, _, _, rfl, m, by rw [em], by omega, by omega, ?_⟩
    refine for_by m.toNat (fun i σ H' => ∃ y1 y2 y3 y4 y5 y6 y7 y8 y9, σ = [some (V.ref a), y1, y2, y3, y4, y5, y6, y7, y8, y9, none] ∧ Ex H H')
      ⟨_, _, _, _, _, _, _, _, _, rfl, Ex.rfl⟩ (fun i σ H' hi p => hi) (fun σ H' p => Nat.le_refl _) ?_ ?_
    · rintro i σ H1 x H2 hi ⟨y1, y2, y3, y4, y5, y6, y7, y8, y9, rfl, e1⟩ ⟨rfl, rfl⟩
      refine ⟨_, rfl, _, rfl, a, ns, (0 + (i : Int)), rfl, e1.l hS, by omega, fun p H3 hp e3 p3 => ?_⟩
      refine ⟨by show 3 ≤ sizeLine; decide, fun D hD => ?_⟩
      have hpD := p3.off hD
      have p30 := p3.up (Ex.nw hD (o := .lst [.int 2, .int 4, .int 8]))
      have e30 := e3.tr (Ex.nw hD (o := .lst [.int 2, .int 4, .int 8]))
      have hD3 : (upd H3 D (.lst [.int 2, .int 4, .int 8])) D = some (.lst [.int 2, .int 4, .int 8]) := upd_same
      generalize upd H3 D (.lst [.int 2, .int 4, .int 8]) = H4 at hD3 p30 e30
      have hSD : SqL K H4 D [.int 2, .int 4, .int 8] := .inl (.inl hD3)
      refine ⟨D, rfl, ⟨_, hSD⟩, ?_⟩
      refine for_by 3 (fun j σ H' => ∃ y3 y4 y5 y6 y7 y8 y9, σ = [some (V.ref a), some (V.int (0 + (i : Int))), some (V.ref p), y3, y4, y5, y6, y7, y8, y9, none] ∧ ExD p H4 H' ∧ Purse H' p (4000 * j))
        ⟨_, _, _, _, _, _, _, rfl, fun _ _ _ h => h, p30⟩ (fun j σ H' hj p => ?_) (fun σ H' p => ?_) ?_ ?_
      · obtain ⟨_, _, _, _, _, _, _, _, h4, _⟩ := p
        exact itl_go (h4.l hpD hSD) Ex.rfl hj
      · obtain ⟨_, _, _, _, _, _, _, _, h4, _⟩ := p
        exact itl_stop (h4.l hpD hSD) Ex.rfl
      · rintro j σ H5 x H6 hj ⟨y3, y4, y5, y6, y7, y8, y9, rfl, e5, p5⟩ ⟨rfl, hx⟩
        have hx := hx _ (e5.l hpD hSD)
        obtain ⟨z, rfl, hz⟩ : ∃ z : Int, x = .int z ∧ (1 ≤ z ∧ z ≤ 20) := by
          match j, hj, hx with
          | 0, _, hx => exact ⟨2, (Option.some.inj hx).symm, by decide⟩
          | 1, _, hx => exact ⟨4, (Option.some.inj hx).symm, by decide⟩
          | 2, _, hx => exact ⟨8, (Option.some.inj hx).symm, by decide⟩
        refine ⟨_, rfl, _, rfl, p, z, 4, 4000 * j, rfl, hz, by decide, p5, by omega, fun v u H7 e7 p7 hd hu _ _ => ?_⟩
        -- the filling
        refine ⟨_, rfl, _, rfl, _, _, rfl, rfl, cpow10 (by decide) (by decide), by show 2 ≤ sizeLine; decide, fun l hl => ?_⟩
        have f8 : (upd H7 l (.lst [.int 3, .int (10 ^ Int.toNat 6)])) l = some (.lst [.int 3, .int (10 ^ Int.toNat 6)]) := upd_same
        have e8 : ExD p H7 (upd H7 l (.lst [.int 3, .int (10 ^ Int.toNat 6)])) := ExD.nw hl
        have p8 := p7.up (Ex.nw hl (o := .lst [.int 3, .int (10 ^ Int.toNat 6)]))
        have lp := p7.off hl
        generalize upd H7 l (.lst [.int 3, .int (10 ^ Int.toNat 6)]) = H8 at e8 p8 f8
        refine ⟨_, rfl, p, 2, _, rfl, by decide, p8, by omega, fun z2 H9 hz2 p9 e9 => ?_⟩
        have f9 := e9 _ _ lp f8
        obtain ⟨wd, hwd, hat⟩ : ∃ wd : Int, (1 ≤ wd ∧ wd ≤ 1000000) ∧ atI [V.int 3, V.int (10 ^ Int.toNat 6)] z2 = some (.int wd) := by
          rcases (show z2 = 0 ∨ z2 = 1 by omega) with rfl | rfl
          · exact ⟨3, by decide, rfl⟩
          · exact ⟨10 ^ Int.toNat 6, by rw [p6]; decide, rfl⟩
        have e79 := e8.tr e9
        refine ⟨l, _, z2, .int wd, rfl, rfl, .inl (.inl f9), hat, p, _, u, wd, _, rfl, hd.up e79.rm, hu, hwd, p9, by omega, fun fv f H10 e10 p10 hf hok => ?_⟩
        have hd10 := hd.up (e79.tr e10).rm
        refine ⟨_, rfl, _, rfl, _, u, _, _, rfl, hd10.up rm_ex, hu, hf.up rm_ex, fun H11 e11 => ?_⟩
        rw [hok.fill]
        refine ⟨_, _, rfl, rfl, _, rfl, ite2 (fun h1 => by simp at h1) (fun _ => ?_)⟩
        refine ⟨_, rfl, by decide, by decide, ?_⟩
        have e511 : ExD p H6 H11 := ((e7.tr e79).tr e10).tr e11.d
        have p11 := p10.up e11
        have dW := hd10.up e11.rm
        have dF := hf.up e11.rm
        refine for_by 12 (fun k σ H' => ∃ y6 y7 y8 y9, σ = [some (V.ref a), some (V.int (0 + (i : Int))), some (V.ref p), some (V.int z), some v, some fv, y6, y7, y8, y9, none] ∧ ExD p H11 H' ∧ Purse H' p (4000 * j + 3800 + 8 * k))
          ⟨_, _, _, _, rfl, fun _ _ _ h => h, p11.mono (by omega)⟩ (fun k σ H' hk p => hk) (fun σ H' p => (Nat.le_refl 12 : Int.toNat 12 ≤ 12)) ?_ ?_
        · rintro k σ K1 x K2 hk ⟨y6, y7, y8, y9, rfl, g1, q1⟩ ⟨rfl, rfl⟩
          have dW1 := dW.up g1.rm
          have dF1 := dF.up g1.rm
          refine ⟨_, rfl, _, rfl, p, _, u, f, _, rfl, dF1, hu, hok, q1, by omega, fun val K3 g3 q3 hv => ?_⟩
          obtain ⟨d, hdv, hsh⟩ := hv
          have dv3 : Da K K3 d val := hdv.up rm_ex
          have dW3 : Da K K3 u.d v := (dW1.up g3.rm).up rm_ex
          have fit := hsh.fit (by decide) (by decide)
          have dep : d.depth ≤ 60 := Nat.le_trans hsh.k (by decide)
          refine ⟨_, rfl, _, d, rfl, dv3, hsh.s, fit, dep, ?_⟩
          refine ⟨_, rfl, _, rfl, _, u, _, d, rfl, dW3, hu, dv3, fun K4 g4 => ?_⟩
          refine ⟨_, rfl, _, rfl, _, u, _, d, rfl, dW3.up g4, hu, dv3.up g4, fun K5 g5 => ?_⟩
          refine ⟨by show 2 ≤ sizeLine; decide, fun t ht => ?_⟩
          have g6 : Ex K5 (upd K5 t (.lst [.bl (fillB u d), .bl (fillB u d)])) := Ex.nw ht
          have f6 : (upd K5 t (.lst [.bl (fillB u d), .bl (fillB u d)])) t = some (.lst [.bl (fillB u d), .bl (fillB u d)]) := upd_same
          generalize upd K5 t (.lst [.bl (fillB u d), .bl (fillB u d)]) = K6 at g6 f6
          have g36 := (g4.tr g5).tr g6
          have tb := two_bools (fillB u d)
          have dt : Da K K6 (.list [.bool (fillB u d), .bool (fillB u d)]) (.ref t) := ⟨t, _, rfl, f6, ⟨_, _, rfl, rfl, _, _, rfl, rfl, rfl⟩, by show 2 ≤ 100000; decide⟩
          refine ⟨_, rfl, _, _, rfl, dt, tb.s, tb.fit (by decide) (by decide), Nat.le_trans tb.k (by decide), ?_⟩
          refine ⟨_, rfl, _, rfl, _, u, _, d, rfl, dW3.up g36, hu, dv3.up g36, fun K7 g7 => ?_⟩
          refine ⟨by show 1 ≤ sizeLine; decide, fun t2 ht2 => ?_⟩
          have g8 : Ex K7 (upd K7 t2 (.lst [.bl (fillB u d)])) := Ex.nw ht2
          have f8 : (upd K7 t2 (.lst [.bl (fillB u d)])) t2 = some (.lst [.bl (fillB u d)]) := upd_same
          generalize upd K7 t2 (.lst [.bl (fillB u d)]) = K8 at g8 f8
          refine ⟨t2, 2, _, rfl, rfl, f8, by decide, by decide, by show 1 * 2 ≤ sizeLine; decide, fun t3 ht3 => ?_⟩
          have er : (List.replicate (Int.toNat 2) [V.bl (fillB u d)]).flatten = [.bl (fillB u d), .bl (fillB u d)] := rfl
          rw [er]
          have g9 : Ex K8 (upd K8 t3 (.lst [.bl (fillB u d), .bl (fillB u d)])) := Ex.nw ht3
          have f9 : (upd K8 t3 (.lst [.bl (fillB u d), .bl (fillB u d)])) t3 = some (.lst [.bl (fillB u d), .bl (fillB u d)]) := upd_same
          generalize upd K8 t3 (.lst [.bl (fillB u d), .bl (fillB u d)]) = K9 at g9 f9
          have dt3 : Da K K9 (.list [.bool (fillB u d), .bool (fillB u d)]) (.ref t3) := ⟨t3, _, rfl, f9, ⟨_, _, rfl, rfl, _, _, rfl, rfl, rfl⟩, by show 2 ≤ 100000; decide⟩
          have g39 := ((g36.tr g7).tr g8).tr g9
          refine ⟨_, _, rfl, dt3, tb.s, tb.fit (by decide) (by decide), Nat.le_trans tb.k (by decide), ?_⟩
          refine ⟨rfl, _, rfl, ite2 (fun h1 => ?_) (fun _ => ?_)⟩
          · simp at h1
          refine ⟨_, rfl, _, d, rfl, dv3.up g39, hsh.s, fit, dep, ?_⟩
          refine ⟨_, rfl, rfl, _, rfl, ite2 (fun h1 => ?_) (fun _ => ?_)⟩
          · simp at h1
          exact ⟨_, _, _, _, rfl, (g1.tr g3).tr g39.d, (q3.up g39).mono (by omega)⟩
        · rintro σ K1 ⟨y6, y7, y8, y9, rfl, g1, q1⟩
          exact ⟨_, _, _, _, _, _, _, rfl, (e5.tr e511).tr g1, q1.mono (by omega)⟩
      · rintro σ H5 ⟨y3, y4, y5, y6, y7, y8, y9, rfl, e5, p5⟩
        exact ⟨_, _, _, _, _, _, _, _, _, rfl, e1.tr (fun b o g => e5 b o (fun n => by rw [n, hp] at g; cases g) (e30 b o g))⟩
    · rintro σ H1 ⟨y1, y2, y3, y4, y5, y6, y7, y8, y9, rfl, e1⟩
      refine ⟨by show 2 ≤ sizeLine; decide, fun Bt1 Bh1 => ?_⟩
      have BE1 : Ex H1 (upd H1 Bt1 (.tup [.int 0, .int 0])) := Ex.nw Bh1
      have BF1 : (upd H1 Bt1 (.tup [.int 0, .int 0])) Bt1 = some (.tup [.int 0, .int 0]) := upd_same
      generalize upd H1 Bt1 (.tup [.int 0, .int 0]) = B1 at BE1 BF1
      refine ⟨by show 1 ≤ sizeLine; decide, fun Bt2 Bh2 => ?_⟩
      have BE2 : Ex B1 (upd B1 Bt2 (.lst [.ref Bt1])) := Ex.nw Bh2
      have BF2 : (upd B1 Bt2 (.lst [.ref Bt1])) Bt2 = some (.lst [.ref Bt1]) := upd_same
      generalize upd B1 Bt2 (.lst [.ref Bt1]) = B2 at BE2 BF2
      refine ⟨by show 1 ≤ sizeLine; decide, fun Bt3 Bh3 => ?_⟩
      have BE3 : Ex B2 (upd B2 Bt3 (.lst [.int 0])) := Ex.nw Bh3
      have BF3 : (upd B2 Bt3 (.lst [.int 0])) Bt3 = some (.lst [.int 0]) := upd_same
      generalize upd B2 Bt3 (.lst [.int 0]) = B3 at BE3 BF3
      refine ⟨by show 1 ≤ sizeLine; decide, fun Bt4 Bh4 => ?_⟩
      have BE4 : Ex B3 (upd B3 Bt4 (.lst [.ref Bt3])) := Ex.nw Bh4
      have BF4 : (upd B3 Bt4 (.lst [.ref Bt3])) Bt4 = some (.lst [.ref Bt3]) := upd_same
      generalize upd B3 Bt4 (.lst [.ref Bt3]) = B4 at BE4 BF4
      refine ⟨by show 3 ≤ sizeLine; decide, fun Bt5 Bh5 => ?_⟩
      have BE5 : Ex B4 (upd B4 Bt5 (.tup [.int 1, .ref Bt2, .ref Bt4])) := Ex.nw Bh5
      have BF5 : (upd B4 Bt5 (.tup [.int 1, .ref Bt2, .ref Bt4])) Bt5 = some (.tup [.int 1, .ref Bt2, .ref Bt4]) := upd_same
      generalize upd B4 Bt5 (.tup [.int 1, .ref Bt2, .ref Bt4]) = B5 at BE5 BF5
      refine ⟨by show 1 ≤ sizeLine; decide, fun Bt6 Bh6 => ?_⟩
      have BE6 : Ex B5 (upd B5 Bt6 (.lst [.int 1])) := Ex.nw Bh6
      have BF6 : (upd B5 Bt6 (.lst [.int 1])) Bt6 = some (.lst [.int 1]) := upd_same
      generalize upd B5 Bt6 (.lst [.int 1]) = B6 at BE6 BF6
      refine ⟨by show 1 ≤ sizeLine; decide, fun Bt7 Bh7 => ?_⟩
      have BE7 : Ex B6 (upd B6 Bt7 (.lst [.int 1])) := Ex.nw Bh7
      have BF7 : (upd B6 Bt7 (.lst [.int 1])) Bt7 = some (.lst [.int 1]) := upd_same
      generalize upd B6 Bt7 (.lst [.int 1]) = B7 at BE7 BF7
      refine ⟨by show 1 ≤ sizeLine; decide, fun Bt8 Bh8 => ?_⟩
      have BE8 : Ex B7 (upd B7 Bt8 (.lst [.ref Bt7])) := Ex.nw Bh8
      have BF8 : (upd B7 Bt8 (.lst [.ref Bt7])) Bt8 = some (.lst [.ref Bt7]) := upd_same
      generalize upd B7 Bt8 (.lst [.ref Bt7]) = B8 at BE8 BF8
      refine ⟨by show 2 ≤ sizeLine; decide, fun Bt9 Bh9 => ?_⟩
      have BE9 : Ex B8 (upd B8 Bt9 (.tup [.ref Bt6, .ref Bt8])) := Ex.nw Bh9
      have BF9 : (upd B8 Bt9 (.tup [.ref Bt6, .ref Bt8])) Bt9 = some (.tup [.ref Bt6, .ref Bt8]) := upd_same
      generalize upd B8 Bt9 (.tup [.ref Bt6, .ref Bt8]) = B9 at BE9 BF9
      refine ⟨by show 1 ≤ sizeLine; decide, fun Bt10 Bh10 => ?_⟩
      have BE10 : Ex B9 (upd B9 Bt10 (.lst [.int 0])) := Ex.nw Bh10
      have BF10 : (upd B9 Bt10 (.lst [.int 0])) Bt10 = some (.lst [.int 0]) := upd_same
      generalize upd B9 Bt10 (.lst [.int 0]) = B10 at BE10 BF10
      refine ⟨by show 1 ≤ sizeLine; decide, fun Bt11 Bh11 => ?_⟩
      have BE11 : Ex B10 (upd B10 Bt11 (.lst [.int 1])) := Ex.nw Bh11
      have BF11 : (upd B10 Bt11 (.lst [.int 1])) Bt11 = some (.lst [.int 1]) := upd_same
      generalize upd B10 Bt11 (.lst [.int 1]) = B11 at BE11 BF11
      refine ⟨by show 1 ≤ sizeLine; decide, fun Bt12 Bh12 => ?_⟩
      have BE12 : Ex B11 (upd B11 Bt12 (.lst [.ref Bt11])) := Ex.nw Bh12
      have BF12 : (upd B11 Bt12 (.lst [.ref Bt11])) Bt12 = some (.lst [.ref Bt11]) := upd_same
      generalize upd B11 Bt12 (.lst [.ref Bt11]) = B12 at BE12 BF12
      refine ⟨by show 2 ≤ sizeLine; decide, fun Bt13 Bh13 => ?_⟩
      have BE13 : Ex B12 (upd B12 Bt13 (.tup [.ref Bt10, .ref Bt12])) := Ex.nw Bh13
      have BF13 : (upd B12 Bt13 (.tup [.ref Bt10, .ref Bt12])) Bt13 = some (.tup [.ref Bt10, .ref Bt12]) := upd_same
      generalize upd B12 Bt13 (.tup [.ref Bt10, .ref Bt12]) = B13 at BE13 BF13
      refine ⟨by show 1 ≤ sizeLine; decide, fun Bt14 Bh14 => ?_⟩
      have BE14 : Ex B13 (upd B13 Bt14 (.lst [.int 1])) := Ex.nw Bh14
      have BF14 : (upd B13 Bt14 (.lst [.int 1])) Bt14 = some (.lst [.int 1]) := upd_same
      generalize upd B13 Bt14 (.lst [.int 1]) = B14 at BE14 BF14
      refine ⟨by show 1 ≤ sizeLine; decide, fun Bt15 Bh15 => ?_⟩
      have BE15 : Ex B14 (upd B14 Bt15 (.lst [.int 0])) := Ex.nw Bh15
      have BF15 : (upd B14 Bt15 (.lst [.int 0])) Bt15 = some (.lst [.int 0]) := upd_same
      generalize upd B14 Bt15 (.lst [.int 0]) = B15 at BE15 BF15
      refine ⟨by show 1 ≤ sizeLine; decide, fun Bt16 Bh16 => ?_⟩
      have BE16 : Ex B15 (upd B15 Bt16 (.lst [.ref Bt15])) := Ex.nw Bh16
      have BF16 : (upd B15 Bt16 (.lst [.ref Bt15])) Bt16 = some (.lst [.ref Bt15]) := upd_same
      generalize upd B15 Bt16 (.lst [.ref Bt15]) = B16 at BE16 BF16
      refine ⟨by show 2 ≤ sizeLine; decide, fun Bt17 Bh17 => ?_⟩
      have BE17 : Ex B16 (upd B16 Bt17 (.tup [.ref Bt14, .ref Bt16])) := Ex.nw Bh17
      have BF17 : (upd B16 Bt17 (.tup [.ref Bt14, .ref Bt16])) Bt17 = some (.tup [.ref Bt14, .ref Bt16]) := upd_same
      generalize upd B16 Bt17 (.tup [.ref Bt14, .ref Bt16]) = B17 at BE17 BF17
      refine ⟨by show 1 ≤ sizeLine; decide, fun Bt18 Bh18 => ?_⟩
      have BE18 : Ex B17 (upd B17 Bt18 (.lst [.int 1])) := Ex.nw Bh18
      have BF18 : (upd B17 Bt18 (.lst [.int 1])) Bt18 = some (.lst [.int 1]) := upd_same
      generalize upd B17 Bt18 (.lst [.int 1]) = B18 at BE18 BF18
      refine ⟨Nat.zero_le _, fun Bt19 Bh19 => ?_⟩
      have BE19 : Ex B18 (upd B18 Bt19 (.lst [])) := Ex.nw Bh19
      have BF19 : (upd B18 Bt19 (.lst [])) Bt19 = some (.lst []) := upd_same
      generalize upd B18 Bt19 (.lst []) = B19 at BE19 BF19
      refine ⟨by show 2 ≤ sizeLine; decide, fun Bt20 Bh20 => ?_⟩
      have BE20 : Ex B19 (upd B19 Bt20 (.tup [.ref Bt18, .ref Bt19])) := Ex.nw Bh20
      have BF20 : (upd B19 Bt20 (.tup [.ref Bt18, .ref Bt19])) Bt20 = some (.tup [.ref Bt18, .ref Bt19]) := upd_same
      generalize upd B19 Bt20 (.tup [.ref Bt18, .ref Bt19]) = B20 at BE20 BF20
      refine ⟨Nat.zero_le _, fun Bt21 Bh21 => ?_⟩
      have BE21 : Ex B20 (upd B20 Bt21 (.lst [])) := Ex.nw Bh21
      have BF21 : (upd B20 Bt21 (.lst [])) Bt21 = some (.lst []) := upd_same
      generalize upd B20 Bt21 (.lst []) = B21 at BE21 BF21
      refine ⟨by show 1 ≤ sizeLine; decide, fun Bt22 Bh22 => ?_⟩
      have BE22 : Ex B21 (upd B21 Bt22 (.lst [.int 1])) := Ex.nw Bh22
      have BF22 : (upd B21 Bt22 (.lst [.int 1])) Bt22 = some (.lst [.int 1]) := upd_same
      generalize upd B21 Bt22 (.lst [.int 1]) = B22 at BE22 BF22
      refine ⟨by show 1 ≤ sizeLine; decide, fun Bt23 Bh23 => ?_⟩
      have BE23 : Ex B22 (upd B22 Bt23 (.lst [.ref Bt22])) := Ex.nw Bh23
      have BF23 : (upd B22 Bt23 (.lst [.ref Bt22])) Bt23 = some (.lst [.ref Bt22]) := upd_same
      generalize upd B22 Bt23 (.lst [.ref Bt22]) = B23 at BE23 BF23
      refine ⟨by show 2 ≤ sizeLine; decide, fun Bt24 Bh24 => ?_⟩
      have BE24 : Ex B23 (upd B23 Bt24 (.tup [.ref Bt21, .ref Bt23])) := Ex.nw Bh24
      have BF24 : (upd B23 Bt24 (.tup [.ref Bt21, .ref Bt23])) Bt24 = some (.tup [.ref Bt21, .ref Bt23]) := upd_same
      generalize upd B23 Bt24 (.tup [.ref Bt21, .ref Bt23]) = B24 at BE24 BF24
      refine ⟨by show 5 ≤ sizeLine; decide, fun Bt25 Bh25 => ?_⟩
      have BE25 : Ex B24 (upd B24 Bt25 (.lst [.ref Bt9, .ref Bt13, .ref Bt17, .ref Bt20, .ref Bt24])) := Ex.nw Bh25
      have BF25 : (upd B24 Bt25 (.lst [.ref Bt9, .ref Bt13, .ref Bt17, .ref Bt20, .ref Bt24])) Bt25 = some (.lst [.ref Bt9, .ref Bt13, .ref Bt17, .ref Bt20, .ref Bt24]) := upd_same
      generalize upd B24 Bt25 (.lst [.ref Bt9, .ref Bt13, .ref Bt17, .ref Bt20, .ref Bt24]) = B25 at BE25 BF25
      have BU25 : Ex B25 B25 := Ex.rfl
      have BU24 := BE25.tr BU25
      have BU23 := BE24.tr BU24
      have BU22 := BE23.tr BU23
      have BU21 := BE22.tr BU22
      have BU20 := BE21.tr BU21
      have BU19 := BE20.tr BU20
      have BU18 := BE19.tr BU19
      have BU17 := BE18.tr BU18
      have BU16 := BE17.tr BU17
      have BU15 := BE16.tr BU16
      have BU14 := BE15.tr BU15
      have BU13 := BE14.tr BU14
      have BU12 := BE13.tr BU13
      have BU11 := BE12.tr BU12
      have BU10 := BE11.tr BU11
      have BU9 := BE10.tr BU10
      have BU8 := BE9.tr BU9
      have BU7 := BE8.tr BU8
      have BU6 := BE7.tr BU7
      have BU5 := BE6.tr BU6
      have BU4 := BE5.tr BU5
      have BU3 := BE4.tr BU4
      have BU2 := BE3.tr BU3
      have BU1 := BE2.tr BU2
      have BU0 := BE1.tr BU1
      have hus : (Wb.mk 1 [(0, 0)] [[0]]).Ok := ⟨by decide, by decide, by decide, by decide, by decide, by decide⟩
      have dW : Da K B25 (Wb.d ⟨1, [(0, 0)], [[0]]⟩) (.ref Bt5) := ⟨Bt5, _, rfl, BU5 _ _ BF5, ⟨_, _, rfl, rfl, ⟨_, _, rfl, ⟨Bt2, _, rfl, BU2 _ _ BF2, ⟨_, _, rfl, ⟨Bt1, _, rfl, BU1 _ _ BF1, ⟨_, _, rfl, rfl, ⟨_, _, rfl, rfl, rfl⟩⟩⟩, rfl⟩, by decide⟩, ⟨_, _, rfl, ⟨Bt4, _, rfl, BU4 _ _ BF4, ⟨_, _, rfl, ⟨Bt3, _, rfl, BU3 _ _ BF3, ⟨_, _, rfl, rfl, rfl⟩, by decide⟩, rfl⟩, by decide⟩, rfl⟩⟩⟩⟩
      have dL : Da K B25 (.list [(.tuple [(.list [(.int 1)]), (.list [(.list [(.int 1)])])]), (.tuple [(.list [(.int 0)]), (.list [(.list [(.int 1)])])]), (.tuple [(.list [(.int 1)]), (.list [(.list [(.int 0)])])]), (.tuple [(.list [(.int 1)]), (.list [])]), (.tuple [(.list []), (.list [(.list [(.int 1)])])])]) (.ref Bt25) := ⟨Bt25, _, rfl, BU25 _ _ BF25, ⟨_, _, rfl, ⟨Bt9, _, rfl, BU9 _ _ BF9, ⟨_, _, rfl, ⟨Bt6, _, rfl, BU6 _ _ BF6, ⟨_, _, rfl, rfl, rfl⟩, by decide⟩, ⟨_, _, rfl, ⟨Bt8, _, rfl, BU8 _ _ BF8, ⟨_, _, rfl, ⟨Bt7, _, rfl, BU7 _ _ BF7, ⟨_, _, rfl, rfl, rfl⟩, by decide⟩, rfl⟩, by decide⟩, rfl⟩⟩⟩, ⟨_, _, rfl, ⟨Bt13, _, rfl, BU13 _ _ BF13, ⟨_, _, rfl, ⟨Bt10, _, rfl, BU10 _ _ BF10, ⟨_, _, rfl, rfl, rfl⟩, by decide⟩, ⟨_, _, rfl, ⟨Bt12, _, rfl, BU12 _ _ BF12, ⟨_, _, rfl, ⟨Bt11, _, rfl, BU11 _ _ BF11, ⟨_, _, rfl, rfl, rfl⟩, by decide⟩, rfl⟩, by decide⟩, rfl⟩⟩⟩, ⟨_, _, rfl, ⟨Bt17, _, rfl, BU17 _ _ BF17, ⟨_, _, rfl, ⟨Bt14, _, rfl, BU14 _ _ BF14, ⟨_, _, rfl, rfl, rfl⟩, by decide⟩, ⟨_, _, rfl, ⟨Bt16, _, rfl, BU16 _ _ BF16, ⟨_, _, rfl, ⟨Bt15, _, rfl, BU15 _ _ BF15, ⟨_, _, rfl, rfl, rfl⟩, by decide⟩, rfl⟩, by decide⟩, rfl⟩⟩⟩, ⟨_, _, rfl, ⟨Bt20, _, rfl, BU20 _ _ BF20, ⟨_, _, rfl, ⟨Bt18, _, rfl, BU18 _ _ BF18, ⟨_, _, rfl, rfl, rfl⟩, by decide⟩, ⟨_, _, rfl, ⟨Bt19, _, rfl, BU19 _ _ BF19, rfl, by decide⟩, rfl⟩⟩⟩, ⟨_, _, rfl, ⟨Bt24, _, rfl, BU24 _ _ BF24, ⟨_, _, rfl, ⟨Bt21, _, rfl, BU21 _ _ BF21, rfl, by decide⟩, ⟨_, _, rfl, ⟨Bt23, _, rfl, BU23 _ _ BF23, ⟨_, _, rfl, ⟨Bt22, _, rfl, BU22 _ _ BF22, ⟨_, _, rfl, rfl, rfl⟩, by decide⟩, rfl⟩, by decide⟩, rfl⟩⟩⟩, rfl⟩⟩⟩⟩⟩, by decide⟩
      obtain ⟨_, xs, ea, hL, hA, _⟩ := dL
      cases ea
      have sL : SqL K B25 Bt25 xs := .inl (.inl hL)
      have hl5 : xs.length = 5 := hA.len.symm
      refine ⟨Bt25, rfl, ⟨_, sL⟩, fun O hO => ?_⟩
      refine lc_ev xs.length (fun _ => true) (fun i y _ => y = .bl (fillB ⟨1, [(0, 0)], [[0]]⟩ (([(.tuple [(.list [(.int 1)]), (.list [(.list [(.int 1)])])]), (.tuple [(.list [(.int 0)]), (.list [(.list [(.int 1)])])]), (.tuple [(.list [(.int 1)]), (.list [(.list [(.int 0)])])]), (.tuple [(.list [(.int 1)]), (.list [])]), (.tuple [(.list []), (.list [(.list [(.int 1)])])])] : List PyData).getD i .none))) (by omega) hO (fun _ _ _ _ _ h => h)
        (fun i H' hi e => itl_go sL e hi) (fun H' e => itl_stop sL e) ?_ ?_
      · intro i H' x H'' hi e _ y Q' N' hQ _
        obtain ⟨rfl, hx⟩ := itl_yld y sL e
        obtain ⟨d, hd, hx'⟩ := hA.at' hx
        refine ⟨rfl, _, rfl, _, rfl, _, _, _, d, rfl, dW.up e, hus, hx'.up e, fun H3 e3 => ?_⟩
        refine hQ rfl _ _ e3 ?_
        rw [List.getD_eq_getElem?_getD, hd]
        rfl
      · intro ys H2 e2 hy gv
        have hy2 := gv.all (v := fun i => V.bl (fillB ⟨1, [(0, 0)], [[0]]⟩ (([(.tuple [(.list [(.int 1)]), (.list [(.list [(.int 1)])])]), (.tuple [(.list [(.int 0)]), (.list [(.list [(.int 1)])])]), (.tuple [(.list [(.int 1)]), (.list [(.list [(.int 0)])])]), (.tuple [(.list [(.int 1)]), (.list [])]), (.tuple [(.list []), (.list [(.list [(.int 1)])])])] : List PyData).getD i .none)))
        rw [hl5] at hy2
        have hy3 : ys = [.bl true, .bl false, .bl false, .bl false, .bl false] := by
          rw [hy2]
          rfl
        subst hy3
        refine ⟨_, rfl, ?_⟩
        refine ⟨by show 5 ≤ sizeLine; decide, fun Ct1 Ch1 => ?_⟩
        have CE1 : Ex H2 (upd H2 Ct1 (.lst [.bl true, .bl false, .bl false, .bl false, .bl false])) := Ex.nw Ch1
        have CF1 : (upd H2 Ct1 (.lst [.bl true, .bl false, .bl false, .bl false, .bl false])) Ct1 = some (.lst [.bl true, .bl false, .bl false, .bl false, .bl false]) := upd_same
        generalize upd H2 Ct1 (.lst [.bl true, .bl false, .bl false, .bl false, .bl false]) = C1 at CE1 CF1
        have CU1 : Ex C1 C1 := Ex.rfl
        have CU0 := CE1.tr CU1
        have d1 : Da K C1 (.list [.bool true, .bool false, .bool false, .bool false, .bool false]) (.ref O) := ⟨O, _, rfl, CU0 _ _ hy, ⟨_, _, rfl, rfl, _, _, rfl, rfl, _, _, rfl, rfl, _, _, rfl, rfl, _, _, rfl, rfl, rfl⟩, by decide⟩
        have d2 : Da K C1 (.list [.bool true, .bool false, .bool false, .bool false, .bool false]) (.ref Ct1) := ⟨Ct1, _, rfl, CU1 _ _ CF1, ⟨_, _, rfl, rfl, ⟨_, _, rfl, rfl, ⟨_, _, rfl, rfl, ⟨_, _, rfl, rfl, ⟨_, _, rfl, rfl, rfl⟩⟩⟩⟩⟩, by decide⟩
        have hsh : SeqAt.shaped (.list [.bool true, .bool false, .bool false, .bool false, .bool false]) = true := by decide
        have hnd : (PyData.list [.bool true, .bool false, .bool false, .bool false, .bool false]).hasDict = false := by decide
        have heq : PyData.eqv (.list [.bool true, .bool false, .bool false, .bool false, .bool false]) (.list [.bool true, .bool false, .bool false, .bool false, .bool false]) = true := by decide +kernel
        refine ⟨_, _, d1.dp _ _ hnd, d2.dp _ _ hnd, hsh, hsh, ?_⟩
        rw [heq]
        refine ⟨_, rfl, ite2 (fun _ => ?_) (fun h => (h rfl).elim)⟩
        refine ⟨Nat.zero_le _, fun Dt1 Dh1 => ?_⟩
        have DE1 : Ex C1 (upd C1 Dt1 (.lst [])) := Ex.nw Dh1
        have DF1 : (upd C1 Dt1 (.lst [])) Dt1 = some (.lst []) := upd_same
        generalize upd C1 Dt1 (.lst []) = D1 at DE1 DF1
        refine ⟨Nat.zero_le _, fun Dt2 Dh2 => ?_⟩
        have DE2 : Ex D1 (upd D1 Dt2 (.lst [])) := Ex.nw Dh2
        have DF2 : (upd D1 Dt2 (.lst [])) Dt2 = some (.lst []) := upd_same
        generalize upd D1 Dt2 (.lst []) = D2 at DE2 DF2
        refine ⟨by show 3 ≤ sizeLine; decide, fun Dt3 Dh3 => ?_⟩
        have DE3 : Ex D2 (upd D2 Dt3 (.tup [.int 1, .ref Dt1, .ref Dt2])) := Ex.nw Dh3
        have DF3 : (upd D2 Dt3 (.tup [.int 1, .ref Dt1, .ref Dt2])) Dt3 = some (.tup [.int 1, .ref Dt1, .ref Dt2]) := upd_same
        generalize upd D2 Dt3 (.tup [.int 1, .ref Dt1, .ref Dt2]) = D3 at DE3 DF3
        refine ⟨Nat.zero_le _, fun Dt4 Dh4 => ?_⟩
        have DE4 : Ex D3 (upd D3 Dt4 (.lst [])) := Ex.nw Dh4
        have DF4 : (upd D3 Dt4 (.lst [])) Dt4 = some (.lst []) := upd_same
        generalize upd D3 Dt4 (.lst []) = D4 at DE4 DF4
        refine ⟨Nat.zero_le _, fun Dt5 Dh5 => ?_⟩
        have DE5 : Ex D4 (upd D4 Dt5 (.lst [])) := Ex.nw Dh5
        have DF5 : (upd D4 Dt5 (.lst [])) Dt5 = some (.lst []) := upd_same
        generalize upd D4 Dt5 (.lst []) = D5 at DE5 DF5
        refine ⟨by show 2 ≤ sizeLine; decide, fun Dt6 Dh6 => ?_⟩
        have DE6 : Ex D5 (upd D5 Dt6 (.tup [.ref Dt4, .ref Dt5])) := Ex.nw Dh6
        have DF6 : (upd D5 Dt6 (.tup [.ref Dt4, .ref Dt5])) Dt6 = some (.tup [.ref Dt4, .ref Dt5]) := upd_same
        generalize upd D5 Dt6 (.tup [.ref Dt4, .ref Dt5]) = D6 at DE6 DF6
        have DU6 : Ex D6 D6 := Ex.rfl
        have DU5 := DE6.tr DU6
        have DU4 := DE5.tr DU5
        have DU3 := DE4.tr DU4
        have DU2 := DE3.tr DU3
        have DU1 := DE2.tr DU2
        have DU0 := DE1.tr DU1
        have hu0 : (Wb.mk 1 [] []).Ok := ⟨by decide, by decide, by decide, by decide, by decide, by decide⟩
        have dW0 : Da K D6 (Wb.d ⟨1, [], []⟩) (.ref Dt3) := ⟨Dt3, _, rfl, DU3 _ _ DF3, ⟨_, _, rfl, rfl, ⟨_, _, rfl, ⟨Dt1, _, rfl, DU1 _ _ DF1, rfl, by decide⟩, ⟨_, _, rfl, ⟨Dt2, _, rfl, DU2 _ _ DF2, rfl, by decide⟩, rfl⟩⟩⟩⟩
        have dF0 : Da K D6 (Fl.d ⟨[], []⟩) (.ref Dt6) := ⟨Dt6, _, rfl, DU6 _ _ DF6, ⟨_, _, rfl, ⟨Dt4, _, rfl, DU4 _ _ DF4, rfl, by decide⟩, ⟨_, _, rfl, ⟨Dt5, _, rfl, DU5 _ _ DF5, rfl, by decide⟩, rfl⟩⟩⟩
        refine ⟨_, _, _, _, rfl, dW0, hu0, dF0, fun H5 e5 => ?_⟩
        have hf0 : fillB (Wb.mk 1 [] []) (Fl.d ⟨[], []⟩) = true := rfl
        rw [hf0]
        exact ⟨_, _, rfl, rfl, q _ (((((e1.tr BU0).tr e2).tr CU0).tr DU0).tr e5)⟩
end

end K21
namespace K21
open PySem PySem.Spec PyProof.Rows L2 Nw
theorem all_mk {l : PySem.W.OpenLaw} {w : World} {K : PySem.W.Frag} {h : Heap} {mg : Str → Option Value} {fa : Addr} (X : K.In h) (G : h.Ns mainGlobals mg) (hfa : mg "law" = some (.ref fa))
    {f0 f1 f2 f3 f4 f5 f6 f7 f8 f9 f10 f11 f12 f13 f14 f15 f16 f17 f18 f19 f20 f21 f22 f23 : Addr} {od0 an0 od1 an1 od2 an2 od3 an3 od4 an4 od5 an5 od6 an6 od7 an7 od8 an8 od9 an9 od10 an10 od11 an11 od12 an12 od13 an13 od14 an14 od15 an15 od16 an16 od17 an17 od18 an18 od19 an19 od20 an20 od21 an21 od22 an22 od23 an23 : Option Addr} {sl0 sl1 sl2 sl3 sl4 sl5 sl6 sl7 sl8 sl9 sl10 sl11 sl12 sl13 sl14 sl15 sl16 sl17 sl18 sl19 sl20 sl21 sl22 sl23 : Array (Option Value)}
    {oc0 kV0 dc0 pm0 cd0 ct0 oc1 kV1 dc1 pm1 cd1 ct1 oc2 kV2 dc2 pm2 cd2 ct2 oc3 kV3 dc3 pm3 cd3 ct3 oc4 kV4 dc4 pm4 cd4 ct4 oc5 kV5 dc5 pm5 cd5 ct5 oc6 kV6 dc6 pm6 cd6 ct6 oc7 kV7 dc7 pm7 cd7 ct7 oc8 kV8 dc8 pm8 cd8 ct8 oc9 kV9 dc9 pm9 cd9 ct9 oc10 kV10 dc10 pm10 cd10 ct10 oc11 kV11 dc11 pm11 cd11 ct11 oc12 kV12 dc12 pm12 cd12 ct12 oc13 kV13 dc13 pm13 cd13 ct13 oc14 kV14 dc14 pm14 cd14 ct14 oc15 kV15 dc15 pm15 cd15 ct15 oc16 kV16 dc16 pm16 cd16 ct16 oc17 kV17 dc17 pm17 cd17 ct17 oc18 kV18 dc18 pm18 cd18 ct18 oc19 kV19 dc19 pm19 cd19 ct19 oc20 kV20 dc20 pm20 cd20 ct20 oc21 kV21 dc21 pm21 cd21 ct21 oc22 kV22 dc22 pm22 cd22 ct22 oc23 kV23 dc23 pm23 cd23 ct23 : Value}
    (a0 : PySem.W.nsIn K mainGlobals "is_integer" = some (some (.ref f0))) (l0 : K.lookup f0 = some ⟨oc0, od0, .func (PySem.W.fnOf "is_integer" "is_integer" (defArgs s_is_integer) (defBody s_is_integer) (defScope s_is_integer) .none kV0 dc0 pm0 an0 cd0 ct0), sl0⟩) (c0 : PySem.W.codeIn K cd0 "is_integer" = true) (k0 : PySem.W.keepIn K (.ref f0) = true)
    (a1 : PySem.W.nsIn K mainGlobals "are_integers" = some (some (.ref f1))) (l1 : K.lookup f1 = some ⟨oc1, od1, .func (PySem.W.fnOf "are_integers" "are_integers" (defArgs s_are_integers) (defBody s_are_integers) (defScope s_are_integers) .none kV1 dc1 pm1 an1 cd1 ct1), sl1⟩) (c1 : PySem.W.codeIn K cd1 "are_integers" = true) (k1 : PySem.W.keepIn K (.ref f1) = true)
    (a2 : PySem.W.nsIn K mainGlobals "are_line_numbers" = some (some (.ref f2))) (l2 : K.lookup f2 = some ⟨oc2, od2, .func (PySem.W.fnOf "are_line_numbers" "are_line_numbers" (defArgs s_are_line_numbers) (defBody s_are_line_numbers) (defScope s_are_line_numbers) .none kV2 dc2 pm2 an2 cd2 ct2), sl2⟩) (c2 : PySem.W.codeIn K cd2 "are_line_numbers" = true) (k2 : PySem.W.keepIn K (.ref f2) = true)
    (a3 : PySem.W.nsIn K mainGlobals "has_filling_shape" = some (some (.ref f3))) (l3 : K.lookup f3 = some ⟨oc3, od3, .func (PySem.W.fnOf "has_filling_shape" "has_filling_shape" (defArgs s_has_filling_shape) (defBody s_has_filling_shape) (defScope s_has_filling_shape) .none kV3 dc3 pm3 an3 cd3 ct3), sl3⟩) (c3 : PySem.W.codeIn K cd3 "has_filling_shape" = true) (k3 : PySem.W.keepIn K (.ref f3) = true)
    (a4 : PySem.W.nsIn K mainGlobals "is_number_below" = some (some (.ref f4))) (l4 : K.lookup f4 = some ⟨oc4, od4, .func (PySem.W.fnOf "is_number_below" "is_number_below" (defArgs s_is_number_below) (defBody s_is_number_below) (defScope s_is_number_below) .none kV4 dc4 pm4 an4 cd4 ct4), sl4⟩) (c4 : PySem.W.codeIn K cd4 "is_number_below" = true) (k4 : PySem.W.keepIn K (.ref f4) = true)
    (a5 : PySem.W.nsIn K mainGlobals "is_tuple_below" = some (some (.ref f5))) (l5 : K.lookup f5 = some ⟨oc5, od5, .func (PySem.W.fnOf "is_tuple_below" "is_tuple_below" (defArgs s_is_tuple_below) (defBody s_is_tuple_below) (defScope s_is_tuple_below) .none kV5 dc5 pm5 an5 cd5 ct5), sl5⟩) (c5 : PySem.W.codeIn K cd5 "is_tuple_below" = true) (k5 : PySem.W.keepIn K (.ref f5) = true)
    (a6 : PySem.W.nsIn K mainGlobals "are_ascending" = some (some (.ref f6))) (l6 : K.lookup f6 = some ⟨oc6, od6, .func (PySem.W.fnOf "are_ascending" "are_ascending" (defArgs s_are_ascending) (defBody s_are_ascending) (defScope s_are_ascending) .none kV6 dc6 pm6 an6 cd6 ct6), sl6⟩) (c6 : PySem.W.codeIn K cd6 "are_ascending" = true) (k6 : PySem.W.keepIn K (.ref f6) = true)
    (a7 : PySem.W.nsIn K mainGlobals "are_ascending_tuples" = some (some (.ref f7))) (l7 : K.lookup f7 = some ⟨oc7, od7, .func (PySem.W.fnOf "are_ascending_tuples" "are_ascending_tuples" (defArgs s_are_ascending_tuples) (defBody s_are_ascending_tuples) (defScope s_are_ascending_tuples) .none kV7 dc7 pm7 an7 cd7 ct7), sl7⟩) (c7 : PySem.W.codeIn K cd7 "are_ascending_tuples" = true) (k7 : PySem.W.keepIn K (.ref f7) = true)
    (a8 : PySem.W.nsIn K mainGlobals "are_below" = some (some (.ref f8))) (l8 : K.lookup f8 = some ⟨oc8, od8, .func (PySem.W.fnOf "are_below" "are_below" (defArgs s_are_below) (defBody s_are_below) (defScope s_are_below) .none kV8 dc8 pm8 an8 cd8 ct8), sl8⟩) (c8 : PySem.W.codeIn K cd8 "are_below" = true) (k8 : PySem.W.keepIn K (.ref f8) = true)
    (a9 : PySem.W.nsIn K mainGlobals "are_targets" = some (some (.ref f9))) (l9 : K.lookup f9 = some ⟨oc9, od9, .func (PySem.W.fnOf "are_targets" "are_targets" (defArgs s_are_targets) (defBody s_are_targets) (defScope s_are_targets) .none kV9 dc9 pm9 an9 cd9 ct9), sl9⟩) (c9 : PySem.W.codeIn K cd9 "are_targets" = true) (k9 : PySem.W.keepIn K (.ref f9) = true)
    (a10 : PySem.W.nsIn K mainGlobals "are_nudges" = some (some (.ref f10))) (l10 : K.lookup f10 = some ⟨oc10, od10, .func (PySem.W.fnOf "are_nudges" "are_nudges" (defArgs s_are_nudges) (defBody s_are_nudges) (defScope s_are_nudges) .none kV10 dc10 pm10 an10 cd10 ct10), sl10⟩) (c10 : PySem.W.codeIn K cd10 "are_nudges" = true) (k10 : PySem.W.keepIn K (.ref f10) = true)
    (a11 : PySem.W.nsIn K mainGlobals "has_web_shape" = some (some (.ref f11))) (l11 : K.lookup f11 = some ⟨oc11, od11, .func (PySem.W.fnOf "has_web_shape" "has_web_shape" (defArgs s_has_web_shape) (defBody s_has_web_shape) (defScope s_has_web_shape) .none kV11 dc11 pm11 an11 cd11 ct11), sl11⟩) (c11 : PySem.W.codeIn K cd11 "has_web_shape" = true) (k11 : PySem.W.keepIn K (.ref f11) = true)
    (a12 : PySem.W.nsIn K mainGlobals "check_web" = some (some (.ref f12))) (l12 : K.lookup f12 = some ⟨oc12, od12, .func (PySem.W.fnOf "check_web" "check_web" (defArgs s_check_web) (defBody s_check_web) (defScope s_check_web) .none kV12 dc12 pm12 an12 cd12 ct12), sl12⟩) (c12 : PySem.W.codeIn K cd12 "check_web" = true) (k12 : PySem.W.keepIn K (.ref f12) = true)
    (a13 : PySem.W.nsIn K mainGlobals "is_filling" = some (some (.ref f13))) (l13 : K.lookup f13 = some ⟨oc13, od13, .func (PySem.W.fnOf "is_filling" "is_filling" (defArgs s_is_filling) (defBody s_is_filling) (defScope s_is_filling) .none kV13 dc13 pm13 an13 cd13 ct13), sl13⟩) (c13 : PySem.W.codeIn K cd13 "is_filling" = true) (k13 : PySem.W.keepIn K (.ref f13) = true)
    (a14 : PySem.W.nsIn K mainGlobals "_law_purse" = some (some (.ref f14))) (l14 : K.lookup f14 = some ⟨oc14, od14, .func (PySem.W.fnOf "_law_purse" "_law_purse" (defArgs s_purse) (defBody s_purse) (defScope s_purse) .none kV14 dc14 pm14 an14 cd14 ct14), sl14⟩) (c14 : PySem.W.codeIn K cd14 "_law_purse" = true) (k14 : PySem.W.keepIn K (.ref f14) = true)
    (a15 : PySem.W.nsIn K mainGlobals "_law_coin" = some (some (.ref f15))) (l15 : K.lookup f15 = some ⟨oc15, od15, .func (PySem.W.fnOf "_law_coin" "_law_coin" (defArgs s_coin) (defBody s_coin) (defScope s_coin) .none kV15 dc15 pm15 an15 cd15 ct15), sl15⟩) (c15 : PySem.W.codeIn K cd15 "_law_coin" = true) (k15 : PySem.W.keepIn K (.ref f15) = true)
    (a16 : PySem.W.nsIn K mainGlobals "_law_targets" = some (some (.ref f16))) (l16 : K.lookup f16 = some ⟨oc16, od16, .func (PySem.W.fnOf "_law_targets" "_law_targets" (defArgs s_targets) (defBody s_targets) (defScope s_targets) .none kV16 dc16 pm16 an16 cd16 ct16), sl16⟩) (c16 : PySem.W.codeIn K cd16 "_law_targets" = true) (k16 : PySem.W.keepIn K (.ref f16) = true)
    (a17 : PySem.W.nsIn K mainGlobals "_law_web" = some (some (.ref f17))) (l17 : K.lookup f17 = some ⟨oc17, od17, .func (PySem.W.fnOf "_law_web" "_law_web" (defArgs s_web) (defBody s_web) (defScope s_web) .none kV17 dc17 pm17 an17 cd17 ct17), sl17⟩) (c17 : PySem.W.codeIn K cd17 "_law_web" = true) (k17 : PySem.W.keepIn K (.ref f17) = true)
    (a18 : PySem.W.nsIn K mainGlobals "_law_filling" = some (some (.ref f18))) (l18 : K.lookup f18 = some ⟨oc18, od18, .func (PySem.W.fnOf "_law_filling" "_law_filling" (defArgs s_filling) (defBody s_filling) (defScope s_filling) .none kV18 dc18 pm18 an18 cd18 ct18), sl18⟩) (c18 : PySem.W.codeIn K cd18 "_law_filling" = true) (k18 : PySem.W.keepIn K (.ref f18) = true)
    (a19 : PySem.W.nsIn K mainGlobals "_law_are" = some (some (.ref f19))) (l19 : K.lookup f19 = some ⟨oc19, od19, .func (PySem.W.fnOf "_law_are" "_law_are" (defArgs s_are) (defBody s_are) (defScope s_are) .none kV19 dc19 pm19 an19 cd19 ct19), sl19⟩) (c19 : PySem.W.codeIn K cd19 "_law_are" = true) (k19 : PySem.W.keepIn K (.ref f19) = true)
    (a20 : PySem.W.nsIn K mainGlobals "_law_is" = some (some (.ref f20))) (l20 : K.lookup f20 = some ⟨oc20, od20, .func (PySem.W.fnOf "_law_is" "_law_is" (defArgs s_is) (defBody s_is) (defScope s_is) .none kV20 dc20 pm20 an20 cd20 ct20), sl20⟩) (c20 : PySem.W.codeIn K cd20 "_law_is" = true) (k20 : PySem.W.keepIn K (.ref f20) = true)
    (a21 : PySem.W.nsIn K mainGlobals "_law_bent_list" = some (some (.ref f21))) (l21 : K.lookup f21 = some ⟨oc21, od21, .func (PySem.W.fnOf "_law_bent_list" "_law_bent_list" (defArgs s_bent_list) (defBody s_bent_list) (defScope s_bent_list) .none kV21 dc21 pm21 an21 cd21 ct21), sl21⟩) (c21 : PySem.W.codeIn K cd21 "_law_bent_list" = true) (k21 : PySem.W.keepIn K (.ref f21) = true)
    (a22 : PySem.W.nsIn K mainGlobals "_law_bent" = some (some (.ref f22))) (l22 : K.lookup f22 = some ⟨oc22, od22, .func (PySem.W.fnOf "_law_bent" "_law_bent" (defArgs s_bent) (defBody s_bent) (defScope s_bent) .none kV22 dc22 pm22 an22 cd22 ct22), sl22⟩) (c22 : PySem.W.codeIn K cd22 "_law_bent" = true) (k22 : PySem.W.keepIn K (.ref f22) = true)
    (a23 : PySem.W.nsIn K mainGlobals "law" = some (some (.ref f23))) (l23 : K.lookup f23 = some ⟨oc23, od23, .func (PySem.W.fnOf "law" "law" (defArgs s_law) (defBody s_law) (defScope s_law) .none kV23 dc23 pm23 an23 cd23 ct23), sl23⟩) (c23 : PySem.W.codeIn K cd23 "law" = true) (k23 : PySem.W.keepIn K (.ref f23) = true)
    (z_isinstance : PySem.W.nsIn K mainGlobals "isinstance" = some none)
    (z_len : PySem.W.nsIn K mainGlobals "len" = some none)
    (z_all : PySem.W.nsIn K mainGlobals "all" = some none)
    (z_repr : PySem.W.nsIn K mainGlobals "repr" = some none)
    (z_abs : PySem.W.nsIn K mainGlobals "abs" = some none)
    (z_max : PySem.W.nsIn K mainGlobals "max" = some none)
    (z_min : PySem.W.nsIn K mainGlobals "min" = some none)
    (z_int : PySem.W.nsIn K mainGlobals "int" = some none)
    (z_bool : PySem.W.nsIn K mainGlobals "bool" = some none)
    (z_list : PySem.W.nsIn K mainGlobals "list" = some none)
    (z_tuple : PySem.W.nsIn K mainGlobals "tuple" = some none)
    (z_range : PySem.W.nsIn K mainGlobals "range" = some none)
    (z_zip : PySem.W.nsIn K mainGlobals "zip" = some none)
    {t_MOST_QUANTITIES : Tok} (v_MOST_QUANTITIES : PySem.W.nsIn K mainGlobals "MOST_QUANTITIES" = some (some (.int 20 t_MOST_QUANTITIES)))
    {t_MOST_NUDGES : Tok} (v_MOST_NUDGES : PySem.W.nsIn K mainGlobals "MOST_NUDGES" = some (some (.int 8 t_MOST_NUDGES)))
    {t_GREATEST_NUMBER : Tok} (v_GREATEST_NUMBER : PySem.W.nsIn K mainGlobals "GREATEST_NUMBER" = some (some (.int 1000000 t_GREATEST_NUMBER)))
    : ∃ fd : FuncData, (∀ (s : Shared) (v : Value), BindsTo s fd ⟨[v], []⟩ [("_law_script", v)]) ∧ ∀ base : Heap, K.In base → base.Ns mainGlobals mg → SysAt base → FnG l.prog w K mg base CX0 9 fa fd ["_law_script"] (sp_law K) := by
  have e := hfa.symm.trans (PySem.W.mg_of X G a23)
  cases e
  have T : Txt K mg := ⟨PySem.W.mg_none_of X G z_isinstance, PySem.W.mg_none_of X G z_len, PySem.W.mg_none_of X G z_all, PySem.W.mg_none_of X G z_repr, PySem.W.mg_none_of X G z_abs, PySem.W.mg_none_of X G z_max, PySem.W.mg_none_of X G z_min, PySem.W.mg_none_of X G z_int, PySem.W.mg_none_of X G z_bool, PySem.W.mg_none_of X G z_list, PySem.W.mg_none_of X G z_tuple, PySem.W.mg_none_of X G z_range, PySem.W.mg_none_of X G z_zip, ⟨_, PySem.W.mg_of X G v_MOST_QUANTITIES⟩, ⟨_, PySem.W.mg_of X G v_MOST_NUDGES⟩, ⟨_, PySem.W.mg_of X G v_GREATEST_NUMBER⟩⟩
  refine ⟨PySem.W.fnOf "law" "law" (defArgs s_law) (defBody s_law) (defScope s_law) .none kV23 dc23 pm23 an23 cd23 ct23, fun s v => .of_eq rfl, fun base _ _ SM => ?_⟩
  have F0 := fun_mk (st := s_is_integer) l0 c0 k0
  have G0 := ok_is_integer (P := l.prog) (w := w) (base := base) T F0 
  have B0 := F0.binds (ps := P_is_integer) fun _ _ _ _ _ _ us hl => match us, hl with | [_], _ => rfl
  have D_is_integer : DefOk l.prog w K mg base CX0 1 "is_integer" P_is_integer (sp_is_integer K) := ⟨f0, _, G0, PySem.W.mg_of X G a0, k0, B0⟩
  have F1 := fun_mk (st := s_are_integers) l1 c1 k1
  have G1 := ok_are_integers (P := l.prog) (w := w) (base := base) T F1 D_is_integer
  have B1 := F1.binds (ps := P_are_integers) fun _ _ _ _ _ _ us hl => match us, hl with | [_, _], _ => rfl
  have D_are_integers : DefOk l.prog w K mg base CX0 2 "are_integers" P_are_integers (sp_are_integers K) := ⟨f1, _, G1, PySem.W.mg_of X G a1, k1, B1⟩
  have F2 := fun_mk (st := s_are_line_numbers) l2 c2 k2
  have G2 := ok_are_line_numbers (P := l.prog) (w := w) (base := base) T F2 D_are_integers
  have B2 := F2.binds (ps := P_are_line_numbers) fun _ _ _ _ _ _ us hl => match us, hl with | [_, _], _ => rfl
  have D_are_line_numbers : DefOk l.prog w K mg base CX0 3 "are_line_numbers" P_are_line_numbers (sp_are_line_numbers K) := ⟨f2, _, G2, PySem.W.mg_of X G a2, k2, B2⟩
  have F3 := fun_mk (st := s_has_filling_shape) l3 c3 k3
  have G3 := ok_has_filling_shape (P := l.prog) (w := w) (base := base) T F3 D_are_line_numbers
  have B3 := F3.binds (ps := P_has_filling_shape) fun _ _ _ _ _ _ us hl => match us, hl with | [_, _], _ => rfl
  have D_has_filling_shape : DefOk l.prog w K mg base CX0 4 "has_filling_shape" P_has_filling_shape (sp_has_filling_shape K) := ⟨f3, _, G3, PySem.W.mg_of X G a3, k3, B3⟩
  have F4 := fun_mk (st := s_is_number_below) l4 c4 k4
  have G4 := ok_is_number_below (P := l.prog) (w := w) (base := base) T F4 D_is_integer
  have B4 := F4.binds (ps := P_is_number_below) fun _ _ _ _ _ _ us hl => match us, hl with | [_, _], _ => rfl
  have D_is_number_below : DefOk l.prog w K mg base CX0 2 "is_number_below" P_is_number_below (sp_is_number_below K) := ⟨f4, _, G4, PySem.W.mg_of X G a4, k4, B4⟩
  have F5 := fun_mk (st := s_is_tuple_below) l5 c5 k5
  have G5 := ok_is_tuple_below (P := l.prog) (w := w) (base := base) T F5 D_is_number_below
  have B5 := F5.binds (ps := P_is_tuple_below) fun _ _ _ _ _ _ us hl => match us, hl with | [_, _, _], _ => rfl
  have D_is_tuple_below : DefOk l.prog w K mg base CX0 3 "is_tuple_below" P_is_tuple_below (sp_is_tuple_below K) := ⟨f5, _, G5, PySem.W.mg_of X G a5, k5, B5⟩
  have F6 := fun_mk (st := s_are_ascending) l6 c6 k6
  have G6 := ok_are_ascending (P := l.prog) (w := w) (base := base) T F6 
  have B6 := F6.binds (ps := P_are_ascending) fun _ _ _ _ _ _ us hl => match us, hl with | [_], _ => rfl
  have D_are_ascending : DefOk l.prog w K mg base CX0 1 "are_ascending" P_are_ascending (sp_are_ascending K) := ⟨f6, _, G6, PySem.W.mg_of X G a6, k6, B6⟩
  have F7 := fun_mk (st := s_are_ascending_tuples) l7 c7 k7
  have G7 := ok_are_ascending_tuples (P := l.prog) (w := w) (base := base) T F7 D_is_tuple_below D_are_ascending
  have B7 := F7.binds (ps := P_are_ascending_tuples) fun _ _ _ _ _ _ us hl => match us, hl with | [_, _, _], _ => rfl
  have D_are_ascending_tuples : DefOk l.prog w K mg base CX0 4 "are_ascending_tuples" P_are_ascending_tuples (sp_are_ascending_tuples K) := ⟨f7, _, G7, PySem.W.mg_of X G a7, k7, B7⟩
  have F8 := fun_mk (st := s_are_below) l8 c8 k8
  have G8 := ok_are_below (P := l.prog) (w := w) (base := base) T F8 D_is_number_below
  have B8 := F8.binds (ps := P_are_below) fun _ _ _ _ _ _ us hl => match us, hl with | [_, _], _ => rfl
  have D_are_below : DefOk l.prog w K mg base CX0 3 "are_below" P_are_below (sp_are_below K) := ⟨f8, _, G8, PySem.W.mg_of X G a8, k8, B8⟩
  have F9 := fun_mk (st := s_are_targets) l9 c9 k9
  have G9 := ok_are_targets (P := l.prog) (w := w) (base := base) T F9 D_are_below D_are_ascending
  have B9 := F9.binds (ps := P_are_targets) fun _ _ _ _ _ _ us hl => match us, hl with | [_, _], _ => rfl
  have D_are_targets : DefOk l.prog w K mg base CX0 4 "are_targets" P_are_targets (sp_are_targets K) := ⟨f9, _, G9, PySem.W.mg_of X G a9, k9, B9⟩
  have F10 := fun_mk (st := s_are_nudges) l10 c10 k10
  have G10 := ok_are_nudges (P := l.prog) (w := w) (base := base) T F10 D_are_targets
  have B10 := F10.binds (ps := P_are_nudges) fun _ _ _ _ _ _ us hl => match us, hl with | [_, _], _ => rfl
  have D_are_nudges : DefOk l.prog w K mg base CX0 5 "are_nudges" P_are_nudges (sp_are_nudges K) := ⟨f10, _, G10, PySem.W.mg_of X G a10, k10, B10⟩
  have F11 := fun_mk (st := s_has_web_shape) l11 c11 k11
  have G11 := ok_has_web_shape (P := l.prog) (w := w) (base := base) T F11 D_is_integer D_are_ascending_tuples D_are_nudges
  have B11 := F11.binds (ps := P_has_web_shape) fun _ _ _ _ _ _ us hl => match us, hl with | [_], _ => rfl
  have D_has_web_shape : DefOk l.prog w K mg base CX0 6 "has_web_shape" P_has_web_shape (sp_has_web_shape K) := ⟨f11, _, G11, PySem.W.mg_of X G a11, k11, B11⟩
  have F12 := fun_mk (st := s_check_web) l12 c12 k12
  have G12 := ok_check_web (P := l.prog) (w := w) (base := base) T F12 D_has_web_shape
  have B12 := F12.binds (ps := P_check_web) fun _ _ _ _ _ _ us hl => match us, hl with | [_], _ => rfl
  have D_check_web : DefOk l.prog w K mg base CX0 7 "check_web" P_check_web (sp_check_web K) := ⟨f12, _, G12, PySem.W.mg_of X G a12, k12, B12⟩
  have F13 := fun_mk (st := s_is_filling) l13 c13 k13
  have G13 := ok_is_filling (P := l.prog) (w := w) (base := base) T F13 D_has_filling_shape D_check_web
  have B13 := F13.binds (ps := P_is_filling) fun _ _ _ _ _ _ us hl => match us, hl with | [_, _], _ => rfl
  have D_is_filling : DefOk l.prog w K mg base CX0 8 "is_filling" P_is_filling (sp_is_filling K) := ⟨f13, _, G13, PySem.W.mg_of X G a13, k13, B13⟩
  have F14 := fun_mk (st := s_purse) l14 c14 k14
  have G14 := ok_purse (P := l.prog) (w := w) (base := base) T F14 
  have B14 := F14.binds (ps := P_purse) fun _ _ _ _ _ _ us hl => match us, hl with | [_, _], _ => rfl
  have D_purse : DefOk l.prog w K mg base CX0 1 "_law_purse" P_purse (sp_purse K) := ⟨f14, _, G14, PySem.W.mg_of X G a14, k14, B14⟩
  have F15 := fun_mk (st := s_coin) l15 c15 k15
  have G15 := ok_coin (P := l.prog) (w := w) (base := base) T F15 
  have B15 := F15.binds (ps := P_coin) fun _ _ _ _ _ _ us hl => match us, hl with | [_, _], _ => rfl
  have D_coin : DefOk l.prog w K mg base CX0 1 "_law_coin" P_coin (sp_coin K) := ⟨f15, _, G15, PySem.W.mg_of X G a15, k15, B15⟩
  have F16 := fun_mk (st := s_targets) l16 c16 k16
  have G16 := ok_targets (P := l.prog) (w := w) (base := base) T F16 D_coin
  have B16 := F16.binds (ps := P_targets) fun _ _ _ _ _ _ us hl => match us, hl with | [_, _], _ => rfl
  have D_targets : DefOk l.prog w K mg base CX0 2 "_law_targets" P_targets (sp_targets K) := ⟨f16, _, G16, PySem.W.mg_of X G a16, k16, B16⟩
  have F17 := fun_mk (st := s_web) l17 c17 k17
  have G17 := ok_web (P := l.prog) (w := w) (base := base) T F17 D_coin D_targets
  have B17 := F17.binds (ps := P_web) fun _ _ _ _ _ _ us hl => match us, hl with | [_, _, _], _ => rfl
  have D_web : DefOk l.prog w K mg base CX0 3 "_law_web" P_web (sp_web K) := ⟨f17, _, G17, PySem.W.mg_of X G a17, k17, B17⟩
  have F18 := fun_mk (st := s_filling) l18 c18 k18
  have G18 := ok_filling (P := l.prog) (w := w) (base := base) T F18 D_coin
  have B18 := F18.binds (ps := P_filling) fun _ _ _ _ _ _ us hl => match us, hl with | [_, _, _], _ => rfl
  have D_filling : DefOk l.prog w K mg base CX0 2 "_law_filling" P_filling (sp_filling K) := ⟨f18, _, G18, PySem.W.mg_of X G a18, k18, B18⟩
  have F19 := fun_mk (st := s_are) l19 c19 k19
  have G19 := ok_are (P := l.prog) (w := w) (base := base) T F19 
  have B19 := F19.binds (ps := P_are) fun _ _ _ _ _ _ us hl => match us, hl with | [_, _], _ => rfl
  have D_are : DefOk l.prog w K mg base CX0 1 "_law_are" P_are (sp_are K) := ⟨f19, _, G19, PySem.W.mg_of X G a19, k19, B19⟩
  have F20 := fun_mk (st := s_is) l20 c20 k20
  have G20 := ok_is (P := l.prog) (w := w) (base := base) T F20 D_are
  have B20 := F20.binds (ps := P_is) fun _ _ _ _ _ _ us hl => match us, hl with | [_, _], _ => rfl
  have D_is : DefOk l.prog w K mg base CX0 2 "_law_is" P_is (sp_is K) := ⟨f20, _, G20, PySem.W.mg_of X G a20, k20, B20⟩
  have F21 := fun_mk (st := s_bent_list) l21 c21 k21
  have G21 := ok_bent_list (P := l.prog) (w := w) (base := base) T F21 D_coin
  have B21 := F21.binds (ps := P_bent_list) fun _ _ _ _ _ _ us hl => match us, hl with | [_, _], _ => rfl
  have D_bent_list : DefOk l.prog w K mg base CX0 2 "_law_bent_list" P_bent_list (sp_bent_list K) := ⟨f21, _, G21, PySem.W.mg_of X G a21, k21, B21⟩
  have F22 := fun_mk (st := s_bent) l22 c22 k22
  have G22 := ok_bent (P := l.prog) (w := w) (base := base) T F22 D_coin D_bent_list
  have B22 := F22.binds (ps := P_bent) fun _ _ _ _ _ _ us hl => match us, hl with | [_, _], _ => rfl
  have D_bent : DefOk l.prog w K mg base CX0 3 "_law_bent" P_bent (sp_bent K) := ⟨f22, _, G22, PySem.W.mg_of X G a22, k22, B22⟩
  have F23 := fun_mk (st := s_law) l23 c23 k23
  have G23 := ok_law (P := l.prog) (w := w) (base := base) T F23 SM D_is_filling D_purse D_coin D_web D_filling D_is D_bent
  exact G23
theorem walk {l : PySem.W.OpenLaw} {q : Program} {loose : List Str} {XP : (Str → Option Value) → Heap → Prop} {YP : World → Heap → Prop} {d : DefRec} {K : Params → PySem.W.Frag} (hi : PyProof.Rows.importsNone q = true) (hn : l.most = some 63) (hdf : d.params.defaults = [])
    (hY : ∀ (w : World) (h : Heap), YP w h → (K w.params).In h)
    (F : ∀ (w : World) (mg : Str → Option Value) (fa : Addr) (h : Heap), (K w.params).In h → h.Ns mainGlobals mg → mg d.name = some (.ref fa) →
      ∃ fd : FuncData, (∀ (s : Shared) (u : Value), BindsTo s fd ⟨[u], []⟩ [("_law_script", u)]) ∧ ∀ base : Heap, (K w.params).In base → base.Ns mainGlobals mg → SysAt base → FnG l.prog w (K w.params) mg base CX0 9 fa fd ["_law_script"] (sp_law (K w.params))) :
    PySem.W.WalkO q loose XP YP l.row.toRowW d [] (fun f vs => PySem.call f vs) :=
  walkS (n := 63) (k := 9) (x := "_law_script") (CX := fun _ => CX0) (sp := fun w => sp_law (K w.params)) hi hn (by decide) hdf ⟨rfl, by decide, by decide⟩ hY F (fun _ H a ns hl _ hS => sp_law_start hl hS) fun _ _ _ _ _ z => z
end K21
open PySem PySem.W PyProof.Rows in
set_option maxRecDepth 100000 in
set_option maxHeartbeats 0 in
theorem PySem.Challenge.cw_nudgewebs_k21_fillings_judged_holds : PySem.Challenge.rw_nudgewebs_k21_fillings_judged.Holds := by
  w_on; o_law; k_head; (case hw => w_witness2)
  k_fill
  refine K21.walk (l := PySem.Challenge.rw_nudgewebs_k21_fillings_judged) (by decide +kernel) rfl rfl (fun w h Y => PySem.W.kIn_of Y) ?F
  case F =>
    intro w mg fa h KX G hmg
    refine' K21.all_mk KX G hmg ?a0 ?l0 ?c0 ?k0 ?a1 ?l1 ?c1 ?k1 ?a2 ?l2 ?c2 ?k2 ?a3 ?l3 ?c3 ?k3 ?a4 ?l4 ?c4 ?k4 ?a5 ?l5 ?c5 ?k5 ?a6 ?l6 ?c6 ?k6 ?a7 ?l7 ?c7 ?k7 ?a8 ?l8 ?c8 ?k8 ?a9 ?l9 ?c9 ?k9 ?a10 ?l10 ?c10 ?k10 ?a11 ?l11 ?c11 ?k11 ?a12 ?l12 ?c12 ?k12 ?a13 ?l13 ?c13 ?k13 ?a14 ?l14 ?c14 ?k14 ?a15 ?l15 ?c15 ?k15 ?a16 ?l16 ?c16 ?k16 ?a17 ?l17 ?c17 ?k17 ?a18 ?l18 ?c18 ?k18 ?a19 ?l19 ?c19 ?k19 ?a20 ?l20 ?c20 ?k20 ?a21 ?l21 ?c21 ?k21 ?a22 ?l22 ?c22 ?k22 ?a23 ?l23 ?c23 ?k23 ?z_isinstance ?z_len ?z_all ?z_repr ?z_abs ?z_max ?z_min ?z_int ?z_bool ?z_list ?z_tuple ?z_range ?z_zip ?v_MOST_QUANTITIES ?v_MOST_NUDGES ?v_GREATEST_NUMBER
    (case a0 => k_is)
    (case l0 => k_is)
    (case c0 => k_is)
    (case k0 => k_is)
    (case a1 => k_is)
    (case l1 => k_is)
    (case c1 => k_is)
    (case k1 => k_is)
    (case a2 => k_is)
    (case l2 => k_is)
    (case c2 => k_is)
    (case k2 => k_is)
    (case a3 => k_is)
    (case l3 => k_is)
    (case c3 => k_is)
    (case k3 => k_is)
    (case a4 => k_is)
    (case l4 => k_is)
    (case c4 => k_is)
    (case k4 => k_is)
    (case a5 => k_is)
    (case l5 => k_is)
    (case c5 => k_is)
    (case k5 => k_is)
    (case a6 => k_is)
    (case l6 => k_is)
    (case c6 => k_is)
    (case k6 => k_is)
    (case a7 => k_is)
    (case l7 => k_is)
    (case c7 => k_is)
    (case k7 => k_is)
    (case a8 => k_is)
    (case l8 => k_is)
    (case c8 => k_is)
    (case k8 => k_is)
    (case a9 => k_is)
    (case l9 => k_is)
    (case c9 => k_is)
    (case k9 => k_is)
    (case a10 => k_is)
    (case l10 => k_is)
    (case c10 => k_is)
    (case k10 => k_is)
    (case a11 => k_is)
    (case l11 => k_is)
    (case c11 => k_is)
    (case k11 => k_is)
    (case a12 => k_is)
    (case l12 => k_is)
    (case c12 => k_is)
    (case k12 => k_is)
    (case a13 => k_is)
    (case l13 => k_is)
    (case c13 => k_is)
    (case k13 => k_is)
    (case a14 => k_is)
    (case l14 => k_is)
    (case c14 => k_is)
    (case k14 => k_is)
    (case a15 => k_is)
    (case l15 => k_is)
    (case c15 => k_is)
    (case k15 => k_is)
    (case a16 => k_is)
    (case l16 => k_is)
    (case c16 => k_is)
    (case k16 => k_is)
    (case a17 => k_is)
    (case l17 => k_is)
    (case c17 => k_is)
    (case k17 => k_is)
    (case a18 => k_is)
    (case l18 => k_is)
    (case c18 => k_is)
    (case k18 => k_is)
    (case a19 => k_is)
    (case l19 => k_is)
    (case c19 => k_is)
    (case k19 => k_is)
    (case a20 => k_is)
    (case l20 => k_is)
    (case c20 => k_is)
    (case k20 => k_is)
    (case a21 => k_is)
    (case l21 => k_is)
    (case c21 => k_is)
    (case k21 => k_is)
    (case a22 => k_is)
    (case l22 => k_is)
    (case c22 => k_is)
    (case k22 => k_is)
    (case a23 => k_is)
    (case l23 => k_is)
    (case c23 => k_is)
    (case k23 => k_is)
    (case z_isinstance => k_is)
    (case z_len => k_is)
    (case z_all => k_is)
    (case z_repr => k_is)
    (case z_abs => k_is)
    (case z_max => k_is)
    (case z_min => k_is)
    (case z_int => k_is)
    (case z_bool => k_is)
    (case z_list => k_is)
    (case z_tuple => k_is)
    (case z_range => k_is)
    (case z_zip => k_is)
    (case v_MOST_QUANTITIES => k_is)
    (case v_MOST_NUDGES => k_is)
    (case v_GREATEST_NUMBER => k_is)
