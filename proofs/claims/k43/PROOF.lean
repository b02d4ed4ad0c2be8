import PyProof.Rows.All
import Wide.All
import OpenK.AllK
import Wide.FinOn
import PyProof.EqAt
import PyProof.EqKinds
import PyProof.TupleCall
import PyProof.ReprReads
import HandS.ForMost
import HandS.Exc
import HandS.TryOnly
import HandS.ExcOwn
import HandS.WordsExc
import HandS.Wide
import HandS.IsInst
import HandS.Deep
import HandS.Style
import HandS.Conv
import HandS.Zip
import HandS.SortRule
import HandS.SortInts
import HandS.DictComp
import HandS.FStr
import HandS.RaiseMore
import HandS.TryMany
import PySem.Challenge.RW_nudgewebs_k43_webs_changed
set_option Elab.async false
set_option linter.all false
set_option maxRecDepth 100000
set_option maxHeartbeats 4000000
/-! The ground: defs that run where nothing is being shown (so that repr may be asked), calls by name, repr of data, powers. -/
namespace Nw
open PySem PySem.Spec PyProof.Rows L2

/-! ### defs that run where no repr is under way -/
abbrev Quiet (A : Around) : Prop := A.guards = some []
structure FnG (P : Program) (w : World) (K : PySem.W.Frag) (mg : Str → Option Value)
    (base : Heap) (CX : CXT) (k : Nat) (f : Addr) (fd : FuncData) (ps : List Str) (sp : Sp) : Prop where
  len : ∀ vs H Q E, sp vs H Q E → vs.length = ps.length
  run : ∀ (A : Around) (outer : List Env) (s : Shared) (H : Hp) (args : Args) (us : List Value) (vs : List V)
    (Q : VK) (E : XK), Room k A → Quiet A → Env0 P w K mg base A outer s H →
    BindsTo s fd args (ps.zip us) → Vals vs us → sp vs H Q E →
    codeAny (model P w) A (.call (.ref f) args) (CR CX outer P w H s Q E) s

section
variable {P : Program} {w : World} {K : PySem.W.Frag} {mg : Str → Option Value} {base : Heap} {CX : CXT}
theorem FnG.mono {j k : Nat} {f : Addr} {fd : FuncData} {ps : List Str} {sp : Sp}
    (F : FnG P w K mg base CX j f fd ps sp) (h : j ≤ k) : FnG P w K mg base CX k f fd ps sp :=
  ⟨F.len, fun A outer s H args us vs Q E hr =>
    F.run A outer s H args us vs Q E (hr.mono h)⟩

theorem fng_of {k : Nat} {f : Addr} {name qual : Str} {params : Arguments} {body : List Stmt} {scope : Scope}
    {dV kV doc pm cdv ct oc : Value} {an od : Option Addr} {osl : Array (Option Value)} {N ps : List Str} {sp : Sp}
    (lk : K.lookup f = some ⟨oc, od, .func (PySem.W.fnOf name qual params body scope dV kV doc pm an cdv ct), osl⟩)
    (hcd : PySem.W.codeIn K cdv qual = true) (S : FnScope N ps scope)
    (len : ∀ vs H Q E, sp vs H Q E → vs.length = ps.length)
    (hbody : ∀ (A : Around) (outer : List Env) (s : Shared) (H : Hp) (vs : List V) (Q : VK) (E : XK),
      Room k (A.deeper (envOfC qual scope s.heap.objs.size f cdv)) → Quiet A → sp vs H Q E →
      ∃ t, PSs (cxOf CX P w K mg base N qual scope f cdv A outer s H E) body t ∧
        t { nx := fun _ H' => Q .non H', rt := Q } (start N vs) H) :
    FnG P w K mg base CX (k + 1) f (PySem.W.fnOf name qual params body scope dV kV doc pm an cdv ct) ps sp := by
  refine ⟨len, ?_⟩
  intro A outer s H args us vs Q E hr hgd e0 hb r hsp
  have hl := len _ _ _ _ hsp
  have old := fun b o (e : base.get? b = some o) => (e0.bs b o e).1
  have kinds : ∀ y ∈ ps.zip us, scope.names.lookup y.1 = some .local ∨
      (scope.names.lookup y.1 = some .cell ∧ ((cellsFrom (s.heap.objs.size + 1) scope.names []).lookup y.1).isSome = true) := by
    rintro ⟨n, v⟩ hy
    rcases S.par n (List.of_mem_zip hy).1 with q | q
    · exact Or.inl q
    · exact Or.inr ⟨q, PySem.W.cellsFrom_some _ _ _ (Or.inl q)⟩
  refine codeAny_call_function hr.depth ((e0.mod.kin.keeps old) _ _ lk) rfl S.co S.gen rfl
    (PySem.W.codeRec_of (e0.mod.kin.keeps old) hcd) (hb _ _ _ _ ?_)
  refine wpAny_newFunctionEnv_cells S.kind kinds fun env he s1 x => ?_
  subst he
  refine ⟨(e0.mod.nolimit.keeps old).keeps x.toInCall.keep, codeAny_func ?_⟩
  obtain ⟨t, ht, hq⟩ := hbody A outer s H vs Q E (hr.deeper _) hgd hsp
  have I0 : Inv (cxOf CX P w K mg base N qual scope f cdv A outer s H E) [] (start N vs) H s1 :=
    inv_start S hr.hd e0 hl r x
  refine wpAny_mono (ht.run [] s1 (start N vs) H _ I0 hq) ?_ (fun e s' hs => hs)
  intro fl s' hs
  cases fl with
  | ret u =>
    obtain ⟨v, σ', H', J, rv, q⟩ := hs
    exact (show CE outer P w H s Q u s' from ⟨v, H', J.os, J.bare, J.base, J.hok, rv, q⟩)
  | next =>
    obtain ⟨σ', H', J, q⟩ := hs
    exact (show CE outer P w H s Q Value.none s' from ⟨V.non, H', J.os, J.bare, J.base, J.hok, rfl, q⟩)
  | brk =>
    obtain ⟨_, _, _, q⟩ := hs
    exact q.elim
  | cont =>
    obtain ⟨_, _, _, q⟩ := hs
    exact q.elim

/-- a def of the text, by its body -/
theorem okG {x qual : Str} {st : Stmt} {f : Addr} {fd : FuncData} {N ps : List Str} {k : Nat} {sp : Sp}
    (F : Fun K x qual st f fd) (S : FnScope N ps (defScope st)) (len : ∀ vs H Q E, sp vs H Q E → vs.length = ps.length)
    (hbody : ∀ (cdv : Value) (A : Around) (outer : List Env) (s : Shared) (H : Hp) (vs : List V) (Q : VK) (E : XK),
      Room k (A.deeper (envOfC qual (defScope st) s.heap.objs.size f cdv)) →
      Quiet (A.deeper (envOfC qual (defScope st) s.heap.objs.size f cdv)) → sp vs H Q E →
      ∃ t, PSs (cxOf CX P w K mg base N qual (defScope st) f cdv A outer s H E) (defBody st) t ∧
        t { nx := fun _ H' => Q .non H', rt := Q } (start N vs) H) : FnG P w K mg base CX (k + 1) f fd ps sp := by
  obtain ⟨oc, od, kV, doc, pm, an, cdv, ct, osl, rfl, lk, hcd⟩ := F.ex
  exact fng_of lk hcd S len fun A outer s H vs Q E hr hq hsp => hbody cdv A outer s H vs Q E hr hq hsp

/-- a def as its callers see it -/
structure DefOk (P : Program) (w : World) (K : PySem.W.Frag) (mg : Str → Option Value) (base : Heap) (CX : CXT)
    (k : Nat) (x : Str) (ps : List Str) (sp : Sp) : Prop where
  ex : ∃ f fd, FnG P w K mg base CX k f fd ps sp ∧ mg x = some (.ref f) ∧
    PySem.W.keepIn K (.ref f) = true ∧ Binds K fd ps []
theorem DefOk.mono {j k : Nat} {x : Str} {ps : List Str} {sp : Sp} (D : DefOk P w K mg base CX j x ps sp) (h : j ≤ k) :
    DefOk P w K mg base CX k x ps sp := by
  obtain ⟨f, fd, F, r⟩ := D.ex
  exact ⟨f, fd, F.mono h, r⟩
end

/-- f(e, ..) -/
def tCallD (sp : Sp) (E : XK) (t : TA) : TE := fun σ H Q => t σ H fun vs H1 => sp vs H1 Q E
section
variable {X : Cx} {CX : CXT} {k : Nat} {ps : List Str} {sp : Sp} {E : XK} {x : Str} {p pos : Pos} {e : Expr} {es : List Expr} {t : TA}
theorem run_fng {f : Addr} {fd : FuncData} {pins : List (Addr × Obj)} {σ : L2.St} {H : Hp} {s : Shared} {Q : VK} {us : List Value} {vs : List V}
    (F : FnG X.prog X.w X.K X.mg X.base CX k f fd ps sp) (hr : Room k X.A) (hgd : Quiet X.A) (hb : Binds X.K fd ps [])
    (hx : Passes CX X E) (I : Inv X pins σ H s) (r : Vals vs us) (h : sp vs H Q E) :
    wpAny (model X.prog X.w) X.A (call (.ref f) us) (EP X pins σ Q) X.xe s := by
  have hl : (us ++ ([] : List Value)).length = ps.length := by
    rw [List.append_nil, ← r.length]
    exact F.len _ _ _ _ h
  have hb2 := hb s us I.kIn hl
  rw [List.append_nil] at hb2
  refine wpAny_call (codeAny_mono (F.run X.A X.stack s H ⟨us, []⟩ us vs Q E hr hgd I.env0 hb2 r h) ?_)
  intro r s' hq
  cases r with
  | error e => exact hx pins σ H s e s' I hq
  | ok fl =>
    cases fl with
    | ret u => exact I.after hq
    | next => exact (show False from hq).elim
    | brk => exact (show False from hq).elim
    | cont => exact (show False from hq).elim

theorem pe_callD (D : DefOk X.prog X.w X.K X.mg X.base CX k x ps sp) (hr : Room k X.A) (hgd : Quiet X.A) (hx : Passes CX X E)
    (ha : PA X (e :: es) t) (hg : Gl X x := by rfl) (hdb : (x == ("__debug__" : Str)) = false := by decide)
    (he : starEach (e :: es) X.env = (false, eval e X.env) :: starEach es X.env := by rfl)
    (hpl : (backTo pos (starEach es X.env)).any (·.1) = false := by rfl) :
    PE X (.Call (.Name x p) (e :: es) [] pos) (tCallD sp E t) := by
  obtain ⟨f, fd, F, hm, hk, hb⟩ := D.ex
  refine ⟨fun pins s σ H Q I h => ?_⟩
  refine wpAny_Call_Name_kw (ld_glob I hg hm ?_ hdb)
  refine PySem.W.callWith_K (h₀ := X.base) I.ok.mod.kin hk (thn (ha.run pos pins s σ H _ I h) ?_) he hpl
  rintro us s1 ⟨vs, H1, I1, r, q⟩
  exact ⟨I1.kIn, run_fng F hr hgd hb hx I1 r q⟩
end

/-! ### the law's end -/
section
variable {P : Program} {w : World} {K : PySem.W.Frag}
theorem law_callG {mg mb : Str → Option Value} {CX : CXT} {k : Nat} {fa a : Addr} {fd : FuncData} {x : Str} {sp : Sp}
    {s1 : Shared} {vs : List Value} {ns : List Int}
    (KX : K.In s1.heap) (hns : s1.heap.Ns mainGlobals mg) (hb : s1.heap.Ns builtinsNs mb)
    (hbb : ∀ x : Str, x ≠ "__name__" → mb x = bootBuiltins x) (hlim : s1.heap.NoLimit) (hg : s1.gens = #[])
    (ha : s1.heap.get? a = some { cls := .type "list", data := .seq vs.toArray }) (hi : IntsAre vs ns)
    (hl : ns.length ≤ sizeLine) (hr : Room k callerA)
    (F : ∀ base : Heap, K.In base → base.Ns mainGlobals mg → FnG P w K mg base CX k fa fd [x] sp)
    (hbind : ∀ (s : Shared) (u : Value), BindsTo s fd ⟨[u], []⟩ [(x, u)])
    (hsp : ∀ H : Hp, Only H → SqL K H a (ns.map V.int) → sp [.ref a] H (fun v _ => v = .bl true) fun _ _ _ => False)
    (hCX : ∀ H e s', CX [] H s1 (fun _ _ _ => False) e s' → False) :
    codeAny (model P w) callerA (.call (.ref fa) ⟨[.ref a], []⟩)
      (fun r s' => r = .ok (.ret (.bool true)) ∧ OldK s1.heap s'.heap ∧ s'.os = s1.os ∧ AllBare s'.gens) s1 := by
  have rv := vals_ints hi
  have lenV := hi.length
  have core : ∀ H : Hp, Only H → SqL K H a (ns.map V.int) → HOk P w H s1.heap →
      (∀ b, H b ≠ none → b = a) → (H a ≠ none → K.lookup a = none) →
      codeAny (model P w) callerA (.call (.ref fa) ⟨[.ref a], []⟩)
        (fun r s' => r = .ok (.ret (.bool true)) ∧ OldK s1.heap s'.heap ∧ s'.os = s1.os ∧ AllBare s'.gens) s1 := by
    intro H hO hS hok hA hK
    have fromH : ∀ {b : Addr} {o : Obj}, s1.heap.get? b = some o → H b = none →
        (hidT s1.heap H).get? b = some o := fun e n => hidT_get e n
    have free : ∀ {b : Addr} {o : Obj} {es : Array DictEntry} {ep : Nat},
        s1.heap.get? b = some o → o.data = .dict es ep → H b = none := by
      intro b o es ep e d
      cases q : H b with
      | none => rfl
      | some u =>
        have e' : b = a := hA b (by rw [q]; exact fun z => nomatch z)
        subst e'
        rw [ha] at e
        cases e
        exact nomatch d
    have nsK : ∀ {b : Addr} {m : Str → Option Value}, s1.heap.Ns b m → (hidT s1.heap H).Ns b m := by
      rintro b m ⟨o, es, ep, e, d, r⟩
      exact ⟨o, es, ep, fromH e (free e d), d, r⟩
    have hKb : K.In (hidT s1.heap H) := by
      intro b o e
      refine fromH (KX b o e) ?_
      cases q : H b with
      | none => rfl
      | some u =>
        have e' : b = a := hA b (by rw [q]; exact fun z => nomatch z)
        subst e'
        rw [hK (by rw [q]; exact fun z => nomatch z)] at e
        cases e
    have hM : Mod K mg (hidT s1.heap H) := by
      obtain ⟨mc, h1, h2⟩ := hlim
      exact ⟨hKb, nsK hns, ⟨mb, nsK hb, hbb⟩, ⟨mc, nsK h1, h2⟩⟩
    have e0 : Env0 P w K mg (hidT s1.heap H) callerA [] s1 H :=
      ⟨rfl, hM, fun b o e => of_hidT e, Nat.le_of_eq (hidT_size _ _), trivial,
        fun b hb => (List.not_mem_nil hb).elim, hok, .of_eq hg⟩
    refine codeAny_mono ((F _ hKb (nsK hns)).run callerA [] s1 H ⟨[.ref a], []⟩ [.ref a] [.ref a] _ _ hr rfl e0
      (hbind s1 (.ref a)) (.cons rfl .nil) (hsp H hO hS)) ?_
    intro r s' h
    cases r with
    | error e => exact (hCX H e s' h).elim
    | ok fl =>
      cases fl with
      | next => exact (show False from h).elim
      | brk => exact (show False from h).elim
      | cont => exact (show False from h).elim
      | ret u =>
        obtain ⟨v, H', os, bare, un, hok', r', q⟩ := h
        have q' : v = .bl true := q
        subst q'
        obtain rfl : u = Value.bool true := r'
        refine ⟨rfl, OldK.of_keep ?_, os, bare⟩
        intro b o e
        cases q : H b with
        | none => exact un.keep b o e q (fun z => (List.not_mem_nil z).elim) (fun z => (List.not_mem_nil z).elim)
        | some u =>
          rcases hO b with z | ⟨ob, xs, z⟩
          · rw [q] at z
            cases z
          · obtain ⟨e1, _⟩ := hok b _ z
            obtain ⟨e2, _⟩ := hok' b _ (un.frzs b ob _ z)
            rw [e] at e1
            cases e1
            exact e2
  cases hk : K.lookup a with
  | some o =>
    have e := KX a o hk
    rw [ha] at e
    cases e
    exact core (fun _ => none) (fun _ => .inl rfl)
      (.inr ⟨_, vs.toArray, _, hk, rfl, rfl, rfl, by rw [List.size_toArray, lenV]; exact hl, by simpa using rv⟩)
      (fun b u z => nomatch z) (fun b z => (z rfl).elim) (fun z => (z rfl).elim)
  | none =>
    refine core (fun b => if b = a then some (.frz { cls := .type "list", data := .seq vs.toArray } (.lst (ns.map V.int))) else none)
      ?_ (.inl (.inr ⟨{ cls := .type "list", data := .seq vs.toArray }, if_pos rfl⟩)) ?_ ?_ (fun _ => hk)
    · intro b
      by_cases hb : b = a
      · exact .inr ⟨_, _, if_pos hb⟩
      · exact .inl (if_neg hb)
    · intro b u z
      by_cases hb : b = a
      · have z' := (if_pos hb).symm.trans z
        cases z'
        subst hb
        exact ⟨ha, by rw [List.length_map]; exact hl, vs, _, rv, ha⟩
      · have z' := (if_neg hb).symm.trans z
        cases z'
    · intro b z
      by_cases hb : b = a
      · exact hb
      · exact (z (if_neg hb)).elim
end

theorem walkG {l : PySem.W.OpenLaw} {n k : Nat} {q : Program} {loose : List Str} {XP : (Str → Option Value) → Heap → Prop}
    {YP : World → Heap → Prop} {d : DefRec} {K : Params → PySem.W.Frag} {CX : World → CXT} {sp : World → Sp} {x : Str}
    (hn : l.most = some n) (hn2 : n ≤ sizeLine) (hdf : d.params.defaults = []) (hr : Room k callerA)
    (hY : ∀ (w : World) (h : Heap), YP w h → (K w.params).In h)
    (F : ∀ (w : World) (mg : Str → Option Value) (fa : Addr) (h : Heap), (K w.params).In h → h.Ns mainGlobals mg →
      mg d.name = some (.ref fa) → ∃ fd : FuncData, (∀ (s : Shared) (u : Value), BindsTo s fd ⟨[u], []⟩ [(x, u)]) ∧
        ∀ base : Heap, (K w.params).In base → base.Ns mainGlobals mg →
          FnG l.prog w (K w.params) mg base (CX w) k fa fd [x] (sp w))
    (hsp : ∀ (w : World) (H : Hp) (a : Addr) (ns : List Int), ns.length ≤ n → Only H →
      SqL (K w.params) H a (ns.map V.int) → sp w [.ref a] H (fun v _ => v = .bl true) fun _ _ _ => False)
    (hCX : ∀ (w : World) (H : Hp) (s : Shared) (e : Value) (s' : Shared), CX w [] H s (fun _ _ _ => False) e s' → False) :
    PySem.W.WalkO q loose XP YP l.row.toRowW d [] (fun f vs => PySem.call f vs) := by
  refine Att.attach_call hn hdf ?_
  intro w s0 s1 mg mb fa o pm cd doc a vs ns G Y ho hd hcd hmg hobj hints hlen hg
  obtain ⟨fd, hb, hF⟩ := F w mg fa _ (hY w _ Y) G.T.g hmg
  exact law_callG (hY w _ Y) G.T.g G.T.b G.T.builtins G.T.nolimit hg hobj hints (Nat.le_trans hlen hn2) hr hF hb
    (fun H hO hS => hsp w H a ns hlen hO hS) (fun H e s' => hCX w H s1 e s')

/-! ### repr of data -/
section
variable {X : Cx}
mutual
theorem dp_noDict {K : PySem.W.Frag} {H : Hp} : ∀ (d : PyData) (v : V), Dp K H v d → d.hasDict = false
  | .none, _, _ => by simp only [PyData.hasDict]
  | .bool _, _, _ => by simp only [PyData.hasDict]
  | .int _, _, _ => by simp only [PyData.hasDict]
  | .str _, _, _ => by simp only [PyData.hasDict]
  | .list ds, _, h => by
    cases h with
    | lst _ ha =>
      simp only [PyData.hasDict]
      exact dp_noDictAll ds _ ha
  | .tuple ds, _, h => by
    cases h with
    | tup _ ha =>
      simp only [PyData.hasDict]
      exact dp_noDictAll ds _ ha
  | .dict _, _, h => by cases h
theorem dp_noDictAll {K : PySem.W.Frag} {H : Hp} : ∀ (ds : List PyData) (vs : List V), DpAll K H vs ds → PyData.hasDictAll ds = false
  | [], _, _ => by simp only [PyData.hasDictAll]
  | d :: ds, _, h => by
    cases h with
    | cons h1 h2 => simp only [PyData.hasDictAll, dp_noDict d _ h1, dp_noDictAll ds _ h2, Bool.or_self]
end
/-- repr(x), x any data without dicts -/
def rReprD (K : PySem.W.Frag) : List V → Hp → VK → Prop := fun xs H Q =>
  ∃ x d, xs = [x] ∧ Dp K H x d ∧ d.showable = true ∧ d.shown.length ≤ sizeLine ∧ d.depth ≤ 60 ∧ Q (.str d.shown) H
end
end Nw
/-! Data as trees over the abstract heap; what is asked of them. -/
namespace Nw
open PySem PySem.Spec PyProof.Rows L2

/-- what is known stays known -/
abbrev Ex (H H' : Hp) : Prop := ∀ b o, H b = some o → H' b = some o
theorem Ex.rfl {H : Hp} : Ex H H := fun _ _ h => h
theorem Ex.tr {H H1 H2 : Hp} (a : Ex H H1) (b : Ex H1 H2) : Ex H H2 := fun c o h => b c o (a c o h)
theorem Ex.nw {H : Hp} {p : Addr} {o : HO} (h : H p = none) : Ex H (upd H p o) := fun b u e => by
  rw [upd_ne (ne_of_none e h)]
  exact e
theorem Ex.nw2 {H H' : Hp} {p : Addr} {o : HO} (e : Ex H H') (h : H' p = none) : Ex H (upd H' p o) := e.tr (Ex.nw h)
theorem Ex.fr {H H' : Hp} (e : Ex H H') {l : Addr} (h : H' l = none) : H l = none := by
  cases q : H l with
  | none => exact Eq.refl _
  | some o =>
    rw [e l o q] at h
    cases h
/-- an object that H does not know may change -/
theorem Ex.wr {H H' : Hp} {p : Addr} {o : HO} (e : Ex H H') (h : H p = none) : Ex H (upd H' p o) := fun a u ha => by
  rw [upd_ne (ne_of_none ha h)]
  exact e a u ha
section
variable {K : PySem.W.Frag} {H H' : Hp}
theorem Ex.rd {a : Addr} {u : HO} (e : Ex H H') (h : Rd H a u) : Rd H' a u := by
  rcases h with h | ⟨o, h⟩
  · exact Or.inl (e a _ h)
  · exact Or.inr ⟨o, e a _ h⟩
theorem Ex.l {a : Addr} {xs : List V} (e : Ex H H') (h : SqL K H a xs) : SqL K H' a xs := by
  rcases h with h | h
  · exact Or.inl (e.rd h)
  · exact Or.inr h
theorem Ex.t {a : Addr} {xs : List V} (e : Ex H H') (h : SqT K H a xs) : SqT K H' a xs := by
  rcases h with h | h
  · exact Or.inl (e.rd h)
  · exact Or.inr h
end

/-! ### data -/
mutual
def Da (K : PySem.W.Frag) (H : Hp) : PyData → V → Prop
  | .none, v => v = .non
  | .bool b, v => v = .bl b
  | .int i, v => v = .int i
  | .str x, v => v = .str x
  | .list ds, v => ∃ a xs, v = .ref a ∧ H a = some (.lst xs) ∧ DaAll K H ds xs ∧ ds.length ≤ 100000
  | .tuple ds, v => ∃ a xs, v = .ref a ∧ H a = some (.tup xs) ∧ DaAll K H ds xs
  | .dict _, v => ∃ a kvs, v = .ref a ∧ H a = some (.dK kvs)
def DaAll (K : PySem.W.Frag) (H : Hp) : List PyData → List V → Prop
  | [], vs => vs = []
  | d :: ds, vs => ∃ x xs, vs = x :: xs ∧ Da K H d x ∧ DaAll K H ds xs
end
section
variable {K : PySem.W.Frag} {H H' : Hp}
mutual
theorem Da.mono (e : Ex H H') : ∀ (d : PyData) (v : V), Da K H d v → Da K H' d v
  | .none, _, h => h
  | .bool _, _, h => h
  | .int _, _, h => h
  | .str _, _, h => h
  | .list ds, v, h => by
    obtain ⟨a, xs, ev, hs, ha, hz⟩ := h
    exact ⟨a, xs, ev, e _ _ hs, DaAll.mono e ds xs ha, hz⟩
  | .tuple ds, v, h => by
    obtain ⟨a, xs, ev, hs, ha⟩ := h
    exact ⟨a, xs, ev, e _ _ hs, DaAll.mono e ds xs ha⟩
  | .dict kd, v, h => by
    obtain ⟨a, kvs, ev, hs⟩ := h
    exact ⟨a, kvs, ev, e _ _ hs⟩
theorem DaAll.mono (e : Ex H H') : ∀ (ds : List PyData) (vs : List V), DaAll K H ds vs → DaAll K H' ds vs
  | [], _, h => h
  | d :: ds, vs, h => by
    obtain ⟨x, xs, ev, h1, h2⟩ := h
    exact ⟨x, xs, ev, Da.mono e d x h1, DaAll.mono e ds xs h2⟩
end
theorem Da.up {d : PyData} {v : V} (h : Da K H d v) (e : Ex H H') : Da K H' d v := Da.mono e d v h
theorem DaAll.up {ds : List PyData} {vs : List V} (h : DaAll K H ds vs) (e : Ex H H') : DaAll K H' ds vs := DaAll.mono e ds vs h
mutual
theorem Da.dp : ∀ (d : PyData) (v : V), Da K H d v → d.hasDict = false → Dp K H v d
  | .none, _, h, _ => by
    obtain rfl := h
    exact .non
  | .bool b, _, h, _ => by
    obtain rfl := h
    exact .bl b
  | .int i, _, h, _ => by
    obtain rfl := h
    exact .int i
  | .str x, _, h, _ => by
    obtain rfl := h
    exact .str x
  | .list ds, v, h, hd => by
    obtain ⟨a, xs, rfl, hs, ha, _⟩ := h
    exact .lst (.inl (.inl hs)) (DaAll.dp ds xs ha (by simpa only [PyData.hasDict] using hd))
  | .tuple ds, v, h, hd => by
    obtain ⟨a, xs, rfl, hs, ha⟩ := h
    exact .tup (.inl (.inl hs)) (DaAll.dp ds xs ha (by simpa only [PyData.hasDict] using hd))
  | .dict kd, v, h, hd => by
    simp only [PyData.hasDict] at hd
    cases hd
theorem DaAll.dp : ∀ (ds : List PyData) (vs : List V), DaAll K H ds vs → PyData.hasDictAll ds = false → DpAll K H vs ds
  | [], _, h, _ => by
    obtain rfl := h
    exact .nil
  | d :: ds, vs, h, hd => by
    obtain ⟨x, xs, rfl, h1, h2⟩ := h
    simp only [PyData.hasDictAll, Bool.or_eq_false_iff] at hd
    exact .cons (Da.dp d x h1 hd.1) (DaAll.dp ds xs h2 hd.2)
end
theorem DaAll.len : ∀ {ds : List PyData} {vs : List V}, DaAll K H ds vs → ds.length = vs.length
  | [], _, h => by
    obtain rfl := h
    exact Eq.refl _
  | d :: ds, vs, h => by
    obtain ⟨x, xs, rfl, _, h2⟩ := h
    rw [List.length_cons, List.length_cons, DaAll.len h2]
theorem DaAll.at : ∀ {ds : List PyData} {vs : List V} {i : Nat} {d : PyData}, DaAll K H ds vs → ds[i]? = some d → ∃ x, vs[i]? = some x ∧ Da K H d x
  | [], _, _, _, _, e => by simp at e
  | d :: ds, vs, 0, _, h, e => by
    obtain ⟨x, xs, rfl, h1, _⟩ := h
    cases e
    exact ⟨x, Eq.refl _, h1⟩
  | d :: ds, vs, i + 1, _, h, e => by
    obtain ⟨x, xs, rfl, _, h2⟩ := h
    simp only [List.getElem?_cons_succ] at e ⊢
    exact DaAll.at h2 e
theorem DaAll.at' : ∀ {ds : List PyData} {vs : List V} {i : Nat} {x : V}, DaAll K H ds vs → vs[i]? = some x → ∃ d, ds[i]? = some d ∧ Da K H d x
  | [], _, _, _, h, e => by
    obtain rfl := h
    simp at e
  | d :: ds, vs, 0, _, h, e => by
    obtain ⟨x, xs, rfl, h1, _⟩ := h
    cases e
    exact ⟨d, Eq.refl _, h1⟩
  | d :: ds, vs, i + 1, _, h, e => by
    obtain ⟨x, xs, rfl, _, h2⟩ := h
    simp only [List.getElem?_cons_succ] at e ⊢
    exact DaAll.at' h2 e
theorem DaAll.app : ∀ {ds es : List PyData} {vs ws : List V}, DaAll K H ds vs → DaAll K H es ws → DaAll K H (ds ++ es) (vs ++ ws)
  | [], _, _, _, h, g => by
    obtain rfl := h
    exact g
  | d :: ds, es, vs, ws, h, g => by
    obtain ⟨x, xs, rfl, h1, h2⟩ := h
    exact ⟨x, xs ++ ws, Eq.refl _, h1, DaAll.app h2 g⟩
theorem DaAll.ints : ∀ {ns : List Int} {vs : List V}, DaAll K H (ns.map PyData.int) vs ↔ vs = ns.map V.int
  | [], vs => Iff.rfl
  | n :: ns, vs => by
    constructor
    · rintro ⟨x, xs, rfl, rfl, h2⟩
      rw [List.map_cons, DaAll.ints.mp h2]
    · rintro rfl
      exact ⟨_, _, Eq.refl _, Eq.refl _, DaAll.ints.mpr (Eq.refl _)⟩
theorem DaAll.mem : ∀ {ds : List PyData} {vs : List V}, DaAll K H ds vs → ∀ x ∈ vs, ∃ d ∈ ds, Da K H d x
  | [], _, h, x, hx => by
    obtain rfl := h
    cases hx
  | d :: ds, vs, h, x, hx => by
    obtain ⟨y, ys, rfl, h1, h2⟩ := h
    rcases List.mem_cons.mp hx with rfl | hx
    · exact ⟨d, List.mem_cons_self, h1⟩
    · obtain ⟨e, he, hd⟩ := DaAll.mem h2 x hx
      exact ⟨e, List.mem_cons_of_mem _ he, hd⟩

/-! ### types -/
theorem tyx_l {a : Addr} {xs : List V} (h : SqL K H a xs) : TyX K H (.ref a) (.type "list") := by
  rcases h with (h | ⟨o, h⟩) | ⟨o, its, n, e, c, _⟩
  · exact .base (.lst h)
  · exact .base (.frz h)
  · exact .kList e c
theorem tyx_t {a : Addr} {xs : List V} (h : SqT K H a xs) : TyX K H (.ref a) (.type "tuple") := by
  rcases h with (h | ⟨o, h⟩) | ⟨o, its, n, e, c, _⟩
  · exact .base (.tup h)
  · exact .fTuple h
  · exact .kTuple e c
/-- the name of a datum's type -/
def tyName : PyData → String
  | .none => "NoneType"
  | .bool _ => "bool"
  | .int _ => "int"
  | .str _ => "str"
  | .list _ => "list"
  | .tuple _ => "tuple"
  | .dict _ => "dict"
theorem Da.ty : ∀ {d : PyData} {v : V}, Da K H d v → TyX K H v (.type (tyName d))
  | .none, _, h => by
    obtain rfl := h
    exact .base .non
  | .bool b, _, h => by
    obtain rfl := h
    exact .base (.bl b)
  | .int i, _, h => by
    obtain rfl := h
    exact .base (.int i)
  | .str x, _, h => by
    obtain rfl := h
    exact .base (.str x)
  | .list ds, v, h => by
    obtain ⟨a, xs, rfl, hs, _⟩ := h
    exact tyx_l (.inl (.inl hs))
  | .tuple ds, v, h => by
    obtain ⟨a, xs, rfl, hs, _⟩ := h
    exact tyx_t (.inl (.inl hs))
  | .dict kd, v, h => by
    obtain ⟨a, kvs, rfl, hs⟩ := h
    exact .base (.dK hs)
/-- isinstance by the types' names -/
def isN (T n : String) : Bool := T == n || (T == "int" && n == "bool")
/-- isinstance of data: int, bool, list, tuple, str -/
def isA (T : String) (d : PyData) : Bool := isN T (tyName d)
theorem isN_ok (T : String) (hT : T = "int" ∨ T = "bool" ∨ T = "list" ∨ T = "tuple" ∨ T = "str") (n : String)
    (hn : n = "NoneType" ∨ n = "bool" ∨ n = "int" ∨ n = "str" ∨ n = "list" ∨ n = "tuple" ∨ n = "dict") :
    PySem.W.kitOne K (.type n) (.type T) = some (isN T n) := by
  rcases hT with rfl | rfl | rfl | rfl | rfl <;> rcases hn with rfl | rfl | rfl | rfl | rfl | rfl | rfl <;> exact kit_ty (by decide +kernel)
theorem isA_ok (T : String) (hT : T = "int" ∨ T = "bool" ∨ T = "list" ∨ T = "tuple" ∨ T = "str") (d : PyData) :
    PySem.W.kitOne K (.type (tyName d)) (.type T) = some (isA T d) := isN_ok T hT _ (by cases d <;> simp [tyName])
end

/-! ### rules -/
section
variable {X : Cx}
theorem call_reprD {k : Nat} (hq : Quiet X.A) (hr : Room k X.A) : CallR X (.builtin "repr") (rReprD X.K) := by
  intro pins s σ H xs us Q I r h
  obtain ⟨x, d, rfl, hd, hs, hz, hdp, q⟩ := h
  obtain ⟨u, rfl, rx⟩ := Vals.one r
  obtain ⟨as, rd⟩ := Dp.reads I d x u hd rx
  have nd := dp_noDict d x hd
  have hu : X.A.units + 200 < cLine := by have := hr.un; omega
  have fin : ∀ h' u' tk, (∀ b o, s.heap.get? b = some o → h'.get? b = some o) →
      EP X pins σ Q (.str d.shown u') { s with heap := h', toks := tk } :=
    fun h' u' tk hk => ⟨.str d.shown, H, I.kept hk, ⟨_, rfl⟩, q⟩
  cases d with
  | none =>
    cases hd
    obtain rfl : u = Value.none := rx
    exact PySem.P.repr_of_none (fin s.heap _ _ fun _ _ e => e)
  | bool b =>
    cases hd
    obtain rfl : u = Value.bool b := rx
    exact PySem.P.repr_of_bool (fin s.heap _ _ fun _ _ e => e)
  | int i =>
    cases hd
    obtain ⟨t, rfl⟩ := rx
    exact PySem.P.repr_of_int (by simpa only [PyData.showable, decide_eq_true_eq] using hs) (fin s.heap _ _ fun _ _ e => e)
  | str z =>
    cases hd
    obtain ⟨t, rfl⟩ := rx
    exact PySem.P.repr_of_str (fin s.heap _ _ fun _ _ e => e) (by simpa only [PyData.shown] using hz)
  | list ds =>
    cases hd with
    | lst h1 h2 =>
      cases rx
      exact repr_of_reads' rd hs (PyData.noDict_hsm nd) hq (by omega) (fun _ _ e => e) fin hz
  | tuple ds =>
    cases hd with
    | tup h1 h2 =>
      cases rx
      exact repr_of_reads' rd hs (PyData.noDict_hsm nd) hq (by omega) (fun _ _ e => e) fin hz
  | dict kd => cases hd

/-- a ** b of great numbers -/
def CPowW (i j : Int) : Prop := 0 ≤ j ∧ j ≤ 100 ∧ i.natAbs < 2 ^ 10000
theorem op_powW : OpR X (binaryOp .Pow) (rI CPowW fun i j => .int (i ^ j.toNat)) := opI fun i j t u s A E hc q => by
  obtain ⟨h0, h8, hi⟩ := hc
  refine pow_int h0 ?_ q
  have hb : Builtin.Int.intBits i ≤ 10000 := by
    unfold Builtin.Int.intBits
    split
    · omega
    · rename_i hn
      have hne : i.natAbs ≠ 0 := by
        intro e
        exact hn (by simpa using e)
      have := (Nat.log2_lt hne).mpr hi
      omega
  have h1 : (Builtin.Int.intBits i : Int) * j ≤ 10000 * 100 := Int.mul_le_mul (by omega) h8 h0 (by omega)
  omega
end
end Nw
namespace Nw
open PySem PySem.Spec PyProof.Rows L2
section
variable {P : Program} {w : World} {K : PySem.W.Frag} {mg : Str → Option Value} {base : Heap}
/-- a def that lets no exception out -/
theorem okG0 {x qual : Str} {st : Stmt} {f : Addr} {fd : FuncData} {N ps : List Str} {k : Nat} {sp : Sp}
    (F : Fun K x qual st f fd) (S : FnScope N ps (defScope st)) (len : ∀ vs H Q E, sp vs H Q E → vs.length = ps.length)
    (hbody : ∀ (cdv : Value) (A : Around) (outer : List Env) (s : Shared) (H : Hp) (vs : List V) (Q : VK) (E : XK),
      Room k (A.deeper (envOfC qual (defScope st) s.heap.objs.size f cdv)) →
      Quiet (A.deeper (envOfC qual (defScope st) s.heap.objs.size f cdv)) → sp vs H Q E →
      ∃ t, PSs (cxOf CX0 P w K mg base N qual (defScope st) f cdv A outer s H E).nox (defBody st) t ∧
        t { nx := fun _ H' => Q .non H', rt := Q } (start N vs) H) : FnG P w K mg base CX0 (k + 1) f fd ps sp :=
  okG F S len fun cdv A outer s H vs Q E hr hq hsp => by
    obtain ⟨t, h, q⟩ := hbody cdv A outer s H vs Q E hr hq hsp
    exact ⟨t, h.nox, q⟩
end
theorem pe_globI {X : Cx} {x : Str} {n : Int} {pos : Pos} (hm : ∃ t, X.mg x = some (.int n t)) (hg : Gl X x := by rfl)
    (hd : (x == ("__debug__" : Str)) = false := by decide) : PE X (.Name x pos) (tC (.int n)) := by
  obtain ⟨t, h⟩ := hm
  exact pe_glob hg h ⟨t, rfl⟩ hd
theorem pe_bty {X : Cx} {x : Str} {n : String} {pos : Pos} (hm : X.mg x = none) (hv : bootBuiltins x = some (.type n)) (hg : Gl X x := by rfl)
    (hn : x ≠ "__name__" := by decide) (hd : (x == ("__debug__" : Str)) = false := by decide) : PE X (.Name x pos) (tC (.ty n)) :=
  pe_bltn hg hm hv rfl hn hd
theorem bt_isinstance : bootBuiltins "isinstance" = some (.builtin "isinstance") := by decide +kernel
theorem bt_len : bootBuiltins "len" = some (.builtin "len") := by decide +kernel
theorem bt_all : bootBuiltins "all" = some (.builtin "all") := by decide +kernel
theorem bt_any : bootBuiltins "any" = some (.builtin "any") := by decide +kernel
theorem bt_sum : bootBuiltins "sum" = some (.builtin "sum") := by decide +kernel
theorem bt_repr : bootBuiltins "repr" = some (.builtin "repr") := by decide +kernel
theorem bt_abs : bootBuiltins "abs" = some (.builtin "abs") := by decide +kernel
theorem bt_max : bootBuiltins "max" = some (.builtin "max") := by decide +kernel
theorem bt_min : bootBuiltins "min" = some (.builtin "min") := by decide +kernel
theorem bt_sorted : bootBuiltins "sorted" = some (.builtin "sorted") := by decide +kernel
theorem bt_int : bootBuiltins "int" = some (.type "int") := by decide +kernel
theorem bt_bool : bootBuiltins "bool" = some (.type "bool") := by decide +kernel
theorem bt_str : bootBuiltins "str" = some (.type "str") := by decide +kernel
theorem bt_list : bootBuiltins "list" = some (.type "list") := by decide +kernel
theorem bt_tuple : bootBuiltins "tuple" = some (.type "tuple") := by decide +kernel
theorem bt_set : bootBuiltins "set" = some (.type "set") := by decide +kernel
/-- isinstance(x, T) of data -/
theorem isi_da {K : PySem.W.Frag} {H : Hp} {d : PyData} {v : V} {T : String} {Q : VK} (h : Da K H d v)
    (hT : T = "int" ∨ T = "bool" ∨ T = "list" ∨ T = "tuple" ∨ T = "str") (q : Q (.bl (isA T d)) H) : rIsi K [v, .ty T] H Q :=
  ⟨v, .ty T, _, _, _, rfl, .ty T, h.ty, isA_ok T hT d, q⟩
theorem start_eq {N : List Str} {vs : List V} : start N vs = vs.map some ++ List.replicate (N.length - vs.length) none := rfl
end Nw
/-! Walks of anything by one word. -/
namespace Nw
open PySem PySem.Spec PyProof.Rows L2

/-- what a comprehension's reading asks, D its new list -/
abbrev LcW (J : It) (g : TG) (tt : TT) (te : TE) (vs : List Nat) (σ : L2.St) (D : Addr) (H1 : Hp) (Qd : Hp → Prop) : Prop :=
  ∃ W : Nat → Nat → Hp → Prop, (∃ m, W 0 m (upd H1 D (.lst []))) ∧ ∀ i m H, W i m H →
    (J.stop i H ∧ Qd H) ∨ (J.go i H ∧ ∃ Nx : Hp → Prop, (∀ H', Nx H' → ∃ m', m' < m ∧ W (i + 1) m' H') ∧
      ∀ x H', J.yld i H x H' → g x (wipe σ vs) H' fun σ2 H2 => wipe σ2 vs = wipe σ vs ∧ tt σ2 H2 fun b H3 =>
        if b = true then te σ2 H3 fun y H4 => ∃ acc, H4 D = some (.lst acc) ∧ acc.length < sizeLine ∧
          Nx (upd H4 D (.lst (acc ++ [y]))) else Nx H3)
theorem lc_by {J : It} {g : TG} {tt : TT} {te : TE} {vs : List Nat} {σ : L2.St} {D : Addr} {H1 : Hp} {Qd : Hp → Prop}
    (n : Nat) (Pv : Nat → Hp → Prop) (h0 : Pv 0 (upd H1 D (.lst [])))
    (hgo : ∀ i H, i < n → Pv i H → J.go i H) (hst : ∀ H, Pv n H → J.stop n H)
    (hs : ∀ i H x H', i < n → Pv i H → J.yld i H x H' → g x (wipe σ vs) H' fun σ2 H2 => wipe σ2 vs = wipe σ vs ∧
      tt σ2 H2 fun b H3 => if b = true then te σ2 H3 fun y H4 => ∃ acc, H4 D = some (.lst acc) ∧ acc.length < sizeLine ∧
        Pv (i + 1) (upd H4 D (.lst (acc ++ [y]))) else Pv (i + 1) H3)
    (hd : ∀ H, Pv n H → Qd H) : LcW J g tt te vs σ D H1 Qd := by
  refine ⟨fun i m H => m = n - i ∧ i ≤ n ∧ Pv i H, ⟨n, by omega, Nat.zero_le _, h0⟩, ?_⟩
  rintro i m H ⟨rfl, hi, p⟩
  by_cases hlt : i < n
  · refine .inr ⟨hgo i H hlt p, Pv (i + 1), fun H' p' => ⟨n - (i + 1), by omega, rfl, hlt, p'⟩, ?_⟩
    intro x H' y
    exact hs i H x H' hlt p y
  · have e : i = n := by omega
    subst e
    exact .inl ⟨hst H p, hd H p⟩
theorem for_by {J : It} {g : TG} {tb : TS} {D : Ends} {σ : L2.St} {H1 : Hp} (n : Nat) (Pv : Nat → L2.St → Hp → Prop) (h0 : Pv 0 σ H1)
    (hgo : ∀ i σ H, i < n → Pv i σ H → J.go i H) (hst : ∀ σ H, Pv n σ H → J.stop n H)
    (hs : ∀ i σ H x H', i < n → Pv i σ H → J.yld i H x H' →
      g x σ H' fun σ2 H2 => tb { D with nx := Pv (i + 1), ct := Pv (i + 1), bk := D.nx } σ2 H2)
    (hd : ∀ σ H, Pv n σ H → D.nx σ H) :
    ∃ W : Nat → Nat → L2.St → Hp → Prop, (∃ m, W 0 m σ H1) ∧ ∀ i m σ H, W i m σ H →
      (J.stop i H ∧ D.nx σ H) ∨ (J.go i H ∧ ∃ N : L2.St → Hp → Prop, (∀ σ' H', N σ' H' → ∃ m', m' < m ∧ W (i + 1) m' σ' H') ∧
        ∀ x H', J.yld i H x H' → g x σ H' fun σ2 H2 => tb { D with nx := N, ct := N, bk := D.nx } σ2 H2) := by
  refine ⟨fun i m σ H => m = n - i ∧ i ≤ n ∧ Pv i σ H, ⟨n, by omega, Nat.zero_le _, h0⟩, ?_⟩
  rintro i m σ H ⟨rfl, hi, p⟩
  by_cases hlt : i < n
  · refine .inr ⟨hgo i σ H hlt p, Pv (i + 1), fun σ' H' p' => ⟨n - (i + 1), by omega, rfl, hlt, p'⟩, ?_⟩
    intro x H' y
    exact hs i σ H x H' hlt p y
  · have e : i = n := by omega
    subst e
    exact .inl ⟨hst σ H p, hd σ H p⟩

/-- what is known but at D stays known -/
abbrev ExD (D : Addr) (H H' : Hp) : Prop := ∀ b o, b ≠ D → H b = some o → H' b = some o
theorem Ex.d {D : Addr} {H H' : Hp} (e : Ex H H') : ExD D H H' := fun b o _ h => e b o h
theorem ExD.put {D : Addr} {H : Hp} {o : HO} : ExD D H (upd H D o) := fun b u n h => by
  rw [upd_ne n]
  exact h
theorem ExD.tr {D : Addr} {H H1 H2 : Hp} (a : ExD D H H1) (b : ExD D H1 H2) : ExD D H H2 := fun c o n h => b c o n (a c o n h)
/-- item by item over the turns that give -/
def Given (n : Nat) (f : Nat → Bool) (R : Nat → V → Prop) (ys : List V) : Prop := Paired R ((List.range n).filter f) ys
theorem Given.nil {f : Nat → Bool} {R : Nat → V → Prop} : Given 0 f R [] := Paired.nil
theorem paired_app {α β : Type} {F : α → β → Prop} : ∀ {as : List α} {bs : List β} {as' : List α} {bs' : List β}, Paired F as bs → Paired F as' bs' → Paired F (as ++ as') (bs ++ bs')
  | _, _, _, _, .nil, h => h
  | _, _, _, _, .cons r t, h => .cons r (paired_app t h)
theorem Given.yes {n : Nat} {f : Nat → Bool} {R : Nat → V → Prop} {ys : List V} {y : V} (h : Given n f R ys) (hf : f n = true) (r : R n y) : Given (n + 1) f R (ys ++ [y]) := by
  unfold Given
  rw [List.range_succ, List.filter_append, List.filter_cons, if_pos hf]
  exact paired_app h (Paired.cons r Paired.nil)
theorem Given.no {n : Nat} {f : Nat → Bool} {R : Nat → V → Prop} {ys : List V} (h : Given n f R ys) (hf : f n = false) : Given (n + 1) f R ys := by
  unfold Given
  rw [List.range_succ, List.filter_append, List.filter_cons, if_neg (by rw [hf]; decide)]
  rw [List.filter_nil, List.append_nil]
  exact h
theorem paired_imp {α β : Type} {F G : α → β → Prop} (h : ∀ a b, F a b → G a b) : ∀ {as : List α} {bs : List β}, Paired F as bs → Paired G as bs
  | _, _, .nil => .nil
  | _, _, .cons r t => .cons (h _ _ r) (paired_imp h t)
theorem Given.imp {n : Nat} {f : Nat → Bool} {R S : Nat → V → Prop} {ys : List V} (g : Given n f R ys) (h : ∀ i y, R i y → S i y) : Given n f S ys := paired_imp h g
theorem Given.len {n : Nat} {f : Nat → Bool} {R : Nat → V → Prop} {ys : List V} (g : Given n f R ys) : ys.length ≤ n := by
  have h := Paired.length g
  have h2 := List.length_filter_le f (List.range n)
  rw [List.length_range] at h2
  omega
theorem paired_eq {α β : Type} {v : α → β} : ∀ {as : List α} {bs : List β}, Paired (fun a b => b = v a) as bs → bs = as.map v
  | _, _, .nil => rfl
  | _, _, .cons r t => by
    rw [List.map_cons, ← r, ← paired_eq t]
/-- what each turn gives is told outright -/
theorem Given.eq {n : Nat} {f : Nat → Bool} {v : Nat → V} {ys : List V} (g : Given n f (fun i y => y = v i) ys) : ys = ((List.range n).filter f).map v := paired_eq g
theorem filter_true {α : Type} (l : List α) : l.filter (fun _ => true) = l := List.filter_eq_self.mpr fun _ _ => rfl
theorem Given.all {n : Nat} {v : Nat → V} {ys : List V} (g : Given n (fun _ => true) (fun i y => y = v i) ys) : ys = (List.range n).map v := by
  have h := g.eq
  rw [filter_true] at h
  exact h

/-- a comprehension that changes nothing that was there: f which turns give, R what (not hanging on D) -/
theorem lc_ev {J : It} {g : TG} {tt : TT} {te : TE} {vs : List Nat} {σ : L2.St} {D : Addr} {H1 : Hp} {Qd : Hp → Prop}
    (n : Nat) (f : Nat → Bool) (R : Nat → V → Hp → Prop) (hz : n ≤ 100000) (hD : H1 D = none)
    (mono : ∀ i y H H', ExD D H H' → R i y H → R i y H')
    (hgo : ∀ i H, i < n → Ex H1 H → J.go i H) (hst : ∀ H, Ex H1 H → J.stop n H)
    (hs : ∀ i H x H', i < n → Ex H1 H → (∃ acc, H D = some (.lst acc)) → J.yld i H x H' → ∀ (Q : V → Hp → Prop) (N : Hp → Prop),
      (f i = true → ∀ y H4, Ex H H4 → R i y H4 → Q y H4) → (f i = false → ∀ H4, Ex H H4 → N H4) →
      g x (wipe σ vs) H' fun σ2 H2 => wipe σ2 vs = wipe σ vs ∧ tt σ2 H2 fun b H3 => if b = true then te σ2 H3 Q else N H3)
    (hd : ∀ ys H, Ex H1 H → H D = some (.lst ys) → Given n f (fun i y => R i y H) ys → Qd H) : LcW J g tt te vs σ D H1 Qd := by
  refine lc_by n (fun i H => Ex H1 H ∧ ∃ ys, H D = some (.lst ys) ∧ Given i f (fun i y => R i y H) ys)
    ⟨Ex.nw hD, [], upd_same, .nil⟩ (fun i H hi p => hgo i H hi p.1) (fun H p => hst H p.1) ?_ ?_
  · rintro i H x H' hi ⟨e, ys, hy, gv⟩ y
    refine hs i H x H' hi e ⟨_, hy⟩ y _ _ ?_ ?_
    · intro hf z H4 e4 r
      refine ⟨ys, e4 D _ hy, by have := gv.len; have e1 : sizeLine = 16777216 := sizeLine_eq; omega, (e.tr e4).wr hD, _, upd_same, ?_⟩
      exact (gv.imp fun j y r' => mono j y _ _ (e4.d.tr ExD.put) r').yes hf (mono i z _ _ ExD.put r)
    · intro hf H4 e4
      exact ⟨e.tr e4, ys, e4 D _ hy, (gv.imp fun j y r' => mono j y _ _ e4.d r').no hf⟩
  · rintro H ⟨e, ys, hy, gv⟩
    exact hd ys H e hy gv
/-- turns over a list that stands -/
theorem itl_go {K : PySem.W.Frag} {H H' : Hp} {a : Addr} {xs : List V} (h : SqL K H a xs) (e : Ex H H') {i : Nat} (hi : i < xs.length) : (Itl K a).go i H' :=
  ⟨xs, xs[i], e.l h, List.getElem?_eq_getElem hi⟩
theorem itl_stop {K : PySem.W.Frag} {H H' : Hp} {a : Addr} {xs : List V} (h : SqL K H a xs) (e : Ex H H') : (Itl K a).stop xs.length H' :=
  ⟨xs, e.l h, Nat.le_refl _⟩
theorem itl_yld {K : PySem.W.Frag} {H H' H'' : Hp} {a : Addr} {xs : List V} {i : Nat} {x : V} (y : (Itl K a).yld i H' x H'') (h : SqL K H a xs) (e : Ex H H') : H'' = H' ∧ xs[i]? = some x :=
  ⟨y.1, y.2 xs (e.l h)⟩
theorem itz_go {K : PySem.W.Frag} {H H' : Hp} {a b : Addr} {xs ys : List V} (h : SqL K H a xs) (g : SqL K H b ys) (e : Ex H H') {i : Nat} (hi : i < min xs.length ys.length) : (Itz K a b).go i H' :=
  ⟨xs, ys, xs[i]'(by omega), ys[i]'(by omega), e.l h, e.l g, List.getElem?_eq_getElem _, List.getElem?_eq_getElem _⟩
theorem itz_stop {K : PySem.W.Frag} {H H' : Hp} {a b : Addr} {xs ys : List V} (h : SqL K H a xs) (g : SqL K H b ys) (e : Ex H H') : (Itz K a b).stop (min xs.length ys.length) H' :=
  ⟨xs, ys, e.l h, e.l g, by omega⟩
theorem ite_go {K : PySem.W.Frag} {H H' : Hp} {a : Addr} {xs : List V} (h : SqL K H a xs) (e : Ex H H') {i : Nat} (hi : i < xs.length) : (Ite K a).go i H' :=
  ⟨xs, xs[i], e.l h, List.getElem?_eq_getElem hi⟩
theorem ite_stop {K : PySem.W.Frag} {H H' : Hp} {a : Addr} {xs : List V} (h : SqL K H a xs) (e : Ex H H') : (Ite K a).stop xs.length H' :=
  ⟨xs, e.l h, Nat.le_refl _⟩
theorem cut1 (xs : List V) : cutV xs (some 1) none = xs.drop 1 := by
  unfold cutV
  rw [show HT.sIx xs.length 0 (some 1) = min 1 xs.length from HT.sIx_nat xs.length 0 1, HT.sIx_none]
  cases xs with
  | nil => rfl
  | cons x r =>
    have e : min 1 (x :: r).length = 1 := by
      rw [List.length_cons]
      omega
    rw [e]
    show List.take ((x :: r).length - 1) r = r
    rw [List.length_cons, Nat.add_sub_cancel]
    exact List.take_length
end Nw
namespace Nw
open PySem PySem.Spec PyProof.Rows L2
/-- the inner loop of a comprehension of two clauses -/
abbrev LcI (J1 : It) (g1 : TG) (tt1 : TT) (te : TE) (vs1 : List Nat) (σ2 : L2.St) (D : Addr) (H4 : Hp) (Nx : Hp → Prop) : Prop :=
  ∃ W1 : Nat → Nat → Hp → Prop, (∃ m, W1 0 m H4) ∧ ∀ j k H, W1 j k H →
    (J1.stop j H ∧ Nx H) ∨ (J1.go j H ∧ ∃ Nx1 : Hp → Prop, (∀ H', Nx1 H' → ∃ k', k' < k ∧ W1 (j + 1) k' H') ∧
      ∀ x H', J1.yld j H x H' → g1 x (wipe σ2 vs1) H' fun σ3 H5 => wipe σ3 vs1 = wipe σ2 vs1 ∧ tt1 σ3 H5 fun b H6 =>
        if b = true then te σ3 H6 fun y H7 => ∃ acc, H7 D = some (.lst acc) ∧ acc.length < sizeLine ∧
          Nx1 (upd H7 D (.lst (acc ++ [y]))) else Nx1 H6)
theorem lci_by {J1 : It} {g1 : TG} {tt1 : TT} {te : TE} {vs1 : List Nat} {σ2 : L2.St} {D : Addr} {H4 : Hp} {Nx : Hp → Prop}
    (n : Nat) (Pv : Nat → Hp → Prop) (h0 : Pv 0 H4) (hgo : ∀ i H, i < n → Pv i H → J1.go i H) (hst : ∀ H, Pv n H → J1.stop n H)
    (hs : ∀ i H x H', i < n → Pv i H → J1.yld i H x H' → g1 x (wipe σ2 vs1) H' fun σ3 H5 => wipe σ3 vs1 = wipe σ2 vs1 ∧
      tt1 σ3 H5 fun b H6 => if b = true then te σ3 H6 fun y H7 => ∃ acc, H7 D = some (.lst acc) ∧ acc.length < sizeLine ∧
        Pv (i + 1) (upd H7 D (.lst (acc ++ [y]))) else Pv (i + 1) H6)
    (hd : ∀ H, Pv n H → Nx H) : LcI J1 g1 tt1 te vs1 σ2 D H4 Nx := by
  refine ⟨fun i m H => m = n - i ∧ i ≤ n ∧ Pv i H, ⟨n, by omega, Nat.zero_le _, h0⟩, ?_⟩
  rintro i m H ⟨rfl, hi, p⟩
  by_cases hlt : i < n
  · refine .inr ⟨hgo i H hlt p, Pv (i + 1), fun H' p' => ⟨n - (i + 1), by omega, rfl, hlt, p'⟩, ?_⟩
    intro x H' y
    exact hs i H x H' hlt p y
  · have e : i = n := by omega
    subst e
    exact .inl ⟨hst H p, hd H p⟩
theorem lc2_by {J : It} {g : TG} {tt : TT} {wi1 : TI} {g1 : TG} {tt1 : TT} {te : TE} {vs vs1 : List Nat} {σ : L2.St} {D : Addr} {H1 : Hp} {Qd : Hp → Prop}
    (n : Nat) (Pv : Nat → Hp → Prop) (h0 : Pv 0 (upd H1 D (.lst [])))
    (hgo : ∀ i H, i < n → Pv i H → J.go i H) (hst : ∀ H, Pv n H → J.stop n H)
    (hs : ∀ i H x H', i < n → Pv i H → J.yld i H x H' → g x (wipe σ vs) H' fun σ2 H2 => wipe σ2 vs = wipe σ vs ∧
      tt σ2 H2 fun b H3 => if b = true then wi1 σ2 H3 fun J1 H4 => LcI J1 g1 tt1 te vs1 σ2 D H4 (Pv (i + 1)) else Pv (i + 1) H3)
    (hd : ∀ H, Pv n H → Qd H) :
    ∃ W : Nat → Nat → Hp → Prop, (∃ m, W 0 m (upd H1 D (.lst []))) ∧ ∀ i m H, W i m H →
      (J.stop i H ∧ Qd H) ∨ (J.go i H ∧ ∃ Nx : Hp → Prop, (∀ H', Nx H' → ∃ m', m' < m ∧ W (i + 1) m' H') ∧ ∀ x H', J.yld i H x H' →
        g x (wipe σ vs) H' fun σ2 H2 => wipe σ2 vs = wipe σ vs ∧ tt σ2 H2 fun b H3 =>
          if b = true then wi1 σ2 H3 fun J1 H4 => LcI J1 g1 tt1 te vs1 σ2 D H4 Nx else Nx H3) := by
  refine ⟨fun i m H => m = n - i ∧ i ≤ n ∧ Pv i H, ⟨n, by omega, Nat.zero_le _, h0⟩, ?_⟩
  rintro i m H ⟨rfl, hi, p⟩
  by_cases hlt : i < n
  · refine .inr ⟨hgo i H hlt p, Pv (i + 1), fun H' p' => ⟨n - (i + 1), by omega, rfl, hlt, p'⟩, ?_⟩
    intro x H' y
    exact hs i H x H' hlt p y
  · have e : i = n := by omega
    subst e
    exact .inl ⟨hst H p, hd H p⟩
end Nw
/-! Rules told over the written part by its own name, so that a comprehension's block may use them. -/
namespace Nw
open PySem PySem.Spec PyProof.Rows L2
section
variable {X : Cx} {K : PySem.W.Frag}
theorem op_eqDk (K : PySem.W.Frag) (hu : X.A.units + 64 < cLine) (hK : X.K = K := by rfl) : OpR X (compareOp .Eq) (rEqD K) := by
  subst hK
  exact op_eqD hu
theorem op_neDk (K : PySem.W.Frag) (hu : X.A.units + 64 < cLine) (hK : X.K = K := by rfl) : OpR X (compareOp .NotEq) (rNeD K) := by
  subst hK
  exact op_neD hu
theorem op_inK (K : PySem.W.Frag) (hK : X.K = K := by rfl) : OpR X (compareOp .In) (rIn K false) := by
  subst hK
  exact op_in_seq
theorem op_notInK (K : PySem.W.Frag) (hK : X.K = K := by rfl) : OpR X (compareOp .NotIn) (rIn K true) := by
  subst hK
  exact op_notIn_seq
theorem op_inDk (K : PySem.W.Frag) {k : Nat} (hr : Room k X.A) (hK : X.K = K := by rfl) : OpR X (compareOp .In) (rInD K) := by
  subst hK
  exact op_inD (by have := hr.un; omega)
theorem op_notInDk (K : PySem.W.Frag) {k : Nat} (hr : Room k X.A) (hK : X.K = K := by rfl) : OpR X (compareOp .NotIn) (rNotInD K) := by
  subst hK
  exact op_notInD (by have := hr.un; omega)
/-- < of ints, of tuples of ints -/
def rLtA (K : PySem.W.Frag) : R2 := fun x y H Q => (∃ i j, x = .int i ∧ y = .int j ∧ Q (.bl (decide (i < j))) H) ∨ rLtT K x y H Q
theorem op_ltA (K : PySem.W.Frag) (hu : X.A.units < cLine) (hK : X.K = K := by rfl) : OpR X (compareOp .Lt) (rLtA K) := by
  subst hK
  intro pins s σ H x y v u Q I rx ry q
  rcases q with q | q
  · exact op_lt pins s σ H x y v u Q I rx ry q
  · exact op_ltT hu pins s σ H x y v u Q I rx ry q
theorem op_catTk (K : PySem.W.Frag) (hK : X.K = K := by rfl) : OpR X (binaryOp .Add) (rCatT K) := by
  subst hK
  exact op_catT
theorem ix_listK (K : PySem.W.Frag) (hK : X.K = K := by rfl) : IxR X (rIxL K) := by
  subst hK
  exact ix_list
theorem ix_tupK (K : PySem.W.Frag) (hK : X.K = K := by rfl) : IxR X (rIxT K) := by
  subst hK
  exact ix_tup
theorem ix_seqK (K : PySem.W.Frag) (hK : X.K = K := by rfl) : IxR X (rIx K) := by
  subst hK
  exact ix_seq
theorem sl_listK (K : PySem.W.Frag) (hK : X.K = K := by rfl) : SlR X (rSlL K) := by
  subst hK
  exact sl_list
theorem sl_tupK (K : PySem.W.Frag) (hK : X.K = K := by rfl) : SlR X (rSlT K) := by
  subst hK
  exact sl_tup
def rLenQ (K : PySem.W.Frag) : List V → Hp → VK → Prop := fun xs H Q => ∃ p ys, xs = [.ref p] ∧ (SqL K H p ys ∨ SqT K H p ys) ∧ Q (.int ys.length) H
theorem call_lenK (K : PySem.W.Frag) (hK : X.K = K := by rfl) : CallR X (.builtin "len") (rLenQ K) := by
  subst hK
  exact call_len_seq
def rListQ (K : PySem.W.Frag) : List V → Hp → VK → Prop := fun xs H Q => ∃ p ys, xs = [.ref p] ∧ (SqL K H p ys ∨ SqT K H p ys) ∧ ∀ l, H l = none → Q (.ref l) (upd H l (.lst ys))
theorem call_listK (K : PySem.W.Frag) (hK : X.K = K := by rfl) : CallR X (.type "list") (rListQ K) := by
  subst hK
  exact call_list_of
theorem call_reprK (K : PySem.W.Frag) {k : Nat} (hq : Quiet X.A) (hr : Room k X.A) (hK : X.K = K := by rfl) : CallR X (.builtin "repr") (rReprD K) := by
  subst hK
  exact call_reprD hq hr
theorem call_isiK (K : PySem.W.Frag) (hK : X.K = K := by rfl) : CallR X (.builtin "isinstance") (rIsi K) := by
  subst hK
  exact call_isi
theorem cr_allK (K : PySem.W.Frag) (hc : X.calm = true) (hK : X.K = K := by rfl) : CallR X (.builtin "all") (rAll K) := by
  subst hK
  exact cr_all hc
theorem cr_anyK (K : PySem.W.Frag) (hc : X.calm = true) (hK : X.K = K := by rfl) : CallR X (.builtin "any") (rAny K) := by
  subst hK
  exact cr_any hc
theorem cr_sumK (K : PySem.W.Frag) (hc : X.calm = true) (hK : X.K = K := by rfl) : CallR X (.builtin "sum") (rSum K) := by
  subst hK
  exact cr_sum hc
theorem cr_maxK (K : PySem.W.Frag) (hc : X.calm = true) (hK : X.K = K := by rfl) : CallR X (.builtin "max") (rMax K) := by
  subst hK
  exact cr_max hc
theorem cr_minK' (K : PySem.W.Frag) (hc : X.calm = true) (hK : X.K = K := by rfl) : CallR X (.builtin "min") (rMin K) := by
  subst hK
  exact cr_min hc
theorem cr_sortedIk (K : PySem.W.Frag) (hK : X.K = K := by rfl) : CallR X (.builtin "sorted") (rSortedI K) := by
  subst hK
  exact cr_sortedI
theorem cr_sortedPOk (K : PySem.W.Frag) (hK : X.K = K := by rfl) : CallR X (.builtin "sorted") (rSortedPO K) := by
  subst hK
  exact cr_sortedPO
theorem pi_listK (K : PySem.W.Frag) {tg l : Expr} {tl : TE} (hl : PE X l tl) (hK : X.K = K := by rfl) : PI X tg l (iList K tl) := by
  subst hK
  exact pi_list hl
theorem pi_tupK (K : PySem.W.Frag) {tg l : Expr} {tl : TE} (hl : PE X l tl) (hK : X.K = K := by rfl) : PI X tg l (iTup K tl) := by
  subst hK
  exact pi_tup hl
theorem pg_tupK (K : PySem.W.Frag) {es : List Expr} {k : Nat} {pos : Pos} {t : TGs} {n : Nat} (hc : X.calm = true) (h : PGs X es t)
    (hn : (assignEach es X.env).length = n := by rfl)
    (hst : (assignEach es X.env).findIdx? (·.1) = none := by rfl) (hK : X.K = K := by rfl) : PG X (.Tuple es k pos) (gTup K n t) := by
  subst hK
  exact pg_tup hc h hn hst
end
end Nw
namespace Nw
open PySem PySem.Spec PyProof.Rows L2
theorem mil {n : Nat} (h : n ≤ 1000000) : n ≤ sizeLine := by
  rw [sizeLine_eq]
  omega
theorem mil' {n : Nat} (h : n < 1000000) : n < sizeLine := by
  rw [sizeLine_eq]
  omega
/-- xs + ys, lists that are read -/
def rCatS (K : PySem.W.Frag) : R2 := fun x y H Q => ∃ l b xs zs, x = .ref l ∧ y = .ref b ∧ SqL K H l xs ∧ SqL K H b zs ∧
  xs.length + zs.length ≤ 1000000 ∧ ∀ p, H p = none → Q (.ref p) (upd H p (.lst (xs ++ zs)))
theorem op_catS {X : Cx} (K : PySem.W.Frag) (hK : X.K = K := by rfl) : OpR X (binaryOp .Add) (rCatS K) := by
  subst hK
  intro pins s σ H x y v u Q I rx ry h
  obtain ⟨l, b, xs, zs, rfl, rfl, hH, hB, hz, q⟩ := h
  cases rx
  cases ry
  obtain ⟨its, r, ⟨⟨cls, dd, data, sl⟩, n, e, hc, hd0, hd⟩, _⟩ := I.list hH
  obtain ⟨its2, r2, ⟨⟨cls2, dd2, data2, sl2⟩, n2, e2, hc2, hd02, hd2⟩, _⟩ := I.list hB
  simp only at hc hd hc2 hd2
  subst hc hd hc2 hd2
  have l1 := r.length
  have l2 := r2.length
  have z : xs.length + zs.length ≤ sizeLine := mil hz
  refine concat_meets ⟨_, e, rfl⟩ ⟨_, e2, rfl⟩ noFill_list_add seq_list_add PySem.F.slot_list_add PySem.F.entry_list_add
    (PySem.F.args_list_add_2 _ _) (list_addW l b its.toArray its2.toArray n n2 dd dd2 sl sl2 (by simp only [List.size_toArray]; omega)) ⟨e, e2, ?_⟩
  have ea : its.toArray ++ its2.toArray = (its ++ its2).toArray := by simp
  rw [ea]
  exact ⟨.ref _, _, I.lnew (t' := s.toks) (r.append r2) (by rw [List.length_append]; omega), rfl, q _ I.fresh⟩
end Nw
/-! What the package's looks at values answer, on data. -/
namespace Nw
open PySem PySem.Spec PyProof.Rows L2

def isInt : PyData → Bool
  | .int _ => true
  | _ => false
theorem isInt_eq (d : PyData) : (isA "int" d && !isA "bool" d) = isInt d := by
  cases d <;> first | rfl | decide +kernel
/-- an int from 0 to m - 1 -/
def numB : PyData → Int → Bool
  | .int i, m => decide (0 ≤ i) && decide (i < m)
  | _, _ => false
def tupB : PyData → Int → Int → Bool
  | .tuple [a, b], m, n => numB a m && numB b n
  | _, _, _ => false
def listB : PyData → Int → Bool
  | .list ds, m => ds.all fun d => numB d m
  | _, _ => false
/-- ascending, by an order on the items -/
def ascB {α : Type} (lt : α → α → Bool) : List α → Bool
  | x :: y :: r => lt x y && ascB lt (y :: r)
  | _ => true
def ltIn (x y : Int) : Bool := decide (x < y)
def ltPr (x y : Int × Int) : Bool := HT.lexLt [x.1, x.2] [y.1, y.2]
def dPair (p : Int × Int) : PyData := .tuple [.int p.1, .int p.2]
/-- the ints of a list of ints, the pairs of a list of pairs -/
def intsOf : List PyData → Option (List Int)
  | [] => some []
  | .int i :: r => (intsOf r).map (i :: ·)
  | _ => none
def pairsOf : List PyData → Option (List (Int × Int))
  | [] => some []
  | .tuple [.int i, .int j] :: r => (pairsOf r).map ((i, j) :: ·)
  | _ => none
theorem intsOf_map : ∀ ns : List Int, intsOf (ns.map PyData.int) = some ns
  | [] => rfl
  | n :: ns => by
    simp only [List.map_cons, intsOf, intsOf_map ns, Option.map_some]
theorem pairsOf_map : ∀ ps : List (Int × Int), pairsOf (ps.map dPair) = some ps
  | [] => rfl
  | (a, b) :: ps => by
    simp only [List.map_cons, dPair, pairsOf, pairsOf_map ps, Option.map_some]
theorem ints_of_all {m : Int} : ∀ {ds : List PyData}, (ds.all fun d => numB d m) = true → ∃ ns : List Int, ds = ns.map PyData.int ∧ ∀ n ∈ ns, 0 ≤ n ∧ n < m
  | [], _ => ⟨[], rfl, fun _ h => nomatch h⟩
  | d :: ds, h => by
    simp only [List.all_cons, Bool.and_eq_true] at h
    obtain ⟨ns, rfl, hn⟩ := ints_of_all h.2
    cases d with
    | int i =>
      have h1 := h.1
      simp only [numB, Bool.and_eq_true, decide_eq_true_eq] at h1
      refine ⟨i :: ns, rfl, ?_⟩
      intro n hm
      rcases List.mem_cons.mp hm with rfl | hm
      · exact h1
      · exact hn n hm
    | _ =>
      have h1 := h.1
      simp [numB] at h1
theorem numB_inv {d : PyData} {m : Int} (h : numB d m = true) : ∃ i, d = .int i ∧ 0 ≤ i ∧ i < m := by
  cases d with
  | int i =>
    simp only [numB, Bool.and_eq_true, decide_eq_true_eq] at h
    exact ⟨i, rfl, h⟩
  | _ => simp [numB] at h
theorem tupB_inv {d : PyData} {m k : Int} (h : tupB d m k = true) : ∃ i j, d = dPair (i, j) ∧ (0 ≤ i ∧ i < m) ∧ (0 ≤ j ∧ j < k) := by
  match d, h with
  | .tuple [a, b], h =>
    simp only [tupB, Bool.and_eq_true] at h
    obtain ⟨i, rfl, hi⟩ := numB_inv h.1
    obtain ⟨j, rfl, hj⟩ := numB_inv h.2
    exact ⟨i, j, rfl, hi, hj⟩
theorem pairs_of_all {m k : Int} : ∀ {ds : List PyData}, (ds.all fun d => tupB d m k) = true →
    ∃ ps : List (Int × Int), ds = ps.map dPair ∧ ∀ p ∈ ps, (0 ≤ p.1 ∧ p.1 < m) ∧ (0 ≤ p.2 ∧ p.2 < k)
  | [], _ => ⟨[], rfl, fun _ h => nomatch h⟩
  | d :: ds, h => by
    simp only [List.all_cons, Bool.and_eq_true] at h
    obtain ⟨ps, rfl, hn⟩ := pairs_of_all h.2
    obtain ⟨i, j, rfl, hi, hj⟩ := tupB_inv h.1
    refine ⟨(i, j) :: ps, rfl, ?_⟩
    intro p hp
    rcases List.mem_cons.mp hp with rfl | hp
    · exact ⟨hi, hj⟩
    · exact hn p hp
def tuplesB : PyData → Int → Int → Bool
  | .list ds, m, n => (ds.all fun d => tupB d m n) && (match pairsOf ds with | some ps => ascB ltPr ps | none => false)
  | _, _, _ => false
def targetsB : PyData → Int → Bool
  | .list ds, m => (ds.all fun d => numB d m) && (decide (0 < ds.length) && (match intsOf ds with | some ns => ascB ltIn ns | none => false))
  | _, _ => false
def nudgesB : PyData → Int → Bool
  | .list ds, m => decide (ds.length ≤ 8) && ds.all fun d => targetsB d m
  | _, _ => false
def webB : PyData → Bool
  | .tuple [.int n, ps, ns] => (decide (1 ≤ n) && decide (n ≤ 20)) && (tuplesB ps n n && nudgesB ns n)
  | _ => false
/-- ascending, turn by turn -/
def ascAt {α : Type} (lt : α → α → Bool) (xs : List α) (i : Nat) : Bool :=
  match xs[i]?, xs[i + 1]? with
  | some x, some y => lt x y
  | _, _ => true
theorem ascB_range {α : Type} (lt : α → α → Bool) : ∀ xs : List α, ((List.range (xs.length - 1)).map fun i => ascAt lt xs i).all id = ascB lt xs
  | [] => rfl
  | [x] => rfl
  | x :: y :: r => by
    have ih := ascB_range lt (y :: r)
    have e : (x :: y :: r).length - 1 = ((y :: r).length - 1) + 1 := by
      simp only [List.length_cons]
      omega
    rw [e, List.range_succ_eq_map, List.map_cons, List.all_cons, List.map_map]
    show (lt x y && _) = (lt x y && ascB lt (y :: r))
    rw [← ih]
    rfl
theorem all_range_get {α : Type} (p : α → Bool) (d : α) : ∀ xs : List α, ((List.range xs.length).map fun i => p (xs.getD i d)).all id = xs.all p
  | [] => rfl
  | x :: xs => by
    rw [List.length_cons, List.range_succ_eq_map, List.map_cons, List.all_cons, List.map_map, List.all_cons]
    show (p x && _) = (p x && xs.all p)
    rw [← all_range_get p d xs]
    rfl
theorem given_bl {n : Nat} {f : Nat → Bool} : ((List.range n).map fun i => V.bl (f i)) = ((List.range n).map f).map V.bl := by
  rw [List.map_map]
  rfl
end Nw
namespace Nw
section
variable {K : PySem.W.Frag}
theorem isa_int (d : PySem.PyData) : PySem.W.kitOne K (.type (tyName d)) (.type "int") = some (isA "int" d) := isA_ok "int" (by simp) d
theorem isa_bool (d : PySem.PyData) : PySem.W.kitOne K (.type (tyName d)) (.type "bool") = some (isA "bool" d) := isA_ok "bool" (by simp) d
theorem isa_list (d : PySem.PyData) : PySem.W.kitOne K (.type (tyName d)) (.type "list") = some (isA "list" d) := isA_ok "list" (by simp) d
theorem isa_tuple (d : PySem.PyData) : PySem.W.kitOne K (.type (tyName d)) (.type "tuple") = some (isA "tuple" d) := isA_ok "tuple" (by simp) d
theorem isa_str (d : PySem.PyData) : PySem.W.kitOne K (.type (tyName d)) (.type "str") = some (isA "str" d) := isA_ok "str" (by simp) d
end
end Nw
namespace Nw
open PySem PySem.Spec PyProof.Rows L2
theorem map_at {α β : Type} {f : α → β} {l : List α} {i : Nat} {y : β} (h : (l.map f)[i]? = some y) : ∃ x, l[i]? = some x ∧ y = f x := by
  rw [List.getElem?_map] at h
  cases e : l[i]? with
  | none =>
    rw [e] at h
    cases h
  | some x =>
    rw [e] at h
    exact ⟨x, rfl, (Option.some.inj h).symm⟩
theorem drop1_at {α : Type} {l : List α} {i : Nat} {y : α} (h : (l.drop 1)[i]? = some y) : l[i + 1]? = some y := by
  rw [List.getElem?_drop, Nat.add_comm] at h
  exact h
theorem min_drop1 {α : Type} (l : List α) : min l.length (l.drop 1).length = l.length - 1 := by
  rw [List.length_drop]
  omega
/-- the pairs that a list of tuples of two ints holds -/
theorem pairs_at {K : PySem.W.Frag} {H : Hp} {ps : List (Int × Int)} {xs : List V} {i : Nat} {x : V} (h : DaAll K H (ps.map dPair) xs) (hx : xs[i]? = some x) :
    ∃ p, ps[i]? = some p ∧ ∃ a, x = .ref a ∧ SqT K H a [.int p.1, .int p.2] := by
  obtain ⟨d, hd, hdx⟩ := h.at' hx
  obtain ⟨p, hp, rfl⟩ := map_at hd
  obtain ⟨a, ys, rfl, hS, z1, r1, rfl, e1, z2, r2, rfl, e2, rfl⟩ := hdx
  obtain rfl := e1
  obtain rfl := e2
  exact ⟨p, hp, a, rfl, .inl (.inl hS)⟩
end Nw
namespace Nw
open PySem PySem.Spec PyProof.Rows L2
end Nw
/-! Webs as numbers. -/
namespace Nw
open PySem PySem.Spec PyProof.Rows L2
structure Wb where
  n : Int
  ps : List (Int × Int)
  ns : List (List Int)
  deriving DecidableEq
def dInts (r : List Int) : PyData := .list (r.map PyData.int)
def dPairs (ps : List (Int × Int)) : PyData := .list (ps.map dPair)
def dRows (ns : List (List Int)) : PyData := .list (ns.map dInts)
def Wb.d (w : Wb) : PyData := .tuple [.int w.n, dPairs w.ps, dRows w.ns]
structure Wb.Ok (w : Wb) : Prop where
  lo : 1 ≤ w.n
  hi : w.n ≤ 20
  ps : ∀ p ∈ w.ps, (0 ≤ p.1 ∧ p.1 < w.n) ∧ (0 ≤ p.2 ∧ p.2 < w.n)
  asc : ascB ltPr w.ps = true
  few : w.ns.length ≤ 8
  ns : ∀ r ∈ w.ns, r ≠ [] ∧ (∀ t ∈ r, 0 ≤ t ∧ t < w.n) ∧ ascB ltIn r = true
theorem targetsB_of {r : List Int} {m : Int} (h0 : r ≠ []) (h1 : ∀ t ∈ r, 0 ≤ t ∧ t < m) (h2 : ascB ltIn r = true) : targetsB (dInts r) m = true := by
  unfold dInts targetsB
  simp only [intsOf_map, h2, Bool.and_true, Bool.and_eq_true, decide_eq_true_eq, List.length_map]
  refine ⟨?_, List.length_pos_iff.mpr h0⟩
  simp only [List.all_map, List.all_eq_true]
  intro t ht
  have := h1 t ht
  simp [numB, this.1, this.2]
theorem tuplesB_of {ps : List (Int × Int)} {m n : Int} (h1 : ∀ p ∈ ps, (0 ≤ p.1 ∧ p.1 < m) ∧ (0 ≤ p.2 ∧ p.2 < n)) (h2 : ascB ltPr ps = true) : tuplesB (dPairs ps) m n = true := by
  unfold dPairs tuplesB
  simp only [pairsOf_map, h2, Bool.and_true]
  simp only [List.all_map, List.all_eq_true]
  intro p hp
  obtain ⟨⟨a, b⟩, c, d⟩ := h1 p hp
  simp [dPair, tupB, numB, a, b, c, d]
theorem Wb.Ok.web {w : Wb} (h : w.Ok) : webB w.d = true := by
  unfold Wb.d webB
  have h1 := h.lo
  have h2 := h.hi
  have h3 := tuplesB_of h.ps h.asc
  have h4 : nudgesB (dRows w.ns) w.n = true := by
    unfold dRows nudgesB
    simp only [List.length_map, h.few, decide_true, Bool.true_and]
    simp only [List.all_map, List.all_eq_true]
    intro r hr
    obtain ⟨a, b, c⟩ := h.ns r hr
    exact targetsB_of a b c
  simp [h1, h2, h3, h4]
/-- how long ascending rows of small numbers may be -/
theorem asc_len {m : Int} : ∀ (r : List Int) (lo : Int), (∀ t ∈ r, lo ≤ t ∧ t < m) → ascB ltIn r = true → (r.length : Int) ≤ max 0 (m - lo)
  | [], lo, _, _ => by
    simp only [List.length_nil]
    omega
  | [x], lo, h, _ => by
    have := h x (by simp)
    simp only [List.length_singleton]
    omega
  | x :: y :: r, lo, h, ha => by
    simp only [ascB, Bool.and_eq_true, ltIn, decide_eq_true_eq] at ha
    have hx := h x (by simp)
    have hy := h y (by simp)
    have key : ∀ (l : List Int) (a : Int), ascB ltIn (a :: l) = true → ∀ t ∈ l, a + 1 ≤ t := by
      intro l
      induction l with
      | nil =>
        intro a _ t ht
        cases ht
      | cons b l ih =>
        intro a hab t ht
        simp only [ascB, Bool.and_eq_true, ltIn, decide_eq_true_eq] at hab
        rcases List.mem_cons.mp ht with rfl | ht
        · omega
        · have := ih b hab.2 t ht
          omega
    have h' : ∀ t ∈ y :: r, x + 1 ≤ t ∧ t < m := by
      intro t ht
      refine ⟨?_, (h t (List.mem_cons_of_mem _ ht)).2⟩
      exact key (y :: r) x (by simp only [ascB, Bool.and_eq_true, ltIn, decide_eq_true_eq]; exact ha) t ht
    have ih := asc_len (y :: r) (x + 1) h' ha.2
    simp only [List.length_cons] at ih ⊢
    omega
theorem Wb.Ok.row {w : Wb} (h : w.Ok) {r : List Int} (hr : r ∈ w.ns) : r.length ≤ 20 := by
  obtain ⟨_, b, c⟩ := h.ns r hr
  have := asc_len r 0 b c
  have := h.hi
  have := h.lo
  omega
/-- the lines of a web -/
def pushedAt (n : Int) (i : Nat) (r : List Int) : List (Int × Int) := r.map fun t => (n + (i : Int), t)
def pushedFrom (n : Int) : Nat → List (List Int) → List (Int × Int)
  | _, [] => []
  | i, r :: rs => pushedAt n i r ++ pushedFrom n (i + 1) rs
def Wb.lines (w : Wb) : List (Int × Int) := w.ps ++ pushedFrom w.n 0 w.ns
theorem pushedFrom_take (n : Int) : ∀ (rs : List (List Int)) (i k : Nat) (r : List Int), rs[k]? = some r →
    pushedFrom n i (rs.take (k + 1)) = pushedFrom n i (rs.take k) ++ pushedAt n (i + k) r
  | [], _, _, _, h => by simp at h
  | a :: rs, i, 0, r, h => by
    obtain rfl : a = r := by simpa using h
    simp [pushedFrom]
  | a :: rs, i, k + 1, r, h => by
    have ih := pushedFrom_take n rs (i + 1) k r (by simpa using h)
    simp only [List.take_succ_cons, pushedFrom]
    rw [ih, List.append_assoc, show i + 1 + k = i + (k + 1) by omega]
theorem take_all {α : Type} (l : List α) : l.take l.length = l := List.take_length
end Nw
namespace Nw
open PySem PySem.Spec PyProof.Rows L2
theorem ltPr_iff {p q : Int × Int} : ltPr p q = true ↔ p.1 < q.1 ∨ (p.1 = q.1 ∧ p.2 < q.2) := by
  unfold ltPr
  rw [HT.lexLt_cons]
  by_cases h : p.1 = q.1
  · rw [if_pos h, HT.lexLt_cons]
    by_cases h2 : p.2 = q.2
    · rw [if_pos h2, HT.lexLt_nil_nil]
      constructor
      · intro e
        cases e
      · intro e
        omega
    · rw [if_neg h2, decide_eq_true_eq]
      omega
  · rw [if_neg h, decide_eq_true_eq]
    omega
theorem asc_code : ∀ {ps : List (Int × Int)}, (∀ p ∈ ps, 0 ≤ p.2 ∧ p.2 < 64) → ascB ltPr ps = true → ascB ltIn (ps.map fun p => 64 * p.1 + p.2) = true
  | [], _, _ => rfl
  | [_], _, _ => rfl
  | p :: q :: r, h, ha => by
    simp only [ascB, Bool.and_eq_true] at ha
    have hp := h p (by simp)
    have hq := h q (by simp)
    have h1 := ltPr_iff.mp ha.1
    have ih := asc_code (ps := q :: r) (fun z hz => h z (List.mem_cons_of_mem _ hz)) ha.2
    simp only [List.map_cons, ascB, Bool.and_eq_true, ltIn, decide_eq_true_eq] at ih ⊢
    exact ⟨by omega, ih⟩
theorem Wb.Ok.len {w : Wb} (h : w.Ok) : w.ps.length ≤ 1300 := by
  have h1 := asc_code (ps := w.ps) (fun p hp => by have := h.ps p hp; have := h.hi; omega) h.asc
  have h2 := asc_len _ 0 (m := 1300) (by
    intro t ht
    obtain ⟨p, hp, rfl⟩ := List.mem_map.mp ht
    have := h.ps p hp
    have := h.hi
    omega) h1
  rw [List.length_map] at h2
  omega
theorem pushed_len (n : Int) : ∀ (rs : List (List Int)) (i : Nat), (∀ r ∈ rs, r.length ≤ 20) → (pushedFrom n i rs).length ≤ 20 * rs.length
  | [], _, _ => by simp [pushedFrom]
  | r :: rs, i, h => by
    have h1 := h r (by simp)
    have h2 := pushed_len n rs (i + 1) (fun z hz => h z (List.mem_cons_of_mem _ hz))
    simp only [pushedFrom, pushedAt, List.length_append, List.length_map, List.length_cons]
    omega
theorem Wb.Ok.lines_len {w : Wb} (h : w.Ok) : w.lines.length ≤ 1500 := by
  have h1 := h.len
  have h2 := pushed_len w.n w.ns 0 (fun r hr => h.row hr)
  have h3 := h.few
  unfold Wb.lines
  rw [List.length_append]
  omega
/-- a web as it stands -/
theorem Wb.at {K : PySem.W.Frag} {H : Hp} {w : Wb} {v : V} (h : Da K H w.d v) : ∃ t x2 x3, v = .ref t ∧ SqT K H t [.int w.n, x2, x3] ∧ Da K H (dPairs w.ps) x2 ∧ Da K H (dRows w.ns) x3 := by
  obtain ⟨t, xs, rfl, hS, x1, r1, rfl, g1, x2, r2, rfl, g2, x3, r3, rfl, g3, rfl⟩ := h
  obtain rfl := g1
  exact ⟨t, x2, x3, rfl, .inl (.inl hS), g2, g3⟩
theorem dInts_at {K : PySem.W.Frag} {H : Hp} {r : List Int} {v : V} (h : Da K H (dInts r) v) : ∃ a, v = .ref a ∧ SqL K H a (r.map V.int) := by
  obtain ⟨a, xs, rfl, hS, hA, _⟩ := h
  obtain rfl := DaAll.ints.mp hA
  exact ⟨a, rfl, .inl (.inl hS)⟩
theorem dInts_of {K : PySem.W.Frag} {H : Hp} {r : List Int} {a : Addr} (h : H a = some (.lst (r.map V.int))) (hz : r.length ≤ 100000) : Da K H (dInts r) (.ref a) :=
  ⟨a, _, rfl, h, DaAll.ints.mpr rfl, by rw [List.length_map]; exact hz⟩
theorem dPair_of {K : PySem.W.Frag} {H : Hp} {p : Int × Int} {a : Addr} (h : H a = some (.tup [.int p.1, .int p.2])) : Da K H (dPair p) (.ref a) :=
  ⟨a, _, rfl, h, _, _, rfl, rfl, _, _, rfl, rfl, rfl⟩
end Nw
namespace Nw
open PySem PySem.Spec PyProof.Rows L2
theorem ExD.t {K : PySem.W.Frag} {D : Addr} {H H' : Hp} {a : Addr} {xs : List V} (e : ExD D H H') (n : a ≠ D) (h : SqT K H a xs) : SqT K H' a xs := by
  rcases h with (h | ⟨o, h⟩) | h
  · exact .inl (.inl (e a _ n h))
  · exact .inl (.inr ⟨o, e a _ n h⟩)
  · exact .inr h
theorem ExD.l {K : PySem.W.Frag} {D : Addr} {H H' : Hp} {a : Addr} {xs : List V} (e : ExD D H H') (n : a ≠ D) (h : SqL K H a xs) : SqL K H' a xs := by
  rcases h with (h | ⟨o, h⟩) | h
  · exact .inl (.inl (e a _ n h))
  · exact .inl (.inr ⟨o, e a _ n h⟩)
  · exact .inr h
/-- items that do not stand at D -/
abbrev OffD (D : Addr) (xs : List V) : Prop := ∀ x ∈ xs, ∃ b, x = .ref b ∧ b ≠ D
theorem OffD.nil {D : Addr} : OffD D [] := fun x h => by cases h
theorem OffD.snoc {D : Addr} {xs : List V} {b : Addr} (h : OffD D xs) (n : b ≠ D) : OffD D (xs ++ [.ref b]) := by
  intro x hx
  rcases List.mem_append.mp hx with hx | hx
  · exact h x hx
  · obtain rfl := List.mem_singleton.mp hx
    exact ⟨b, rfl, n⟩
theorem pairs_keep {K : PySem.W.Frag} {D : Addr} {H H' : Hp} (e : ExD D H H') : ∀ {L : List (Int × Int)} {acc : List V}, DaAll K H (L.map dPair) acc → OffD D acc → DaAll K H' (L.map dPair) acc
  | [], _, h, _ => h
  | p :: L, acc, h, o => by
    obtain ⟨x, xs, rfl, ⟨a, ys, rfl, hS, z1, r1, rfl, e1, z2, r2, rfl, e2, rfl⟩, h2⟩ := h
    obtain rfl := e1
    obtain rfl := e2
    obtain ⟨b, eb, nb⟩ := o (.ref a) (by simp)
    cases eb
    exact ⟨_, _, rfl, dPair_of (e _ _ nb hS), pairs_keep e h2 fun x hx => o x (List.mem_cons_of_mem _ hx)⟩
end Nw
namespace Nw
open PySem PySem.Spec PyProof.Rows L2
theorem pushed_ok {n : Int} {m : Int} : ∀ {rs : List (List Int)} {i : Nat}, (∀ r ∈ rs, ∀ t ∈ r, 0 ≤ t ∧ t < m) → ∀ l ∈ pushedFrom n i rs,
    (n + (i : Int) ≤ l.1 ∧ l.1 < n + (i : Int) + (rs.length : Int)) ∧ (0 ≤ l.2 ∧ l.2 < m)
  | [], _, _, l, hl => by cases hl
  | r :: rs, i, h, l, hl => by
    simp only [pushedFrom, List.mem_append] at hl
    simp only [List.length_cons]
    rcases hl with hl | hl
    · obtain ⟨t, ht, rfl⟩ := List.mem_map.mp hl
      have := h r (by simp) t ht
      exact ⟨⟨by simp, by simp; omega⟩, this⟩
    · have := pushed_ok (i := i + 1) (fun z hz => h z (List.mem_cons_of_mem _ hz)) l hl
      refine ⟨⟨by omega, by omega⟩, this.2⟩
theorem Wb.Ok.line {w : Wb} (h : w.Ok) : ∀ l ∈ w.lines, (0 ≤ l.1 ∧ l.1 < w.n + (w.ns.length : Int)) ∧ (0 ≤ l.2 ∧ l.2 < w.n) := by
  intro l hl
  have h1 := h.lo
  rcases List.mem_append.mp hl with hl | hl
  · have := h.ps l hl
    refine ⟨⟨this.1.1, by omega⟩, this.2⟩
  · have := pushed_ok (fun r hr => (h.ns r hr).2.1) l hl
    refine ⟨⟨by omega, by omega⟩, this.2⟩
/-- the targets that a list of lines gives a source -/
def rowOf (ls : List (Int × Int)) (s : Int) : List Int := (ls.filter fun l => l.1 == s).map (·.2)
theorem rowOf_nil (s : Int) : rowOf [] s = [] := rfl
theorem rowOf_app (a b : List (Int × Int)) (s : Int) : rowOf (a ++ b) s = rowOf a s ++ rowOf b s := by
  unfold rowOf
  rw [List.filter_append, List.map_append]
theorem rowOf_one (p : Int × Int) (s : Int) : rowOf [p] s = if p.1 = s then [p.2] else [] := by
  unfold rowOf
  by_cases h : p.1 = s
  · rw [if_pos h, List.filter_cons, if_pos (by simpa using h)]
    rfl
  · rw [if_neg h, List.filter_cons, if_neg (by simpa using h)]
    rfl
theorem rowOf_len (ls : List (Int × Int)) (s : Int) : (rowOf ls s).length ≤ ls.length := by
  unfold rowOf
  rw [List.length_map]
  exact List.length_filter_le _ _
theorem nodup_snoc {α : Type} {l : List α} {b : α} (h : l.Nodup) (n : b ∉ l) : (l ++ [b]).Nodup := by
  rw [List.nodup_append]
  refine ⟨h, by simp, ?_⟩
  intro a ha c hc e
  obtain rfl := List.mem_singleton.mp hc
  subst e
  exact n ha
theorem nodup_at {α : Type} {l : List α} (h : l.Nodup) {i j : Nat} {a b : α} (hi : l[i]? = some a) (hj : l[j]? = some b) (n : i ≠ j) : a ≠ b := by
  intro e
  subst e
  obtain ⟨h1, e1⟩ := List.getElem?_eq_some_iff.mp hi
  obtain ⟨h2, e2⟩ := List.getElem?_eq_some_iff.mp hj
  exact n ((List.getElem_inj h).mp (e1.trans e2.symm))
theorem atI_int {α : Type} {xs : List α} {s : Int} {v : α} (h0 : 0 ≤ s) (h : xs[s.toNat]? = some v) : atI xs s = some v := by
  have e := atI_nat h
  rw [Int.toNat_of_nonneg h0] at e
  exact e
theorem take_snoc {α : Type} {l : List α} {i : Nat} {x : α} (h : l[i]? = some x) : l.take (i + 1) = l.take i ++ [x] := by
  rw [List.take_add_one, h]
  rfl
end Nw
namespace Nw
open PySem PySem.Spec PyProof.Rows L2
/-- a tuple outlasts what is done to a list -/
theorem SqT.wr {K : PySem.W.Frag} {H : Hp} {b c : Addr} {xs ys : List V} {o : HO} (h : SqT K H b xs) (hc : H c = some (.lst ys)) : SqT K (upd H c o) b xs := by
  rcases h with (h | ⟨z, h⟩) | h
  · refine .inl (.inl ?_)
    rw [upd_ne (fun e => by rw [e, hc] at h; cases h)]
    exact h
  · refine .inl (.inr ⟨z, ?_⟩)
    rw [upd_ne (fun e => by rw [e, hc] at h; cases h)]
    exact h
  · exact .inr h
end Nw
namespace Nw
open PySem PySem.Spec PyProof.Rows L2
/-- the sources that a list of lines gives a quantity -/
def srcsOf (ls : List (Int × Int)) (t : Int) : List Int := (ls.filter fun l => l.2 == t).map (·.1)
theorem filter_range {α β : Type} (d : α) (p : α → Bool) (g : α → β) : ∀ ls : List α, ((List.range ls.length).filter fun i => p (ls.getD i d)).map (fun i => g (ls.getD i d)) = (ls.filter p).map g
  | [] => rfl
  | x :: ls => by
    have ih := filter_range d p g ls
    rw [List.length_cons, List.range_succ_eq_map, List.filter_cons, List.filter_map, List.filter_cons]
    have e : (fun i => p ((x :: ls).getD i d)) ∘ Nat.succ = fun i => p (ls.getD i d) := rfl
    rw [e]
    have e0 : (x :: ls).getD 0 d = x := rfl
    rw [e0]
    by_cases h : p x = true
    · rw [if_pos h, if_pos h, List.map_cons, List.map_cons, List.map_map, ← ih]
      rfl
    · rw [if_neg h, if_neg h, List.map_map, ← ih]
      rfl
theorem srcs_range (ls : List (Int × Int)) (z : Int) : ((List.range ls.length).filter fun i => (ls.getD i (0, 0)).2 == z).map (fun i => V.int (ls.getD i (0, 0)).1) = (srcsOf ls z).map V.int := by
  have h := filter_range (0, 0) (fun l : Int × Int => l.2 == z) (fun l => V.int l.1) ls
  rw [h]
  unfold srcsOf
  rw [List.map_map]
  rfl
end Nw
namespace Nw
open PySem PySem.Spec PyProof.Rows L2
/-- new rows at new places, apart from one another -/
structure RowsAt (H H' : Hp) (p : Addr) (as : List Addr) (n : Nat) (row : Nat → List Int) : Prop where
  new : H p = none
  ex : Ex H H'
  at_ : H' p = some (.lst (as.map V.ref))
  nd : as.Nodup
  off : ∀ b ∈ as, H b = none ∧ b ≠ p
  len : as.length = n
  row : ∀ s b, as[s]? = some b → H' b = some (.lst ((row s).map V.int))
theorem srcsOf_nil (s : Int) : srcsOf [] s = [] := rfl
theorem srcsOf_app (a b : List (Int × Int)) (s : Int) : srcsOf (a ++ b) s = srcsOf a s ++ srcsOf b s := by
  unfold srcsOf
  rw [List.filter_append, List.map_append]
theorem srcsOf_one (p : Int × Int) (s : Int) : srcsOf [p] s = if p.2 = s then [p.1] else [] := by
  unfold srcsOf
  by_cases h : p.2 = s
  · rw [if_pos h, List.filter_cons, if_pos (by simpa using h)]
    rfl
  · rw [if_neg h, List.filter_cons, if_neg (by simpa using h)]
    rfl
theorem srcsOf_len (ls : List (Int × Int)) (s : Int) : (srcsOf ls s).length ≤ ls.length := by
  unfold srcsOf
  rw [List.length_map]
  exact List.length_filter_le _ _
end Nw
/-! What draws are made of: a list of three numbers that each draw changes. -/
namespace Nw
open PySem PySem.Spec PyProof.Rows L2
/-- the heap without what stands at p -/
def rm (H : Hp) (p : Addr) : Hp := fun b => if b = p then none else H b
theorem rm_ex {H : Hp} {p : Addr} : Ex (rm H p) H := fun b o h => by
  unfold rm at h
  split at h
  · cases h
  · exact h
theorem rm_at {H : Hp} {p : Addr} : rm H p p = none := if_pos rfl
theorem rm_ne {H : Hp} {p b : Addr} (h : b ≠ p) : rm H p b = H b := if_neg h
theorem ExD.rm {p : Addr} {H H' : Hp} (e : ExD p H H') : Ex (rm H p) (rm H' p) := fun b o h => by
  by_cases n : b = p
  · subst n
    rw [rm_at] at h
    cases h
  · rw [rm_ne n] at h ⊢
    exact e b o n h
theorem Ex.rm {p : Addr} {H H' : Hp} (e : Ex H H') : Ex (rm H p) (rm H' p) := ExD.rm (Ex.d e)
theorem ExD.rfl {p : Addr} {H : Hp} : ExD p H H := fun _ _ _ h => h
theorem ExD.nw {p q : Addr} {H : Hp} {o : HO} (h : H q = none) : ExD p H (upd H q o) := (Ex.nw h).d
theorem ExD.wr {p q : Addr} {H H' : Hp} {o : HO} (e : ExD p H H') (h : H q = none) : ExD p H (upd H' q o) := fun a u n ha => by
  rw [upd_ne (ne_of_none ha h)]
  exact e a u n ha
theorem ExD.put2 {p : Addr} {H H' : Hp} {o : HO} (e : ExD p H H') : ExD p H (upd H' p o) := e.tr ExD.put
/-- what is new stands elsewhere than the purse -/
theorem ExD.fr {p q : Addr} {H H' : Hp} {o : HO} (e : ExD p H H') (hp : H' p = some o) (h : H' q = none) : H q = none := by
  cases z : H q with
  | none => exact Eq.refl _
  | some u =>
    by_cases n : q = p
    · subst n
      rw [hp] at h
      cases h
    · rw [e q u n z] at h
      cases h
structure Purse (H : Hp) (p : Addr) (m : Nat) : Prop where
  ex : ∃ b c e : Int, H p = some (.lst [.int b, .int c, .int e]) ∧ 0 ≤ b ∧ (0 ≤ c ∧ c < 10 ^ 42) ∧ (0 ≤ e ∧ e ≤ (m : Int))
theorem Purse.mono {H : Hp} {p : Addr} {m n : Nat} (h : Purse H p m) (l : m ≤ n) : Purse H p n := by
  obtain ⟨b, c, e, h1, h2, h3, h4⟩ := h.ex
  exact ⟨b, c, e, h1, h2, h3, h4.1, by omega⟩
theorem Purse.up {H H' : Hp} {p : Addr} {m : Nat} (h : Purse H p m) (e : Ex H H') : Purse H' p m := by
  obtain ⟨b, c, d, h1, h2⟩ := h.ex
  exact ⟨b, c, d, e _ _ h1, h2⟩
theorem Purse.off {H : Hp} {p : Addr} {m : Nat} (h : Purse H p m) {q : Addr} (n : H q = none) : q ≠ p := by
  obtain ⟨b, c, d, h1, h2⟩ := h.ex
  intro e
  rw [e, h1] at n
  cases n
theorem Purse.put {H : Hp} {p q : Addr} {m : Nat} {o : HO} (h : Purse H p m) (n : p ≠ q) : Purse (upd H q o) p m := by
  obtain ⟨b, c, d, h1, h2⟩ := h.ex
  exact ⟨b, c, d, by rw [upd_ne n]; exact h1, h2⟩
theorem Purse.fr {p q : Addr} {H H' : Hp} {m : Nat} (e : ExD p H H') (hp : Purse H' p m) (h : H' q = none) : H q = none := by
  obtain ⟨b, c, d, h1, _⟩ := hp.ex
  exact e.fr h1 h
/-- a remainder by a positive number -/
theorem fmod_in {a m : Int} (h : 0 < m) : 0 ≤ a.fmod m ∧ a.fmod m < m := by
  rw [Int.fmod_eq_emod_of_nonneg a (by omega)]
  exact ⟨Int.emod_nonneg a (by omega), Int.emod_lt_of_pos a h⟩
theorem div_in {a m : Int} (h0 : 0 ≤ a) (h : 0 < m) : 0 ≤ a / m := Int.ediv_nonneg h0 (by omega)
theorem pow_lt_of {i : Int} (h0 : 0 ≤ i) (h : i < 10 ^ 60) : i.natAbs < 2 ^ 10000 := by
  have h1 : (10 : Nat) ^ 60 < 2 ^ 10000 := by decide +kernel
  have h2 : i.natAbs < 10 ^ 60 := by omega
  omega
theorem small_div {m : Int} (h : 0 < m) (h2 : m < 1073741824) : CDivW 0 m := wide_div (b := 30) h (by omega) (by omega) (by omega)
theorem great_div {i m : Int} (h : 0 < m) (h2 : m < 1000000000000000000000000000000000000000000000000000000000000) : CDivW i m := wide_div (b := 200) h (by
  have e : (2 : Nat) ^ 200 = 1606938044258990275541962092341162602522202993782792835301376 := by decide +kernel
  rw [e]
  omega) (by omega) (by omega)
theorem small_div' {i m : Int} (h : 0 < m) (h2 : m < 1073741824) : CDivW i m := small_div h h2
end Nw
namespace Nw
open PySem PySem.Spec PyProof.Rows L2
theorem cpow10 {j : Int} (h0 : 0 ≤ j) (h1 : j ≤ 100) : CPowW 10 j := ⟨h0, h1, by
  show (10 : Nat) < 2 ^ 10000
  decide +kernel⟩
theorem cpow3 {i : Int} (h0 : 0 ≤ i) (h : i < 10 ^ 60) : CPowW i 3 := ⟨by decide, by decide, pow_lt_of h0 h⟩
theorem p18 : (10 : Int) ^ Int.toNat 18 = 1000000000000000000 := by decide +kernel
theorem p41 : (10 : Int) ^ Int.toNat 41 = 100000000000000000000000000000000000000000 := by decide +kernel
theorem p42 : (10 : Int) ^ 42 = 1000000000000000000000000000000000000000000 := by decide +kernel
theorem p43 : (10 : Int) ^ Int.toNat 43 = 10000000000000000000000000000000000000000000 := by decide +kernel
theorem p45 : (10 : Int) ^ Int.toNat 45 = 1000000000000000000000000000000000000000000000 := by decide +kernel
theorem p60 : (10 : Int) ^ 60 = 1000000000000000000000000000000000000000000000000000000000000 := by decide +kernel
theorem cube_nn {i : Int} (h : 0 ≤ i) : 0 ≤ i ^ Int.toNat 3 := Int.pow_nonneg h
theorem purse_new {a x k : Int} (hk : 0 ≤ k ∧ k ≤ 63) : 0 ≤ a.fmod (10 ^ Int.toNat 41 + 37) + 90001 * k + 17 ∧ a.fmod (10 ^ Int.toNat 41 + 37) + 90001 * k + 17 < 10 ^ 42 := by
  have h := fmod_in (a := a) (m := 10 ^ Int.toNat 41 + 37) (by rw [p41]; omega)
  rw [p41] at h ⊢
  rw [p42]
  omega
end Nw
namespace Nw
theorem ne41 : (10 : Int) ^ Int.toNat 41 + 37 ≠ 0 := by rw [p41]; decide
theorem ne43 : (10 : Int) ^ Int.toNat 43 + 29 ≠ 0 := by rw [p43]; decide
theorem ne45 : (10 : Int) ^ Int.toNat 45 + 9 ≠ 0 := by rw [p45]; decide
end Nw
/-! Data of webs compared and shown. -/
namespace Nw
open PySem PySem.Spec PyProof.Rows L2
theorem asc_snoc : ∀ {r : List Int} {x : Int}, ascB ltIn r = true → (∀ t ∈ r, t < x) → ascB ltIn (r ++ [x]) = true
  | [], _, _, _ => rfl
  | [a], x, _, h => by
    have := h a (by simp)
    simp [ascB, ltIn, this]
  | a :: b :: r, x, ha, h => by
    simp only [ascB, Bool.and_eq_true] at ha
    have ih := asc_snoc (r := b :: r) (x := x) ha.2 (fun t ht => h t (List.mem_cons_of_mem _ ht))
    simp only [List.cons_append, ascB, Bool.and_eq_true] at ih ⊢
    exact ⟨ha.1, ih⟩
theorem ascP_snoc : ∀ {r : List (Int × Int)} {x : Int × Int}, ascB ltPr r = true → (∀ t ∈ r, ltPr t x = true) → ascB ltPr (r ++ [x]) = true
  | [], _, _, _ => rfl
  | [a], x, _, h => by
    have := h a (by simp)
    simp [ascB, this]
  | a :: b :: r, x, ha, h => by
    simp only [ascB, Bool.and_eq_true] at ha
    have ih := ascP_snoc (r := b :: r) (x := x) ha.2 (fun t ht => h t (List.mem_cons_of_mem _ ht))
    simp only [List.cons_append, ascB, Bool.and_eq_true] at ih ⊢
    exact ⟨ha.1, ih⟩
/-! ### == -/
theorem eqv_ints : ∀ r s : List Int, PyData.eqvAll (r.map PyData.int) (s.map PyData.int) = decide (r = s)
  | [], [] => by simp [PyData.eqvAll]
  | [], _ :: _ => by simp [PyData.eqvAll]
  | _ :: _, [] => by simp [PyData.eqvAll]
  | a :: r, b :: s => by
    simp only [List.map_cons, PyData.eqvAll, eqv_ints r s, PyData.eqv]
    by_cases h : a = b
    · by_cases h2 : r = s <;> simp [h, h2]
    · simp [h]
theorem eqv_dInts (r s : List Int) : PyData.eqv (dInts r) (dInts s) = decide (r = s) := by
  unfold dInts
  simp only [PyData.eqv, eqv_ints]
theorem eqv_dPair (p q : Int × Int) : PyData.eqv (dPair p) (dPair q) = decide (p = q) := by
  obtain ⟨a, b⟩ := p
  obtain ⟨c, d⟩ := q
  unfold dPair
  simp only [PyData.eqv, PyData.eqvAll, Bool.and_true, Prod.mk.injEq]
  by_cases h : a = c <;> by_cases h2 : b = d <;> simp [h, h2]
theorem eqv_pairs : ∀ r s : List (Int × Int), PyData.eqvAll (r.map dPair) (s.map dPair) = decide (r = s)
  | [], [] => by simp [PyData.eqvAll]
  | [], _ :: _ => by simp [PyData.eqvAll]
  | _ :: _, [] => by simp [PyData.eqvAll]
  | a :: r, b :: s => by
    simp only [List.map_cons, PyData.eqvAll, eqv_pairs r s, eqv_dPair]
    by_cases h : a = b
    · by_cases h2 : r = s <;> simp [h, h2]
    · simp [h]
theorem eqv_dPairs (r s : List (Int × Int)) : PyData.eqv (dPairs r) (dPairs s) = decide (r = s) := by
  unfold dPairs
  simp only [PyData.eqv, eqv_pairs]
theorem eqv_rows : ∀ r s : List (List Int), PyData.eqvAll (r.map dInts) (s.map dInts) = decide (r = s)
  | [], [] => by simp [PyData.eqvAll]
  | [], _ :: _ => by simp [PyData.eqvAll]
  | _ :: _, [] => by simp [PyData.eqvAll]
  | a :: r, b :: s => by
    simp only [List.map_cons, PyData.eqvAll, eqv_rows r s, eqv_dInts]
    by_cases h : a = b
    · by_cases h2 : r = s <;> simp [h, h2]
    · simp [h]
theorem eqv_dRows (r s : List (List Int)) : PyData.eqv (dRows r) (dRows s) = decide (r = s) := by
  unfold dRows
  simp only [PyData.eqv, eqv_rows]
theorem eqv_web (u v : Wb) : PyData.eqv u.d v.d = decide (u = v) := by
  obtain ⟨a, b, c⟩ := u
  obtain ⟨d, e, f⟩ := v
  unfold Wb.d
  simp only [PyData.eqv, PyData.eqvAll, eqv_dPairs, eqv_dRows, Bool.and_true, Wb.mk.injEq]
  by_cases h : a = d <;> by_cases h2 : b = e <;> by_cases h3 : c = f <;> simp [h, h2, h3]
/-! ### shape -/
theorem shaped_of {d : PyData} (h : d.canLay0 = true) (h2 : d.depth ≤ 64) : SeqAt.shaped d = true := by
  unfold SeqAt.shaped
  rw [h, decide_eq_true h2]
  rfl
theorem lay_ints : ∀ r : List Int, PyData.canLayAll0 (r.map PyData.int) = true
  | [] => by simp [PyData.canLayAll0]
  | a :: r => by simp [PyData.canLayAll0, PyData.canLay0, lay_ints r]
theorem lay_pairs : ∀ r : List (Int × Int), PyData.canLayAll0 (r.map dPair) = true
  | [] => by simp [PyData.canLayAll0]
  | a :: r => by simp [PyData.canLayAll0, PyData.canLay0, dPair, lay_pairs r]
theorem lay_rows : ∀ r : List (List Int), PyData.canLayAll0 (r.map dInts) = true
  | [] => by simp [PyData.canLayAll0]
  | a :: r => by simp [PyData.canLayAll0, PyData.canLay0, dInts, lay_rows r, lay_ints]
theorem dep_ints : ∀ r : List Int, PyData.depthAll (r.map PyData.int) = 0
  | [] => by simp [PyData.depthAll]
  | a :: r => by simp [PyData.depthAll, PyData.depth, dep_ints r]
theorem dep_pairs : ∀ r : List (Int × Int), PyData.depthAll (r.map dPair) ≤ 1
  | [] => by simp [PyData.depthAll]
  | a :: r => by
    have := dep_pairs r
    simp [PyData.depthAll, PyData.depth, dPair]
    omega
theorem dep_rows : ∀ r : List (List Int), PyData.depthAll (r.map dInts) ≤ 1
  | [] => by simp [PyData.depthAll]
  | a :: r => by
    have := dep_rows r
    simp [PyData.depthAll, PyData.depth, dInts, dep_ints]
    omega
theorem lay_dInts (r : List Int) : (dInts r).canLay0 = true := by simp [dInts, PyData.canLay0, lay_ints]
theorem lay_dPairs (r : List (Int × Int)) : (dPairs r).canLay0 = true := by simp [dPairs, PyData.canLay0, lay_pairs]
theorem lay_dRows (r : List (List Int)) : (dRows r).canLay0 = true := by simp [dRows, PyData.canLay0, lay_rows]
theorem lay_dPair (p : Int × Int) : (dPair p).canLay0 = true := by simp [dPair, PyData.canLay0, PyData.canLayAll0]
theorem lay_web (u : Wb) : u.d.canLay0 = true := by simp [Wb.d, PyData.canLay0, PyData.canLayAll0, lay_dPairs, lay_dRows]
theorem dep_dInts (r : List Int) : (dInts r).depth ≤ 1 := by simp [dInts, PyData.depth, dep_ints]
theorem dep_dPair (p : Int × Int) : (dPair p).depth ≤ 1 := by simp [dPair, PyData.depth, PyData.depthAll]
theorem dep_dPairs (r : List (Int × Int)) : (dPairs r).depth ≤ 2 := by
  have := dep_pairs r
  simp [dPairs, PyData.depth]
  omega
theorem dep_dRows (r : List (List Int)) : (dRows r).depth ≤ 2 := by
  have := dep_rows r
  simp [dRows, PyData.depth]
  omega
theorem dep_web (u : Wb) : u.d.depth ≤ 3 := by
  have h1 := dep_dPairs u.ps
  have h2 := dep_dRows u.ns
  simp [Wb.d, PyData.depth, PyData.depthAll]
  omega
theorem sh_dInts (r : List Int) : SeqAt.shaped (dInts r) = true := shaped_of (lay_dInts r) (by have := dep_dInts r; omega)
theorem sh_dPair (r : Int × Int) : SeqAt.shaped (dPair r) = true := shaped_of (lay_dPair r) (by have := dep_dPair r; omega)
theorem sh_dPairs (r : List (Int × Int)) : SeqAt.shaped (dPairs r) = true := shaped_of (lay_dPairs r) (by have := dep_dPairs r; omega)
theorem sh_dRows (r : List (List Int)) : SeqAt.shaped (dRows r) = true := shaped_of (lay_dRows r) (by have := dep_dRows r; omega)
theorem sh_web (u : Wb) : SeqAt.shaped u.d = true := shaped_of (lay_web u) (by have := dep_web u; omega)
theorem nd_of_lay {d : PyData} (h : d.canLay0 = true) : d.hasDict = false := PyData.hasDict_of_canLay d h
section
variable {K : PySem.W.Frag} {H : Hp}
theorem Da.dInts {r : List Int} {v : V} (h : Da K H (dInts r) v) : Dp K H v (dInts r) := h.dp _ _ (nd_of_lay (lay_dInts r))
theorem Da.dPairs {r : List (Int × Int)} {v : V} (h : Da K H (dPairs r) v) : Dp K H v (dPairs r) := h.dp _ _ (nd_of_lay (lay_dPairs r))
theorem Da.dPair {r : Int × Int} {v : V} (h : Da K H (dPair r) v) : Dp K H v (dPair r) := h.dp _ _ (nd_of_lay (lay_dPair r))
theorem Da.dRows {r : List (List Int)} {v : V} (h : Da K H (dRows r) v) : Dp K H v (dRows r) := h.dp _ _ (nd_of_lay (lay_dRows r))
theorem Da.web {u : Wb} {v : V} (h : Da K H u.d v) : Dp K H v u.d := h.dp _ _ (nd_of_lay (lay_web u))
/-- a == b, a != b of lists of ints .. as the readings ask -/
theorem eqD_of {d e : PyData} {x y : V} {Q : VK} (hd : Dp K H x d) (he : Dp K H y e) (sd : SeqAt.shaped d = true) (se : SeqAt.shaped e = true) (q : Q (.bl (PyData.eqv d e)) H) : rEqD K x y H Q := ⟨d, e, hd, he, sd, se, q⟩
end
end Nw
namespace Nw
open PySem PySem.Spec PyProof.Rows L2
theorem ex_rm1 {H H' : Hp} {p : Addr} (h : ∀ b o, b ≠ p → H b = some o → H' b = some o) : Ex (rm H p) (rm H' p) := ExD.rm h
theorem ex_rm2 {H H' : Hp} {p q : Addr} (h : ∀ b o, b ≠ p → b ≠ q → H b = some o → H' b = some o) : Ex (rm (rm H p) q) (rm (rm H' p) q) :=
  ExD.rm fun b o n e => by
    by_cases n2 : b = p
    · subst n2
      rw [rm_at] at e
      cases e
    · rw [rm_ne n2] at e ⊢
      exact h b o n2 n e
theorem ex_rm3 {H H' : Hp} {p q r : Addr} (h : ∀ b o, b ≠ p → b ≠ q → b ≠ r → H b = some o → H' b = some o) : Ex (rm (rm (rm H p) q) r) (rm (rm (rm H' p) q) r) :=
  ExD.rm fun b o n e => by
    by_cases n2 : b = q
    · subst n2
      rw [rm_at] at e
      cases e
    · rw [rm_ne n2] at e ⊢
      by_cases n3 : b = p
      · subst n3
        rw [rm_at] at e
        cases e
      · rw [rm_ne n3] at e ⊢
        exact h b o n3 n2 n e
theorem asc_app : ∀ {a b : List (Int × Int)}, ascB ltPr a = true → ascB ltPr b = true → (∀ x ∈ a, ∀ y ∈ b, ltPr x y = true) → ascB ltPr (a ++ b) = true
  | [], _, _, hb, _ => hb
  | [x], [], _, _, _ => rfl
  | [x], y :: b, _, hb, h => by
    show (ltPr x y && ascB ltPr (y :: b)) = true
    rw [hb, h x (by simp) y (by simp)]
    rfl
  | x :: z :: a, b, ha, hb, h => by
    simp only [ascB, Bool.and_eq_true] at ha
    have ih := asc_app (a := z :: a) ha.2 hb (fun x hx => h x (List.mem_cons_of_mem _ hx))
    show (ltPr x z && ascB ltPr (z :: a ++ b)) = true
    rw [ha.1, ih]
    rfl
end Nw
namespace Nw
open PySem PySem.Spec PyProof.Rows L2
theorem rowOf_none {ls : List (Int × Int)} {s : Int} (h : ∀ l ∈ ls, l.1 ≠ s) : rowOf ls s = [] := by
  unfold rowOf
  rw [List.filter_eq_nil_iff.mpr (fun l hl => by simpa using h l hl)]
  rfl
theorem rowOf_pushedAt (n : Int) (i : Nat) (r : List Int) : rowOf (pushedAt n i r) (n + (i : Int)) = r := by
  unfold rowOf pushedAt
  rw [List.filter_eq_self.mpr]
  · rw [List.map_map]
    exact List.map_id _
  · intro l hl
    obtain ⟨t, _, rfl⟩ := List.mem_map.mp hl
    simp
/-- a quantity's row: from the pairs alone -/
theorem row_low {u : Wb} (h : u.Ok) {s : Int} (hs : s < u.n) : rowOf u.lines s = rowOf u.ps s := by
  unfold Wb.lines
  rw [rowOf_app, rowOf_none (ls := pushedFrom u.n 0 u.ns), List.append_nil]
  intro l hl
  have := pushed_ok (fun r hr => (h.ns r hr).2.1) l hl
  omega
theorem row_push {n : Int} {m : Int} : ∀ {rs : List (List Int)} {i k : Nat} {r : List Int}, (∀ r ∈ rs, ∀ t ∈ r, 0 ≤ t ∧ t < m) → rs[k]? = some r →
    rowOf (pushedFrom n i rs) (n + (i : Int) + (k : Int)) = r
  | [], _, _, _, _, e => by simp at e
  | a :: rs, i, 0, r, h, e => by
    obtain rfl : a = r := by simpa using e
    simp only [pushedFrom]
    rw [rowOf_app, show n + (i : Int) + ((0 : Nat) : Int) = n + (i : Int) by omega, rowOf_pushedAt, rowOf_none, List.append_nil]
    intro l hl
    have := pushed_ok (fun z hz => h z (List.mem_cons_of_mem _ hz)) l hl
    omega
  | a :: rs, i, k + 1, r, h, e => by
    simp only [pushedFrom]
    rw [rowOf_app, rowOf_none, List.nil_append]
    · have ih := row_push (n := n) (i := i + 1) (k := k) (r := r) (fun z hz => h z (List.mem_cons_of_mem _ hz)) (by simpa using e)
      rw [show n + (i : Int) + ((k + 1 : Nat) : Int) = n + ((i + 1 : Nat) : Int) + (k : Int) by omega]
      exact ih
    · intro l hl
      obtain ⟨t, _, rfl⟩ := List.mem_map.mp hl
      simp only
      omega
/-- a nudge's row -/
theorem row_high {u : Wb} (h : u.Ok) {k : Nat} {r : List Int} (hr : u.ns[k]? = some r) {s : Int} (hs : s = u.n + (k : Int)) : rowOf u.lines s = r := by
  subst hs
  unfold Wb.lines
  rw [rowOf_app, rowOf_none (ls := u.ps), List.nil_append]
  · have := row_push (n := u.n) (i := 0) (k := k) (fun r hr => (h.ns r hr).2.1) hr
    rw [show u.n + ((0 : Nat) : Int) + (k : Int) = u.n + (k : Int) by omega] at this
    exact this
  · intro l hl
    have := h.ps l hl
    omega
end Nw
/-! Data of webs shown, lines grouped and sorted. -/
namespace Nw
open PySem PySem.Spec PyProof.Rows L2
theorem short_small : ∀ n : Fin 64, ((PyData.shown (.int (n.val : Int))).length ≤ 8 ∧ (((n.val : Int)).natAbs.log2 < 1920) ∧ PyData.weight (.int (n.val : Int)) ≤ 6) := by decide +kernel
theorem short_int {i : Int} (h0 : 0 ≤ i) (h1 : i < 64) : (PyData.shown (.int i)).length ≤ 8 ∧ i.natAbs.log2 < 1920 ∧ PyData.weight (.int i) ≤ 6 := by
  have h := short_small ⟨i.toNat, by omega⟩
  simp only [Int.toNat_of_nonneg h0] at h
  exact h
abbrev Sm (i : Int) : Prop := 0 ≤ i ∧ i < 64
theorem sm_ints : ∀ {r : List Int}, (∀ t ∈ r, Sm t) → PyData.leavesShortAll 8 (r.map PyData.int) = true ∧ PyData.showableAll (r.map PyData.int) = true ∧ PyData.weightAll (r.map PyData.int) ≤ 7 * r.length
  | [], _ => by simp [PyData.leavesShortAll, PyData.showableAll, PyData.weightAll]
  | a :: r, h => by
    obtain ⟨h1, h2, h3⟩ := sm_ints (r := r) fun t ht => h t (List.mem_cons_of_mem _ ht)
    obtain ⟨s1, s2⟩ := h a (by simp)
    obtain ⟨g1, g2, g5⟩ := short_int s1 s2
    refine ⟨?_, ?_, ?_⟩
    · simp only [List.map_cons, PyData.leavesShortAll, PyData.leavesShort, h1, Bool.and_true, decide_eq_true_eq]
      exact g1
    · simp only [List.map_cons, PyData.showableAll, PyData.showable, h2, Bool.and_true, decide_eq_true_eq]
      exact g2
    · simp only [List.map_cons, PyData.weightAll, List.length_cons]
      omega
theorem sm_pairs : ∀ {r : List (Int × Int)}, (∀ t ∈ r, Sm t.1 ∧ Sm t.2) → PyData.leavesShortAll 8 (r.map dPair) = true ∧ PyData.showableAll (r.map dPair) = true ∧ PyData.weightAll (r.map dPair) ≤ 16 * r.length
  | [], _ => by simp [PyData.leavesShortAll, PyData.showableAll, PyData.weightAll]
  | a :: r, h => by
    obtain ⟨h1, h2, h3⟩ := sm_pairs (r := r) fun t ht => h t (List.mem_cons_of_mem _ ht)
    obtain ⟨s1, s2⟩ := h a (by simp)
    obtain ⟨g1, g2, g5⟩ := short_int s1.1 s1.2
    obtain ⟨g3, g4, g6⟩ := short_int s2.1 s2.2
    refine ⟨?_, ?_, ?_⟩
    · simp only [List.map_cons, dPair, PyData.leavesShortAll, PyData.leavesShort, h1, Bool.and_true, decide_eq_true_eq, Bool.and_eq_true]
      exact ⟨g1, g3⟩
    · simp only [List.map_cons, dPair, PyData.showableAll, PyData.showable, h2, Bool.and_true, decide_eq_true_eq, Bool.and_eq_true]
      exact ⟨g2, g4⟩
    · have e : PyData.weight (dPair a) = PyData.weight (.int a.1) + 1 + (PyData.weight (.int a.2) + 1 + 0) := by
        simp only [dPair, PyData.weight, PyData.weightAll]
      simp only [List.map_cons, PyData.weightAll, List.length_cons]
      omega
/-- what repr of a list of small ints asks -/
theorem show_ints {r : List Int} (hs : ∀ t ∈ r, Sm t) (hz : r.length ≤ 30000) : (dInts r).showable = true ∧ (dInts r).shown.length ≤ sizeLine ∧ (dInts r).depth ≤ 60 := by
  obtain ⟨h1, h2, h3⟩ := sm_ints hs
  refine ⟨?_, ?_, ?_⟩
  · simp only [dInts, PyData.showable, h2]
  · refine PyData.shown_fits (B := 8) (by omega) (by omega) ?_ ?_
    · simp only [dInts, PyData.leavesShort, h1]
    · simp only [dInts, PyData.weight]
      omega
  · have := dep_dInts r
    omega
/-- what repr of a list of pairs of small ints asks -/
theorem show_pairs {r : List (Int × Int)} (hs : ∀ t ∈ r, Sm t.1 ∧ Sm t.2) (hz : r.length ≤ 30000) : (dPairs r).showable = true ∧ (dPairs r).shown.length ≤ sizeLine ∧ (dPairs r).depth ≤ 60 := by
  obtain ⟨h1, h2, h3⟩ := sm_pairs hs
  refine ⟨?_, ?_, ?_⟩
  · simp only [dPairs, PyData.showable, h2]
  · refine PyData.shown_fits (B := 8) (by omega) (by omega) ?_ ?_
    · simp only [dPairs, PyData.leavesShort, h1]
    · simp only [dPairs, PyData.weight]
      omega
  · have := dep_dPairs r
    omega
/-! ### lines grouped -/
theorem asc_tail : ∀ {p : Int × Int} {r : List (Int × Int)}, ascB ltPr (p :: r) = true → (∀ q ∈ r, ltPr p q = true) ∧ ascB ltPr r = true
  | p, [], _ => ⟨fun q hq => (by cases hq), rfl⟩
  | p, q :: r, h => by
    simp only [ascB, Bool.and_eq_true] at h
    obtain ⟨h1, h2⟩ := asc_tail (p := q) (r := r) h.2
    refine ⟨fun z hz => ?_, h.2⟩
    rcases List.mem_cons.mp hz with rfl | hz
    · exact h.1
    · have a := ltPr_iff.mp h.1
      have b := ltPr_iff.mp (h1 z hz)
      refine ltPr_iff.mpr ?_
      omega
/-- rising lines, those of the first k sources -/
def upTo (ls : List (Int × Int)) (k : Int) : List (Int × Int) := ls.filter fun l => decide (l.1 < k)
theorem upTo_step : ∀ {ls : List (Int × Int)} (k : Int), ascB ltPr ls = true → upTo ls (k + 1) = upTo ls k ++ (rowOf ls k).map fun t => (k, t)
  | [], k, _ => rfl
  | p :: r, k, h => by
    obtain ⟨h1, h2⟩ := asc_tail h
    have ih := upTo_step (ls := r) k h2
    unfold upTo rowOf at ih ⊢
    by_cases a : p.1 < k
    · rw [List.filter_cons_of_pos (p := fun l : Int × Int => decide (l.1 < k + 1)) (by simp; omega), List.filter_cons_of_pos (p := fun l : Int × Int => decide (l.1 < k)) (by simpa using a),
        List.filter_cons_of_neg (p := fun l : Int × Int => l.1 == k) (by simp; omega), ih]
      rfl
    · have e0 : r.filter (fun l => decide (l.1 < k)) = [] := by
        refine List.filter_eq_nil_iff.mpr fun q hq => ?_
        have := ltPr_iff.mp (h1 q hq)
        simp
        omega
      rw [e0, List.nil_append] at ih
      rw [List.filter_cons_of_neg (p := fun l : Int × Int => decide (l.1 < k)) (by simpa using a), e0, List.nil_append]
      by_cases b : p.1 = k
      · rw [List.filter_cons_of_pos (p := fun l : Int × Int => decide (l.1 < k + 1)) (by simp; omega), List.filter_cons_of_pos (p := fun l : Int × Int => l.1 == k) (by simpa using b), ih, List.map_cons, List.map_cons]
        rw [← b]
      · rw [List.filter_cons_of_neg (p := fun l : Int × Int => decide (l.1 < k + 1)) (by simp; omega), List.filter_cons_of_neg (p := fun l : Int × Int => l.1 == k) (by simpa using b), ih]
theorem upTo_none {ls : List (Int × Int)} {k : Int} (h : ∀ l ∈ ls, k ≤ l.1) : upTo ls k = [] :=
  List.filter_eq_nil_iff.mpr fun l hl => by
    have := h l hl
    simp
    omega
theorem upTo_all {ls : List (Int × Int)} {k : Int} (h : ∀ l ∈ ls, l.1 < k) : upTo ls k = ls :=
  List.filter_eq_self.mpr fun l hl => by
    have := h l hl
    simp
    omega
theorem asc_pushedAt {n : Int} {i : Nat} : ∀ {r : List Int}, ascB ltIn r = true → ascB ltPr (pushedAt n i r) = true
  | [], _ => rfl
  | [x], _ => rfl
  | x :: y :: r, h => by
    simp only [ascB, Bool.and_eq_true, ltIn, decide_eq_true_eq] at h
    have ih := asc_pushedAt (n := n) (i := i) (r := y :: r) h.2
    unfold pushedAt at ih ⊢
    simp only [List.map_cons, ascB, Bool.and_eq_true] at ih ⊢
    exact ⟨ltPr_iff.mpr (.inr ⟨rfl, h.1⟩), ih⟩
theorem asc_pushed {n m : Int} : ∀ {rs : List (List Int)} {i : Nat}, (∀ r ∈ rs, (∀ t ∈ r, 0 ≤ t ∧ t < m) ∧ ascB ltIn r = true) → ascB ltPr (pushedFrom n i rs) = true
  | [], _, _ => rfl
  | r :: rs, i, h => by
    simp only [pushedFrom]
    refine asc_app (asc_pushedAt (h r (by simp)).2) (asc_pushed fun z hz => h z (List.mem_cons_of_mem _ hz)) ?_
    intro x hx y hy
    obtain ⟨t, _, rfl⟩ := List.mem_map.mp hx
    have := pushed_ok (fun z hz => (h z (List.mem_cons_of_mem _ hz)).1) y hy
    refine ltPr_iff.mpr (.inl ?_)
    simp only
    omega
theorem Wb.Ok.lines_asc {u : Wb} (h : u.Ok) : ascB ltPr u.lines = true := by
  refine asc_app h.asc (asc_pushed fun r hr => (h.ns r hr).2) ?_
  intro x hx y hy
  have a := h.ps x hx
  have b := pushed_ok (fun r hr => (h.ns r hr).2.1) y hy
  refine ltPr_iff.mpr (.inl ?_)
  omega
theorem Wb.Ok.sm {u : Wb} (h : u.Ok) : ∀ l ∈ u.lines, Sm l.1 ∧ Sm l.2 := by
  intro l hl
  have a := h.line l hl
  have b := h.hi
  have c := h.few
  refine ⟨⟨a.1.1, by omega⟩, ⟨a.2.1, by omega⟩⟩
theorem Wb.Ok.sm_row {u : Wb} (h : u.Ok) (s : Int) : ∀ t ∈ rowOf u.lines s, Sm t := by
  intro t ht
  obtain ⟨l, hl, rfl⟩ := List.mem_map.mp ht
  exact (h.sm l (List.mem_filter.mp hl).1).2
theorem Wb.Ok.sm_srcs {u : Wb} (h : u.Ok) (s : Int) : ∀ t ∈ srcsOf u.lines s, Sm t := by
  intro t ht
  obtain ⟨l, hl, rfl⟩ := List.mem_map.mp ht
  exact (h.sm l (List.mem_filter.mp hl).1).1
theorem srcs_len (ls : List (Int × Int)) (s : Int) : (srcsOf ls s).length ≤ ls.length := by
  unfold srcsOf
  rw [List.length_map]
  exact List.length_filter_le _ _
/-! ### sorted -/
/-- the two ints of a pair that is known -/
def keyOf (H : Hp) : V → Int × Int
  | .ref t => match H t with
    | some (.tup [.int a, .int b]) => (a, b)
    | _ => (0, 0)
  | _ => (0, 0)
theorem keyOf_at {H : Hp} {t : Addr} {p : Int × Int} (h : H t = some (.tup [.int p.1, .int p.2])) : keyOf H (.ref t) = p := by
  unfold keyOf
  simp only [h]
theorem keys_of {K : PySem.W.Frag} {H : Hp} : ∀ {L : List (Int × Int)} {xs : List V}, DaAll K H (L.map dPair) xs → (∀ x ∈ xs, ∃ t, x = V.ref t ∧ H t = some (.tup [.int (keyOf H x).1, .int (keyOf H x).2])) ∧ xs.map (keyOf H) = L
  | [], xs, h => by
    obtain rfl : xs = [] := h
    exact ⟨fun x hx => (by cases hx), rfl⟩
  | p :: L, xs, h => by
    obtain ⟨x, xs, rfl, ⟨a, ys, rfl, hS, z1, r1, rfl, e1, z2, r2, rfl, e2, rfl⟩, h2⟩ := h
    obtain rfl := e1
    obtain rfl := e2
    obtain ⟨g1, g2⟩ := keys_of h2
    have e := keyOf_at hS
    refine ⟨fun x hx => ?_, by rw [List.map_cons, e, g2]⟩
    rcases List.mem_cons.mp hx with rfl | hx
    · exact ⟨a, rfl, by rw [e]; exact hS⟩
    · exact g1 x hx
theorem srtd_of {k : V → Int × Int} : ∀ {xs : List V}, ascB ltPr (xs.map k) = true → SrtO.Srtd (ltP k) xs
  | [], _ => List.Pairwise.nil
  | x :: xs, h => by
    obtain ⟨h1, h2⟩ := asc_tail (p := k x) (r := xs.map k) h
    refine List.Pairwise.cons (fun y hy => ?_) (srtd_of h2)
    have a := ltPr_iff.mp (h1 (k y) (List.mem_map.mpr ⟨y, hy, rfl⟩))
    refine SrtO.lexB_no.mpr ?_
    omega
/-- sorted of what is sorted -/
theorem sorted_same {K : PySem.W.Frag} {H : Hp} {a : Addr} {xs : List V} {L : List (Int × Int)} {Q : VK} (hS : SqL K H a xs) (hA : DaAll K H (L.map dPair) xs) (ha : ascB ltPr L = true)
    (q : ∀ p, H p = none → Q (.ref p) (upd H p (.lst xs))) : rSortedPO K [.ref a] H Q := by
  obtain ⟨h1, h2⟩ := keys_of hA
  refine ⟨a, xs, keyOf H, rfl, hS, h1, fun ys p s1 s2 hp => ?_⟩
  have s3 : SrtO.Srtd (ltP (keyOf H)) xs := srtd_of (by rw [h2]; exact ha)
  rw [SrtO.stb_uniq (ltP_swo (keyOf H)) s1 s3 s2]
  exact q p hp
/-- pairs outlast what is done to a list -/
theorem pairs_wr {K : PySem.W.Frag} {H : Hp} {D : Addr} {ys : List V} {o : HO} (hD : H D = some (.lst ys)) : ∀ {L : List (Int × Int)} {acc : List V}, DaAll K H (L.map dPair) acc → DaAll K (upd H D o) (L.map dPair) acc
  | [], _, h => h
  | p :: L, acc, h => by
    obtain ⟨x, xs, rfl, ⟨a, zs, rfl, hS, z1, r1, rfl, e1, z2, r2, rfl, e2, rfl⟩, h2⟩ := h
    obtain rfl := e1
    obtain rfl := e2
    refine ⟨_, _, rfl, dPair_of ?_, pairs_wr hD h2⟩
    rw [upd_ne (fun e => by rw [e, hD] at hS; cases hS)]
    exact hS
end Nw
/-! Webs turned and renumbered. -/
namespace Nw
open PySem PySem.Spec PyProof.Rows L2
section
variable {X : Cx}
theorem mt_indexK (K : PySem.W.Frag) (hK : X.K = K := by rfl) : MtR X "list.index" (rIndex K) := by
  subst hK
  exact mt_index
theorem bmK (K : PySem.W.Frag) {T : String} {r : V → List V → Hp → VK → Prop} {to : TE} {t : TA} {e : Expr} (h : PE X e (tBM X.K T r to t)) (hK : X.K = K := by rfl) : PE X e (tBM K T r to t) := by
  subst hK
  exact h
theorem pe_dgetK {k : Nat} {o i : Expr} {td ty : TE} {pos : Pos} (hr : Room k X.A) (ho : PE X o td) (hi : PE X i ty) (hs : NoSl i) : PE X (.Subscript o i pos) (tDGet td ty) :=
  pe_dget (by have := hr.un; omega) ho hi hs
end
/-- what a dict comprehension's reading asks -/
theorem dc_by {J : It} {g : TG} {tt : TT} {tk tv : TE} {vs : List Nat} {σ : L2.St} {D : Addr} {H1 : Hp} {Qd : Hp → Prop}
    (n : Nat) (Pv : Nat → Hp → Prop) (h0 : Pv 0 (upd H1 D (.dK [])))
    (hgo : ∀ i H, i < n → Pv i H → J.go i H) (hst : ∀ H, Pv n H → J.stop n H)
    (hs : ∀ i H x H', i < n → Pv i H → J.yld i H x H' → g x (wipe σ vs) H' fun σ2 H2 => wipe σ2 vs = wipe σ vs ∧ tt σ2 H2 fun b H3 =>
      if b = true then tk σ2 H3 fun y H4 => tv σ2 H4 fun z H5 => ∃ kvs k, y = kV k ∧ H5 D = some (.dK kvs) ∧ kvs.length < sizeLine ∧ Pv (i + 1) (upd H5 D (.dK (putK kvs k z))) else Pv (i + 1) H3)
    (hd : ∀ H, Pv n H → Qd H) :
    ∃ W : Nat → Nat → Hp → Prop, (∃ m, W 0 m (upd H1 D (.dK []))) ∧ ∀ i m H, W i m H →
      (J.stop i H ∧ Qd H) ∨ (J.go i H ∧ ∃ Nx : Hp → Prop, (∀ H', Nx H' → ∃ m', m' < m ∧ W (i + 1) m' H') ∧ ∀ x H', J.yld i H x H' → g x (wipe σ vs) H' fun σ2 H2 => wipe σ2 vs = wipe σ vs ∧ tt σ2 H2 fun b H3 =>
        if b = true then tk σ2 H3 fun y H4 => tv σ2 H4 fun z H5 => ∃ kvs k, y = kV k ∧ H5 D = some (.dK kvs) ∧ kvs.length < sizeLine ∧ Nx (upd H5 D (.dK (putK kvs k z))) else Nx H3) := by
  refine ⟨fun i m H => m = n - i ∧ i ≤ n ∧ Pv i H, ⟨n, by omega, Nat.zero_le _, h0⟩, ?_⟩
  rintro i m H ⟨rfl, hi, p⟩
  by_cases hlt : i < n
  · refine .inr ⟨hgo i H hlt p, Pv (i + 1), fun H' p' => ⟨n - (i + 1), by omega, rfl, hlt, p'⟩, ?_⟩
    intro x H' y
    exact hs i H x H' hlt p y
  · have e : i = n := by omega
    subst e
    exact .inl ⟨hst H p, hd H p⟩
/-! ### lists told by their members -/
theorem pw_ext {α : Type} {lt : α → α → Bool} (irr : ∀ x, lt x x = false) (asym : ∀ x y, lt x y = true → lt y x = false) :
    ∀ {a b : List α}, a.Pairwise (fun x y => lt x y = true) → b.Pairwise (fun x y => lt x y = true) → (∀ x, x ∈ a ↔ x ∈ b) → a = b
  | [], [], _, _, _ => rfl
  | [], y :: b, _, _, h => by
    have := (h y).mpr (by simp)
    cases this
  | x :: a, [], _, _, h => by
    have := (h x).mp (by simp)
    cases this
  | x :: a, y :: b, ha, hb, h => by
    obtain ⟨a1, a2⟩ := List.pairwise_cons.mp ha
    obtain ⟨b1, b2⟩ := List.pairwise_cons.mp hb
    have e : x = y := by
      rcases List.mem_cons.mp ((h x).mp (by simp)) with e | hx
      · exact e
      rcases List.mem_cons.mp ((h y).mpr (by simp)) with e | hy
      · exact e.symm
      have z1 := b1 x hx
      have z2 := a1 y hy
      rw [asym _ _ z1] at z2
      cases z2
    subst e
    have nx : ∀ {l : List α}, (∀ z ∈ l, lt x z = true) → x ∉ l := fun hl hx => by
      have := hl x hx
      rw [irr] at this
      cases this
    rw [pw_ext irr asym a2 b2 fun z => ?_]
    constructor
    · intro hz
      rcases List.mem_cons.mp ((h z).mp (List.mem_cons_of_mem _ hz)) with e | hz'
      · subst e
        exact absurd hz (nx a1)
      · exact hz'
    · intro hz
      rcases List.mem_cons.mp ((h z).mpr (List.mem_cons_of_mem _ hz)) with e | hz'
      · subst e
        exact absurd hz (nx b1)
      · exact hz'
theorem ltPr_no {p q : Int × Int} (h : ¬ (p.1 < q.1 ∨ (p.1 = q.1 ∧ p.2 < q.2))) : ltPr p q = false := by
  cases e : ltPr p q with
  | false => rfl
  | true => exact absurd (ltPr_iff.mp e) h
theorem pw_asc : ∀ {l : List (Int × Int)}, ascB ltPr l = true → l.Pairwise fun x y => ltPr x y = true
  | [], _ => List.Pairwise.nil
  | x :: l, h => by
    obtain ⟨h1, h2⟩ := asc_tail h
    exact List.Pairwise.cons h1 (pw_asc h2)
theorem asc_pw {α : Type} {lt : α → α → Bool} : ∀ {l : List α}, l.Pairwise (fun x y => lt x y = true) → ascB lt l = true
  | [], _ => rfl
  | [x], _ => rfl
  | x :: y :: l, h => by
    obtain ⟨h1, h2⟩ := List.pairwise_cons.mp h
    show (lt x y && ascB lt (y :: l)) = true
    rw [h1 y (by simp), asc_pw h2]
    rfl
theorem ascI_tail : ∀ {p : Int} {r : List Int}, ascB ltIn (p :: r) = true → (∀ q ∈ r, ltIn p q = true) ∧ ascB ltIn r = true
  | p, [], _ => ⟨fun q hq => (by cases hq), rfl⟩
  | p, q :: r, h => by
    simp only [ascB, Bool.and_eq_true] at h
    obtain ⟨h1, h2⟩ := ascI_tail (p := q) (r := r) h.2
    refine ⟨fun z hz => ?_, h.2⟩
    rcases List.mem_cons.mp hz with rfl | hz
    · exact h.1
    · have a := of_decide_eq_true h.1
      have b := of_decide_eq_true (h1 z hz)
      exact decide_eq_true (by omega)
theorem pwI_asc : ∀ {l : List Int}, ascB ltIn l = true → l.Pairwise fun x y => ltIn x y = true
  | [], _ => List.Pairwise.nil
  | x :: l, h => by
    obtain ⟨h1, h2⟩ := ascI_tail h
    exact List.Pairwise.cons h1 (pwI_asc h2)
theorem asc_ext {a b : List (Int × Int)} (ha : ascB ltPr a = true) (hb : ascB ltPr b = true) (h : ∀ x, x ∈ a ↔ x ∈ b) : a = b :=
  pw_ext (fun x => ltPr_no (by omega)) (fun x y e => ltPr_no (by have := ltPr_iff.mp e; omega)) (pw_asc ha) (pw_asc hb) h
theorem ltIn_no {p q : Int} (h : ¬ p < q) : ltIn p q = false := by
  unfold ltIn
  exact decide_eq_false h
theorem ltIn_yes {p q : Int} (h : ltIn p q = true) : p < q := by
  unfold ltIn at h
  exact of_decide_eq_true h
theorem ascI_ext {a b : List Int} (ha : ascB ltIn a = true) (hb : ascB ltIn b = true) (h : ∀ x, x ∈ a ↔ x ∈ b) : a = b :=
  pw_ext (fun x => ltIn_no (by omega)) (fun x y e => ltIn_no (by have := ltIn_yes e; omega)) (pwI_asc ha) (pwI_asc hb) h
theorem nodup_asc {l : List (Int × Int)} (h : ascB ltPr l = true) : l.Nodup :=
  (pw_asc h).imp fun {a b} e n => by
    subst n
    have := ltPr_iff.mp e
    omega
theorem nodup_ascI {l : List Int} (h : ascB ltIn l = true) : l.Nodup :=
  (pwI_asc h).imp fun {a b} e n => by
    subst n
    have := of_decide_eq_true e
    omega
/-- sorted ints that are apart -/
theorem asc_sortedI {l m : List Int} (hp : m.Perm l) (hs : m.Pairwise (· ≤ ·)) (hn : l.Nodup) : ascB ltIn m = true := by
  refine asc_pw ?_
  have hm : m.Nodup := hp.nodup_iff.mpr hn
  have := hs.and hm
  exact this.imp fun {a b} h => decide_eq_true (by have := h.1; have := h.2; omega)
/-- sorted pairs that are apart -/
theorem sortedP {K : PySem.W.Frag} {H : Hp} {L : List (Int × Int)} {xs ys : List V} (hA : DaAll K H (L.map dPair) xs) (hn : L.Nodup)
    (s1 : SrtO.Srtd (ltP (keyOf H)) ys) (s2 : SrtO.Stb (ltP (keyOf H)) ys xs) : ∃ M : List (Int × Int), DaAll K H (M.map dPair) ys ∧ ascB ltPr M = true ∧ (∀ p, p ∈ M ↔ p ∈ L) ∧ M.length = L.length := by
  obtain ⟨k1, k2⟩ := keys_of hA
  have hp : (ys.map (keyOf H)).Perm L := by
    rw [← k2]
    exact s2.perm.map _
  refine ⟨ys.map (keyOf H), ?_, ?_, fun p => hp.mem_iff, hp.length_eq⟩
  · have hy : ∀ x ∈ ys, ∃ t, x = V.ref t ∧ H t = some (.tup [.int (keyOf H x).1, .int (keyOf H x).2]) := fun x hx => k1 x (s2.perm.mem_iff.mp hx)
    clear s1 s2 hp
    induction ys with
    | nil => rfl
    | cons y ys ih =>
      obtain ⟨t, rfl, ht⟩ := hy y (by simp)
      exact ⟨_, _, rfl, dPair_of ht, ih fun x hx => hy x (List.mem_cons_of_mem _ hx)⟩
  · have hm : (ys.map (keyOf H)).Nodup := hp.nodup_iff.mpr hn
    have hs : (ys.map (keyOf H)).Pairwise fun x y => SrtO.lexB y x = false := List.pairwise_map.mpr s1
    refine asc_pw ((hs.and hm).imp fun {a b} h => ltPr_iff.mpr ?_)
    have h1 := SrtO.lexB_no.mp h.1
    have h2 : ¬ (a.1 = b.1 ∧ a.2 = b.2) := fun e => h.2 (Prod.ext e.1 e.2)
    omega
/-! ### orders -/
abbrev iota (n : Int) : List Int := (List.range n.toNat).map fun i : Nat => (i : Int)
abbrev IsOrd (n : Int) (o : List Int) : Prop := o.Perm (iota n)
theorem mem_iota {n x : Int} : x ∈ iota n ↔ 0 ≤ x ∧ x < n := by
  constructor
  · intro h
    obtain ⟨i, hi, rfl⟩ := List.mem_map.mp h
    have := List.mem_range.mp hi
    omega
  · rintro ⟨h1, h2⟩
    exact List.mem_map.mpr ⟨x.toNat, List.mem_range.mpr (by omega), by omega⟩
theorem asc_iota_aux : ∀ n : Nat, ((List.range n).map fun i : Nat => (i : Int)).Pairwise fun x y => ltIn x y = true := fun n =>
  List.pairwise_map.mpr (List.pairwise_lt_range.imp fun {a b} h => decide_eq_true (by omega))
theorem asc_iota (n : Int) : ascB ltIn (iota n) = true := asc_pw (asc_iota_aux _)
theorem nodup_iota (n : Int) : (iota n).Nodup := nodup_ascI (asc_iota n)
theorem IsOrd.mem {n : Int} {o : List Int} (h : IsOrd n o) {x : Int} : x ∈ o ↔ 0 ≤ x ∧ x < n := h.mem_iff.trans mem_iota
theorem IsOrd.len {n : Int} {o : List Int} (h : IsOrd n o) : o.length = n.toNat := by
  rw [h.length_eq, List.length_map, List.length_range]
theorem IsOrd.nd {n : Int} {o : List Int} (h : IsOrd n o) : o.Nodup := h.nodup_iff.mpr (nodup_iota n)
/-- the place of a quantity in an order -/
def pl (o : List Int) (q : Int) : Int := (o.idxOf q : Int)
theorem pl_at {o : List Int} (h : o.Nodup) {i : Nat} {q : Int} (e : o[i]? = some q) : pl o q = (i : Int) := by
  obtain ⟨hi, rfl⟩ := List.getElem?_eq_some_iff.mp e
  unfold pl
  rw [h.idxOf_getElem i hi]
theorem pl_get {n : Int} {o : List Int} (h : IsOrd n o) {q : Int} (hq : 0 ≤ q ∧ q < n) : ∃ j : Nat, o[j]? = some q ∧ pl o q = (j : Int) ∧ (j : Int) < n := by
  have hm := h.mem.mpr hq
  have hl := List.idxOf_lt_length_iff.mpr hm
  refine ⟨o.idxOf q, ?_, rfl, ?_⟩
  · rw [List.getElem?_eq_getElem hl, List.getElem_idxOf]
  · have := h.len
    omega
theorem pl_lt {n : Int} {o : List Int} (h : IsOrd n o) {q : Int} (hq : 0 ≤ q ∧ q < n) : 0 ≤ pl o q ∧ pl o q < n := by
  obtain ⟨j, _, e, l⟩ := pl_get h hq
  omega
theorem pl_inj {n : Int} {o : List Int} (h : IsOrd n o) {a b : Int} (ha : 0 ≤ a ∧ a < n) (hb : 0 ≤ b ∧ b < n) (e : pl o a = pl o b) : a = b := by
  obtain ⟨j, g1, e1, _⟩ := pl_get h ha
  obtain ⟨k, g2, e2, _⟩ := pl_get h hb
  have : j = k := by omega
  subst this
  rw [g1] at g2
  exact Option.some.inj g2
theorem iota_at {n : Int} {i : Nat} (h : (i : Int) < n) : (iota n)[i]? = some (i : Int) := by
  rw [List.getElem?_map, List.getElem?_range (by omega)]
  rfl
theorem list_ext_at {α : Type} {a b : List α} (hl : a.length = b.length) (h : ∀ (i : Nat) (x : α), b[i]? = some x → a[i]? = some x) : a = b := by
  refine List.ext_getElem? fun i => ?_
  cases e : b[i]? with
  | some x => exact h i x e
  | none =>
    have := List.getElem?_eq_none_iff.mp e
    exact List.getElem?_eq_none_iff.mpr (by omega)
theorem IsOrd.back {n : Int} {o : List Int} (h : IsOrd n o) : IsOrd n ((iota n).map (pl o)) := by
  have e : o.map (pl o) = iota n := by
    refine list_ext_at (by rw [List.length_map, h.len, List.length_map, List.length_range]) fun i x hx => ?_
    have hi : (i : Int) < n := by
      obtain ⟨hi, _⟩ := List.getElem?_eq_some_iff.mp hx
      rw [List.length_map, List.length_range] at hi
      omega
    rw [iota_at hi] at hx
    obtain rfl := (Option.some.inj hx)
    have hl : i < o.length := by rw [h.len]; omega
    have := List.getElem?_eq_getElem hl
    rw [List.getElem?_map, this, Option.map_some, pl_at h.nd this]
  have p := h.map (pl o)
  rw [e] at p
  exact p.symm
theorem pl_back {n : Int} {o : List Int} (h : IsOrd n o) {q : Int} (hq : 0 ≤ q ∧ q < n) : pl ((iota n).map (pl o)) (pl o q) = q := by
  have e : ((iota n).map (pl o))[q.toNat]? = some (pl o q) := by
    rw [List.getElem?_map, iota_at (by omega), Option.map_some, Int.toNat_of_nonneg hq.1]
  rw [pl_at h.back.nd e, Int.toNat_of_nonneg hq.1]
theorem IsOrd.both {n : Int} {o s : List Int} (h : IsOrd n o) (g : IsOrd n s) : IsOrd n (s.map fun x => o.getD x.toNat 0) := by
  have e : (iota n).map (fun x => o.getD x.toNat 0) = o := by
    refine list_ext_at (by rw [List.length_map, h.len, List.length_map, List.length_range]) fun i x hx => ?_
    have hi : (i : Int) < n := by
      obtain ⟨hi, _⟩ := List.getElem?_eq_some_iff.mp hx
      rw [h.len] at hi
      omega
    rw [List.getElem?_map, iota_at hi, Option.map_some, Int.toNat_natCast, List.getD_eq_getElem?_getD, hx]
    rfl
  have p := g.map fun x => o.getD x.toNat 0
  rw [e] at p
  exact p.trans h
theorem pl_both {n : Int} {o s : List Int} (h : IsOrd n o) (g : IsOrd n s) {q : Int} (hq : 0 ≤ q ∧ q < n) : pl (s.map fun x => o.getD x.toNat 0) q = pl s (pl o q) := by
  obtain ⟨j, g1, e1, l1⟩ := pl_get h hq
  obtain ⟨k, g2, e2, l2⟩ := pl_get g (q := pl o q) (by omega)
  rw [e2]
  refine pl_at (h.both g).nd ?_
  rw [List.getElem?_map, g2, Option.map_some, e1, Int.toNat_natCast, List.getD_eq_getElem?_getD, g1]
  rfl
/-! ### webs renumbered -/
abbrev RowRen (f : Int → Int) (r s : List Int) : Prop := ∀ t, t ∈ s ↔ ∃ q ∈ r, t = f q
structure Ren (f : Int → Int) (u w : Wb) : Prop where
  n : w.n = u.n
  ps : ∀ p, p ∈ w.ps ↔ ∃ q ∈ u.ps, p = (f q.1, f q.2)
  len : w.ns.length = u.ns.length
  ns : ∀ (k : Nat) (r s : List Int), u.ns[k]? = some r → w.ns[k]? = some s → RowRen f r s
theorem Ren.uniq {f : Int → Int} {u w v : Wb} (h : Ren f u w) (g : Ren f u v) (hw : w.Ok) (hv : v.Ok) : w = v := by
  have e1 : w.n = v.n := h.n.trans g.n.symm
  have e2 : w.ps = v.ps := asc_ext hw.asc hv.asc fun x => (h.ps x).trans (g.ps x).symm
  have e3 : w.ns = v.ns := by
    refine list_ext_at (h.len.trans g.len.symm) fun i x hx => ?_
    have hi : i < u.ns.length := by
      obtain ⟨hi, _⟩ := List.getElem?_eq_some_iff.mp hx
      have := g.len
      omega
    have hy := List.getElem?_eq_getElem (l := w.ns) (i := i) (by have := h.len; omega)
    have hr := List.getElem?_eq_getElem hi
    rw [hy]
    refine congrArg some (ascI_ext (hw.ns _ (List.mem_of_getElem? hy)).2.2 (hv.ns _ (List.mem_of_getElem? hx)).2.2 fun t => ?_)
    exact (h.ns i _ _ hr hy t).trans (g.ns i _ _ hr hx t).symm
  obtain ⟨a, b, c⟩ := w
  obtain ⟨d, e, f⟩ := v
  simp only at e1 e2 e3
  rw [e1, e2, e3]
theorem Ren.comp {f g h : Int → Int} {u v w : Wb} (a : Ren f u v) (b : Ren g v w) (hu : u.Ok) (e : ∀ q, 0 ≤ q ∧ q < u.n → h q = g (f q)) : Ren h u w := by
  refine ⟨b.n.trans a.n, fun p => ?_, b.len.trans a.len, fun k r s hr hs t => ?_⟩
  · rw [b.ps]
    constructor
    · rintro ⟨q, hq, rfl⟩
      obtain ⟨z, hz, rfl⟩ := (a.ps q).mp hq
      have := hu.ps z hz
      exact ⟨z, hz, by rw [e _ this.1, e _ this.2]⟩
    · rintro ⟨z, hz, rfl⟩
      have := hu.ps z hz
      exact ⟨(f z.1, f z.2), (a.ps _).mpr ⟨z, hz, rfl⟩, by rw [e _ this.1, e _ this.2]⟩
  · have hk : k < v.ns.length := by
      obtain ⟨hi, _⟩ := List.getElem?_eq_some_iff.mp hs
      have := b.len
      omega
    have hm := List.getElem?_eq_getElem hk
    rw [b.ns k _ s hm hs]
    constructor
    · rintro ⟨q, hq, rfl⟩
      obtain ⟨z, hz, rfl⟩ := (a.ns k r _ hr hm q).mp hq
      exact ⟨z, hz, by rw [e _ ((hu.ns r (List.mem_of_getElem? hr)).2.1 z hz)]⟩
    · rintro ⟨z, hz, rfl⟩
      exact ⟨f z, (a.ns k r _ hr hm _).mpr ⟨z, hz, rfl⟩, by rw [e _ ((hu.ns r (List.mem_of_getElem? hr)).2.1 z hz)]⟩
theorem Ren.refl {h : Int → Int} {u : Wb} (hu : u.Ok) (e : ∀ q, 0 ≤ q ∧ q < u.n → h q = q) : Ren h u u := by
  refine ⟨rfl, fun p => ?_, rfl, fun k r s hr hs t => ?_⟩
  · constructor
    · intro hp
      have := hu.ps p hp
      exact ⟨p, hp, by rw [e _ this.1, e _ this.2]⟩
    · rintro ⟨z, hz, rfl⟩
      have := hu.ps z hz
      rw [e _ this.1, e _ this.2]
      exact hz
  · rw [hr] at hs
    cases hs
    have b := (hu.ns r (List.mem_of_getElem? hr)).2.1
    constructor
    · intro ht
      exact ⟨t, ht, by rw [e _ (b t ht)]⟩
    · rintro ⟨z, hz, rfl⟩
      rw [e _ (b z hz)]
      exact hz
theorem Ren.ok {n : Int} {o : List Int} {u w : Wb} (h : Ren (pl o) u w) (hu : u.Ok) (ho : IsOrd u.n o) (ha : ascB ltPr w.ps = true) (hr : ∀ r ∈ w.ns, ascB ltIn r = true) : w.Ok := by
  refine ⟨by rw [h.n]; exact hu.lo, by rw [h.n]; exact hu.hi, fun p hp => ?_, ha, by rw [h.len]; exact hu.few, fun r hr' => ?_⟩
  · obtain ⟨q, hq, rfl⟩ := (h.ps p).mp hp
    have := hu.ps q hq
    rw [h.n]
    exact ⟨pl_lt ho this.1, pl_lt ho this.2⟩
  · obtain ⟨k, hk⟩ := List.mem_iff_getElem?.mp hr'
    have hk2 : k < u.ns.length := by
      obtain ⟨hi, _⟩ := List.getElem?_eq_some_iff.mp hk
      have := h.len
      omega
    have hm := List.getElem?_eq_getElem hk2
    have hR := h.ns k _ r hm hk
    obtain ⟨z1, z2, z3⟩ := hu.ns _ (List.mem_of_getElem? hm)
    refine ⟨?_, fun t ht => ?_, hr r hr'⟩
    · intro e
      subst e
      cases hc : u.ns[k] with
      | nil => exact z1 hc
      | cons x l =>
        have := (hR (pl o x)).mpr ⟨x, by rw [hc]; simp, rfl⟩
        cases this
    · obtain ⟨q, hq, rfl⟩ := (hR t).mp ht
      rw [h.n]
      exact pl_lt ho (z2 q hq)
structure Trn (u w : Wb) : Prop where
  n : w.n = u.n
  ps : ∀ p, p ∈ w.ps ↔ (p.2, p.1) ∈ u.ps
  ns : w.ns = u.ns
theorem Trn.uniq {u w v : Wb} (h : Trn u w) (g : Trn u v) (hw : ascB ltPr w.ps = true) (hv : ascB ltPr v.ps = true) : w = v := by
  have e1 : w.n = v.n := h.n.trans g.n.symm
  have e2 : w.ps = v.ps := asc_ext hw hv fun x => (h.ps x).trans (g.ps x).symm
  have e3 : w.ns = v.ns := h.ns.trans g.ns.symm
  obtain ⟨a, b, c⟩ := w
  obtain ⟨d, e, f⟩ := v
  simp only at e1 e2 e3
  rw [e1, e2, e3]
theorem Trn.back {u w v : Wb} (h : Trn u w) (g : Trn w v) (hu : ascB ltPr u.ps = true) (hv : ascB ltPr v.ps = true) : v = u := by
  have e1 : v.n = u.n := g.n.trans h.n
  have e2 : v.ps = u.ps := asc_ext hv hu fun x => (g.ps x).trans (h.ps _)
  have e3 : v.ns = u.ns := g.ns.trans h.ns
  obtain ⟨a, b, c⟩ := v
  obtain ⟨d, e, f⟩ := u
  simp only at e1 e2 e3
  rw [e1, e2, e3]
theorem Trn.ok {u w : Wb} (h : Trn u w) (hu : u.Ok) (ha : ascB ltPr w.ps = true) : w.Ok := by
  refine ⟨by rw [h.n]; exact hu.lo, by rw [h.n]; exact hu.hi, fun p hp => ?_, ha, by rw [h.ns]; exact hu.few, ?_⟩
  · have := hu.ps _ ((h.ps p).mp hp)
    rw [h.n]
    exact ⟨this.2, this.1⟩
  · rw [h.ns, h.n]
    exact hu.ns
/-! ### whole webs shown -/
theorem sm_rows : ∀ {rs : List (List Int)}, (∀ r ∈ rs, (∀ t ∈ r, Sm t) ∧ r.length ≤ 20) → PyData.leavesShortAll 8 (rs.map dInts) = true ∧ PyData.showableAll (rs.map dInts) = true ∧ PyData.weightAll (rs.map dInts) ≤ 200 * rs.length
  | [], _ => by simp [PyData.leavesShortAll, PyData.showableAll, PyData.weightAll]
  | a :: r, h => by
    obtain ⟨h1, h2, h3⟩ := sm_rows (rs := r) fun t ht => h t (List.mem_cons_of_mem _ ht)
    obtain ⟨s1, s2⟩ := h a (by simp)
    obtain ⟨g1, g2, g3⟩ := sm_ints s1
    refine ⟨?_, ?_, ?_⟩
    · simp only [List.map_cons, dInts, PyData.leavesShortAll, PyData.leavesShort, g1, Bool.true_and]
      exact h1
    · simp only [List.map_cons, dInts, PyData.showableAll, PyData.showable, g2, Bool.true_and]
      exact h2
    · have e : PyData.weight (dInts a) = PyData.weightAll (a.map PyData.int) := by
        simp only [dInts, PyData.weight]
      simp only [List.map_cons, PyData.weightAll, List.length_cons]
      omega
theorem show_web {u : Wb} (hu : u.Ok) : u.d.showable = true ∧ u.d.shown.length ≤ sizeLine ∧ u.d.depth ≤ 60 := by
  have b1 := hu.lo
  have b2 := hu.hi
  have b3 := hu.few
  have b4 := hu.len
  obtain ⟨p1, p2, p3⟩ := sm_pairs (r := u.ps) fun t ht => by
    have := hu.ps t ht
    exact ⟨⟨this.1.1, by omega⟩, ⟨this.2.1, by omega⟩⟩
  obtain ⟨r1, r2, r3⟩ := sm_rows (rs := u.ns) fun r hr => ⟨fun t ht => by
    have := (hu.ns r hr).2.1 t ht
    exact ⟨this.1, by omega⟩, hu.row hr⟩
  obtain ⟨g1, g2, g3⟩ := short_int (i := u.n) (by omega) (by omega)
  refine ⟨?_, ?_, ?_⟩
  · simp only [Wb.d, dPairs, dRows, PyData.showable, PyData.showableAll, p2, r2, Bool.and_true, decide_eq_true_eq]
    exact g2
  · refine PyData.shown_fits (B := 8) (by omega) (by omega) ?_ ?_
    · simp only [Wb.d, dPairs, dRows, PyData.leavesShort, PyData.leavesShortAll, p1, r1, Bool.and_true, decide_eq_true_eq]
      exact g1
    · have e : u.d.weight = PyData.weight (.int u.n) + 1 + (PyData.weightAll (u.ps.map dPair) + 1 + (PyData.weightAll (u.ns.map dInts) + 1 + 0)) := by
        simp only [Wb.d, dPairs, dRows, PyData.weight, PyData.weightAll]
      omega
  · have := dep_web u
    omega
/-! ### new webs -/
/-- new rows -/
structure NewR (H H' : Hp) (ns : List (List Int)) (L : Addr) (bs : List Addr) : Prop where
  ex : Ex H H'
  new : H L = none
  at_ : H' L = some (.lst (bs.map V.ref))
  len : bs.length = ns.length
  row : ∀ (k : Nat) (b : Addr), bs[k]? = some b → (H b = none ∧ b ≠ L) ∧ ∃ r, ns[k]? = some r ∧ H' b = some (.lst (r.map V.int))
  nd : bs.Nodup
theorem rows_of {K : PySem.W.Frag} {H' : Hp} : ∀ {ns : List (List Int)} {bs : List Addr}, bs.length = ns.length → (∀ (k : Nat) (b : Addr), bs[k]? = some b → ∃ r, ns[k]? = some r ∧ H' b = some (.lst (r.map V.int)) ∧ r.length ≤ 100000) →
    DaAll K H' (ns.map dInts) (bs.map V.ref)
  | [], [], _, _ => rfl
  | [], _ :: _, h, _ => by simp at h
  | _ :: _, [], h, _ => by simp at h
  | r :: ns, b :: bs, h, g => by
    obtain ⟨r', e, h1, h2⟩ := g 0 b rfl
    obtain rfl : r = r' := by simpa using e
    exact ⟨_, _, rfl, dInts_of h1 h2, rows_of (by simpa using h) fun k b' hb => g (k + 1) b' (by simpa using hb)⟩
/-- a new web -/
structure NewW (K : PySem.W.Frag) (H H' : Hp) (w : Wb) (T L1 L2 : Addr) (xs : List V) (bs : List Addr) : Prop where
  ex : Ex H H'
  tup : H' T = some (.tup [.int w.n, .ref L1, .ref L2])
  new : H L1 = none
  at_ : H' L1 = some (.lst xs)
  ps : DaAll K H' (w.ps.map dPair) xs
  new2 : H L2 = none
  at2 : H' L2 = some (.lst (bs.map V.ref))
  len : bs.length = w.ns.length
  row : ∀ (k : Nat) (b : Addr), bs[k]? = some b → (H b = none ∧ b ≠ L2 ∧ b ≠ L1) ∧ ∃ r, w.ns[k]? = some r ∧ H' b = some (.lst (r.map V.int))
  nd : bs.Nodup
  ne : L1 ≠ L2
theorem pairs_rm {K : PySem.W.Frag} {H : Hp} {D : Addr} {ys : List V} (hD : H D = some (.lst ys)) : ∀ {L : List (Int × Int)} {acc : List V}, DaAll K H (L.map dPair) acc → DaAll K (rm H D) (L.map dPair) acc
  | [], _, h => h
  | p :: L, acc, h => by
    obtain ⟨x, xs, rfl, ⟨a, zs, rfl, hS, z1, r1, rfl, e1, z2, r2, rfl, e2, rfl⟩, h2⟩ := h
    obtain rfl := e1
    obtain rfl := e2
    refine ⟨_, _, rfl, dPair_of ?_, pairs_rm hD h2⟩
    rw [rm_ne (fun e => by rw [e, hD] at hS; cases hS)]
    exact hS
theorem NewW.da {K : PySem.W.Frag} {H H' : Hp} {w : Wb} {T L1 L2 : Addr} {xs : List V} {bs : List Addr} (h : NewW K H H' w T L1 L2 xs bs) (hw : w.Ok) : Da K H' w.d (.ref T) := by
  have l1 := hw.len
  have l2 := hw.few
  refine ⟨T, _, rfl, h.tup, _, _, rfl, rfl, _, _, rfl, ⟨L1, xs, rfl, h.at_, h.ps, by rw [List.length_map]; omega⟩, _, _, rfl, ⟨L2, _, rfl, h.at2, ?_, by rw [List.length_map]; omega⟩, rfl⟩
  refine rows_of h.len fun k b hb => ?_
  obtain ⟨_, r, e, g⟩ := h.row k b hb
  have := hw.row (List.mem_of_getElem? e)
  exact ⟨r, e, g, by omega⟩
/-- a new web has nothing to do with an old list -/
theorem NewW.off {K : PySem.W.Frag} {H H' : Hp} {w : Wb} {T L1 L2 p : Addr} {xs zs : List V} {bs : List Addr} (h : NewW K H H' w T L1 L2 xs bs) (hw : w.Ok) (hp : H p = some (.lst zs)) : Da K (rm H' p) w.d (.ref T) := by
  have hp' := h.ex _ _ hp
  have l1 := hw.len
  have l2 := hw.few
  refine ⟨T, _, rfl, ?_, _, _, rfl, rfl, _, _, rfl, ⟨L1, xs, rfl, ?_, pairs_rm hp' h.ps, by rw [List.length_map]; omega⟩, _, _, rfl, ⟨L2, bs.map V.ref, rfl, ?_, ?_, by rw [List.length_map]; omega⟩, rfl⟩
  · rw [rm_ne (fun e => by have := h.tup; rw [e, hp'] at this; cases this)]
    exact h.tup
  · rw [rm_ne (fun e => by have := h.new; rw [e, hp] at this; cases this)]
    exact h.at_
  · rw [rm_ne (fun e => by have := h.new2; rw [e, hp] at this; cases this)]
    exact h.at2
  · refine rows_of h.len fun k b hb => ?_
    obtain ⟨n, r, e, g⟩ := h.row k b hb
    have := hw.row (List.mem_of_getElem? e)
    refine ⟨r, e, ?_, by omega⟩
    rw [rm_ne (fun e => by have := n.1; rw [e, hp] at this; cases this)]
    exact g
theorem NewR.nil {H : Hp} {D : Addr} (hD : H D = none) : NewR H (upd H D (.lst [])) [] D [] :=
  ⟨Ex.nw hD, hD, upd_same, rfl, fun k b hb => by simp at hb, List.nodup_nil⟩
theorem NewR.snoc {H H1 H2 : Hp} {D l : Addr} {ss : List (List Int)} {s : List Int} {bs : List Addr} (h : NewR H H1 ss D bs) (e : Ex H1 H2) (hl : H1 l = none) (h2 : H2 l = some (.lst (s.map V.int))) :
    NewR H (upd H2 D (.lst (bs.map V.ref ++ [.ref l]))) (ss ++ [s]) D (bs ++ [l]) := by
  have lD : l ≠ D := fun x => by
    have := h.at_
    rw [← x, hl] at this
    cases this
  refine ⟨(h.ex.tr e).wr h.new, h.new, ?_, ?_, ?_, ?_⟩
  · rw [upd_same, List.map_append]
    rfl
  · rw [List.length_append, List.length_append, h.len]
    rfl
  · intro k b hb
    by_cases hk : k < bs.length
    · rw [List.getElem?_append_left hk] at hb
      obtain ⟨n1, r', n2, n3⟩ := h.row k b hb
      refine ⟨n1, r', ?_, ?_⟩
      · rw [List.getElem?_append_left (by rw [← h.len]; exact hk)]
        exact n2
      · rw [upd_ne n1.2]
        exact e _ _ n3
    · have hk' : k = bs.length := by
        obtain ⟨z, _⟩ := List.getElem?_eq_some_iff.mp hb
        rw [List.length_append, List.length_singleton] at z
        omega
      subst hk'
      rw [List.getElem?_concat_length] at hb
      cases hb
      refine ⟨⟨h.ex.fr hl, lD⟩, s, ?_, by rw [upd_ne lD]; exact h2⟩
      rw [h.len, List.getElem?_concat_length]
  · refine nodup_snoc h.nd fun hm => ?_
    obtain ⟨k, hk⟩ := List.mem_iff_getElem?.mp hm
    obtain ⟨_, r', _, h3⟩ := h.row k l hk
    rw [h3] at hl
    cases hl
theorem putK_len (kvs : List (Key × V)) (k : Key) (v : V) : (putK kvs k v).length ≤ kvs.length + 1 := by
  unfold putK
  split
  · rw [List.length_map]
    omega
  · rw [List.length_append, List.length_singleton]
    omega
/-- a dict of the places, as far as it is made -/
def PlTo (o : List Int) (i : Nat) (kvs : List (Key × V)) : Prop := kvs.length ≤ i ∧ ∀ (j : Nat) (q : Int), j < i → o[j]? = some q → valV kvs (.inl q) = some (.int (j : Int))
theorem PlTo.step {o : List Int} (hn : o.Nodup) {i : Nat} {kvs : List (Key × V)} (h : PlTo o i kvs) {q : Int} (hq : o[i]? = some q) : PlTo o (i + 1) (putK kvs (.inl q) (.int (i : Int))) := by
  refine ⟨Nat.le_trans (putK_len _ _ _) (by have := h.1; omega), fun j z hj hz => ?_⟩
  rw [valV_put]
  by_cases e : j = i
  · subst e
    rw [hq] at hz
    cases hz
    rw [if_pos rfl]
  · have ne : z ≠ q := nodup_at hn hz hq e
    rw [if_neg (fun x => ne (Sum.inl.inj x))]
    exact h.2 j z (by omega) hz
theorem PlTo.get {n : Int} {o : List Int} (ho : IsOrd n o) {kvs : List (Key × V)} (h : PlTo o o.length kvs) {q : Int} (hq : 0 ≤ q ∧ q < n) : valV kvs (.inl q) = some (.int (pl o q)) := by
  obtain ⟨j, g, e, l⟩ := pl_get ho hq
  rw [e]
  refine h.2 j q ?_ g
  obtain ⟨z, _⟩ := List.getElem?_eq_some_iff.mp g
  exact z
/-- the pairs of a web by the places -/
theorem ren_nodup {o : List Int} {u : Wb} (hu : u.Ok) (ho : IsOrd u.n o) : (u.ps.map fun q => (pl o q.1, pl o q.2)).Nodup := by
  refine (List.pairwise_map).mpr ?_
  have h := nodup_asc hu.asc
  have h2 : u.ps.Pairwise fun a b => a ∈ u.ps ∧ b ∈ u.ps ∧ a ≠ b := by
    refine List.Pairwise.imp_of_mem (fun {a b} ha hb n => ⟨ha, hb, n⟩) h
  refine h2.imp fun {a b} n e => n.2.2 ?_
  have ha := hu.ps a n.1
  have hb := hu.ps b n.2.1
  simp only [Prod.mk.injEq] at e
  exact Prod.ext (pl_inj ho ha.1 hb.1 e.1) (pl_inj ho ha.2 hb.2 e.2)
theorem row_nodup {n : Int} {o : List Int} {r : List Int} (hr : ∀ t ∈ r, 0 ≤ t ∧ t < n) (ha : ascB ltIn r = true) (ho : IsOrd n o) : (r.map (pl o)).Nodup := by
  refine (List.pairwise_map).mpr ?_
  have h2 : r.Pairwise fun a b => a ∈ r ∧ b ∈ r ∧ a ≠ b := List.Pairwise.imp_of_mem (fun {a b} ha hb n => ⟨ha, hb, n⟩) (nodup_ascI ha)
  exact h2.imp fun {a b} n e => n.2.2 (pl_inj ho (hr a n.1) (hr b n.2.1) e)
theorem row_ren {n : Int} {o : List Int} {r s : List Int} (hr : ∀ t ∈ r, 0 ≤ t ∧ t < n) (ha : ascB ltIn r = true) (ho : IsOrd n o) (hp : s.Perm (r.map (pl o))) (hw : s.Pairwise (· ≤ ·)) : ascB ltIn s = true ∧ RowRen (pl o) r s ∧ s.length = r.length := by
  refine ⟨asc_sortedI hp hw (row_nodup hr ha ho), fun t => hp.mem_iff.trans ?_, by rw [hp.length_eq, List.length_map]⟩
  rw [List.mem_map]
  constructor
  · rintro ⟨q, hq, rfl⟩
    exact ⟨q, hq, rfl⟩
  · rintro ⟨q, hq, rfl⟩
    exact ⟨q, hq, rfl⟩
theorem ren_of {o : List Int} {u : Wb} {M : List (Int × Int)} {ss : List (List Int)} (hM : ∀ p, p ∈ M ↔ p ∈ u.ps.map fun q => (pl o q.1, pl o q.2)) (hl : ss.length = u.ns.length)
    (hs : ∀ (k : Nat) (s : List Int), ss[k]? = some s → ∃ r, u.ns[k]? = some r ∧ RowRen (pl o) r s) : Ren (pl o) u ⟨u.n, M, ss⟩ := by
  refine ⟨rfl, fun p => ?_, hl, fun k r s hr hs' => ?_⟩
  · show p ∈ M ↔ _
    rw [hM, List.mem_map]
    constructor
    · rintro ⟨q, hq, rfl⟩
      exact ⟨q, hq, rfl⟩
    · rintro ⟨q, hq, rfl⟩
      exact ⟨q, hq, rfl⟩
  · obtain ⟨r', e, g⟩ := hs k s hs'
    rw [hr] at e
    cases e
    exact g
theorem pop_perm {α : Type} : ∀ {l : List α} {k : Nat} {x : α}, l[k]? = some x → (x :: l.eraseIdx k).Perm l
  | [], _, _, h => by simp at h
  | a :: l, 0, x, h => by
    obtain rfl : a = x := by simpa using h
    exact List.Perm.refl _
  | a :: l, k + 1, x, h => by
    have ih := pop_perm (l := l) (k := k) (x := x) (by simpa using h)
    rw [List.eraseIdx_cons_succ]
    exact (List.Perm.swap a x _).trans (ih.cons a)
theorem map_pop {α β : Type} (f : α → β) : ∀ (l : List α) (k : Nat), (l.map f).eraseIdx k = (l.eraseIdx k).map f
  | [], _ => rfl
  | a :: l, 0 => rfl
  | a :: l, k + 1 => by
    rw [List.map_cons, List.eraseIdx_cons_succ, List.eraseIdx_cons_succ, List.map_cons, map_pop f l k]
end Nw
/-! TooLarge, made, raised, caught, and its limit read. -/
namespace PySem
namespace BigX
open PySem.W PySem.Calls PyProof.Rows PySem.HandSPX
/-! ### the text of __init__ -/
def iA (p1 p2 : Pos) : Arguments := { posonlyargs := [], args := [{ arg := "self", annotation := none, pos := p1 }, { arg := "limit", annotation := none, pos := p2 }], vararg := none, kwonlyargs := [], kw_defaults := [], kwarg := none, defaults := [] }
def iB (q1 q2 q3 q4 : Pos) : List Stmt := [.Assign [.Attribute (.Name "self" q1) "limit" q2] (.Name "limit" q3) q4]
def iS : Scope := { kind := .function, names := [(PySem.Str.ofString "self", .local), (PySem.Str.ofString "limit", .local)], isGenerator := false, isCoroutine := false, more := [] }
/-- what the written part says of TooLarge, at C, and of its __init__, at fI -/
structure BigTxt (K : Frag) (mg : Str → Option Value) (C fI : Addr) : Prop where
  gC : mg "TooLarge" = some (.ref C)
  cls : ∃ nm q N bs bm sn sub ab col dd k0 k1 k2 k3 k5, K.lookup C = some (excClassObj nm q C N bs bm true sn sub ab col dd k0 k1 k2 k3 k5 "ValueError.__new__") ∧ refsVE bm = true
  sa : findIn K (.ref C) "__setattr__" = some (some (.builtin "object.__setattr__"))
  ga : findIn K (.ref C) "__getattribute__" = some (some (.builtin "BaseException.__getattribute__"))
  gg : findIn K (.ref C) "__getattr__" = some none
  noN : findIn K (.ref C) "limit" = some none
  iC : findIn K (.ref C) "__init__" = some (some (.ref fI))
  tC : typeIn K (.ref fI) = some (.type "function")
  kC : keepIn K (.ref C) = true
  exC : subIn K (.ref C) (.type "BaseException") = some true
  tyC : typeIn K (.ref C) = some (.type "type")
  hdC : hasDictIn K C = true
  te : exmOne K (.ref C) (.ref C) = some true
  fn : ∃ (oc : Value) (od : Option Addr) (doc pm : Value) (an : Option Addr) (cdv ct : Value) (osl : Array (Option Value)) (p1 p2 q1 q2 q3 q4 : Pos),
    K.lookup fI = some ⟨oc, od, .func (fnOf "__init__" "TooLarge.__init__" (iA p1 p2) (iB q1 q2 q3 q4) iS .none .none doc pm an cdv ct), osl⟩ ∧ codeIn K cdv "TooLarge.__init__" = true
theorem one_size (v : Value) : [v].length ≤ sizeLine := by
  rw [sizeLine_eq]
  exact (by decide : 1 ≤ 16777216)
theorem kept_but {K : Frag} {h h' : Heap} {x : Addr} (X : K.In h) (hx : K.lookup x = none) (k : ∀ b o, b ≠ x → h.get? b = some o → h'.get? b = some o) : K.In h' := fun a o e =>
  k a o (fun z => by rw [z, hx] at e; cases e) (X a o e)
theorem ldC {M : Model} {s : Shared} {name : Str} {scope : Scope} {L a : Addr} {cd : Value} {m : Str → Option Value} {x : Str} {pos : Pos} {v : Value} {Q : Value → Shared → Prop} {A : Around} {E : Value → Shared → Prop} (hn : s.heap.Ns L m) (hv : m x = some v) (h : Q v s)
    (hk : scope.kind = .function := by rfl) (hl : (envOfC name scope L a cd).kindOf x = some .local := by rfl) (hd : (x == ("__debug__" : Str)) = false := by decide) :
    wpAny M A (eval (.Name x pos) (envOfC name scope L a cd)) Q E s := wpAny_Name (wpAny_loadName_local hk hl hn hv h) hd
/-- what __init__ leaves of a fresh exception at x -/
structure InitEnd (h h' : Heap) (x C dx t1 : Addr) (v : Value) : Prop where
  keep : ∀ b o, b ≠ x → h.get? b = some o → h'.get? b = some o
  obj : h'.get? x = some { cls := .ref C, dict := some dx, data := .fields #[.ref t1, .none, .none, .none, .bool false, .none] }
  dbig : h.objs.size ≤ dx
  dne : dx ≠ x
  ns : h'.Ns1 dx (fun y => if y = "limit" then some v else none)
/-- a made TooLarge -/
structure OwnMade (h h' : Heap) (e C d : Addr) (v : Value) : Prop where
  keep : ∀ b o, h.get? b = some o → h'.get? b = some o
  new : h.objs.size ≤ e
  obj : ∃ oe vs, h'.get? e = some oe ∧ oe.cls = .ref C ∧ oe.dict = some d ∧ oe.data = .fields vs ∧ vs[1]? = some .none
  dbig : h.objs.size ≤ d
  dne : d ≠ e
  ns : h'.Ns1 d (fun y => if y = "limit" then some v else none)
section
variable {prog : Program} {w : World} {A : Around} {E : Value → Shared → Prop} {R : Result → Shared → Prop} {s : Shared} {K : Frag} {mg : Str → Option Value} {C fI : Addr}
theorem big_init (T : BigTxt K mg C fI) {x t0 : Addr} {v : Value} (X : K.In s.heap) (hlim : s.heap.NoLimit) (hx : s.heap.get? x = some (excO C t0)) (hnx : K.lookup x = none) (hroom : A.depth < recursionLimit)
    (hq : ∀ h' tk dx, InitEnd s.heap h' x C dx t0 v → R (.ok (.ret .none)) { s with heap := h', toks := tk }) :
    codeAny (model prog w) A (.call (.ref fI) ⟨[.ref x, v], []⟩) R s := by
  obtain ⟨oc, od, doc, pm, an, cdv, ct, osl, p1, p2, q1, q2, q3, q4, ho, hcd⟩ := T.fn
  obtain ⟨nm, q, N, bs, bm, sn, sub, ab, col, dd, k0, k1, k2, k3, k5, hC, hbm⟩ := T.cls
  have hcl : clsIn K C = some { name := nm, bases := bs, mro := .ref C :: bm, ns := N, qualname := q, hasDict := true, slotNames := sn, subclasses := sub, abstract := ab, collection := col, hasDel := false } := by unfold clsIn; rw [hC] <;> rfl
  refine Att.call_fn (binds := [("self", .ref x), ("limit", v)]) X hlim ho hcd hroom (BindsTo.of_eq (by first | rfl | with_unfolding_all rfl)) (by first | rfl | decide | with_unfolding_all rfl) (fun s₁ IC => ?_) rfl rfl rfl
  obtain ⟨h₁, tk₁, rfl⟩ := IC.toInCall.same
  have k : ∀ b o, s.heap.get? b = some o → h₁.get? b = some o := IC.toInCall.keep
  have hn := IC.toInCall.ns
  have hxL : s.heap.objs.size ≠ x := Nat.ne_of_gt (Heap.lt_size hx)
  have X₁ : K.In h₁ := X.keeps k
  have hx₁ := k _ _ hx
  -- self.by = by
  show wpAny _ _ (execs _ _) _ _ _
  refine wpAny_execs_cons (plainObj_wpAny_Assign_Attribute ?_)
  refine ldC (v := v) hn (by first | rfl | with_unfolding_all rfl | kernel_rfl) (ldC (v := .ref x) hn (by first | rfl | with_unfolding_all rfl | kernel_rfl) ?_)
  refine set_plain X₁ (ox := excO C t0) (od := none) ⟨hx₁, rfl, rfl, trivial⟩ T.sa ?_
  refine exc_osa X₁ hx₁ hcl (show refsVE (.ref C :: bm) = true from hbm) rfl T.noN (fun h₃ tk₃ dx k₃ dn dne hx₃ hn₃ => ?_)
  show wpAny _ _ (execs _ _) _ _ _
  have z : s.heap.objs.size < h₁.objs.size := hn.lt
  exact wpAny_execs_nil (hq h₃ tk₃ dx ⟨fun b o hb e => k₃ b o hb (k b o e), hx₃, Nat.le_of_lt (Nat.lt_of_lt_of_le z dn), dne, hn₃⟩)
theorem big_made (T : BigTxt K mg C fI) {v : Value} (X : K.In s.heap) (hlim : s.heap.NoLimit) (hroom : A.depth + 1 < recursionLimit)
    (hq : ∀ h' tk e d, OwnMade s.heap h' e C d v → R (.ok (.ret (.ref e))) { s with heap := h', toks := tk }) :
    codeAny (model prog w) A (.call (.ref C) ⟨[v], []⟩) R s := by
  obtain ⟨nm, q, N, bs, bm, sn, sub, ab, col, dd, k0, k1, k2, k3, k5, hC, hbm⟩ := T.cls
  obtain ⟨hp, g, dr, tk, os⟩ := s
  have k : ∀ b o, hp.get? b = some o → ((hp.push (kdv_tup [v])).push (excO C hp.objs.size)).get? b = some o := fun b o e => Heap.get?_push_of_some _ (Heap.get?_push_of_some _ e)
  have hget : ((hp.push (kdv_tup [v])).push (excO C hp.objs.size)).get? (hp.objs.size + 1) = some (excO C hp.objs.size) := by heap_get
  have hnx : K.lookup (hp.objs.size + 1) = none := by
    cases e : K.lookup (hp.objs.size + 1) with
    | none => rfl
    | some o =>
      have z : hp.get? (hp.objs.size + 1) = some o := X _ _ e
      exact absurd (Nat.lt_of_succ_lt (Heap.lt_size z)) (Nat.lt_irrefl _)
  refine call_own F.excBase_ValueError (fun X => refsVE_contains X bm hbm) (X _ _ hC) (looks_findIn X T.iC) (fun self => bind_fn X self T.tC) (one_size v) ?_
  refine big_init (s := ⟨(hp.push (kdv_tup [v])).push (excO C hp.objs.size), g, dr, tk, os⟩) T (X.keeps k) (hlim.keeps k) hget hnx ?_ fun h' tk' dx ⟨k', hx, dn, dne, hns⟩ => ?_
  · show A.depth + 1 < recursionLimit
    exact hroom
  · have old : ∀ b o, hp.get? b = some o → h'.get? b = some o := fun b o e => k' b o (Nat.ne_of_lt (Nat.lt_succ_of_lt (Heap.lt_size e))) (k b o e)
    have z : hp.objs.size + 1 + 1 ≤ dx := by
      first
        | (simpa only [Heap.size_push] using dn)
        | exact dn
        | (have q := dn; rw [Heap.size_push, Heap.size_push] at q; exact q)
    exact ⟨rfl, hq h' tk' (hp.objs.size + 1) dx ⟨old, Nat.le_succ _, ⟨_, _, hx, rfl, rfl, rfl, rfl⟩, Nat.le_trans (Nat.le_trans (Nat.le_succ _) (Nat.le_succ _)) z, dne, hns⟩⟩
end
end BigX
end PySem
namespace L2
open PySem PySem.Spec PyProof.Rows
theorem relO_big {v : V} {v' : Value} (r : RelV v v') (f : Str) : RelO (List.lookup f [(("limit" : Str), v)]) (if f = "limit" then some v' else none) := by
  by_cases hw : f = "limit"
  · subst hw
    rw [if_pos rfl]
    have q : List.lookup ("limit" : Str) [(("limit" : Str), v)] = some v := by simp [List.lookup]
    rw [q]
    exact r
  · rw [if_neg hw]
    have qw : (f == ("limit" : Str)) = false := by simpa using hw
    have q2 : List.lookup f [(("limit" : Str), v)] = none := by simp [List.lookup, qw]
    rw [q2]
    trivial
section
variable {X : Cx} {C fI : Addr}
/-- TooLarge(e) -/
def tMkBig (C : Addr) (ta : TA) : St → Hp → XK → Prop := fun σ H Q => ta σ H fun vs H1 => ∃ v, vs = [v] ∧ ∀ d, H1 d = none → Q (.ref C) (some d) (upd H1 d (.xd [(("limit" : Str), v)]))
theorem pmk_big {a : Expr} {ta : TA} {p pos : Pos} {k : Nat} (T : PySem.BigX.BigTxt X.K X.mg C fI) (hr : Room k X.A) (ha : PA X [a] ta) (hg : Gl X "TooLarge" := by rfl)
    (he : starEach (a :: []) X.env = (false, eval a X.env) :: starEach [] X.env := by rfl) (hpl : (backTo pos (starEach [] X.env)).any (·.1) = false := by rfl) :
    PMk X (.Call (.Name "TooLarge" p) [a] [] pos) (tMkBig C ta) := by
  intro pins s σ H Q I h
  refine wpAny_Call_Name_kw (ld_glob I hg T.gC ?_)
  refine PySem.W.callWith_K (h₀ := X.base) I.ok.mod.kin T.kC (thn (ha.run pos pins s σ H _ I h) fun us s1 hh => ?_) he hpl
  obtain ⟨vs, H1, I1, r1, v, ev, q1⟩ := hh
  subst ev
  refine ⟨I1.kIn, ?_⟩
  cases r1 with
  | cons rv rn =>
    rename_i v' us'
    cases rn
    show wpAny _ _ (call (.ref C) [v']) _ _ _
    have hlim := I1.nolimit
    obtain ⟨hp, g, dr, tk, os⟩ := s1
    refine wpAny_call (PySem.BigX.big_made T I1.kIn hlim (by have := hr.dp; omega) fun h' tk' e d M => ?_)
    show MkP X pins σ Q (.ref e) ⟨h', g, dr, tk', os⟩
    obtain ⟨oe, fv, hoe, hc, hd, hdat, h1⟩ := M.obj
    have hns := M.ns
    obtain ⟨G', g1, g2⟩ := restrict h' fun b => decide (b ≠ e)
    have gk : ∀ b, b ≠ e → G'.get? b = h'.get? b := fun b hb => g1 b (decide_eq_true hb)
    have ge : G'.get? e = none := g2 e (by simp)
    have old : ∀ b o, hp.get? b = some o → G'.get? b = some o := fun b o q => (gk b (Nat.ne_of_lt (Nat.lt_of_lt_of_le (Heap.lt_size q) M.new))).trans (M.keep b o q)
    have ob : ObjOk X.prog X.w (upd H1 d (.xd [(("limit" : Str), v)])) G' d (.xd [(("limit" : Str), v)]) :=
      ⟨_, hns.at (fun o q => (gk d M.dne).trans q), fun f => relO_big rv f⟩
    have J : Inv X pins σ (upd H1 d (.xd [(("limit" : Str), v)])) ⟨G', g, dr, tk', os⟩ := I1.laid (t' := tk') old M.dbig ob
    refine ⟨e, oe, fv, ⟨G', g, dr, tk', os⟩, _, .ref C, some d, rfl, J, fun b o q => ?_, ge, hoe, ⟨hc, hd⟩, hdat, h1, ?_, rfl, I1.bare, raises_own T.exC T.tyC, q1 d (I1.hok.fresh M.dbig)⟩
    · by_cases hb : b = e
      · have q' : G'.get? b = some o := q
        rw [hb, ge] at q'; cases q'
      · exact (gk b hb).symm.trans q
    · rw [upd_ne (Ne.symm M.dne)]
      exact I1.hok.fresh M.new
/-- raise TooLarge(e) -/
def tRaiseBig (C : Addr) (W : WX) (ta : TA) : TS := fun _ σ H => tMkBig C ta σ H fun cls d H' => W cls d σ H'
theorem ps_raiseBig {a : Expr} {ta : TA} {W : WX} {p pos pos2 : Pos} {k : Nat} (hc : X.calm = true) (T : PySem.BigX.BigTxt X.K X.mg C fI) (hr : Room k X.A) (tk : Takes X W) (ha : PA X [a] ta) (hg : Gl X "TooLarge" := by rfl)
    (he : starEach (a :: []) X.env = (false, eval a X.env) :: starEach [] X.env := by rfl) (hpl : (backTo pos (starEach [] X.env)).any (·.1) = false := by rfl) :
    PS X (.Raise (some (.Call (.Name "TooLarge" p) [a] [] pos)) none pos2) (tRaiseBig C W ta) := ps_raise hc tk (pmk_big T hr ha hg he hpl)
/-- big.limit, low the exception that the suite holds (at a; its class cls, its dict d) -/
def tLimBig (C : Addr) (a : Addr) (cls : Value) (d : Option Addr) (te : TE) : TE := fun σ H Q => te σ H fun x H1 => x = .ref a ∧ cls = .ref C ∧ ∃ (dd : Addr) (v : V), d = some dd ∧ H1 dd = some (.xd [(("limit" : Str), v)]) ∧ Q v H1
theorem pe_limBig {a : Addr} {oe : Obj} {cls : Value} {d : Option Addr} {pn : List (Addr × Obj)} {e : Expr} {te : TE} {pos : Pos} (T : PySem.BigX.BigTxt X.K X.mg C fI) (hz : Zc cls d oe) (hf : ∃ vs, oe.data = .fields vs) (he : PE (X.suite a ((a, oe) :: pn)) e te)
    (hb : attributeBase e "limit" X.env (eval e X.env) = eval e X.env := by rfl) :
    PE (X.suite a ((a, oe) :: pn)) (.Attribute e "limit" pos) (tLimBig C a cls d te) := by
  refine ⟨fun pins s σ H Q I h => ?_⟩
  refine attr_of hb (thn (he.run pins s σ H _ I h) fun u s1 hh => ?_)
  obtain ⟨x, H1, I1, rx, ex, ec, dd, v, ed, ea, q⟩ := hh
  subst ex
  obtain rfl : u = Value.ref a := rx
  subst ec
  subst ed
  obtain ⟨ha, _⟩ := I1.pin (a, oe) (List.mem_append_left _ List.mem_cons_self)
  obtain ⟨vs, hd⟩ := hf
  have hx : ObjOk X.prog X.w H1 s1.heap dd (.xd [(("limit" : Str), v)]) := I1.hok dd _ ea
  obtain ⟨mA, hns, hr⟩ := hx
  obtain ⟨od, ho, hl⟩ := lookIn_ns hns
  have l : List.lookup ("limit" : Str) [(("limit" : Str), v)] = some v := by simp [List.lookup]
  obtain ⟨u, hu, ru⟩ := RelO.some_of (v := v) (o := mA "limit") (by rw [← l]; exact hr "limit")
  have J : PySem.W.InstAt s1.heap a oe C (some od) := ⟨ha, hz.1, by unfold PySem.W.notCls; rw [hd] <;> rfl, by rw [hz.2]; exact ho⟩
  exact HandSPX.exc_get I1.kIn J T.ga T.gg T.exC (PySem.W.findObj_own T.hdC T.noN rfl (by rw [hl, hu])) (handed_of ru) ⟨v, H1, I1.tok _, ru, q⟩
end
end L2
/-! Calls that may raise; webs joined. -/
namespace Nw
open PySem PySem.Spec PyProof.Rows L2
/-- the class that TooLarge names -/
abbrev BigC (K : PySem.W.Frag) (C : Addr) : Prop := PySem.W.nsIn K mainGlobals "TooLarge" = some (some (.ref C))
section
variable {X : Cx} {CX : CXT} {k : Nat} {ps : List Str} {sp : Sp} {E : L2.St → XK} {x : Str} {p pos : Pos} {e : Expr} {es : List Expr} {t : TA}
theorem run_fngS {f : Addr} {fd : FuncData} {pins : List (Addr × Obj)} {σ : L2.St} {H : Hp} {s : Shared} {Q : VK} {us : List Value} {vs : List V}
    (F : FnG X.prog X.w X.K X.mg X.base CX k f fd ps sp) (hr : Room k X.A) (hgd : Quiet X.A) (hb : Binds X.K fd ps [])
    (hx : PassesAt CX X σ (E σ)) (I : Inv X pins σ H s) (r : Vals vs us) (h : sp vs H Q (E σ)) :
    wpAny (model X.prog X.w) X.A (call (.ref f) us) (EP X pins σ Q) X.xe s := by
  have hl : (us ++ ([] : List Value)).length = ps.length := by
    rw [List.append_nil, ← r.length]
    exact F.len _ _ _ _ h
  have hb2 := hb s us I.kIn hl
  rw [List.append_nil] at hb2
  refine wpAny_call (codeAny_mono (F.run X.A X.stack s H ⟨us, []⟩ us vs Q (E σ) hr hgd I.env0 hb2 r h) ?_)
  intro r s' hq
  cases r with
  | error e => exact hx pins H s e s' I hq
  | ok fl =>
    cases fl with
    | ret u => exact I.after hq
    | next => exact (show False from hq).elim
    | brk => exact (show False from hq).elim
    | cont => exact (show False from hq).elim
/-- what never raises -/
theorem passN : Passes (L2.CX X.prog X.w) X (fun _ _ _ => False) := fun pins σ H s e s' I c => takes0 e s' (XE.of_call (W := fun _ _ _ _ => False) I (fun _ _ _ h => h) c)
/-- f(e, ..) in a try -/
theorem pe_callDS (D : DefOk X.prog X.w X.K X.mg X.base CX k x ps sp) (hr : Room k X.A) (hgd : Quiet X.A) (hx : ∀ σ, PassesAt CX X σ (E σ))
    (ha : PA X (e :: es) t) (hg : Gl X x := by rfl) (hdb : (x == ("__debug__" : Str)) = false := by decide)
    (he : starEach (e :: es) X.env = (false, eval e X.env) :: starEach es X.env := by rfl)
    (hpl : (backTo pos (starEach es X.env)).any (·.1) = false := by rfl) :
    PE X (.Call (.Name x p) (e :: es) [] pos) (tCallS sp E t) := by
  obtain ⟨f, fd, F, hm, hk, hb⟩ := D.ex
  refine ⟨fun pins s σ H Q I h => ?_⟩
  refine wpAny_Call_Name_kw (ld_glob I hg hm ?_ hdb)
  refine PySem.W.callWith_K (h₀ := X.base) I.ok.mod.kin hk (thn (ha.run pos pins s σ H _ I h) ?_) he hpl
  rintro us s1 ⟨vs, H1, I1, r, q⟩
  exact ⟨I1.kIn, run_fngS F hr hgd hb (hx σ) I1 r q⟩
end
/-- an error of the class at S is what «except S» names -/
theorem exm_of {K : PySem.W.Frag} {S : Addr} (h1 : PySem.W.subIn K (.ref S) (.type "BaseException") = some true) (h2 : PySem.W.isClsIn K S = true) (h3 : PySem.W.typeIn K (.ref S) = some (.type "type")) (h4 : PySem.W.subIn K (.ref S) (.ref S) = some true) :
    PySem.W.exmOne K (.ref S) (.ref S) = some true := by
  have e1 : (PySem.W.subIn K (.ref S) (.type "BaseException") == some true) = true := by rw [h1] <;> rfl
  have e2 : ((PySem.W.clsIn K S).isSome && PySem.W.typeIn K (.ref S) == some (.type "type")) = true := by
    have h2' : (PySem.W.clsIn K S).isSome = true := h2
    rw [h2', h3] <;> rfl
  show (if (PySem.W.subIn K (.ref S) (.type "BaseException") == some true) = true then (if ((PySem.W.clsIn K S).isSome && PySem.W.typeIn K (.ref S) == some (.type "type")) = true then PySem.W.subIn K (.ref S) (.ref S) else none) else none) = some true
  rw [if_pos e1, if_pos e2]
  exact h4
theorem rangeD_map {α β : Type} (g : α → β) (d : α) (r : List α) : (List.range r.length).map (fun j => g (r.getD j d)) = (r.map g) := by
  have h := filter_range d (fun _ => true) g r
  rw [filter_true, filter_true] at h
  exact h
/-! ### webs joined -/
structure LnOk (u v : Wb) (L : List (Int × Int)) : Prop where
  r : ∀ p ∈ L, (0 ≤ p.1 ∧ p.1 < u.n) ∧ (0 ≤ p.2 ∧ p.2 < v.n)
  asc : ascB ltPr L = true
  few : L.length ≤ 400
abbrev upRow (n : Int) (r : List Int) : List Int := r.map (· + n)
structure Jn (u v : Wb) (L : List (Int × Int)) (w : Wb) : Prop where
  n : w.n = u.n + v.n
  ps : ∀ p, p ∈ w.ps ↔ p ∈ u.ps ∨ (∃ q ∈ L, p = (q.1, q.2 + u.n)) ∨ ∃ q ∈ v.ps, p = (q.1 + u.n, q.2 + u.n)
  ns : w.ns = u.ns ++ v.ns.map (upRow u.n)
theorem Jn.uniq {u v w z : Wb} {L : List (Int × Int)} (h : Jn u v L w) (g : Jn u v L z) (hw : ascB ltPr w.ps = true) (hz : ascB ltPr z.ps = true) : w = z := by
  have e1 : w.n = z.n := h.n.trans g.n.symm
  have e2 : w.ps = z.ps := asc_ext hw hz fun x => (h.ps x).trans (g.ps x).symm
  have e3 : w.ns = z.ns := h.ns.trans g.ns.symm
  obtain ⟨a, b, c⟩ := w
  obtain ⟨d, e, f⟩ := z
  simp only at e1 e2 e3
  rw [e1, e2, e3]
theorem asc_up {n : Int} : ∀ {r : List Int}, ascB ltIn r = true → ascB ltIn (upRow n r) = true
  | [], _ => rfl
  | [_], _ => rfl
  | a :: b :: r, h => by
    simp only [ascB, Bool.and_eq_true, ltIn, decide_eq_true_eq] at h
    have ih := asc_up (n := n) (r := b :: r) h.2
    simp only [upRow, List.map_cons, ascB, Bool.and_eq_true, ltIn, decide_eq_true_eq] at ih ⊢
    exact ⟨by omega, ih⟩
theorem Jn.ok {u v w : Wb} {L : List (Int × Int)} (h : Jn u v L w) (hu : u.Ok) (hv : v.Ok) (hL : LnOk u v L) (h20 : u.n + v.n ≤ 20) (h8 : u.ns.length + v.ns.length ≤ 8) (ha : ascB ltPr w.ps = true) : w.Ok := by
  have a1 := hu.lo
  have a2 := hv.lo
  refine ⟨by rw [h.n]; omega, by rw [h.n]; omega, fun p hp => ?_, ha, ?_, fun r hr => ?_⟩
  · rw [h.n]
    rcases (h.ps p).mp hp with hp | ⟨q, hq, rfl⟩ | ⟨q, hq, rfl⟩
    · have := hu.ps p hp
      omega
    · have := hL.r q hq
      simp only
      omega
    · have := hv.ps q hq
      simp only
      omega
  · rw [h.ns, List.length_append, List.length_map]
    exact h8
  · rw [h.ns] at hr
    rw [h.n]
    rcases List.mem_append.mp hr with hr | hr
    · obtain ⟨z1, z2, z3⟩ := hu.ns r hr
      exact ⟨z1, fun t ht => by have := z2 t ht; omega, z3⟩
    · obtain ⟨s, hs, rfl⟩ := List.mem_map.mp hr
      obtain ⟨z1, z2, z3⟩ := hv.ns s hs
      refine ⟨fun e => z1 (List.map_eq_nil_iff.mp e), fun t ht => ?_, asc_up z3⟩
      obtain ⟨x, hx, rfl⟩ := List.mem_map.mp ht
      have := z2 x hx
      omega
/-- the pairs ahead of sorting: apart from one another -/
theorem jn_nodup {u v : Wb} {L A B : List (Int × Int)} (hu : u.Ok) (hv : v.Ok) (hL : LnOk u v L) (hA : ∀ p, p ∈ A ↔ ∃ q ∈ L, p = (q.1, q.2 + u.n)) (hB : ∀ p, p ∈ B ↔ ∃ q ∈ v.ps, p = (q.1 + u.n, q.2 + u.n)) (nA : A.Nodup) (nB : B.Nodup) :
    (u.ps ++ A ++ B).Nodup := by
  rw [List.nodup_append, List.nodup_append]
  refine ⟨⟨nodup_asc hu.asc, nA, fun a ha b hb e => ?_⟩, nB, fun a ha b hb e => ?_⟩
  · subst e
    obtain ⟨q, hq, rfl⟩ := (hA a).mp hb
    have h1 := hu.ps _ ha
    have h2 := hL.r q hq
    simp only at h1
    omega
  · subst e
    obtain ⟨q, hq, rfl⟩ := (hB a).mp hb
    have h2 := hv.ps q hq
    rcases List.mem_append.mp ha with ha | ha
    · have h1 := hu.ps _ ha
      simp only at h1
      omega
    · obtain ⟨z, hz, e⟩ := (hA _).mp ha
      have h1 := hL.r z hz
      simp only [Prod.mk.injEq] at e
      omega
theorem nodup_link {n : Int} {L : List (Int × Int)} (h : ascB ltPr L = true) : (L.map fun q => (q.1, q.2 + n)).Nodup := by
  refine (List.pairwise_map).mpr ((nodup_asc h).imp fun {a b} ne e => ne ?_)
  simp only [Prod.mk.injEq] at e
  exact Prod.ext e.1 (by omega)
theorem nodup_move {n : Int} {L : List (Int × Int)} (h : ascB ltPr L = true) : (L.map fun q => (q.1 + n, q.2 + n)).Nodup := by
  refine (List.pairwise_map).mpr ((nodup_asc h).imp fun {a b} ne e => ne ?_)
  simp only [Prod.mk.injEq] at e
  exact Prod.ext (by omega) (by omega)
theorem jn_of {u v : Wb} {L M N : List (Int × Int)} (hM : ∀ p, p ∈ M ↔ p ∈ N) (hN : ∀ p, p ∈ N ↔ p ∈ u.ps ∨ p ∈ (L.map fun q => (q.1, q.2 + u.n)) ∨ p ∈ (v.ps.map fun q => (q.1 + u.n, q.2 + u.n))) : Jn u v L ⟨u.n + v.n, M, u.ns ++ v.ns.map (upRow u.n)⟩ := by
  refine ⟨rfl, fun p => ?_, rfl⟩
  show p ∈ M ↔ _
  rw [hM, hN]
  constructor
  · rintro (h | h | h)
    · exact .inl h
    · obtain ⟨q, hq, rfl⟩ := List.mem_map.mp h
      exact .inr (.inl ⟨q, hq, rfl⟩)
    · obtain ⟨q, hq, rfl⟩ := List.mem_map.mp h
      exact .inr (.inr ⟨q, hq, rfl⟩)
  · rintro (h | ⟨q, hq, rfl⟩ | ⟨q, hq, rfl⟩)
    · exact .inl h
    · exact .inr (.inl (List.mem_map.mpr ⟨q, hq, rfl⟩))
    · exact .inr (.inr (List.mem_map.mpr ⟨q, hq, rfl⟩))
/-- what joining gives, as data -/
def JnD (u v : Wb) (L : List (Int × Int)) (dd : PyData) : Prop :=
  (u.n + v.n > 20 ∧ dd = .int 20) ∨ (u.n + v.n ≤ 20 ∧ u.ns.length + v.ns.length > 8 ∧ dd = .int 8) ∨
    (u.n + v.n ≤ 20 ∧ u.ns.length + v.ns.length ≤ 8 ∧ ∃ w : Wb, dd = w.d ∧ w.Ok ∧ Jn u v L w)
theorem JnD.uniq {u v : Wb} {L : List (Int × Int)} {a b : PyData} (h : JnD u v L a) (g : JnD u v L b) : a = b := by
  rcases h with ⟨h1, rfl⟩ | ⟨h1, h2, rfl⟩ | ⟨h1, h2, w, rfl, h3, h4⟩
  · rcases g with ⟨g1, rfl⟩ | ⟨g1, g2, rfl⟩ | ⟨g1, g2, _⟩
    · rfl
    · omega
    · omega
  · rcases g with ⟨g1, rfl⟩ | ⟨g1, g2, rfl⟩ | ⟨g1, g2, _⟩
    · omega
    · rfl
    · omega
  · rcases g with ⟨g1, rfl⟩ | ⟨g1, g2, rfl⟩ | ⟨g1, g2, z, rfl, g3, g4⟩
    · omega
    · omega
    · rw [h4.uniq g4 h3.asc g3.asc]
theorem show_int {i : Int} (h0 : 0 ≤ i) (h1 : i < 64) : (PyData.int i).showable = true ∧ (PyData.int i).shown.length ≤ sizeLine ∧ (PyData.int i).depth ≤ 60 := by
  obtain ⟨g1, g2, _⟩ := short_int h0 h1
  refine ⟨?_, mil (Nat.le_trans g1 (by decide)), by simp [PyData.depth]⟩
  simp only [PyData.showable, decide_eq_true_eq]
  exact g2
theorem JnD.show {u v : Wb} {L : List (Int × Int)} {d : PyData} (h : JnD u v L d) : d.showable = true ∧ d.shown.length ≤ sizeLine ∧ d.depth ≤ 60 := by
  rcases h with ⟨_, rfl⟩ | ⟨_, _, rfl⟩ | ⟨_, _, w, rfl, h3, _⟩
  · exact show_int (by decide) (by decide)
  · exact show_int (by decide) (by decide)
  · exact show_web h3
theorem JnD.nd {u v : Wb} {L : List (Int × Int)} {d : PyData} (h : JnD u v L d) : d.hasDict = false := by
  rcases h with ⟨_, rfl⟩ | ⟨_, _, rfl⟩ | ⟨_, _, w, rfl, h3, _⟩
  · rfl
  · rfl
  · exact nd_of_lay (lay_web w)
/-- the three that are kept, as data -/
abbrev d3 (u v : Wb) (L : List (Int × Int)) : PyData := .list [u.d, v.d, dPairs L]
theorem web_fit {u : Wb} (hu : u.Ok) : u.d.showable = true ∧ u.d.leavesShort 8 = true ∧ u.d.weight ≤ 40000 := by
  have b1 := hu.lo
  have b2 := hu.hi
  have b3 := hu.few
  have b4 := hu.len
  obtain ⟨p1, p2, p3⟩ := sm_pairs (r := u.ps) fun t ht => by
    have := hu.ps t ht
    exact ⟨⟨this.1.1, by omega⟩, ⟨this.2.1, by omega⟩⟩
  obtain ⟨r1, r2, r3⟩ := sm_rows (rs := u.ns) fun r hr => ⟨fun t ht => by
    have := (hu.ns r hr).2.1 t ht
    exact ⟨this.1, by omega⟩, hu.row hr⟩
  obtain ⟨g1, g2, g3⟩ := short_int (i := u.n) (by omega) (by omega)
  refine ⟨?_, ?_, ?_⟩
  · simp only [Wb.d, dPairs, dRows, PyData.showable, PyData.showableAll, p2, r2, Bool.and_true, decide_eq_true_eq]
    exact g2
  · simp only [Wb.d, dPairs, dRows, PyData.leavesShort, PyData.leavesShortAll, p1, r1, Bool.and_true, decide_eq_true_eq]
    exact g1
  · have e : u.d.weight = PyData.weight (.int u.n) + 1 + (PyData.weightAll (u.ps.map dPair) + 1 + (PyData.weightAll (u.ns.map dInts) + 1 + 0)) := by
      simp only [Wb.d, dPairs, dRows, PyData.weight, PyData.weightAll]
    omega
theorem show_3 {u v : Wb} {L : List (Int × Int)} (hu : u.Ok) (hv : v.Ok) (hL : LnOk u v L) : (d3 u v L).showable = true ∧ (d3 u v L).shown.length ≤ sizeLine ∧ (d3 u v L).depth ≤ 60 := by
  have a1 := hu.hi
  have a2 := hv.hi
  have a3 := hL.few
  obtain ⟨s1, s2, s3⟩ := web_fit hu
  obtain ⟨t1, t2, t3⟩ := web_fit hv
  obtain ⟨p1, p2, p3⟩ := sm_pairs (r := L) fun t ht => by
    have := hL.r t ht
    exact ⟨⟨this.1.1, by omega⟩, ⟨this.2.1, by omega⟩⟩
  refine ⟨?_, ?_, ?_⟩
  · simp only [dPairs, PyData.showable, PyData.showableAll, s1, t1, p2, Bool.and_true]
  · refine PyData.shown_fits (B := 8) (by omega) (by omega) ?_ ?_
    · simp only [dPairs, PyData.leavesShort, PyData.leavesShortAll, s2, t2, p1, Bool.and_true]
    · have e : (d3 u v L).weight = u.d.weight + 1 + (v.d.weight + 1 + (PyData.weightAll (L.map dPair) + 1 + 0)) := by
        simp only [dPairs, PyData.weight, PyData.weightAll]
      omega
  · have e1 := dep_web u
    have e2 := dep_web v
    have e3 := dep_dPairs L
    simp only [PyData.depth, PyData.depthAll]
    omega
theorem nd_3 (u v : Wb) (L : List (Int × Int)) : (d3 u v L).hasDict = false := by
  refine nd_of_lay ?_
  simp only [PyData.canLay0, PyData.canLayAll0, lay_web, lay_dPairs, Bool.and_true]
theorem pairs_exd {K : PySem.W.Frag} {H H' : Hp} {p : Addr} {zs acc : List V} {L : List (Int × Int)} (h : DaAll K H (L.map dPair) acc) (hp : H p = some (.lst zs)) (e : ExD p H H') : DaAll K H' (L.map dPair) acc :=
  ((pairs_rm hp h).up e.rm).up rm_ex
end Nw
/-! Errors of one text, made and caught. -/
namespace Nw
open PySem PySem.Spec PyProof.Rows L2
/-- the class that a name names -/
abbrev ErrOf (K : PySem.W.Frag) (x : Str) (C : Addr) : Prop := PySem.W.nsIn K mainGlobals x = some (some (.ref C))
/-- what the written part says of an error class of one text -/
structure ErrC (K : PySem.W.Frag) (mg : Str → Option Value) (x : Str) (C : Addr) : Prop where
  gC : mg x = some (.ref C)
  xC : PySem.W.excIn K C [.type "ValueError", .type "Exception", .type "BaseException", .type "object"] "ValueError.__new__" = true
  kC : PySem.W.keepIn K (.ref C) = true
  bC : PySem.W.subIn K (.ref C) (.type "BaseException") = some true
  tC : PySem.W.typeIn K (.ref C) = some (.type "type")
  iC : PySem.W.isClsIn K C = true
  sC : PySem.W.subIn K (.ref C) (.ref C) = some true
  nC : ErrOf K x C
theorem err_uniq {K : PySem.W.Frag} {x : Str} {C D : Addr} (h : ErrOf K x C) (g : ErrOf K x D) : C = D := by
  have e := h.symm.trans g
  simp only [Option.some.injEq, Value.ref.injEq] at e
  exact e
/-- the small ints' texts fit -/
theorem small_text {i : Int} (h0 : 0 ≤ i) (h1 : i < 64) : i.natAbs.log2 < 1920 ∧ (toString i : Str).length ≤ 8 := by
  obtain ⟨g1, g2, _⟩ := short_int h0 h1
  refine ⟨g2, ?_⟩
  simpa only [PyData.shown] using g1
theorem DaAll.take {K : PySem.W.Frag} {H : Hp} : ∀ {ds : List PyData} {xs : List V} (k : Nat), DaAll K H ds xs → DaAll K H (ds.take k) (xs.take k)
  | ds, xs, 0, _ => by
    rw [List.take_zero, List.take_zero]
    rfl
  | [], xs, k + 1, h => by
    obtain rfl : xs = [] := h
    rfl
  | d :: ds, xs, k + 1, h => by
    obtain ⟨x, ys, rfl, h1, h2⟩ := h
    exact ⟨x, _, rfl, h1, DaAll.take k h2⟩
theorem DaAll.drop {K : PySem.W.Frag} {H : Hp} : ∀ {ds : List PyData} {xs : List V} (k : Nat), DaAll K H ds xs → DaAll K H (ds.drop k) (xs.drop k)
  | ds, xs, 0, h => h
  | [], xs, k + 1, h => by
    obtain rfl : xs = [] := h
    rfl
  | d :: ds, xs, k + 1, h => by
    obtain ⟨x, ys, rfl, h1, h2⟩ := h
    exact DaAll.drop k h2
theorem cut_take (xs : List V) (k : Nat) (h : k ≤ xs.length) : cutV xs none (some (k : Int)) = xs.take k := by
  unfold cutV
  rw [HT.sIx_nat, HT.sIx_none, List.drop_zero, Nat.sub_zero, Nat.min_eq_left h]
theorem cut_drop (xs : List V) (k : Nat) (h : k ≤ xs.length) : cutV xs (some (k : Int)) none = xs.drop k := by
  unfold cutV
  rw [HT.sIx_nat, HT.sIx_none, Nat.min_eq_left h]
  exact List.take_of_length_le (by rw [List.length_drop]; exact Nat.le_refl _)
theorem any_pair (ps : List (Int × Int)) (p : Int × Int) : ((ps.map dPair).any fun z => PyData.eqv z (dPair p)) = decide (p ∈ ps) := by
  rw [List.any_map]
  have e : ((fun z => PyData.eqv z (dPair p)) ∘ dPair) = fun q => decide (q = p) := funext fun q => eqv_dPair q p
  rw [e, Bool.eq_iff_iff, List.any_eq_true, decide_eq_true_eq]
  constructor
  · rintro ⟨q, hq, h⟩
    obtain rfl := of_decide_eq_true h
    exact hq
  · intro h
    exact ⟨p, h, decide_eq_true rfl⟩
theorem asc_filter {ps : List (Int × Int)} (f : Int × Int → Bool) (h : ascB ltPr ps = true) : ascB ltPr (ps.filter f) = true := asc_pw ((pw_asc h).filter f)
/-- a web with a pair more, or less -/
structure PairW (u w : Wb) (m : Int × Int → Prop) : Prop where
  n : w.n = u.n
  ns : w.ns = u.ns
  ps : ∀ p, p ∈ w.ps ↔ m p
theorem PairW.ok {u w : Wb} {m : Int × Int → Prop} (h : PairW u w m) (hu : u.Ok) (hm : ∀ p, m p → (0 ≤ p.1 ∧ p.1 < u.n) ∧ (0 ≤ p.2 ∧ p.2 < u.n)) (ha : ascB ltPr w.ps = true) : w.Ok := by
  refine ⟨by rw [h.n]; exact hu.lo, by rw [h.n]; exact hu.hi, fun p hp => ?_, ha, by rw [h.ns]; exact hu.few, ?_⟩
  · rw [h.n]
    exact hm p ((h.ps p).mp hp)
  · rw [h.ns, h.n]
    exact hu.ns
theorem PairW.uniq {u w v : Wb} {m : Int × Int → Prop} (h : PairW u w m) (g : PairW u v m) (hw : ascB ltPr w.ps = true) (hv : ascB ltPr v.ps = true) : w = v := by
  have e1 : w.n = v.n := h.n.trans g.n.symm
  have e2 : w.ps = v.ps := asc_ext hw hv fun x => (h.ps x).trans (g.ps x).symm
  have e3 : w.ns = v.ns := h.ns.trans g.ns.symm
  obtain ⟨a, b, c⟩ := w
  obtain ⟨d, e, f⟩ := v
  simp only at e1 e2 e3
  rw [e1, e2, e3]
/-- whether an error of the class D is what a clause names by C -/
theorem exm_two {K : PySem.W.Frag} {D S : Addr} {b : Bool} (h1 : PySem.W.subIn K (.ref S) (.type "BaseException") = some true) (h2 : PySem.W.isClsIn K S = true) (h3 : PySem.W.typeIn K (.ref S) = some (.type "type")) (h4 : PySem.W.subIn K (.ref D) (.ref S) = some b) :
    PySem.W.exmOne K (.ref D) (.ref S) = some b := by
  have e1 : (PySem.W.subIn K (.ref S) (.type "BaseException") == some true) = true := by
    rw [h1]
    rfl
  have e2 : ((PySem.W.clsIn K S).isSome && PySem.W.typeIn K (.ref S) == some (.type "type")) = true := by
    have h2' : (PySem.W.clsIn K S).isSome = true := h2
    rw [h2', h3]
    rfl
  unfold PySem.W.exmOne
  rw [if_pos e1]
  show (if ((PySem.W.clsIn K S).isSome && PySem.W.typeIn K (.ref S) == some (.type "type")) = true then PySem.W.subIn K (.ref D) (.ref S) else none) = some b
  rw [if_pos e2]
  exact h4
/-- the parts of a new web have nothing to do with an old list -/
theorem NewW.offs {K : PySem.W.Frag} {H H' : Hp} {w : Wb} {T L1 L2 p : Addr} {xs zs : List V} {bs : List Addr} (h : NewW K H H' w T L1 L2 xs bs) (hw : w.Ok) (hp : H p = some (.lst zs)) :
    (rm H' p) T = some (.tup [.int w.n, .ref L1, .ref L2]) ∧ Da K (rm H' p) (dPairs w.ps) (.ref L1) ∧ Da K (rm H' p) (dRows w.ns) (.ref L2) := by
  have hp' := h.ex _ _ hp
  have l1 := hw.len
  have l2 := hw.few
  refine ⟨?_, ⟨L1, xs, rfl, ?_, pairs_rm hp' h.ps, by rw [List.length_map]; omega⟩, ⟨L2, bs.map V.ref, rfl, ?_, ?_, by rw [List.length_map]; omega⟩⟩
  · rw [rm_ne (fun e => by have := h.tup; rw [e, hp'] at this; cases this)]
    exact h.tup
  · rw [rm_ne (fun e => by have := h.new; rw [e, hp] at this; cases this)]
    exact h.at_
  · rw [rm_ne (fun e => by have := h.new2; rw [e, hp] at this; cases this)]
    exact h.at2
  · refine rows_of h.len fun k b hb => ?_
    obtain ⟨n, r, e, g⟩ := h.row k b hb
    have := hw.row (List.mem_of_getElem? e)
    refine ⟨r, e, ?_, by omega⟩
    rw [rm_ne (fun e => by have := n.1; rw [e, hp] at this; cases this)]
    exact g
/-- a web of its parts -/
theorem da_web {K : PySem.W.Frag} {H : Hp} {w : Wb} {T : Addr} {x2 x3 : V} (h : H T = some (.tup [.int w.n, x2, x3])) (h2 : Da K H (dPairs w.ps) x2) (h3 : Da K H (dRows w.ns) x3) : Da K H w.d (.ref T) :=
  ⟨T, _, rfl, h, _, _, rfl, rfl, _, _, rfl, h2, _, _, rfl, h3, rfl⟩
/-- what is known, but for the lists of a new web -/
def mask (H : Hp) (L1 L2 : Addr) (bs : List Addr) : Hp := fun b => if b = L1 ∨ b = L2 ∨ b ∈ bs then none else H b
theorem mask_of {H : Hp} {L1 L2 b : Addr} {bs : List Addr} (h1 : b ≠ L1) (h2 : b ≠ L2) (h3 : b ∉ bs) : mask H L1 L2 bs b = H b := by
  unfold mask
  rw [if_neg]
  rintro (h | h | h)
  · exact h1 h
  · exact h2 h
  · exact h3 h
theorem mask_ex {H : Hp} {L1 L2 : Addr} {bs : List Addr} : Ex (mask H L1 L2 bs) H := fun b o h => by
  unfold mask at h
  split at h
  · cases h
  · exact h
/-- a new web still stands apart from all that came behind it -/
theorem NewW.mask {K : PySem.W.Frag} {H0 H' H : Hp} {w : Wb} {T L1 L2 : Addr} {xs : List V} {bs : List Addr} (h : NewW K H0 H' w T L1 L2 xs bs) (e : Ex H' H) :
    NewW K (Nw.mask H L1 L2 bs) H w T L1 L2 xs bs ∧ Ex H0 (Nw.mask H L1 L2 bs) ∧ ∀ b o, H' b = none → H b = some o → Nw.mask H L1 L2 bs b = some o := by
  have hb : ∀ b ∈ bs, H0 b = none ∧ H' b ≠ none := fun b hb => by
    obtain ⟨k, hk⟩ := List.mem_iff_getElem?.mp hb
    obtain ⟨n, r, _, g⟩ := h.row k b hk
    exact ⟨n.1, fun x => by rw [x] at g; cases g⟩
  refine ⟨⟨mask_ex, e _ _ h.tup, ?_, e _ _ h.at_, h.ps.up e, ?_, e _ _ h.at2, h.len, fun k b hk => ?_, h.nd, h.ne⟩, fun b o hb0 => ?_, fun b o hn ho => ?_⟩
  · unfold Nw.mask
    rw [if_pos (.inl rfl)]
  · unfold Nw.mask
    rw [if_pos (.inr (.inl rfl))]
  · obtain ⟨n, r, h1, h2⟩ := h.row k b hk
    refine ⟨⟨?_, n.2⟩, r, h1, e _ _ h2⟩
    unfold Nw.mask
    rw [if_pos (.inr (.inr (List.mem_of_getElem? hk)))]
  · rw [mask_of (fun x => by have := h.new; rw [← x, hb0] at this; cases this) (fun x => by have := h.new2; rw [← x, hb0] at this; cases this) (fun x => by have := (hb b x).1; rw [hb0] at this; cases this)]
    exact e _ _ (h.ex _ _ hb0)
  · rw [mask_of (fun x => by have := h.at_; rw [← x, hn] at this; cases this) (fun x => by have := h.at2; rw [← x, hn] at this; cases this) (fun x => (hb b x).2 hn)]
    exact ho
theorem pairs_mask {K : PySem.W.Frag} {H : Hp} {L1 L2 : Addr} {bs : List Addr} (hl : ∀ b, b = L1 ∨ b = L2 ∨ b ∈ bs → ∃ ys, H b = some (.lst ys)) : ∀ {L : List (Int × Int)} {acc : List V}, DaAll K H (L.map dPair) acc → DaAll K (mask H L1 L2 bs) (L.map dPair) acc
  | [], _, h => h
  | p :: L, acc, h => by
    obtain ⟨x, xs, rfl, ⟨a, zs, rfl, hS, z1, r1, rfl, e1, z2, r2, rfl, e2, rfl⟩, h2⟩ := h
    obtain rfl := e1
    obtain rfl := e2
    refine ⟨_, _, rfl, dPair_of ?_, pairs_mask hl h2⟩
    unfold mask
    rw [if_neg]
    · exact hS
    · intro hm
      obtain ⟨ys, hy⟩ := hl a hm
      rw [hS] at hy
      cases hy
theorem NewW.lists {K : PySem.W.Frag} {H0 H' H : Hp} {w : Wb} {T L1 L2 : Addr} {xs : List V} {bs : List Addr} (h : NewW K H0 H' w T L1 L2 xs bs) (e : Ex H' H) : ∀ b, b = L1 ∨ b = L2 ∨ b ∈ bs → ∃ ys, H b = some (.lst ys) := by
  rintro b (rfl | rfl | hb)
  · exact ⟨_, e _ _ h.at_⟩
  · exact ⟨_, e _ _ h.at2⟩
  · obtain ⟨k, hk⟩ := List.mem_iff_getElem?.mp hb
    obtain ⟨_, r, _, g⟩ := h.row k b hk
    exact ⟨_, e _ _ g⟩
end Nw
namespace K43
open PySem PySem.Spec PyProof.Rows L2 Nw
def topS (i : Nat) : Stmt := PySem.Challenge.pw_nudgewebs_k43_webs_changed.main.body.getD i (.Pass ⟨0, 0, 0, 0⟩)
structure Txt (K : PySem.W.Frag) (mg : Str → Option Value) : Prop where
  b_isinstance : mg "isinstance" = none
  b_len : mg "len" = none
  b_all : mg "all" = none
  b_repr : mg "repr" = none
  b_abs : mg "abs" = none
  b_max : mg "max" = none
  b_min : mg "min" = none
  b_sorted : mg "sorted" = none
  b_int : mg "int" = none
  b_bool : mg "bool" = none
  b_list : mg "list" = none
  b_tuple : mg "tuple" = none
  b_range : mg "range" = none
  b_zip : mg "zip" = none
  c_MOST_QUANTITIES : ∃ t, mg "MOST_QUANTITIES" = some (.int 20 t)
  c_MOST_NUDGES : ∃ t, mg "MOST_NUDGES" = some (.int 8 t)
  there : ∃ C, ErrC K mg "LineThere" C
  noline : ∃ C, ErrC K mg "NoLine" C
  x_there_noline : ∀ C D, ErrOf K "LineThere" C → ErrOf K "NoLine" D → PySem.W.exmOne K (.ref C) (.ref D) = some false
  x_noline_there : ∀ C D, ErrOf K "NoLine" C → ErrOf K "LineThere" D → PySem.W.exmOne K (.ref C) (.ref D) = some false
  big : ∃ C fI, PySem.BigX.BigTxt K mg C fI ∧ BigC K C
/-! is_integer: slots 0 value -/
abbrev s_is_integer : Stmt := topS 12
abbrev N_is_integer : List Str := ["value"]
abbrev P_is_integer : List Str := ["value"]
theorem sc_is_integer : FnScope N_is_integer P_is_integer (defScope s_is_integer) := ⟨rfl, rfl, rfl, by decide +kernel, rfl, by decide +kernel, by decide +kernel⟩
def sp_is_integer (K : PySem.W.Frag) : Sp := fun vs H Q _ => ∃ v d, vs = [v] ∧ Da K H d v ∧ Q (.bl (isInt d)) H
section
variable {P : Program} {w : World} {K : PySem.W.Frag} {mg : Str → Option Value} {base : Heap}
theorem ok_is_integer {f : Addr} {fd : FuncData} (T : Txt K mg) (F : Fun K "is_integer" "is_integer" s_is_integer f fd) :
    FnG P w K mg base CX0 1 f fd P_is_integer (sp_is_integer K) := by
  refine okG0 F sc_is_integer (fun vs H Q E h => ?_) (fun cdv A outer s H vs Q E hr hq h => ?_)
  · obtain ⟨v, d, rfl, _⟩ := h
    rfl
  · obtain ⟨v, d, rfl, hd, q⟩ := h
    refine ⟨_, (pss_one (ps_ret (pe_and (pe_callB (call_isiK K) (by rfl) T.b_isinstance bt_isinstance (pa_cons (pv 0) (pa_cons (pe_bty T.b_int bt_int) pa_nil))) (pe_one (pe_not (pe_callB (call_isiK K) (by rfl) T.b_isinstance bt_isinstance (pa_cons (pv 0) (pa_cons (pe_bty T.b_bool bt_bool) pa_nil)))))))), ?_⟩
    refine ⟨_, rfl, _, _, _, _, _, rfl, .ty _, hd.ty, isa_int d, _, rfl, ?_⟩
    rw [← isInt_eq] at q
    refine ite2 (fun h1 => ?_) (fun h1 => ?_)
    · refine ⟨_, rfl, _, _, _, _, _, rfl, .ty _, hd.ty, isa_bool d, _, rfl, ?_⟩
      rw [h1, Bool.true_and] at q
      exact q
    · rw [Bool.not_eq_true] at h1
      rw [h1, Bool.false_and] at q
      exact q
end

/-! is_number_below: slots 0 value, 1 limit -/
abbrev s_is_number_below : Stmt := topS 13
abbrev N_is_number_below : List Str := ["value", "limit"]
abbrev P_is_number_below : List Str := ["value", "limit"]
theorem sc_is_number_below : FnScope N_is_number_below P_is_number_below (defScope s_is_number_below) := ⟨rfl, rfl, rfl, by decide +kernel, rfl, by decide +kernel, by decide +kernel⟩
def sp_is_number_below (K : PySem.W.Frag) : Sp := fun vs H Q _ => ∃ v d m, vs = [v, .int m] ∧ Da K H d v ∧ Q (.bl (numB d m)) H
section
variable {P : Program} {w : World} {K : PySem.W.Frag} {mg : Str → Option Value} {base : Heap}
theorem ok_is_number_below {f : Addr} {fd : FuncData} (T : Txt K mg) (F : Fun K "is_number_below" "is_number_below" s_is_number_below f fd)
    (D_is_integer : DefOk P w K mg base CX0 1 "is_integer" P_is_integer (sp_is_integer K)) :
    FnG P w K mg base CX0 2 f fd P_is_number_below (sp_is_number_below K) := by
  refine okG0 F sc_is_number_below (fun vs H Q E h => ?_) (fun cdv A outer s H vs Q E hr hq h => ?_)
  · obtain ⟨v, d, m, rfl, _⟩ := h
    rfl
  · obtain ⟨v, d, m, rfl, hd, q⟩ := h
    refine ⟨_, (pss_one (ps_ret (pe_and (pe_callD D_is_integer (hr.mono (by decide)) hq pass0 (pa_cons (pv 0) pa_nil)) (pe_one (pe_chain op_le op_lt pe_int (pv 0) (pv 1)))))), ?_⟩
    refine ⟨_, rfl, _, _, rfl, hd, _, rfl, ?_⟩
    cases d with
    | int i =>
      obtain rfl := hd
      refine ⟨_, rfl, _, _, rfl, rfl, _, rfl, ?_⟩
      refine ite2 (fun h1 => ?_) (fun h1 => ?_)
      · refine ⟨_, rfl, _, _, rfl, rfl, ?_⟩
        simp only [numB, h1, Bool.true_and] at q
        exact q
      · rw [Bool.not_eq_true] at h1
        simp only [numB, h1, Bool.false_and] at q
        exact q
    | _ => exact q
end

/-! is_tuple_below: slots 0 value, 1 first_limit, 2 second_limit -/
abbrev s_is_tuple_below : Stmt := topS 14
abbrev N_is_tuple_below : List Str := ["value", "first_limit", "second_limit"]
abbrev P_is_tuple_below : List Str := ["value", "first_limit", "second_limit"]
theorem sc_is_tuple_below : FnScope N_is_tuple_below P_is_tuple_below (defScope s_is_tuple_below) := ⟨rfl, rfl, rfl, by decide +kernel, rfl, by decide +kernel, by decide +kernel⟩
def sp_is_tuple_below (K : PySem.W.Frag) : Sp := fun vs H Q _ => ∃ v d m n, vs = [v, .int m, .int n] ∧ Da K H d v ∧ Q (.bl (tupB d m n)) H
section
variable {P : Program} {w : World} {K : PySem.W.Frag} {mg : Str → Option Value} {base : Heap}
theorem ok_is_tuple_below {f : Addr} {fd : FuncData} (T : Txt K mg) (F : Fun K "is_tuple_below" "is_tuple_below" s_is_tuple_below f fd)
    (D_is_number_below : DefOk P w K mg base CX0 2 "is_number_below" P_is_number_below (sp_is_number_below K)) :
    FnG P w K mg base CX0 3 f fd P_is_tuple_below (sp_is_tuple_below K) := by
  refine okG0 F sc_is_tuple_below (fun vs H Q E h => ?_) (fun cdv A outer s H vs Q E hr hq h => ?_)
  · obtain ⟨v, d, m, n, rfl, _⟩ := h
    rfl
  · obtain ⟨v, d, m, n, rfl, hd, q⟩ := h
    refine ⟨_, (pss_cons (ps_if (PW.pt (pw_or (pt_not (pt_val (pe_callB (call_isiK K) (by rfl) T.b_isinstance bt_isinstance (pa_cons (pv 0) (pa_cons (pe_bty T.b_tuple bt_tuple) pa_nil))))) (pw_or1 (pt_cmpR op_ne (pe_callB (call_lenK K) (by rfl) T.b_len bt_len (pa_cons (pv 0) pa_nil)) pe_int (nomark _))))) (pss_one (ps_ret pe_bl)) pss_nil)
      (pss_one (ps_ret (pe_and (pe_callD D_is_number_below (hr.mono (by decide)) hq pass0 (pa_cons (pe_ix (ix_seqK K) (pv 0) pe_int (fun _ _ => rfl)) (pa_cons (pv 1) pa_nil))) (pe_one (pe_callD D_is_number_below (hr.mono (by decide)) hq pass0 (pa_cons (pe_ix (ix_seqK K) (pv 0) pe_int (fun _ _ => rfl)) (pa_cons (pv 2) pa_nil)))))))), ?_⟩
    refine ⟨_, rfl, _, _, _, _, _, rfl, .ty _, hd.ty, isa_tuple d, _, rfl, ?_⟩
    cases d with
    | tuple ds =>
      obtain ⟨a, xs, rfl, hS0, hA⟩ := hd
      have hS : SqT K _ a xs := .inl (.inl hS0)
      have hl := hA.len
      refine ⟨_, rfl, a, _, rfl, .inr hS, rfl, _, rfl, ?_⟩
      refine ite2 (fun h1 => ?_) (fun h1 => ?_)
      · have e : tupB (.tuple ds) m n = false := by
          unfold tupB
          split
          · rename_i heq
            cases heq
            rw [← hl] at h1
            simp at h1
          · rfl
        rw [e] at q
        exact q
      · have h2 : ds.length = 2 := by
          simp at h1
          omega
        obtain ⟨d1, d2, rfl⟩ : ∃ d1 d2, ds = [d1, d2] := by
          match ds, h2 with
          | [d1, d2], _ => exact ⟨d1, d2, rfl⟩
        obtain ⟨x1, r1, rfl, g1, x2, r2, rfl, g2, rfl⟩ := hA
        refine ⟨_, rfl, .inr (.inl ⟨a, _, 0, x1, rfl, rfl, hS, rfl, _, rfl, _, _, _, rfl, g1, _, rfl, ?_⟩)⟩
        refine ite2 (fun h3 => ?_) (fun h3 => ?_)
        · refine ⟨_, rfl, .inr (.inl ⟨a, _, 1, x2, rfl, rfl, hS, rfl, _, rfl, _, _, _, rfl, g2, ?_⟩)⟩
          simp only [tupB, h3, Bool.true_and] at q
          exact q
        · rw [Bool.not_eq_true] at h3
          simp only [tupB, h3, Bool.false_and] at q
          exact q
    | _ => exact q
end

/-! are_below: slots 0 value, 1 limit, 2 one -/
abbrev s_are_below : Stmt := topS 15
abbrev N_are_below : List Str := ["value", "limit", "one"]
abbrev P_are_below : List Str := ["value", "limit"]
theorem sc_are_below : FnScope N_are_below P_are_below (defScope s_are_below) := ⟨rfl, rfl, rfl, by decide +kernel, rfl, by decide +kernel, by decide +kernel⟩
def sp_are_below (K : PySem.W.Frag) : Sp := fun vs H Q _ => ∃ v d m, vs = [v, .int m] ∧ Da K H d v ∧ ∀ H', Ex H H' → Q (.bl (listB d m)) H'
section
variable {P : Program} {w : World} {K : PySem.W.Frag} {mg : Str → Option Value} {base : Heap}
theorem ok_are_below {f : Addr} {fd : FuncData} (T : Txt K mg) (F : Fun K "are_below" "are_below" s_are_below f fd)
    (D_is_number_below : DefOk P w K mg base CX0 2 "is_number_below" P_is_number_below (sp_is_number_below K)) :
    FnG P w K mg base CX0 3 f fd P_are_below (sp_are_below K) := by
  refine okG0 F sc_are_below (fun vs H Q E h => ?_) (fun cdv A outer s H vs Q E hr hq h => ?_)
  · obtain ⟨v, d, m, rfl, _⟩ := h
    rfl
  · obtain ⟨v, d, m, rfl, hd, q⟩ := h
    refine ⟨_, (pss_one (ps_ret (pe_and (pe_callB (call_isiK K) (by rfl) T.b_isinstance bt_isinstance (pa_cons (pv 0) (pa_cons (pe_bty T.b_list bt_list) pa_nil))) (pe_one (pe_callB (cr_allK K rfl) (by rfl) T.b_all bt_all (pa_cons (pe_lc (own := [("one", 2)]) rfl sc_are_below.nd (pi_listK K (pv 0)) (blkOk_by (N := N_are_below) (sc := defScope s_are_below) (by decide +kernel)) (fun _ _ _ _ _ => (pg_name (i := 2) sc_are_below.nd rfl (by first | exact .inl rfl | exact .inr rfl))) (fun _ _ _ _ _ => pts_nil) (fun _ _ _ _ _ => (pe_callD D_is_number_below (hr.mono (by decide)) hq pass0 (pa_cons (pv 2) (pa_cons (pv 1) pa_nil))))) pa_nil)))))), ?_⟩
    refine ⟨_, rfl, _, _, _, _, _, rfl, .ty _, hd.ty, isa_list d, _, rfl, ?_⟩
    cases d with
    | list ds =>
      obtain ⟨a, xs, rfl, hS0, hA, hz⟩ := hd
      have hS : SqL K _ a xs := .inl (.inl hS0)
      have hl := hA.len
      refine ⟨_, rfl, a, rfl, ⟨_, hS⟩, fun D hD => ?_⟩
      refine lc_ev xs.length (fun _ => true) (fun i y _ => y = .bl (numB (ds.getD i .none) m)) (by omega) hD (fun _ _ _ _ _ h => h)
        (fun i H' hi e => itl_go hS e hi) (fun H' e => itl_stop hS e) ?_ ?_
      · intro i H' x H'' hi e _ y Q' N' hQ _
        obtain ⟨rfl, hx⟩ := itl_yld y hS e
        obtain ⟨d, hd, hx'⟩ := hA.at' hx
        refine ⟨rfl, _, rfl, _, rfl, _, _, _, rfl, hx'.up e, ?_⟩
        refine hQ rfl _ _ Ex.rfl ?_
        rw [List.getD_eq_getElem?_getD, hd]
        rfl
      · intro ys H' e hy gv
        refine ⟨D, (List.range xs.length).map fun i => numB (ds.getD i .none) m, rfl, .inl (.inl ?_), ?_⟩
        · rw [hy, gv.all, given_bl]
        · rw [← hl, all_range_get (fun d => numB d m) .none ds]
          exact q _ e
    | _ => exact q _ Ex.rfl
end

/-! are_ascending: slots 0 values, 1 one, 2 following -/
abbrev s_are_ascending : Stmt := topS 16
abbrev N_are_ascending : List Str := ["values", "one", "following"]
abbrev P_are_ascending : List Str := ["values"]
theorem sc_are_ascending : FnScope N_are_ascending P_are_ascending (defScope s_are_ascending) := ⟨rfl, rfl, rfl, by decide +kernel, rfl, by decide +kernel, by decide +kernel⟩
def sp_are_ascending (K : PySem.W.Frag) : Sp := fun vs H Q _ => ∃ v, vs = [v] ∧
  ((∃ ns : List Int, Da K H (.list (ns.map PyData.int)) v ∧ ∀ H', Ex H H' → Q (.bl (ascB ltIn ns)) H') ∨
   (∃ ps : List (Int × Int), Da K H (.list (ps.map dPair)) v ∧ ∀ H', Ex H H' → Q (.bl (ascB ltPr ps)) H'))
section
variable {P : Program} {w : World} {K : PySem.W.Frag} {mg : Str → Option Value} {base : Heap}
theorem ok_are_ascending {f : Addr} {fd : FuncData} (T : Txt K mg) (F : Fun K "are_ascending" "are_ascending" s_are_ascending f fd) :
    FnG P w K mg base CX0 1 f fd P_are_ascending (sp_are_ascending K) := by
  refine okG0 F sc_are_ascending (fun vs H Q E h => ?_) (fun cdv A outer s H vs Q E hr hq h => ?_)
  · obtain ⟨v, rfl, _⟩ := h
    rfl
  · obtain ⟨v, rfl, h⟩ := h
    refine ⟨_, (pss_one (ps_ret (pe_callB (cr_allK K rfl) (by rfl) T.b_all bt_all (pa_cons (pe_lc (own := [("one", 1), ("following", 2)]) rfl sc_are_ascending.nd (pi_zip (by rfl) T.b_zip (pa_cons (pv 0) (pa_cons (pe_slice (sl_listK K) (pv 0) (po_some pe_int) po_none) pa_nil))) (blkOk_by (N := N_are_ascending) (sc := defScope s_are_ascending) (by decide +kernel)) (fun _ _ _ _ _ => (pg_tupK (n := 2) K rfl (pgs_cons (pg_name (i := 1) sc_are_ascending.nd rfl (by first | exact .inl rfl | exact .inr rfl)) (pgs_cons (pg_name (i := 2) sc_are_ascending.nd rfl (by first | exact .inl rfl | exact .inr rfl)) pgs_nil)))) (fun _ _ _ _ _ => pts_nil) (fun _ _ _ _ _ => (pe_cmpR (op_ltA K hr.units0) (pv 1) (pv 2) (nomark _)))) pa_nil)))), ?_⟩
    rcases h with ⟨ns, ⟨a, xs, rfl, hS0, hA, hz⟩, q⟩ | ⟨ps, ⟨a, xs, rfl, hS0, hA, hz⟩, q⟩
    · obtain rfl := DaAll.ints.mp hA
      have hS : SqL K _ a (ns.map V.int) := .inl (.inl hS0)
      rw [List.length_map] at hz
      refine ⟨_, rfl, .ref a, rfl, 1, rfl, a, _, rfl, hS, fun p hp => ?_⟩
      have hS' := (Ex.nw (o := .lst (cutV (ns.map V.int) (some 1) none)) hp).l hS
      have hC : SqL K (upd H p (.lst (cutV (ns.map V.int) (some 1) none))) p ((ns.map V.int).drop 1) := .inl (.inl (by rw [upd_same, cut1]))
      refine ⟨a, p, _, _, rfl, hS', hC, fun D hD => ?_⟩
      refine lc_ev (min (ns.map V.int).length ((ns.map V.int).drop 1).length) (fun _ => true) (fun i y _ => y = .bl (ascAt ltIn ns i)) (by rw [List.length_map]; omega) hD
        (fun _ _ _ _ _ h => h) (fun i H' hi e => itz_go hS' hC e hi) (fun H' e => itz_stop hS' hC e) ?_ ?_
      · rintro i H' x H'' hi e _ ⟨T', x1, x2, rfl, hT, rfl, h1, h2⟩ Q' N' hQ _
        obtain ⟨n1, g1, rfl⟩ := map_at (h1 _ (e.l hS'))
        obtain ⟨n2, g2, rfl⟩ := map_at (drop1_at (h2 _ (e.l hC)))
        refine ⟨T', _, rfl, .inl (.inl upd_same), rfl, _, _, rfl, _, _, rfl, rfl, rfl, _, rfl, _, rfl, .inl ⟨_, _, rfl, rfl, hQ rfl _ _ (Ex.nw hT) ?_⟩⟩
        show V.bl (decide (n1 < n2)) = V.bl (ascAt ltIn ns i)
        simp only [ascAt, g1, g2, ltIn]
      · intro ys H' e hy gv
        refine ⟨D, (List.range (min (ns.map V.int).length ((ns.map V.int).drop 1).length)).map fun i => ascAt ltIn ns i, rfl, .inl (.inl ?_), ?_⟩
        · rw [hy, gv.all, given_bl]
        · rw [min_drop1, List.length_map, ascB_range]
          exact q _ ((Ex.nw hp).tr e)
    · have hS : SqL K _ a xs := .inl (.inl hS0)
      have hl : ps.length = xs.length := by
        have := hA.len
        rw [List.length_map] at this
        exact this
      rw [List.length_map] at hz
      refine ⟨_, rfl, .ref a, rfl, 1, rfl, a, _, rfl, hS, fun p hp => ?_⟩
      have e0 : Ex H (upd H p (.lst (cutV xs (some 1) none))) := Ex.nw hp
      have hS' := e0.l hS
      have hC : SqL K (upd H p (.lst (cutV xs (some 1) none))) p (xs.drop 1) := .inl (.inl (by rw [upd_same, cut1]))
      refine ⟨a, p, _, _, rfl, hS', hC, fun D hD => ?_⟩
      refine lc_ev (min xs.length (xs.drop 1).length) (fun _ => true) (fun i y _ => y = .bl (ascAt ltPr ps i)) (by omega) hD
        (fun _ _ _ _ _ h => h) (fun i H' hi e => itz_go hS' hC e hi) (fun H' e => itz_stop hS' hC e) ?_ ?_
      · rintro i H' x H'' hi e _ ⟨T', x1, x2, rfl, hT, rfl, h1, h2⟩ Q' N' hQ _
        obtain ⟨p1, g1, a1, rfl, t1⟩ := pairs_at hA (h1 _ (e.l hS'))
        obtain ⟨p2, g2, a2, rfl, t2⟩ := pairs_at hA (drop1_at (h2 _ (e.l hC)))
        have e3 := (e0.tr e).tr (Ex.nw (o := .tup [.ref a1, .ref a2]) hT)
        refine ⟨T', _, rfl, .inl (.inl upd_same), rfl, _, _, rfl, _, _, rfl, rfl, rfl, _, rfl, _, rfl,
          .inr ⟨a1, a2, [p1.1, p1.2], [p2.1, p2.2], rfl, rfl, e3.t t1, e3.t t2, hQ rfl _ _ (Ex.nw hT) ?_⟩⟩
        show V.bl (HT.lexLt [p1.1, p1.2] [p2.1, p2.2]) = V.bl (ascAt ltPr ps i)
        simp only [ascAt, g1, g2, ltPr]
      · intro ys H' e hy gv
        refine ⟨D, (List.range (min xs.length (xs.drop 1).length)).map fun i => ascAt ltPr ps i, rfl, .inl (.inl ?_), ?_⟩
        · rw [hy, gv.all, given_bl]
        · rw [min_drop1, ← hl, ascB_range]
          exact q _ ((Ex.nw hp).tr e)
end

/-! are_ascending_tuples: slots 0 value, 1 first_limit, 2 second_limit, 3 one -/
abbrev s_are_ascending_tuples : Stmt := topS 17
abbrev N_are_ascending_tuples : List Str := ["value", "first_limit", "second_limit", "one"]
abbrev P_are_ascending_tuples : List Str := ["value", "first_limit", "second_limit"]
theorem sc_are_ascending_tuples : FnScope N_are_ascending_tuples P_are_ascending_tuples (defScope s_are_ascending_tuples) := ⟨rfl, rfl, rfl, by decide +kernel, rfl, by decide +kernel, by decide +kernel⟩
def sp_are_ascending_tuples (K : PySem.W.Frag) : Sp := fun vs H Q _ => ∃ v d m n, vs = [v, .int m, .int n] ∧ Da K H d v ∧ ∀ H', Ex H H' → Q (.bl (tuplesB d m n)) H'
section
variable {P : Program} {w : World} {K : PySem.W.Frag} {mg : Str → Option Value} {base : Heap}
theorem ok_are_ascending_tuples {f : Addr} {fd : FuncData} (T : Txt K mg) (F : Fun K "are_ascending_tuples" "are_ascending_tuples" s_are_ascending_tuples f fd)
    (D_is_tuple_below : DefOk P w K mg base CX0 3 "is_tuple_below" P_is_tuple_below (sp_is_tuple_below K))
    (D_are_ascending : DefOk P w K mg base CX0 1 "are_ascending" P_are_ascending (sp_are_ascending K)) :
    FnG P w K mg base CX0 4 f fd P_are_ascending_tuples (sp_are_ascending_tuples K) := by
  refine okG0 F sc_are_ascending_tuples (fun vs H Q E h => ?_) (fun cdv A outer s H vs Q E hr hq h => ?_)
  · obtain ⟨v, d, m, n, rfl, _⟩ := h
    rfl
  · obtain ⟨v, d, m, n, rfl, hd, q⟩ := h
    refine ⟨_, (pss_cons (ps_if (pt_not (pt_val (pe_callB (call_isiK K) (by rfl) T.b_isinstance bt_isinstance (pa_cons (pv 0) (pa_cons (pe_bty T.b_list bt_list) pa_nil))))) (pss_one (ps_ret pe_bl)) pss_nil)
      (pss_cons (ps_if (pt_not (pt_val (pe_callB (cr_allK K rfl) (by rfl) T.b_all bt_all (pa_cons (pe_lc (own := [("one", 3)]) rfl sc_are_ascending_tuples.nd (pi_listK K (pv 0)) (blkOk_by (N := N_are_ascending_tuples) (sc := defScope s_are_ascending_tuples) (by decide +kernel)) (fun _ _ _ _ _ => (pg_name (i := 3) sc_are_ascending_tuples.nd rfl (by first | exact .inl rfl | exact .inr rfl))) (fun _ _ _ _ _ => pts_nil) (fun _ _ _ _ _ => (pe_callD D_is_tuple_below (hr.mono (by decide)) hq pass0 (pa_cons (pv 3) (pa_cons (pv 1) (pa_cons (pv 2) pa_nil)))))) pa_nil)))) (pss_one (ps_ret pe_bl)) pss_nil)
      (pss_one (ps_ret (pe_callD D_are_ascending (hr.mono (by decide)) hq pass0 (pa_cons (pv 0) pa_nil)))))), ?_⟩
    refine ⟨_, rfl, _, _, _, _, _, rfl, .ty _, hd.ty, isa_list d, _, rfl, ?_⟩
    cases d with
    | list ds =>
      have hd0 := hd
      obtain ⟨a, xs, rfl, hS0, hA, hz⟩ := hd
      have hS : SqL K _ a xs := .inl (.inl hS0)
      have hl := hA.len
      refine ⟨_, rfl, a, rfl, ⟨_, hS⟩, fun D hD => ?_⟩
      refine lc_ev xs.length (fun _ => true) (fun i y _ => y = .bl (tupB (ds.getD i .none) m n)) (by omega) hD (fun _ _ _ _ _ h => h)
        (fun i H' hi e => itl_go hS e hi) (fun H' e => itl_stop hS e) ?_ ?_
      · intro i H' x H'' hi e _ y Q' N' hQ _
        obtain ⟨rfl, hx⟩ := itl_yld y hS e
        obtain ⟨d, hd, hx'⟩ := hA.at' hx
        refine ⟨rfl, _, rfl, _, rfl, _, rfl, _, _, _, _, rfl, hx'.up e, ?_⟩
        refine hQ rfl _ _ Ex.rfl ?_
        rw [List.getD_eq_getElem?_getD, hd]
        rfl
      · intro ys H' e hy gv
        refine ⟨D, (List.range xs.length).map fun i => tupB (ds.getD i .none) m n, rfl, .inl (.inl ?_), _, rfl, ?_⟩
        · rw [hy, gv.all, given_bl]
        · rw [← hl, all_range_get (fun d => tupB d m n) .none ds]
          refine ite2 (fun h1 => ?_) (fun h1 => ?_)
          · rw [Bool.not_eq_true'] at h1
            have e2 : tuplesB (.list ds) m n = false := by simp only [tuplesB, h1, Bool.false_and]
            rw [e2] at q
            exact q _ e
          · rw [Bool.not_eq_true', Bool.not_eq_false] at h1
            obtain ⟨ps, rfl, _⟩ := pairs_of_all h1
            refine ⟨_, rfl, _, rfl, .inr ⟨ps, hd0.up e, fun H2 e2 => ?_⟩⟩
            have e3 : tuplesB (.list (ps.map dPair)) m n = ascB ltPr ps := by simp only [tuplesB, h1, Bool.true_and, pairsOf_map]
            rw [e3] at q
            exact q _ (e.tr e2)
    | _ => exact q _ Ex.rfl
end

/-! are_targets: slots 0 value, 1 count -/
abbrev s_are_targets : Stmt := topS 18
abbrev N_are_targets : List Str := ["value", "count"]
abbrev P_are_targets : List Str := ["value", "count"]
theorem sc_are_targets : FnScope N_are_targets P_are_targets (defScope s_are_targets) := ⟨rfl, rfl, rfl, by decide +kernel, rfl, by decide +kernel, by decide +kernel⟩
def sp_are_targets (K : PySem.W.Frag) : Sp := fun vs H Q _ => ∃ v d m, vs = [v, .int m] ∧ Da K H d v ∧ ∀ H', Ex H H' → Q (.bl (targetsB d m)) H'
section
variable {P : Program} {w : World} {K : PySem.W.Frag} {mg : Str → Option Value} {base : Heap}
theorem ok_are_targets {f : Addr} {fd : FuncData} (T : Txt K mg) (F : Fun K "are_targets" "are_targets" s_are_targets f fd)
    (D_are_below : DefOk P w K mg base CX0 3 "are_below" P_are_below (sp_are_below K))
    (D_are_ascending : DefOk P w K mg base CX0 1 "are_ascending" P_are_ascending (sp_are_ascending K)) :
    FnG P w K mg base CX0 4 f fd P_are_targets (sp_are_targets K) := by
  refine okG0 F sc_are_targets (fun vs H Q E h => ?_) (fun cdv A outer s H vs Q E hr hq h => ?_)
  · obtain ⟨v, d, m, rfl, _⟩ := h
    rfl
  · obtain ⟨v, d, m, rfl, hd, q⟩ := h
    refine ⟨_, (pss_one (ps_ret (pe_and (pe_callD D_are_below (hr.mono (by decide)) hq pass0 (pa_cons (pv 0) (pa_cons (pv 1) pa_nil))) (pe_and (pe_cmpR op_gt (pe_callB (call_lenK K) (by rfl) T.b_len bt_len (pa_cons (pv 0) pa_nil)) pe_int (nomark _)) (pe_one (pe_callD D_are_ascending (hr.mono (by decide)) hq pass0 (pa_cons (pv 0) pa_nil))))))), ?_⟩
    refine ⟨_, rfl, _, rfl, _, _, _, rfl, hd, fun H1 e1 => ⟨_, rfl, ?_⟩⟩
    refine ite2 (fun h1 => ?_) (fun h1 => ?_)
    · cases d with
      | list ds =>
        obtain ⟨ns, rfl, _⟩ := ints_of_all (show (ds.all fun d => numB d m) = true from h1)
        have hd1 := hd.up e1
        obtain ⟨a, xs, rfl, hS0, hA, hz⟩ := hd1
        have hS : SqL K _ a xs := .inl (.inl hS0)
        have hl := hA.len
        refine ⟨_, rfl, a, _, rfl, .inl hS, _, _, rfl, rfl, _, rfl, ?_⟩
        refine ite2 (fun h2 => ?_) (fun h2 => ?_)
        · refine ⟨_, rfl, _, rfl, .inl ⟨ns, hd.up e1, fun H2 e2 => ?_⟩⟩
          have e3 : targetsB (.list (ns.map PyData.int)) m = ascB ltIn ns := by
            have h3 : ((ns.map PyData.int).all fun d => numB d m) = true := h1
            have h4 : decide (0 < (ns.map PyData.int).length) = true := by
              rw [hl]
              simpa using h2
            simp only [targetsB, h3, h4, Bool.true_and, intsOf_map]
          rw [e3] at q
          exact q _ (e1.tr e2)
        · have e3 : targetsB (.list (ns.map PyData.int)) m = false := by
            have h4 : decide (0 < (ns.map PyData.int).length) = false := by
              rw [hl]
              simpa using h2
            simp only [targetsB, h4, Bool.false_and, Bool.and_false]
          rw [e3] at q
          exact q _ e1
      | _ => exact (Bool.noConfusion h1 : False).elim
    · rw [Bool.not_eq_true] at h1
      have e3 : targetsB d m = false := by
        cases d with
        | list ds =>
          have h3 : (ds.all fun d => numB d m) = false := h1
          simp only [targetsB, h3, Bool.false_and]
        | _ => rfl
      rw [e3] at q
      exact q _ e1
end

/-! are_nudges: slots 0 value, 1 count, 2 nudge -/
abbrev s_are_nudges : Stmt := topS 19
abbrev N_are_nudges : List Str := ["value", "count", "nudge"]
abbrev P_are_nudges : List Str := ["value", "count"]
theorem sc_are_nudges : FnScope N_are_nudges P_are_nudges (defScope s_are_nudges) := ⟨rfl, rfl, rfl, by decide +kernel, rfl, by decide +kernel, by decide +kernel⟩
def sp_are_nudges (K : PySem.W.Frag) : Sp := fun vs H Q _ => ∃ v d m, vs = [v, .int m] ∧ Da K H d v ∧ ∀ H', Ex H H' → Q (.bl (nudgesB d m)) H'
section
variable {P : Program} {w : World} {K : PySem.W.Frag} {mg : Str → Option Value} {base : Heap}
theorem ok_are_nudges {f : Addr} {fd : FuncData} (T : Txt K mg) (F : Fun K "are_nudges" "are_nudges" s_are_nudges f fd)
    (D_are_targets : DefOk P w K mg base CX0 4 "are_targets" P_are_targets (sp_are_targets K)) :
    FnG P w K mg base CX0 5 f fd P_are_nudges (sp_are_nudges K) := by
  refine okG0 F sc_are_nudges (fun vs H Q E h => ?_) (fun cdv A outer s H vs Q E hr hq h => ?_)
  · obtain ⟨v, d, m, rfl, _⟩ := h
    rfl
  · obtain ⟨v, d, m, rfl, hd, q⟩ := h
    refine ⟨_, (pss_cons (ps_if (PW.pt (pw_or (pt_not (pt_val (pe_callB (call_isiK K) (by rfl) T.b_isinstance bt_isinstance (pa_cons (pv 0) (pa_cons (pe_bty T.b_list bt_list) pa_nil))))) (pw_or1 (pt_cmpR op_gt (pe_callB (call_lenK K) (by rfl) T.b_len bt_len (pa_cons (pv 0) pa_nil)) (pe_globI T.c_MOST_NUDGES) (nomark _))))) (pss_one (ps_ret pe_bl)) pss_nil)
      (pss_one (ps_ret (pe_callB (cr_allK K rfl) (by rfl) T.b_all bt_all (pa_cons (pe_lc (own := [("nudge", 2)]) rfl sc_are_nudges.nd (pi_listK K (pv 0)) (blkOk_by (N := N_are_nudges) (sc := defScope s_are_nudges) (by decide +kernel)) (fun _ _ _ _ _ => (pg_name (i := 2) sc_are_nudges.nd rfl (by first | exact .inl rfl | exact .inr rfl))) (fun _ _ _ _ _ => pts_nil) (fun _ _ _ _ _ => (pe_callD D_are_targets (hr.mono (by decide)) hq pass0 (pa_cons (pv 2) (pa_cons (pv 1) pa_nil))))) pa_nil))))), ?_⟩
    refine ⟨_, rfl, _, _, _, _, _, rfl, .ty _, hd.ty, isa_list d, _, rfl, ?_⟩
    cases d with
    | list ds =>
      obtain ⟨a, xs, rfl, hS0, hA, hz⟩ := hd
      have hS : SqL K _ a xs := .inl (.inl hS0)
      have hl := hA.len
      refine ⟨_, rfl, a, _, rfl, .inl hS, _, _, rfl, rfl, _, rfl, ?_⟩
      refine ite2 (fun h1 => ?_) (fun h1 => ?_)
      · have e3 : nudgesB (.list ds) m = false := by
          have h4 : decide (ds.length ≤ 8) = false := by
            rw [hl]
            simp at h1
            simp
            omega
          simp only [nudgesB, h4, Bool.false_and]
        rw [e3] at q
        exact q _ Ex.rfl
      · have e3 : nudgesB (.list ds) m = ds.all fun d => targetsB d m := by
          have h4 : decide (ds.length ≤ 8) = true := by
            rw [hl]
            simp at h1
            simp
            omega
          simp only [nudgesB, h4, Bool.true_and]
        rw [e3] at q
        refine ⟨_, rfl, a, rfl, ⟨_, hS⟩, fun D hD => ?_⟩
        refine lc_ev xs.length (fun _ => true) (fun i y _ => y = .bl (targetsB (ds.getD i .none) m)) (by omega) hD (fun _ _ _ _ _ h => h)
          (fun i H' hi e => itl_go hS e hi) (fun H' e => itl_stop hS e) ?_ ?_
        · intro i H' x H'' hi e _ y Q' N' hQ _
          obtain ⟨rfl, hx⟩ := itl_yld y hS e
          obtain ⟨d, hd, hx'⟩ := hA.at' hx
          refine ⟨rfl, _, rfl, _, rfl, _, _, _, rfl, hx'.up e, fun H2 e2 => ?_⟩
          refine hQ rfl _ _ e2 ?_
          rw [List.getD_eq_getElem?_getD, hd]
          rfl
        · intro ys H' e hy gv
          refine ⟨D, (List.range xs.length).map fun i => targetsB (ds.getD i .none) m, rfl, .inl (.inl ?_), ?_⟩
          · rw [hy, gv.all, given_bl]
          · rw [← hl, all_range_get (fun d => targetsB d m) .none ds]
            exact q _ e
    | _ => exact q _ Ex.rfl
end

/-! has_web_shape: slots 0 value, 1 count, 2 pairs, 3 nudges -/
abbrev s_has_web_shape : Stmt := topS 20
abbrev N_has_web_shape : List Str := ["value", "count", "pairs", "nudges"]
abbrev P_has_web_shape : List Str := ["value"]
theorem sc_has_web_shape : FnScope N_has_web_shape P_has_web_shape (defScope s_has_web_shape) := ⟨rfl, rfl, rfl, by decide +kernel, rfl, by decide +kernel, by decide +kernel⟩
def sp_has_web_shape (K : PySem.W.Frag) : Sp := fun vs H Q _ => ∃ v d, vs = [v] ∧ Da K H d v ∧ ∀ H', Ex H H' → Q (.bl (webB d)) H'
section
variable {P : Program} {w : World} {K : PySem.W.Frag} {mg : Str → Option Value} {base : Heap}
theorem ok_has_web_shape {f : Addr} {fd : FuncData} (T : Txt K mg) (F : Fun K "has_web_shape" "has_web_shape" s_has_web_shape f fd)
    (D_is_integer : DefOk P w K mg base CX0 1 "is_integer" P_is_integer (sp_is_integer K))
    (D_are_ascending_tuples : DefOk P w K mg base CX0 4 "are_ascending_tuples" P_are_ascending_tuples (sp_are_ascending_tuples K))
    (D_are_nudges : DefOk P w K mg base CX0 5 "are_nudges" P_are_nudges (sp_are_nudges K)) :
    FnG P w K mg base CX0 6 f fd P_has_web_shape (sp_has_web_shape K) := by
  refine okG0 F sc_has_web_shape (fun vs H Q E h => ?_) (fun cdv A outer s H vs Q E hr hq h => ?_)
  · obtain ⟨v, d, rfl, _⟩ := h
    rfl
  · obtain ⟨v, d, rfl, hd, q⟩ := h
    refine ⟨_, (pss_cons (ps_if (PW.pt (pw_or (pt_not (pt_val (pe_callB (call_isiK K) (by rfl) T.b_isinstance bt_isinstance (pa_cons (pv 0) (pa_cons (pe_bty T.b_tuple bt_tuple) pa_nil))))) (pw_or1 (pt_cmpR op_ne (pe_callB (call_lenK K) (by rfl) T.b_len bt_len (pa_cons (pv 0) pa_nil)) pe_int (nomark _))))) (pss_one (ps_ret pe_bl)) pss_nil)
      (pss_cons (ps_asg (pv 0) (pg_tupK (n := 3) K rfl (pgs_cons (pg_name (i := 1) sc_has_web_shape.nd rfl (by first | exact .inl rfl | exact .inr rfl)) (pgs_cons (pg_name (i := 2) sc_has_web_shape.nd rfl (by first | exact .inl rfl | exact .inr rfl)) (pgs_cons (pg_name (i := 3) sc_has_web_shape.nd rfl (by first | exact .inl rfl | exact .inr rfl)) pgs_nil)))))
      (pss_cons (ps_if (PW.pt (pw_or (pt_not (pt_val (pe_callD D_is_integer (hr.mono (by decide)) hq pass0 (pa_cons (pv 1) pa_nil)))) (pw_or1 (pt_not (pt_chain op_le op_le pe_int (pv 1) (pe_globI T.c_MOST_QUANTITIES)))))) (pss_one (ps_ret pe_bl)) pss_nil)
      (pss_one (ps_ret (pe_and (pe_callD D_are_ascending_tuples (hr.mono (by decide)) hq pass0 (pa_cons (pv 2) (pa_cons (pv 1) (pa_cons (pv 1) pa_nil)))) (pe_one (pe_callD D_are_nudges (hr.mono (by decide)) hq pass0 (pa_cons (pv 3) (pa_cons (pv 1) pa_nil)))))))))), ?_⟩
    refine ⟨_, rfl, _, _, _, _, _, rfl, .ty _, hd.ty, isa_tuple d, _, rfl, ?_⟩
    cases d with
    | tuple ds =>
      obtain ⟨a, xs, rfl, hS0, hA⟩ := hd
      have hS : SqT K _ a xs := .inl (.inl hS0)
      have hl := hA.len
      refine ⟨_, rfl, a, _, rfl, .inr hS, rfl, _, rfl, ?_⟩
      refine ite2 (fun h1 => ?_) (fun h1 => ?_)
      · have e : webB (.tuple ds) = false := by
          unfold webB
          split
          · rename_i heq
            cases heq
            rw [← hl] at h1
            simp at h1
          · rfl
        rw [e] at q
        exact q _ Ex.rfl
      · have h2 : ds.length = 3 := by
          simp at h1
          omega
        obtain ⟨d1, d2, d3, rfl⟩ : ∃ d1 d2 d3, ds = [d1, d2, d3] := by
          match ds, h2 with
          | [d1, d2, d3], _ => exact ⟨d1, d2, d3, rfl⟩
        obtain ⟨x1, r1, rfl, g1, x2, r2, rfl, g2, x3, r3, rfl, g3, rfl⟩ := hA
        refine ⟨_, rfl, a, _, rfl, hS, rfl, _, _, rfl, _, _, rfl, _, _, rfl, rfl, ?_⟩
        refine ⟨_, rfl, _, _, rfl, g1, _, rfl, ?_⟩
        cases d1 with
        | int n =>
          obtain rfl := g1
          refine ⟨_, rfl, _, _, rfl, rfl, _, rfl, ?_⟩
          refine ite2 (fun h3 => ?_) (fun h3 => ?_)
          · refine ⟨_, _, rfl, rfl, _, rfl, ?_⟩
            refine ite2 (fun h4 => ?_) (fun h4 => ?_)
            · have e : webB (.tuple [.int n, d2, d3]) = false := by
                have h5 : decide (n ≤ 20) = false := by simpa using h4
                simp only [webB, h5, Bool.and_false, Bool.false_and]
              rw [e] at q
              exact q _ Ex.rfl
            · have e : webB (.tuple [.int n, d2, d3]) = (tuplesB d2 n n && nudgesB d3 n) := by
                have h5 : decide (n ≤ 20) = true := by simpa using h4
                simp only [webB, h5, h3, Bool.true_and]
              rw [e] at q
              refine ⟨_, rfl, _, rfl, _, rfl, _, _, _, _, rfl, g2, fun H1 e1 => ⟨_, rfl, ?_⟩⟩
              refine ite2 (fun h6 => ?_) (fun h6 => ?_)
              · refine ⟨_, rfl, _, rfl, _, _, _, rfl, g3.up e1, fun H2 e2 => ?_⟩
                rw [h6, Bool.true_and] at q
                exact q _ (e1.tr e2)
              · rw [Bool.not_eq_true] at h6
                rw [h6, Bool.false_and] at q
                exact q _ e1
          · have e : webB (.tuple [.int n, d2, d3]) = false := by
              rw [Bool.not_eq_true] at h3
              simp only [webB, h3, Bool.false_and]
            rw [e] at q
            exact ⟨_, rfl, q _ Ex.rfl⟩
        | _ => exact q _ Ex.rfl
    | _ => exact q _ Ex.rfl
end

/-! check_web: slots 0 web -/
abbrev s_check_web : Stmt := topS 22
abbrev N_check_web : List Str := ["web"]
abbrev P_check_web : List Str := ["web"]
theorem sc_check_web : FnScope N_check_web P_check_web (defScope s_check_web) := ⟨rfl, rfl, rfl, by decide +kernel, rfl, by decide +kernel, by decide +kernel⟩
/-- of a right value: nothing is raised -/
def sp_check_web (K : PySem.W.Frag) : Sp := fun vs H Q _ => ∃ v d, vs = [v] ∧ Da K H d v ∧ webB d = true ∧ ∀ H', Ex H H' → Q .non H'
section
variable {P : Program} {w : World} {K : PySem.W.Frag} {mg : Str → Option Value} {base : Heap}
theorem ok_check_web {f : Addr} {fd : FuncData} (T : Txt K mg) (F : Fun K "check_web" "check_web" s_check_web f fd)
    (D_has_web_shape : DefOk P w K mg base CX0 6 "has_web_shape" P_has_web_shape (sp_has_web_shape K)) :
    FnG P w K mg base CX0 7 f fd P_check_web (sp_check_web K) := by
  refine okG0 F sc_check_web (fun vs H Q E h => ?_) (fun cdv A outer s H vs Q E hr hq h => ?_)
  · obtain ⟨v, d, rfl, _⟩ := h
    rfl
  · obtain ⟨v, d, rfl, hd, hw, q⟩ := h
    refine ⟨_, (pss_one (ps_if (pt_not (pt_val (pe_callD D_has_web_shape (hr.mono (by decide)) hq pass0 (pa_cons (pv 0) pa_nil)))) (pss_one ps_never) pss_nil)), ?_⟩
    refine ⟨_, rfl, _, _, rfl, hd, fun H1 e1 => ⟨_, rfl, ?_⟩⟩
    rw [hw]
    exact q _ e1
end

end K43
namespace K43
open PySem PySem.Spec PyProof.Rows L2 Nw
/-! check_quantity: slots 0 web, 1 quantity -/
abbrev s_check_quantity : Stmt := topS 23
abbrev N_check_quantity : List Str := ["web", "quantity"]
abbrev P_check_quantity : List Str := ["web", "quantity"]
theorem sc_check_quantity : FnScope N_check_quantity P_check_quantity (defScope s_check_quantity) := ⟨rfl, rfl, rfl, by decide +kernel, rfl, by decide +kernel, by decide +kernel⟩
def sp_check_quantity (K : PySem.W.Frag) : Sp := fun vs H Q _ => ∃ v u s, vs = [v, .int s] ∧ Da K H (Wb.d u) v ∧ (0 ≤ s ∧ s < u.n) ∧ Q .non H
section
variable {P : Program} {w : World} {K : PySem.W.Frag} {mg : Str → Option Value} {base : Heap}
theorem ok_check_quantity {f : Addr} {fd : FuncData} (T : Txt K mg) (F : Fun K "check_quantity" "check_quantity" s_check_quantity f fd)
    (D_is_number_below : DefOk P w K mg base CX0 2 "is_number_below" P_is_number_below (sp_is_number_below K)) :
    FnG P w K mg base CX0 3 f fd P_check_quantity (sp_check_quantity K) := by
  refine okG0 F sc_check_quantity (fun vs H Q E h => ?_) (fun cdv A outer s H vs Q E hr hq h => ?_)
  · obtain ⟨v, u, s, rfl, _⟩ := h
    rfl
  · obtain ⟨v, u, z, rfl, hd, hs, q⟩ := h
    obtain ⟨t, x2, x3, rfl, hS, g2, g3⟩ := Wb.at hd
    refine ⟨_, (pss_one (ps_if (pt_not (pt_val (pe_callD D_is_number_below (hr.mono (by decide)) hq pass0 (pa_cons (pv 1) (pa_cons (pe_ix (ix_seqK K) (pv 0) pe_int (fun _ _ => rfl)) pa_nil))))) (pss_one ps_never) pss_nil)), ?_⟩
    refine ⟨_, rfl, _, rfl, .inr (.inl ⟨t, _, 0, _, rfl, rfl, hS, rfl, ?_⟩)⟩
    refine ⟨.int z, .int z, _, rfl, rfl, _, rfl, ?_⟩
    have e : numB (.int z) u.n = true := by simp [numB, hs.1, hs.2]
    rw [e]
    exact q
end

/-! check_targets: slots 0 web, 1 targets -/
abbrev s_check_targets : Stmt := topS 24
abbrev N_check_targets : List Str := ["web", "targets"]
abbrev P_check_targets : List Str := ["web", "targets"]
theorem sc_check_targets : FnScope N_check_targets P_check_targets (defScope s_check_targets) := ⟨rfl, rfl, rfl, by decide +kernel, rfl, by decide +kernel, by decide +kernel⟩
def sp_check_targets (K : PySem.W.Frag) : Sp := fun vs H Q _ => ∃ v u a r, vs = [v, a] ∧ Da K H (Wb.d u) v ∧ Da K H (dInts r) a ∧ (r ≠ [] ∧ (∀ t ∈ r, 0 ≤ t ∧ t < u.n) ∧ ascB ltIn r = true) ∧ ∀ H', Ex H H' → Q .non H'
section
variable {P : Program} {w : World} {K : PySem.W.Frag} {mg : Str → Option Value} {base : Heap}
theorem ok_check_targets {f : Addr} {fd : FuncData} (T : Txt K mg) (F : Fun K "check_targets" "check_targets" s_check_targets f fd)
    (D_are_targets : DefOk P w K mg base CX0 4 "are_targets" P_are_targets (sp_are_targets K)) :
    FnG P w K mg base CX0 5 f fd P_check_targets (sp_check_targets K) := by
  refine okG0 F sc_check_targets (fun vs H Q E h => ?_) (fun cdv A outer s H vs Q E hr hq h => ?_)
  · obtain ⟨v, u, a, r, rfl, _⟩ := h
    rfl
  · obtain ⟨v, u, a, r, rfl, hd, ha, ho, q⟩ := h
    obtain ⟨t, x2, x3, rfl, hS, _, _⟩ := Wb.at hd
    refine ⟨_, (pss_one (ps_if (pt_not (pt_val (pe_callD D_are_targets (hr.mono (by decide)) hq pass0 (pa_cons (pv 1) (pa_cons (pe_ix (ix_seqK K) (pv 0) pe_int (fun _ _ => rfl)) pa_nil))))) (pss_one ps_never) pss_nil)), ?_⟩
    refine ⟨_, rfl, _, rfl, .inr (.inl ⟨t, _, 0, _, rfl, rfl, hS, rfl, ?_⟩)⟩
    refine ⟨a, _, u.n, rfl, ha, fun H1 e1 => ?_⟩
    rw [targetsB_of ho.1 ho.2.1 ho.2.2]
    exact ⟨true, rfl, ite2 (fun h => Bool.noConfusion h) (fun _ => q _ e1)⟩
end

/-! check_nudge: slots 0 web, 1 nudge -/
abbrev s_check_nudge : Stmt := topS 25
abbrev N_check_nudge : List Str := ["web", "nudge"]
abbrev P_check_nudge : List Str := ["web", "nudge"]
theorem sc_check_nudge : FnScope N_check_nudge P_check_nudge (defScope s_check_nudge) := ⟨rfl, rfl, rfl, by decide +kernel, rfl, by decide +kernel, by decide +kernel⟩
def sp_check_nudge (K : PySem.W.Frag) : Sp := fun vs H Q _ => ∃ v u s, vs = [v, .int s] ∧ Da K H (Wb.d u) v ∧ (0 ≤ s ∧ s < (u.ns.length : Int)) ∧ Q .non H
section
variable {P : Program} {w : World} {K : PySem.W.Frag} {mg : Str → Option Value} {base : Heap}
theorem ok_check_nudge {f : Addr} {fd : FuncData} (T : Txt K mg) (F : Fun K "check_nudge" "check_nudge" s_check_nudge f fd)
    (D_is_number_below : DefOk P w K mg base CX0 2 "is_number_below" P_is_number_below (sp_is_number_below K)) :
    FnG P w K mg base CX0 3 f fd P_check_nudge (sp_check_nudge K) := by
  refine okG0 F sc_check_nudge (fun vs H Q E h => ?_) (fun cdv A outer s H vs Q E hr hq h => ?_)
  · obtain ⟨v, u, s, rfl, _⟩ := h
    rfl
  · obtain ⟨v, u, z, rfl, hd, hs, q⟩ := h
    obtain ⟨t, x2, x3, rfl, hS, g2, g3⟩ := Wb.at hd
    obtain ⟨a, xs, rfl, hL0, hA, hz⟩ := g3
    have hl := hA.len
    rw [List.length_map] at hl
    refine ⟨_, (pss_one (ps_if (pt_not (pt_val (pe_callD D_is_number_below (hr.mono (by decide)) hq pass0 (pa_cons (pv 1) (pa_cons (pe_callB (call_lenK K) (by rfl) T.b_len bt_len (pa_cons (pe_ix (ix_seqK K) (pv 0) pe_int (fun _ _ => rfl)) pa_nil)) pa_nil))))) (pss_one ps_never) pss_nil)), ?_⟩
    refine ⟨_, rfl, _, rfl, .inr (.inl ⟨t, _, 2, _, rfl, rfl, hS, rfl, ?_⟩)⟩
    refine ⟨a, _, rfl, .inl (.inl (.inl hL0)), ?_⟩
    refine ⟨.int z, .int z, _, rfl, rfl, ?_⟩
    have e : numB (.int z) (xs.length : Int) = true := by
      rw [← hl]
      simp [numB, hs.1, hs.2]
    rw [e]
    exact ⟨true, rfl, ite2 (fun h => Bool.noConfusion h) (fun _ => q)⟩
end

/-! copied_nudges: slots 0 nudges, 1 nudge -/
abbrev s_copied_nudges : Stmt := topS 27
abbrev N_copied_nudges : List Str := ["nudges", "nudge"]
abbrev P_copied_nudges : List Str := ["nudges"]
theorem sc_copied_nudges : FnScope N_copied_nudges P_copied_nudges (defScope s_copied_nudges) := ⟨rfl, rfl, rfl, by decide +kernel, rfl, by decide +kernel, by decide +kernel⟩
/-- rows copied -/
def sp_copied_nudges (K : PySem.W.Frag) : Sp := fun vs H Q _ => ∃ v ns, vs = [v] ∧ Da K H (dRows ns) v ∧
  ∀ L bs H', NewR H H' ns L bs → Q (.ref L) H'
section
variable {P : Program} {w : World} {K : PySem.W.Frag} {mg : Str → Option Value} {base : Heap}
theorem ok_copied_nudges {f : Addr} {fd : FuncData} (T : Txt K mg) (F : Fun K "copied_nudges" "copied_nudges" s_copied_nudges f fd) :
    FnG P w K mg base CX0 1 f fd P_copied_nudges (sp_copied_nudges K) := by
  refine okG0 F sc_copied_nudges (fun vs H Q E h => ?_) (fun cdv A outer s H vs Q E hr hq h => ?_)
  · obtain ⟨v, ns, rfl, _⟩ := h
    rfl
  · obtain ⟨v, ns, rfl, ⟨a, xs, rfl, hL, hA, hz⟩, q⟩ := h
    have hl := hA.len
    rw [List.length_map] at hl hz
    refine ⟨_, (pss_one (ps_ret (pe_lc (own := [("nudge", 1)]) rfl sc_copied_nudges.nd (pi_listK K (pv 0)) (blkOk_by (N := N_copied_nudges) (sc := defScope s_copied_nudges) (by decide +kernel)) (fun _ _ _ _ _ => (pg_name (i := 1) sc_copied_nudges.nd rfl (by first | exact .inl rfl | exact .inr rfl))) (fun _ _ _ _ _ => pts_nil) (fun _ _ _ _ _ => (pe_callTy (call_listK K) (by rfl) T.b_list bt_list (pa_cons (pv 1) pa_nil)))))), ?_⟩
    refine ⟨_, rfl, a, rfl, ⟨_, .inl (.inl hL)⟩, fun D hD => ?_⟩
    refine lc_by xs.length (fun i H' => Ex H H' ∧ ∃ bs : List Addr, H' D = some (.lst (bs.map V.ref)) ∧ bs.length = i ∧ bs.Nodup ∧
        ∀ (k : Nat) (b : Addr), bs[k]? = some b → (H b = none ∧ b ≠ D) ∧ ∃ r, ns[k]? = some r ∧ H' b = some (.lst (r.map V.int)))
      ⟨Ex.nw hD, [], upd_same, rfl, List.nodup_nil, fun k b hb => by simp at hb⟩ (fun i H' hi p => itl_go (.inl (.inl hL)) p.1 hi) (fun H' p => itl_stop (.inl (.inl hL)) p.1) ?_ ?_
    · rintro i H1 x H2 hi ⟨e1, bs, hD1, hlen, nd, hall⟩ y
      obtain ⟨rfl, hx⟩ := itl_yld y (.inl (.inl hL)) e1
      obtain ⟨dr, hdr, hxd⟩ := hA.at' hx
      obtain ⟨r, hrr, rfl⟩ := map_at hdr
      obtain ⟨ar, zs, rfl, hLr, hAr, _⟩ := hxd
      obtain rfl := DaAll.ints.mp hAr
      refine ⟨rfl, _, rfl, ar, _, rfl, .inl (.inl (.inl (e1 _ _ hLr))), fun l hl' => ?_⟩
      have lD : l ≠ D := fun e => by
        rw [e, hD1] at hl'
        cases hl'
      refine ⟨bs.map V.ref, by rw [upd_ne lD.symm]; exact hD1, mil' (by rw [List.length_map]; omega), (e1.tr (Ex.nw hl')).wr hD, bs ++ [l], ?_, ?_, ?_, ?_⟩
      · rw [upd_same, List.map_append]
        rfl
      · rw [List.length_append, hlen]
        rfl
      · refine nodup_snoc nd fun hm => ?_
        obtain ⟨k, hk⟩ := List.mem_iff_getElem?.mp hm
        obtain ⟨_, r', _, h3⟩ := hall k l hk
        rw [h3] at hl'
        cases hl'
      · intro k b hb
        by_cases hk : k < bs.length
        · rw [List.getElem?_append_left hk] at hb
          obtain ⟨n1, r', n2, n3⟩ := hall k b hb
          refine ⟨n1, r', n2, ?_⟩
          rw [upd_ne n1.2, upd_ne (ne_of_none n3 hl')]
          exact n3
        · rw [List.getElem?_append_right (by omega)] at hb
          have hk2 : k - bs.length = 0 := by
            cases hq' : k - bs.length with
            | zero => rfl
            | succ z =>
              rw [hq'] at hb
              simp at hb
          rw [hk2] at hb
          cases hb
          have ek : k = i := by omega
          subst ek
          exact ⟨⟨e1.fr hl', lD⟩, r, hrr, by rw [upd_ne lD, upd_same]⟩
    · rintro H1 ⟨e1, bs, hD1, hlen, nd, hall⟩
      exact q D bs H1 ⟨e1, hD, hD1, by omega, hall, nd⟩
end

end K43
namespace K43
open PySem PySem.Spec PyProof.Rows L2 Nw
/-! without_nudge: slots 0 web, 1 nudge, 2 count, 3 pairs, 4 nudges -/
abbrev s_without_nudge : Stmt := topS 31
abbrev N_without_nudge : List Str := ["web", "nudge", "count", "pairs", "nudges"]
abbrev P_without_nudge : List Str := ["web", "nudge"]
theorem sc_without_nudge : FnScope N_without_nudge P_without_nudge (defScope s_without_nudge) := ⟨rfl, rfl, rfl, by decide +kernel, rfl, by decide +kernel, by decide +kernel⟩
abbrev lessN (u : Wb) (k : Nat) : Wb := ⟨u.n, u.ps, u.ns.take k ++ u.ns.drop (k + 1)⟩
def sp_without_nudge (K : PySem.W.Frag) : Sp := fun vs H Q _ => ∃ v u s, vs = [v, .int s] ∧ Da K H (Wb.d u) v ∧ u.Ok ∧ (0 ≤ s ∧ s < (u.ns.length : Int)) ∧
  ∀ T L1 L2 xs bs H', NewW K H H' (lessN u s.toNat) T L1 L2 xs bs → Q (.ref T) H'
section
variable {P : Program} {w : World} {K : PySem.W.Frag} {mg : Str → Option Value} {base : Heap}
theorem ok_without_nudge {f : Addr} {fd : FuncData} (T : Txt K mg) (F : Fun K "without_nudge" "without_nudge" s_without_nudge f fd)
    (D_check_web : DefOk P w K mg base CX0 7 "check_web" P_check_web (sp_check_web K))
    (D_check_nudge : DefOk P w K mg base CX0 3 "check_nudge" P_check_nudge (sp_check_nudge K))
    (D_copied_nudges : DefOk P w K mg base CX0 1 "copied_nudges" P_copied_nudges (sp_copied_nudges K)) :
    FnG P w K mg base CX0 8 f fd P_without_nudge (sp_without_nudge K) := by
  refine okG0 F sc_without_nudge (fun vs H Q E h => ?_) (fun cdv A outer s H vs Q E hr hq h => ?_)
  · obtain ⟨v, u, z, rfl, _⟩ := h
    rfl
  · obtain ⟨v, u, z, rfl, hd, hu, hz, q⟩ := h
    have b3 := hu.few
    refine ⟨_, (pss_cons (ps_expr (pe_callD D_check_web (hr.mono (by decide)) hq pass0 (pa_cons (pv 0) pa_nil)))
      (pss_cons (ps_expr (pe_callD D_check_nudge (hr.mono (by decide)) hq pass0 (pa_cons (pv 0) (pa_cons (pv 1) pa_nil))))
      (pss_cons (ps_asg (pv 0) (pg_tupK (n := 3) K rfl (pgs_cons (pg_name (i := 2) sc_without_nudge.nd rfl (by first | exact .inl rfl | exact .inr rfl)) (pgs_cons (pg_name (i := 3) sc_without_nudge.nd rfl (by first | exact .inl rfl | exact .inr rfl)) (pgs_cons (pg_name (i := 4) sc_without_nudge.nd rfl (by first | exact .inl rfl | exact .inr rfl)) pgs_nil)))))
      (pss_one (ps_ret (pe_tup (pa_cons (pv 2) (pa_cons (pe_callTy (call_listK K) (by rfl) T.b_list bt_list (pa_cons (pv 3) pa_nil)) (pa_cons (pe_callD D_copied_nudges (hr.mono (by decide)) hq pass0 (pa_cons (pe_op (op_catS K) (pe_slice (sl_listK K) (pv 4) po_none (po_some (pv 1))) (pe_slice (sl_listK K) (pv 4) (po_some (pe_op op_add (pv 1) pe_int)) po_none)) pa_nil)) pa_nil))))))))), ?_⟩
    refine ⟨_, rfl, _, _, rfl, hd, hu.web, fun H1 e1 => ?_⟩
    refine ⟨_, rfl, _, rfl, _, u, z, rfl, hd.up e1, hz, ?_⟩
    obtain ⟨t, x2, x3, rfl, hS, g2, g3⟩ := Wb.at (hd.up e1)
    obtain ⟨a2, ys, rfl, hL2, hA2, _⟩ := g2
    obtain ⟨a, xs, rfl, hL, hA, _⟩ := g3
    have hl := hA.len
    rw [List.length_map] at hl
    refine ⟨_, rfl, t, _, rfl, hS, rfl, _, _, rfl, _, _, rfl, _, _, rfl, rfl, ?_⟩
    refine ⟨_, rfl, _, rfl, a2, _, rfl, .inl (.inl (.inl hL2)), fun b hb => ?_⟩
    have e2 : Ex H1 (upd H1 b (.lst ys)) := Ex.nw hb
    have f2 : (upd H1 b (.lst ys)) b = some (.lst ys) := upd_same
    generalize upd H1 b (.lst ys) = H2 at e2 f2
    have hk : z = ((z.toNat : Nat) : Int) := (Int.toNat_of_nonneg hz.1).symm
    generalize z.toNat = k at hk q
    subst hk
    have hX : SqL K H2 a xs := .inl (.inl (e2 _ _ hL))
    refine ⟨_, rfl, _, rfl, _, rfl, a, xs, rfl, hX, fun c1 hc1 => ?_⟩
    rw [cut_take xs k (by omega)]
    have e3 : Ex H2 (upd H2 c1 (.lst (xs.take k))) := Ex.nw hc1
    have f3 : (upd H2 c1 (.lst (xs.take k))) c1 = some (.lst (xs.take k)) := upd_same
    generalize upd H2 c1 (.lst (xs.take k)) = H3 at e3 f3
    refine ⟨_, rfl, _, rfl, _, _, rfl, rfl, _, rfl, a, xs, rfl, e3.l hX, fun c2 hc2 => ?_⟩
    rw [show ((k : Int) + 1) = ((k + 1 : Nat) : Int) by omega, cut_drop xs (k + 1) (by omega)]
    have e4 : Ex H3 (upd H3 c2 (.lst (xs.drop (k + 1)))) := Ex.nw hc2
    have f4 : (upd H3 c2 (.lst (xs.drop (k + 1)))) c2 = some (.lst (xs.drop (k + 1))) := upd_same
    generalize upd H3 c2 (.lst (xs.drop (k + 1))) = H4 at e4 f4
    refine ⟨c1, c2, _, _, rfl, rfl, .inl (.inl (e4 _ _ f3)), .inl (.inl f4), by rw [List.length_take, List.length_drop]; omega, fun c3 hc3 => ?_⟩
    have e5 : Ex H4 (upd H4 c3 (.lst (xs.take k ++ xs.drop (k + 1)))) := Ex.nw hc3
    have f5 : (upd H4 c3 (.lst (xs.take k ++ xs.drop (k + 1)))) c3 = some (.lst (xs.take k ++ xs.drop (k + 1))) := upd_same
    generalize upd H4 c3 (.lst (xs.take k ++ xs.drop (k + 1))) = H5 at e5 f5
    have e25 := e3.tr (e4.tr e5)
    have hA5 := hA.up (e2.tr e25)
    have dn : Da K H5 (dRows (u.ns.take k ++ u.ns.drop (k + 1))) (.ref c3) := by
      refine ⟨c3, _, rfl, f5, ?_, by rw [List.length_map, List.length_append, List.length_take, List.length_drop]; omega⟩
      rw [List.map_append, List.map_take, List.map_drop]
      exact (hA5.take k).app (hA5.drop (k + 1))
    refine ⟨_, _, rfl, dn, fun L bs H6 R => ?_⟩
    refine ⟨by show 3 ≤ sizeLine; decide, fun Tt hT => ?_⟩
    have e7 : Ex H6 (upd H6 Tt (.tup [.int u.n, .ref b, .ref L])) := Ex.nw hT
    have f7 : (upd H6 Tt (.tup [.int u.n, .ref b, .ref L])) Tt = some (.tup [.int u.n, .ref b, .ref L]) := upd_same
    generalize upd H6 Tt (.tup [.int u.n, .ref b, .ref L]) = H7 at e7 f7
    have e15 := e1.tr (e2.tr e25)
    have f6 := e25 _ _ f2
    refine q Tt b L ys bs H7 ⟨(e15.tr R.ex).tr e7, f7, e1.fr hb, e7 _ _ (R.ex _ _ f6), hA2.up ((e2.tr e25).tr (R.ex.tr e7)), e15.fr R.new, e7 _ _ R.at_, R.len, ?_, R.nd, ?_⟩
    · intro j b' hb'
      obtain ⟨n, r, h1, h2⟩ := R.row j b' hb'
      refine ⟨⟨e15.fr n.1, n.2, fun e => ?_⟩, r, h1, e7 _ _ h2⟩
      rw [← e, n.1] at f6
      cases f6
    · intro e
      rw [e, R.new] at f6
      cases f6
end

end K43
namespace K43
open PySem PySem.Spec PyProof.Rows L2 Nw
/-! with_nudge: slots 0 web, 1 targets, 2 count, 3 pairs, 4 nudges -/
abbrev s_with_nudge : Stmt := topS 30
abbrev N_with_nudge : List Str := ["web", "targets", "count", "pairs", "nudges"]
abbrev P_with_nudge : List Str := ["web", "targets"]
theorem sc_with_nudge : FnScope N_with_nudge P_with_nudge (defScope s_with_nudge) := ⟨rfl, rfl, rfl, by decide +kernel, rfl, by decide +kernel, by decide +kernel⟩
abbrev moreN (u : Wb) (r : List Int) : Wb := ⟨u.n, u.ps, u.ns ++ [r]⟩
def sp_with_nudge (K : PySem.W.Frag) : Sp := fun vs H Q E => ∃ v a u r, vs = [v, a] ∧ Da K H (Wb.d u) v ∧ u.Ok ∧ Da K H (dInts r) a ∧ (r ≠ [] ∧ (∀ t ∈ r, 0 ≤ t ∧ t < u.n) ∧ ascB ltIn r = true) ∧
  (u.ns.length = 8 → ∀ C d H', BigC K C → Ex H H' → H' d = some (.xd [(("limit" : Str), .int 8)]) → E (.ref C) (some d) H') ∧
  (u.ns.length < 8 → ∀ T L1 L2 xs bs H', NewW K H H' (moreN u r) T L1 L2 xs bs → Q (.ref T) H')
section
variable {P : Program} {w : World} {K : PySem.W.Frag} {mg : Str → Option Value} {base : Heap}
theorem ok_with_nudge {f : Addr} {fd : FuncData} (T : Txt K mg) (F : Fun K "with_nudge" "with_nudge" s_with_nudge f fd)
    (D_check_web : DefOk P w K mg base CX0 7 "check_web" P_check_web (sp_check_web K))
    (D_check_targets : DefOk P w K mg base CX0 5 "check_targets" P_check_targets (sp_check_targets K))
    (D_copied_nudges : DefOk P w K mg base CX0 1 "copied_nudges" P_copied_nudges (sp_copied_nudges K)) :
    FnG P w K mg base (L2.CX P w) 8 f fd P_with_nudge (sp_with_nudge K) := by
  obtain ⟨C, fI, big, nC⟩ := T.big
  refine okG F sc_with_nudge (fun vs H Q E h => ?_) (fun cdv A outer s H vs Q E hr hq h => ?_)
  · obtain ⟨v, a, u, r, rfl, _⟩ := h
    rfl
  · obtain ⟨v, a, u, r, rfl, hd, hu, hda, hr0, q8, q⟩ := h
    have b3 := hu.few
    refine ⟨_, (pss_cons (ps_expr (pe_callD D_check_web (hr.mono (by decide)) hq pass0 (pa_cons (pv 0) pa_nil)))
      (pss_cons (ps_expr (pe_callD D_check_targets (hr.mono (by decide)) hq pass0 (pa_cons (pv 0) (pa_cons (pv 1) pa_nil))))
      (pss_cons (ps_asg (pv 0) (pg_tupK (n := 3) K rfl (pgs_cons (pg_name (i := 2) sc_with_nudge.nd rfl (by first | exact .inl rfl | exact .inr rfl)) (pgs_cons (pg_name (i := 3) sc_with_nudge.nd rfl (by first | exact .inl rfl | exact .inr rfl)) (pgs_cons (pg_name (i := 4) sc_with_nudge.nd rfl (by first | exact .inl rfl | exact .inr rfl)) pgs_nil)))))
      (pss_cons (ps_if (pt_cmpR op_eq (pe_callB (call_lenK K) (by rfl) T.b_len bt_len (pa_cons (pv 4) pa_nil)) (pe_globI T.c_MOST_NUDGES) (nomark _)) (pss_one (ps_raiseBig rfl big hr (takes_of rfl rfl rfl rfl) (pa_cons (pe_globI T.c_MOST_NUDGES) pa_nil))) pss_nil)
      (PSs.nox (pss_one (ps_ret (pe_tup (pa_cons (pv 2) (pa_cons (pe_callTy (call_listK K) (by rfl) T.b_list bt_list (pa_cons (pv 3) pa_nil)) (pa_cons (pe_callD D_copied_nudges (hr.mono (by decide)) hq pass0 (pa_cons (pe_op (op_catS K) (pv 4) (pe_lst (pa_cons (pv 1) pa_nil))) pa_nil)) pa_nil))))))))))), ?_⟩
    refine ⟨_, rfl, _, _, rfl, hd, hu.web, fun H1 e1 => ?_⟩
    refine ⟨_, rfl, _, rfl, _, u, _, r, rfl, hd.up e1, hda.up e1, hr0, fun H2 e2 => ?_⟩
    have e12 := e1.tr e2
    obtain ⟨t, x2, x3, rfl, hS, g2, g3⟩ := Wb.at (hd.up e12)
    obtain ⟨ar, zr, rfl, hLr, hAr, hzr⟩ := hda.up e12
    obtain rfl := DaAll.ints.mp hAr
    obtain ⟨a2, ys, rfl, hL2, hA2, _⟩ := g2
    obtain ⟨a, xs, rfl, hL, hA, _⟩ := g3
    have hl := hA.len
    rw [List.length_map] at hl hzr
    refine ⟨_, rfl, t, _, rfl, hS, rfl, _, _, rfl, _, _, rfl, _, _, rfl, rfl, ?_⟩
    refine ⟨_, rfl, a, _, rfl, .inl (.inl (.inl hL)), rfl, _, rfl, ite2 (fun h8 => ?_) (fun h8 => ?_)⟩
    · refine ⟨_, rfl, fun d hdn => ?_⟩
      exact q8 (by
        have : (xs.length : Int) = 8 := by simpa using h8
        omega) C d _ nC (e12.tr (Ex.nw hdn)) upd_same
    have h8 : u.ns.length < 8 := by
      have : ¬ (xs.length : Int) = 8 := by simpa using h8
      omega
    refine ⟨_, rfl, _, rfl, a2, _, rfl, .inl (.inl (.inl hL2)), fun b hb => ?_⟩
    have e3 : Ex H2 (upd H2 b (.lst ys)) := Ex.nw hb
    have f3 : (upd H2 b (.lst ys)) b = some (.lst ys) := upd_same
    generalize upd H2 b (.lst ys) = H3 at e3 f3
    refine ⟨_, rfl, _, rfl, by show 1 ≤ sizeLine; decide, fun c1 hc1 => ?_⟩
    have e4 : Ex H3 (upd H3 c1 (.lst [.ref ar])) := Ex.nw hc1
    have f4 : (upd H3 c1 (.lst [.ref ar])) c1 = some (.lst [.ref ar]) := upd_same
    generalize upd H3 c1 (.lst [.ref ar]) = H4 at e4 f4
    refine ⟨a, c1, _, _, rfl, rfl, .inl (.inl ((e3.tr e4) _ _ hL)), .inl (.inl f4), by show xs.length + 1 ≤ 1000000; omega, fun c3 hc3 => ?_⟩
    have e5 : Ex H4 (upd H4 c3 (.lst (xs ++ [.ref ar]))) := Ex.nw hc3
    have f5 : (upd H4 c3 (.lst (xs ++ [.ref ar]))) c3 = some (.lst (xs ++ [.ref ar])) := upd_same
    generalize upd H4 c3 (.lst (xs ++ [.ref ar])) = H5 at e5 f5
    have e35 := e4.tr e5
    have e25 := e3.tr e35
    have dn : Da K H5 (dRows (u.ns ++ [r])) (.ref c3) := by
      refine ⟨c3, _, rfl, f5, ?_, by rw [List.length_map, List.length_append, List.length_singleton]; omega⟩
      rw [List.map_append]
      exact (hA.up e25).app ⟨_, _, rfl, dInts_of (e25 _ _ hLr) hzr, rfl⟩
    refine ⟨_, _, rfl, dn, fun L bs H6 R => ?_⟩
    refine ⟨by show 3 ≤ sizeLine; decide, fun Tt hT => ?_⟩
    have e7 : Ex H6 (upd H6 Tt (.tup [.int u.n, .ref b, .ref L])) := Ex.nw hT
    have f7 : (upd H6 Tt (.tup [.int u.n, .ref b, .ref L])) Tt = some (.tup [.int u.n, .ref b, .ref L]) := upd_same
    generalize upd H6 Tt (.tup [.int u.n, .ref b, .ref L]) = H7 at e7 f7
    have e05 := e12.tr e25
    have f6 := e35 _ _ f3
    refine q h8 Tt b L ys bs H7 ⟨(e05.tr R.ex).tr e7, f7, e12.fr hb, e7 _ _ (R.ex _ _ f6), hA2.up (e25.tr (R.ex.tr e7)), e05.fr R.new, e7 _ _ R.at_, R.len, ?_, R.nd, ?_⟩
    · intro j b' hb'
      obtain ⟨n, r, h1, h2⟩ := R.row j b' hb'
      refine ⟨⟨e05.fr n.1, n.2, fun e => ?_⟩, r, h1, e7 _ _ h2⟩
      rw [← e, n.1] at f6
      cases f6
    · intro e
      rw [e, R.new] at f6
      cases f6
end

end K43
namespace K43
open PySem PySem.Spec PyProof.Rows L2 Nw
/-! with_pair: slots 0 web, 1 quantity, 2 target, 3 count, 4 pairs, 5 nudges -/
abbrev s_with_pair : Stmt := topS 28
abbrev N_with_pair : List Str := ["web", "quantity", "target", "count", "pairs", "nudges"]
abbrev P_with_pair : List Str := ["web", "quantity", "target"]
theorem sc_with_pair : FnScope N_with_pair P_with_pair (defScope s_with_pair) := ⟨rfl, rfl, rfl, by decide +kernel, rfl, by decide +kernel, by decide +kernel⟩
def sp_with_pair (K : PySem.W.Frag) : Sp := fun vs H Q E => ∃ v u a b, vs = [v, .int a, .int b] ∧ Da K H (Wb.d u) v ∧ u.Ok ∧ (0 ≤ a ∧ a < u.n) ∧ (0 ≤ b ∧ b < u.n) ∧
  ((a, b) ∈ u.ps → ∀ C H', ErrOf K "LineThere" C → Ex H H' → E (.ref C) none H') ∧
  ((a, b) ∉ u.ps → ∀ w T L1 L2 xs bs H', NewW K H H' w T L1 L2 xs bs → w.Ok → PairW u w (fun p => p ∈ u.ps ∨ p = (a, b)) → Q (.ref T) H')
section
variable {P : Program} {w : World} {K : PySem.W.Frag} {mg : Str → Option Value} {base : Heap}
theorem ok_with_pair {f : Addr} {fd : FuncData} (T : Txt K mg) (F : Fun K "with_pair" "with_pair" s_with_pair f fd)
    (D_check_web : DefOk P w K mg base CX0 7 "check_web" P_check_web (sp_check_web K))
    (D_check_quantity : DefOk P w K mg base CX0 3 "check_quantity" P_check_quantity (sp_check_quantity K))
    (D_copied_nudges : DefOk P w K mg base CX0 1 "copied_nudges" P_copied_nudges (sp_copied_nudges K)) :
    FnG P w K mg base (L2.CX P w) 8 f fd P_with_pair (sp_with_pair K) := by
  obtain ⟨C, there⟩ := T.there
  refine okG F sc_with_pair (fun vs H Q E h => ?_) (fun cdv A outer s H vs Q E hr hq h => ?_)
  · obtain ⟨v, u, a, b, rfl, _⟩ := h
    rfl
  · obtain ⟨v, u, a, b, rfl, hd, hu, ha, hb, qE, q⟩ := h
    have b2 := hu.hi
    have b3 := hu.few
    have b4 := hu.len
    refine ⟨_, (pss_cons (ps_expr (pe_callD D_check_web (hr.mono (by decide)) hq pass0 (pa_cons (pv 0) pa_nil)))
      (pss_cons (ps_expr (pe_callD D_check_quantity (hr.mono (by decide)) hq pass0 (pa_cons (pv 0) (pa_cons (pv 1) pa_nil))))
      (pss_cons (ps_expr (pe_callD D_check_quantity (hr.mono (by decide)) hq pass0 (pa_cons (pv 0) (pa_cons (pv 2) pa_nil))))
      (pss_cons (ps_asg (pv 0) (pg_tupK (n := 3) K rfl (pgs_cons (pg_name (i := 3) sc_with_pair.nd rfl (by first | exact .inl rfl | exact .inr rfl)) (pgs_cons (pg_name (i := 4) sc_with_pair.nd rfl (by first | exact .inl rfl | exact .inr rfl)) (pgs_cons (pg_name (i := 5) sc_with_pair.nd rfl (by first | exact .inl rfl | exact .inr rfl)) pgs_nil)))))
      (pss_cons (ps_if (pt_cmpR (op_inDk K hr) (pe_tup (pa_cons (pv 1) (pa_cons (pv 2) pa_nil))) (pv 4) (by rfl)) (pss_one (ps_raise rfl (takes_of rfl rfl rfl rfl) (SkE.pmk_own1 PySem.F.excBase_ValueError there.xC there.gC there.kC (raises_own there.bC there.tC) (by rfl) (pe_joined (PJ.cons (pe_fmt (pv 1)) (PJ.cons pe_str (PJ.cons (pe_fmt (pv 2)) (PJ.cons pe_str PJ.nil)))))))) pss_nil)
      (PSs.nox (pss_one (ps_ret (pe_tup (pa_cons (pv 3) (pa_cons (pe_callB (cr_sortedPOk K) (by rfl) T.b_sorted bt_sorted (pa_cons (pe_op (op_catS K) (pv 4) (pe_lst (pa_cons (pe_tup (pa_cons (pv 1) (pa_cons (pv 2) pa_nil))) pa_nil))) pa_nil)) (pa_cons (pe_callD D_copied_nudges (hr.mono (by decide)) hq pass0 (pa_cons (pv 5) pa_nil)) pa_nil)))))))))))), ?_⟩
    refine ⟨_, rfl, _, _, rfl, hd, hu.web, fun H1 e1 => ?_⟩
    refine ⟨_, rfl, _, rfl, _, u, a, rfl, hd.up e1, ha, ?_⟩
    refine ⟨_, rfl, _, rfl, _, u, b, rfl, hd.up e1, hb, ?_⟩
    obtain ⟨t, x2, x3, rfl, hS, g2, g3⟩ := Wb.at (hd.up e1)
    obtain ⟨a2, ys, rfl, hL2, hA2, hz2⟩ := g2
    have hl2 := hA2.len
    rw [List.length_map] at hl2
    refine ⟨_, rfl, t, _, rfl, hS, rfl, _, _, rfl, _, _, rfl, _, _, rfl, rfl, ?_⟩
    refine ⟨_, rfl, _, rfl, by show 2 ≤ sizeLine; decide, fun t1 ht1 => ?_⟩
    have e2 : Ex H1 (upd H1 t1 (.tup [.int a, .int b])) := Ex.nw ht1
    have f2 : (upd H1 t1 (.tup [.int a, .int b])) t1 = some (.tup [.int a, .int b]) := upd_same
    generalize upd H1 t1 (.tup [.int a, .int b]) = H2 at e2 f2
    have dps : Da K H2 (dPairs u.ps) (.ref a2) := ⟨a2, ys, rfl, e2 _ _ hL2, hA2.up e2, hz2⟩
    have dp1 : Da K H2 (dPair (a, b)) (.ref t1) := dPair_of f2
    refine ⟨_, rfl, _, u.ps.map dPair, dp1.dPair, dps.dPairs, sh_dPair _, sh_dPairs _, _, rfl, ?_⟩
    rw [any_pair]
    refine ite2 (fun h1 => ?_) (fun h1 => ?_)
    · have hin : (a, b) ∈ u.ps := of_decide_eq_true h1
      obtain ⟨s1, s2⟩ := small_text ha.1 (by omega : a < 64)
      obtain ⟨s3, s4⟩ := small_text hb.1 (by omega : b < 64)
      have z1 : ∀ (x y : Str) (m n : Nat), x.length ≤ m → y.length ≤ n → m + n ≤ 1000 → (x ++ y).length ≤ sizeLine ∧ (x ++ y).length ≤ m + n := fun x y m n hx hy hmn => by
        rw [strLen_append]
        exact ⟨mil (by omega), by omega⟩
      have k1 := z1 Str.empty (toString a) 0 8 (by decide) s2 (by decide)
      have k2 := z1 _ (" acts on " : Str) 8 9 k1.2 (by decide) (by decide)
      have k3 := z1 _ (toString b) 17 8 k2.2 s4 (by decide)
      have k4 := z1 _ (" already" : Str) 25 8 k3.2 (by decide) (by decide)
      refine ⟨_, rfl, .inr ⟨a, rfl, s1, _, rfl, k1.1, ?_⟩⟩
      refine ⟨_, rfl, k2.1, ?_⟩
      refine ⟨_, rfl, .inr ⟨b, rfl, s3, _, rfl, k3.1, ?_⟩⟩
      refine ⟨_, rfl, k4.1, ?_⟩
      exact qE hin C _ there.nC (e1.tr e2)
    · have hin : (a, b) ∉ u.ps := by simpa using h1
      refine ⟨_, rfl, _, rfl, _, rfl, _, rfl, by show 2 ≤ sizeLine; decide, fun t2 ht2 => ?_⟩
      have e3 : Ex H2 (upd H2 t2 (.tup [.int a, .int b])) := Ex.nw ht2
      have f3 : (upd H2 t2 (.tup [.int a, .int b])) t2 = some (.tup [.int a, .int b]) := upd_same
      generalize upd H2 t2 (.tup [.int a, .int b]) = H3 at e3 f3
      refine ⟨by show 1 ≤ sizeLine; decide, fun l1 hl1 => ?_⟩
      have e4 : Ex H3 (upd H3 l1 (.lst [.ref t2])) := Ex.nw hl1
      have f4 : (upd H3 l1 (.lst [.ref t2])) l1 = some (.lst [.ref t2]) := upd_same
      generalize upd H3 l1 (.lst [.ref t2]) = H4 at e4 f4
      have e14 := e2.tr (e3.tr e4)
      refine ⟨a2, l1, _, _, rfl, rfl, .inl (.inl (e14 _ _ hL2)), .inl (.inl f4), by show ys.length + 1 ≤ 1000000; omega, fun l2 hl2' => ?_⟩
      have e5 : Ex H4 (upd H4 l2 (.lst (ys ++ [.ref t2]))) := Ex.nw hl2'
      have f5 : (upd H4 l2 (.lst (ys ++ [.ref t2]))) l2 = some (.lst (ys ++ [.ref t2])) := upd_same
      generalize upd H4 l2 (.lst (ys ++ [.ref t2])) = H5 at e5 f5
      have e15 := e14.tr e5
      have hAll : DaAll K H5 ((u.ps ++ [(a, b)]).map dPair) (ys ++ [.ref t2]) := by
        rw [List.map_append]
        exact (hA2.up e15).app ⟨_, _, rfl, dPair_of (p := (a, b)) (e5 _ _ (e4 _ _ f3)), rfl⟩
      have hnd : (u.ps ++ [(a, b)]).Nodup := nodup_snoc (nodup_asc hu.asc) hin
      obtain ⟨g1, g2⟩ := keys_of hAll
      refine ⟨l2, _, keyOf H5, rfl, .inl (.inl f5), g1, fun zs p3 s1 s2 hp3 => ?_⟩
      obtain ⟨M, m1, m2, m3, m4⟩ := sortedP hAll hnd s1 s2
      have e6 : Ex H5 (upd H5 p3 (.lst zs)) := Ex.nw hp3
      have f6 : (upd H5 p3 (.lst zs)) p3 = some (.lst zs) := upd_same
      generalize upd H5 p3 (.lst zs) = H6 at e6 f6
      have e16 := e15.tr e6
      refine ⟨_, rfl, x3, u.ns, rfl, g3.up e16, fun L bs H7 R => ?_⟩
      refine ⟨by show 3 ≤ sizeLine; decide, fun Tt hT => ?_⟩
      have e8 : Ex H7 (upd H7 Tt (.tup [.int u.n, .ref p3, .ref L])) := Ex.nw hT
      have f8 : (upd H7 Tt (.tup [.int u.n, .ref p3, .ref L])) Tt = some (.tup [.int u.n, .ref p3, .ref L]) := upd_same
      generalize upd H7 Tt (.tup [.int u.n, .ref p3, .ref L]) = H8 at e8 f8
      have pw : PairW u ⟨u.n, M, u.ns⟩ (fun p => p ∈ u.ps ∨ p = (a, b)) := ⟨rfl, rfl, fun p => by
        show p ∈ M ↔ _
        rw [m3, List.mem_append, List.mem_singleton]⟩
      have hok := pw.ok hu (fun p h => by
        rcases h with h | rfl
        · exact hu.ps p h
        · exact ⟨ha, hb⟩) m2
      have e06 := e1.tr e16
      refine q hin ⟨u.n, M, u.ns⟩ Tt p3 L zs bs H8 ⟨(e06.tr R.ex).tr e8, f8, (e1.tr e15).fr hp3, e8 _ _ (R.ex _ _ f6), m1.up (e6.tr (R.ex.tr e8)), e06.fr R.new, e8 _ _ R.at_, R.len, ?_, R.nd, ?_⟩ hok pw
      · intro j b' hb'
        obtain ⟨n, r, h1, h2⟩ := R.row j b' hb'
        refine ⟨⟨e06.fr n.1, n.2, fun e => ?_⟩, r, h1, e8 _ _ h2⟩
        rw [← e, n.1] at f6
        cases f6
      · intro e
        rw [e, R.new] at f6
        cases f6
end

end K43
namespace K43
open PySem PySem.Spec PyProof.Rows L2 Nw
/-! without_pair: slots 0 web, 1 quantity, 2 target, 3 count, 4 pairs, 5 nudges, 6 pair -/
abbrev s_without_pair : Stmt := topS 29
abbrev N_without_pair : List Str := ["web", "quantity", "target", "count", "pairs", "nudges", "pair"]
abbrev P_without_pair : List Str := ["web", "quantity", "target"]
theorem sc_without_pair : FnScope N_without_pair P_without_pair (defScope s_without_pair) := ⟨rfl, rfl, rfl, by decide +kernel, rfl, by decide +kernel, by decide +kernel⟩
def sp_without_pair (K : PySem.W.Frag) : Sp := fun vs H Q E => ∃ v u a b, vs = [v, .int a, .int b] ∧ Da K H (Wb.d u) v ∧ u.Ok ∧ (0 ≤ a ∧ a < u.n) ∧ (0 ≤ b ∧ b < u.n) ∧
  ((a, b) ∉ u.ps → ∀ C H', ErrOf K "NoLine" C → Ex H H' → E (.ref C) none H') ∧
  ((a, b) ∈ u.ps → ∀ w T L1 L2 xs bs H', NewW K H H' w T L1 L2 xs bs → w.Ok → PairW u w (fun p => p ∈ u.ps ∧ p ≠ (a, b)) → Q (.ref T) H')
section
variable {P : Program} {w : World} {K : PySem.W.Frag} {mg : Str → Option Value} {base : Heap}
theorem ok_without_pair {f : Addr} {fd : FuncData} (T : Txt K mg) (F : Fun K "without_pair" "without_pair" s_without_pair f fd)
    (D_check_web : DefOk P w K mg base CX0 7 "check_web" P_check_web (sp_check_web K))
    (D_check_quantity : DefOk P w K mg base CX0 3 "check_quantity" P_check_quantity (sp_check_quantity K))
    (D_copied_nudges : DefOk P w K mg base CX0 1 "copied_nudges" P_copied_nudges (sp_copied_nudges K)) :
    FnG P w K mg base (L2.CX P w) 8 f fd P_without_pair (sp_without_pair K) := by
  obtain ⟨C, noline⟩ := T.noline
  refine okG F sc_without_pair (fun vs H Q E h => ?_) (fun cdv A outer s H vs Q E hr hq h => ?_)
  · obtain ⟨v, u, a, b, rfl, _⟩ := h
    rfl
  · obtain ⟨v, u, a, b, rfl, hd, hu, ha, hb, qE, q⟩ := h
    have b2 := hu.hi
    have b3 := hu.few
    have b4 := hu.len
    refine ⟨_, (pss_cons (ps_expr (pe_callD D_check_web (hr.mono (by decide)) hq pass0 (pa_cons (pv 0) pa_nil)))
      (pss_cons (ps_expr (pe_callD D_check_quantity (hr.mono (by decide)) hq pass0 (pa_cons (pv 0) (pa_cons (pv 1) pa_nil))))
      (pss_cons (ps_expr (pe_callD D_check_quantity (hr.mono (by decide)) hq pass0 (pa_cons (pv 0) (pa_cons (pv 2) pa_nil))))
      (pss_cons (ps_asg (pv 0) (pg_tupK (n := 3) K rfl (pgs_cons (pg_name (i := 3) sc_without_pair.nd rfl (by first | exact .inl rfl | exact .inr rfl)) (pgs_cons (pg_name (i := 4) sc_without_pair.nd rfl (by first | exact .inl rfl | exact .inr rfl)) (pgs_cons (pg_name (i := 5) sc_without_pair.nd rfl (by first | exact .inl rfl | exact .inr rfl)) pgs_nil)))))
      (pss_cons (ps_if (pt_cmpR (op_notInDk K hr) (pe_tup (pa_cons (pv 1) (pa_cons (pv 2) pa_nil))) (pv 4) (by rfl)) (pss_one (ps_raise rfl (takes_of rfl rfl rfl rfl) (SkE.pmk_own1 PySem.F.excBase_ValueError noline.xC noline.gC noline.kC (raises_own noline.bC noline.tC) (by rfl) (pe_joined (PJ.cons (pe_fmt (pv 1)) (PJ.cons pe_str (PJ.cons (pe_fmt (pv 2)) PJ.nil))))))) pss_nil)
      (PSs.nox (pss_one (ps_ret (pe_tup (pa_cons (pv 3) (pa_cons (pe_lc (own := [("pair", 6)]) rfl sc_without_pair.nd (pi_listK K (pv 4)) (blkOk_by (N := N_without_pair) (sc := defScope s_without_pair) (by decide +kernel)) (fun _ _ _ _ _ => (pg_name (i := 6) sc_without_pair.nd rfl (by first | exact .inl rfl | exact .inr rfl))) (fun _ _ _ _ _ => (pts_one (pt_cmpR (op_neDk K hr.units) (pv 6) (pe_tup (pa_cons (pv 1) (pa_cons (pv 2) pa_nil))) (nomark _)))) (fun _ _ _ _ _ => (pv 6))) (pa_cons (pe_callD D_copied_nudges (hr.mono (by decide)) hq pass0 (pa_cons (pv 5) pa_nil)) pa_nil)))))))))))), ?_⟩
    refine ⟨_, rfl, _, _, rfl, hd, hu.web, fun H1 e1 => ?_⟩
    refine ⟨_, rfl, _, rfl, _, u, a, rfl, hd.up e1, ha, ?_⟩
    refine ⟨_, rfl, _, rfl, _, u, b, rfl, hd.up e1, hb, ?_⟩
    obtain ⟨t, x2, x3, rfl, hS, g2, g3⟩ := Wb.at (hd.up e1)
    obtain ⟨a2, ys, rfl, hL2, hA2, hz2⟩ := g2
    have hl2 := hA2.len
    rw [List.length_map] at hl2
    refine ⟨_, rfl, t, _, rfl, hS, rfl, _, _, rfl, _, _, rfl, _, _, rfl, rfl, ?_⟩
    refine ⟨_, rfl, _, rfl, by show 2 ≤ sizeLine; decide, fun t1 ht1 => ?_⟩
    have e2 : Ex H1 (upd H1 t1 (.tup [.int a, .int b])) := Ex.nw ht1
    have f2 : (upd H1 t1 (.tup [.int a, .int b])) t1 = some (.tup [.int a, .int b]) := upd_same
    generalize upd H1 t1 (.tup [.int a, .int b]) = H2 at e2 f2
    have dps : Da K H2 (dPairs u.ps) (.ref a2) := ⟨a2, ys, rfl, e2 _ _ hL2, hA2.up e2, hz2⟩
    have dp1 : Da K H2 (dPair (a, b)) (.ref t1) := dPair_of f2
    refine ⟨_, rfl, _, u.ps.map dPair, dp1.dPair, dps.dPairs, sh_dPair _, sh_dPairs _, _, rfl, ?_⟩
    rw [any_pair]
    refine ite2 (fun h1 => ?_) (fun h1 => ?_)
    · have hin : (a, b) ∉ u.ps := by simpa using h1
      obtain ⟨s1, s2⟩ := small_text ha.1 (by omega : a < 64)
      obtain ⟨s3, s4⟩ := small_text hb.1 (by omega : b < 64)
      have z1 : ∀ (x y : Str) (m n : Nat), x.length ≤ m → y.length ≤ n → m + n ≤ 1000 → (x ++ y).length ≤ sizeLine ∧ (x ++ y).length ≤ m + n := fun x y m n hx hy hmn => by
        rw [strLen_append]
        exact ⟨mil (by omega), by omega⟩
      have k1 := z1 Str.empty (toString a) 0 8 (by decide) s2 (by decide)
      have k2 := z1 _ (" does not act on " : Str) 8 17 k1.2 (by decide) (by decide)
      have k3 := z1 _ (toString b) 25 8 k2.2 s4 (by decide)
      refine ⟨_, rfl, .inr ⟨a, rfl, s1, _, rfl, k1.1, ?_⟩⟩
      refine ⟨_, rfl, k2.1, ?_⟩
      refine ⟨_, rfl, .inr ⟨b, rfl, s3, _, rfl, k3.1, ?_⟩⟩
      exact qE hin C _ noline.nC (e1.tr e2)
    · have hin : (a, b) ∈ u.ps := by simpa using h1
      have hY : SqL K H2 a2 ys := .inl (.inl (e2 _ _ hL2))
      refine ⟨_, rfl, _, rfl, a2, rfl, ⟨_, hY⟩, fun D hD => ?_⟩
      refine lc_by ys.length (fun i H' => Ex H2 H' ∧ ∃ ac, H' D = some (.lst ac) ∧ ac.length ≤ i ∧ DaAll K H' (((u.ps.take i).filter fun q => decide (q ≠ (a, b))).map dPair) ac)
        ⟨Ex.nw hD, [], upd_same, Nat.le_refl _, rfl⟩ (fun i H' hi p => itl_go hY p.1 hi) (fun H' p => itl_stop hY p.1) ?_ ?_
      · rintro i H4 x H5 hi ⟨e4, ac, hD4, hac, hA4⟩ y
        obtain ⟨rfl, hx⟩ := itl_yld y hY e4
        obtain ⟨p, hp, bx, rfl, hSb⟩ := pairs_at hA2 hx
        obtain ⟨dr, hdr, hxd⟩ := hA2.at' hx
        obtain ⟨p', hp', rfl⟩ := map_at hdr
        rw [hp] at hp'
        cases hp'
        refine ⟨rfl, ?_⟩
        refine ⟨_, rfl, _, rfl, _, rfl, by show 2 ≤ sizeLine; decide, fun T2 hT2 => ?_⟩
        have e6 : Ex H5 (upd H5 T2 (.tup [.int a, .int b])) := Ex.nw hT2
        have f6 : (upd H5 T2 (.tup [.int a, .int b])) T2 = some (.tup [.int a, .int b]) := upd_same
        generalize upd H5 T2 (.tup [.int a, .int b]) = H6 at e6 f6
        have hD6 := e6 _ _ hD4
        have dx : Da K H6 (dPair p) (.ref bx) := hxd.up (e2.tr (e4.tr e6))
        refine ⟨dPair p, _, dx.dPair, (dPair_of (p := (a, b)) f6).dPair, sh_dPair _, sh_dPair _, _, rfl, ?_⟩
        rw [eqv_dPair]
        refine ite2 (fun h2 => ?_) (fun h2 => ?_)
        · have hne : p ≠ (a, b) := by simpa using h2
          refine ⟨_, rfl, ac, hD6, mil' (by omega), (e4.tr e6).wr hD, ac ++ [.ref bx], upd_same, by rw [List.length_append, List.length_singleton]; omega, ?_⟩
          rw [take_snoc hp, List.filter_append, List.filter_cons_of_pos (p := fun q => decide (q ≠ (a, b))) (decide_eq_true hne), List.filter_nil]
          refine pairs_wr hD6 ?_
          rw [List.map_append]
          exact (hA4.up e6).app ⟨_, _, rfl, dx, rfl⟩
        · have hne : p = (a, b) := by simpa using h2
          refine ⟨e4.tr e6, ac, hD6, by omega, ?_⟩
          rw [take_snoc hp, List.filter_append, List.filter_cons_of_neg (p := fun q => decide (q ≠ (a, b))) (by simp [hne])]
          rw [List.filter_nil, List.append_nil]
          exact hA4.up e6
      · rintro H4 ⟨e4, ac, hD4, hac, hA4⟩
        rw [← hl2, List.take_length] at hA4
        have e14 := e2.tr e4
        refine ⟨_, rfl, x3, u.ns, rfl, g3.up e14, fun L bs H7 R => ?_⟩
        refine ⟨by show 3 ≤ sizeLine; decide, fun Tt hT => ?_⟩
        have e8 : Ex H7 (upd H7 Tt (.tup [.int u.n, .ref D, .ref L])) := Ex.nw hT
        have f8 : (upd H7 Tt (.tup [.int u.n, .ref D, .ref L])) Tt = some (.tup [.int u.n, .ref D, .ref L]) := upd_same
        generalize upd H7 Tt (.tup [.int u.n, .ref D, .ref L]) = H8 at e8 f8
        have pw : PairW u ⟨u.n, u.ps.filter fun q => decide (q ≠ (a, b)), u.ns⟩ (fun p => p ∈ u.ps ∧ p ≠ (a, b)) := ⟨rfl, rfl, fun p => by
          show p ∈ List.filter _ _ ↔ _
          rw [List.mem_filter, decide_eq_true_eq]⟩
        have hok := pw.ok hu (fun p h => hu.ps p h.1) (asc_filter _ hu.asc)
        have e04 := e1.tr e14
        refine q hin ⟨u.n, u.ps.filter fun q => decide (q ≠ (a, b)), u.ns⟩ Tt D L ac bs H8 ⟨(e04.tr R.ex).tr e8, f8, (e1.tr e2).fr hD, e8 _ _ (R.ex _ _ hD4), hA4.up (R.ex.tr e8), e04.fr R.new, e8 _ _ R.at_, R.len, ?_, R.nd, ?_⟩ hok pw
        · intro j b' hb'
          obtain ⟨n, r, h1, h2⟩ := R.row j b' hb'
          refine ⟨⟨e04.fr n.1, n.2, fun e => ?_⟩, r, h1, e8 _ _ h2⟩
          rw [← e, n.1] at hD4
          cases hD4
        · intro e
          rw [e, R.new] at hD4
          cases hD4
end

end K43
namespace K43
open PySem PySem.Spec PyProof.Rows L2 Nw
/-! _law_pair: slots 0 _law_is_more, 1 _law_web_here, 2 _law_one, 3 _law_other, 4 _law_found -/
abbrev s_pair : Stmt := topS 38
abbrev N_pair : List Str := ["_law_is_more", "_law_web_here", "_law_one", "_law_other", "_law_found"]
abbrev P_pair : List Str := ["_law_is_more", "_law_web_here", "_law_one", "_law_other"]
theorem sc_pair : FnScope N_pair P_pair (defScope s_pair) := ⟨rfl, rfl, rfl, by decide +kernel, rfl, by decide +kernel, by decide +kernel⟩
def sp_pair (K : PySem.W.Frag) : Sp := fun vs H Q _ => ∃ (m : Bool) (v : V) (u : Wb) (a b : Int), vs = [.bl m, v, .int a, .int b] ∧ Da K H (Wb.d u) v ∧ u.Ok ∧ (0 ≤ a ∧ a < u.n) ∧ (0 ≤ b ∧ b < u.n) ∧
  (m = true → (a, b) ∈ u.ps → ∀ H', Ex H H' → Q (.str "there") H') ∧ (m = false → (a, b) ∉ u.ps → ∀ H', Ex H H' → Q (.str "none") H') ∧
  (m = true → (a, b) ∉ u.ps → ∀ w T L1 L2 xs bs H', NewW K H H' w T L1 L2 xs bs → w.Ok → PairW u w (fun p => p ∈ u.ps ∨ p = (a, b)) → Q (.ref T) H') ∧
  (m = false → (a, b) ∈ u.ps → ∀ w T L1 L2 xs bs H', NewW K H H' w T L1 L2 xs bs → w.Ok → PairW u w (fun p => p ∈ u.ps ∧ p ≠ (a, b)) → Q (.ref T) H')
section
variable {P : Program} {w : World} {K : PySem.W.Frag} {mg : Str → Option Value} {base : Heap}
theorem ok_pair {f : Addr} {fd : FuncData} (T : Txt K mg) (F : Fun K "_law_pair" "_law_pair" s_pair f fd)
    (D_with_pair : DefOk P w K mg base (L2.CX P w) 8 "with_pair" P_with_pair (sp_with_pair K))
    (D_without_pair : DefOk P w K mg base (L2.CX P w) 8 "without_pair" P_without_pair (sp_without_pair K)) :
    FnG P w K mg base CX0 9 f fd P_pair (sp_pair K) := by
  obtain ⟨C1, there⟩ := T.there
  obtain ⟨C2, noline⟩ := T.noline
  refine okG0 F sc_pair (fun vs H Q E h => ?_) (fun cdv A outer s H vs Q E hr hq h => ?_)
  · obtain ⟨m, v, u, a, b, rfl, _⟩ := h
    rfl
  · obtain ⟨m, v, u, a, b, rfl, hd, hu, ha, hb, q1, q2, q3, q4⟩ := h
    refine ⟨_, (pss_cons (ps_set (i := 4) sc_pair.nd rfl (by first | exact .inl rfl | exact .inr rfl) pe_non)
      (pss_cons (ps_try_many (Wout := fun _ _ _ _ => False) rfl rfl takes0 (fun W pn xe tk _ => (pss_one (ps_set (i := 4) sc_pair.nd rfl (by first | exact .inl rfl | exact .inr rfl) (pe_ifExp (pt_val (pv 0)) (pe_callDS D_with_pair (hr.mono (by decide)) hq (fun σ => passAt tk σ) (pa_cons (pv 1) (pa_cons (pv 2) (pa_cons (pv 3) pa_nil)))) (pe_callDS D_without_pair (hr.mono (by decide)) hq (fun σ => passAt tk σ) (pa_cons (pv 1) (pa_cons (pv 2) (pa_cons (pv 3) pa_nil)))))))) (HdsOk.cons ⟨rfl, by decide, Or.inl there.gC⟩ (fun a oe cls d pn hz hf => (pss_one (ps_set (i := 4) sc_pair.nd rfl (by first | exact .inl rfl | exact .inr rfl) pe_str))) (HdsOk.cons ⟨rfl, by decide, Or.inl noline.gC⟩ (fun a oe cls d pn hz hf => (pss_one (ps_set (i := 4) sc_pair.nd rfl (by first | exact .inl rfl | exact .inr rfl) pe_str))) HdsOk.nil)))
      (pss_one (ps_ret (pv 4))))), ?_⟩
    cases m with
    | true =>
      refine ⟨_, rfl, true, rfl, ?_⟩
      refine ⟨_, rfl, _, rfl, _, rfl, v, u, a, b, rfl, hd, hu, ha, hb, fun hin C H' hC e => ?_, fun hin w T2 L1 L2 xs bs H' N ok pw => ?_⟩
      · obtain rfl := err_uniq hC there.nC
        refine ⟨true, exm_two there.bC there.iC there.tC there.sC, fun _ a0 _ => ?_, fun q => Bool.noConfusion q⟩
        exact ⟨_, rfl, q1 rfl hin _ e⟩
      · exact ⟨_, rfl, q3 rfl hin w T2 L1 L2 xs bs H' N ok pw⟩
    | false =>
      refine ⟨_, rfl, false, rfl, ?_⟩
      refine ⟨_, rfl, _, rfl, _, rfl, v, u, a, b, rfl, hd, hu, ha, hb, fun hin C H' hC e => ?_, fun hin w T2 L1 L2 xs bs H' N ok pw => ?_⟩
      · obtain rfl := err_uniq hC noline.nC
        refine ⟨false, T.x_noline_there _ _ hC there.nC, fun q => Bool.noConfusion q, fun _ => ?_⟩
        refine ⟨true, exm_two noline.bC noline.iC noline.tC noline.sC, fun _ a0 _ => ?_, fun q => Bool.noConfusion q⟩
        exact ⟨_, rfl, q2 rfl hin _ e⟩
      · exact ⟨_, rfl, q4 rfl hin w T2 L1 L2 xs bs H' N ok pw⟩
end

/-! _law_nudge: slots 0 _law_web_here, 1 _law_row, 2 _law_found, 3 e -/
abbrev s_nudge : Stmt := topS 39
abbrev N_nudge : List Str := ["_law_web_here", "_law_row", "_law_found", "e"]
abbrev P_nudge : List Str := ["_law_web_here", "_law_row"]
theorem sc_nudge : FnScope N_nudge P_nudge (defScope s_nudge) := ⟨rfl, rfl, rfl, by decide +kernel, rfl, by decide +kernel, by decide +kernel⟩
def sp_nudge (K : PySem.W.Frag) : Sp := fun vs H Q _ => ∃ v a u r, vs = [v, a] ∧ Da K H (Wb.d u) v ∧ u.Ok ∧ Da K H (dInts r) a ∧ (r ≠ [] ∧ (∀ t ∈ r, 0 ≤ t ∧ t < u.n) ∧ ascB ltIn r = true) ∧
  (u.ns.length = 8 → ∀ H', Ex H H' → Q (.int 8) H') ∧
  (u.ns.length < 8 → ∀ T L1 L2 xs bs H', NewW K H H' (moreN u r) T L1 L2 xs bs → Q (.ref T) H')
section
variable {P : Program} {w : World} {K : PySem.W.Frag} {mg : Str → Option Value} {base : Heap}
theorem ok_nudge {f : Addr} {fd : FuncData} (T : Txt K mg) (F : Fun K "_law_nudge" "_law_nudge" s_nudge f fd)
    (D_with_nudge : DefOk P w K mg base (L2.CX P w) 8 "with_nudge" P_with_nudge (sp_with_nudge K)) :
    FnG P w K mg base CX0 9 f fd P_nudge (sp_nudge K) := by
  obtain ⟨C, fI, big, nC⟩ := T.big
  refine okG0 F sc_nudge (fun vs H Q E h => ?_) (fun cdv A outer s H vs Q E hr hq h => ?_)
  · obtain ⟨v, a, u, r, rfl, _⟩ := h
    rfl
  · obtain ⟨v, a, u, r, rfl, hd, hu, hda, hr0, q8, q⟩ := h
    refine ⟨_, (pss_cons (ps_set (i := 2) sc_nudge.nd rfl (by first | exact .inl rfl | exact .inr rfl) pe_non)
      (pss_cons (ps_try_as (i := 3) (Wout := fun _ _ _ _ => False) rfl rfl sc_nudge.nd rfl rfl ⟨rfl, by decide, Or.inl big.gC⟩ takes0 (fun W pn xe tk _ => (pss_one (ps_set (i := 2) sc_nudge.nd rfl (by first | exact .inl rfl | exact .inr rfl) (pe_callDS D_with_nudge (hr.mono (by decide)) hq (fun σ => passAt tk σ) (pa_cons (pv 0) (pa_cons (pv 1) pa_nil)))))) (fun a oe cls d pn hz hf => (pss_one (ps_set (i := 2) sc_nudge.nd rfl (by first | exact .inl rfl | exact .inr rfl) (pe_limBig big hz hf (pv 3))))))
      (pss_one (ps_ret (pv 2))))), ?_⟩
    refine ⟨_, rfl, _, rfl, v, a, u, r, rfl, hd, hu, hda, hr0, fun h8 C' d H' hC' e' hd' => ?_, fun h8 T2 L1 L2 xs bs H' N => ?_⟩
    · obtain rfl := err_uniq hC' nC
      refine ⟨true, big.te, fun _ a0 _ => ?_, fun q => Bool.noConfusion q⟩
      refine ⟨_, rfl, rfl, rfl, d, _, rfl, hd', ?_⟩
      exact ⟨_, rfl, q8 h8 _ e'⟩
    · exact ⟨_, rfl, q h8 T2 L1 L2 xs bs H' N⟩
end

end K43
namespace K43
open PySem PySem.Spec PyProof.Rows L2 Nw
/-! _law_copy: slots 0 _law_web_here, 1 _law_row -/
abbrev s_copy : Stmt := topS 37
abbrev N_copy : List Str := ["_law_web_here", "_law_row"]
abbrev P_copy : List Str := ["_law_web_here"]
theorem sc_copy : FnScope N_copy P_copy (defScope s_copy) := ⟨rfl, rfl, rfl, by decide +kernel, rfl, by decide +kernel, by decide +kernel⟩
/-- a copy whose lists are new -/
def sp_copy (K : PySem.W.Frag) : Sp := fun vs H Q _ => ∃ v u, vs = [v] ∧ Da K H (Wb.d u) v ∧ u.Ok ∧
  ∀ T L1 L2 xs bs H', NewW K H H' u T L1 L2 xs bs → Q (.ref T) H'
section
variable {P : Program} {w : World} {K : PySem.W.Frag} {mg : Str → Option Value} {base : Heap}
theorem ok_copy {f : Addr} {fd : FuncData} (T : Txt K mg) (F : Fun K "_law_copy" "_law_copy" s_copy f fd) :
    FnG P w K mg base CX0 1 f fd P_copy (sp_copy K) := by
  refine okG0 F sc_copy (fun vs H Q E h => ?_) (fun cdv A outer s H vs Q E hr hq h => ?_)
  · obtain ⟨v, u, rfl, _⟩ := h
    rfl
  · obtain ⟨v, u, rfl, hd, hu, q⟩ := h
    obtain ⟨t, x2, x3, rfl, hS, g2, g3⟩ := Wb.at hd
    obtain ⟨a2, ys, rfl, hL2, hA2, hz2⟩ := g2
    obtain ⟨a, xs, rfl, hL, hA, hz⟩ := g3
    have hl := hA.len
    rw [List.length_map] at hl
    have b3 := hu.few
    refine ⟨_, (pss_one (ps_ret (pe_tup (pa_cons (pe_ix (ix_tupK K) (pv 0) pe_int (fun _ _ => rfl)) (pa_cons (pe_callTy (call_listK K) (by rfl) T.b_list bt_list (pa_cons (pe_ix (ix_tupK K) (pv 0) pe_int (fun _ _ => rfl)) pa_nil)) (pa_cons (pe_lc (own := [("_law_row", 1)]) rfl sc_copy.nd (pi_listK K (pe_ix (ix_tupK K) (pv 0) pe_int (fun _ _ => rfl))) (blkOk_by (N := N_copy) (sc := defScope s_copy) (by decide +kernel)) (fun _ _ _ _ _ => (pg_name (i := 1) sc_copy.nd rfl (by first | exact .inl rfl | exact .inr rfl))) (fun _ _ _ _ _ => pts_nil) (fun _ _ _ _ _ => (pe_callTy (call_listK K) (by rfl) T.b_list bt_list (pa_cons (pv 1) pa_nil)))) pa_nil)))))), ?_⟩
    refine ⟨_, rfl, t, _, 0, _, rfl, rfl, hS, rfl, ?_⟩
    refine ⟨_, rfl, t, _, 1, _, rfl, rfl, hS, rfl, a2, _, rfl, .inl (.inl (.inl hL2)), fun b hb => ?_⟩
    have e1 : Ex H (upd H b (.lst ys)) := Ex.nw hb
    have f1 : (upd H b (.lst ys)) b = some (.lst ys) := upd_same
    generalize upd H b (.lst ys) = H1 at e1 f1
    have hX : SqL K H1 a xs := .inl (.inl (e1 _ _ hL))
    refine ⟨_, rfl, t, _, 2, _, rfl, rfl, e1.t hS, rfl, a, rfl, ⟨_, hX⟩, fun D hD => ?_⟩
    refine lc_by xs.length (fun i H' => ∃ bs : List Addr, NewR H1 H' (u.ns.take i) D bs)
      ⟨[], NewR.nil hD⟩ (fun i H' hi p => (by obtain ⟨_, h1⟩ := p; exact itl_go hX h1.ex hi)) (fun H' p => (by obtain ⟨_, h1⟩ := p; exact itl_stop hX h1.ex)) ?_ ?_
    · rintro i H2 x H3 hi ⟨bs, R⟩ y
      obtain ⟨rfl, hx⟩ := itl_yld y hX R.ex
      obtain ⟨dr, hdr, hxd⟩ := hA.at' hx
      obtain ⟨r, hrr, rfl⟩ := map_at hdr
      obtain ⟨ar, rfl, hr0⟩ := dInts_at hxd
      have hr3 := (e1.tr R.ex).l hr0
      refine ⟨rfl, _, rfl, ar, _, rfl, .inl hr3, fun l hl' => ?_⟩
      have e4 : Ex H3 (upd H3 l (.lst (r.map V.int))) := Ex.nw hl'
      have f4 : (upd H3 l (.lst (r.map V.int))) l = some (.lst (r.map V.int)) := upd_same
      generalize upd H3 l (.lst (r.map V.int)) = H4 at e4 f4
      have hbl := R.len
      rw [List.length_take] at hbl
      refine ⟨_, e4 _ _ R.at_, mil' (by rw [List.length_map]; omega), bs ++ [l], ?_⟩
      rw [take_snoc hrr]
      exact R.snoc e4 hl' f4
    · rintro H2 ⟨bs, R⟩
      rw [← hl, List.take_length] at R
      refine ⟨by show 3 ≤ sizeLine; decide, fun T hT => ?_⟩
      have e3 : Ex H2 (upd H2 T (.tup [.int u.n, .ref b, .ref D])) := Ex.nw hT
      have f3 : (upd H2 T (.tup [.int u.n, .ref b, .ref D])) T = some (.tup [.int u.n, .ref b, .ref D]) := upd_same
      generalize upd H2 T (.tup [.int u.n, .ref b, .ref D]) = H3 at e3 f3
      refine q T b D ys bs H3 ⟨(e1.tr R.ex).tr e3, f3, hb, e3 _ _ (R.ex _ _ f1), hA2.up ((e1.tr R.ex).tr e3), e1.fr R.new, e3 _ _ R.at_, R.len, ?_, R.nd, ?_⟩
      · intro k b' hb'
        obtain ⟨n, r, h1, h2⟩ := R.row k b' hb'
        refine ⟨⟨e1.fr n.1, n.2, fun e => ?_⟩, r, h1, e3 _ _ h2⟩
        rw [← e, n.1] at f1
        cases f1
      · intro e
        rw [e, R.new] at f1
        cases f1
end

/-! _law_apart: slots 0 _law_told, 1 _law_due, 2 _law_web_here, 3 _law_kept, 4 _law_row -/
abbrev s_apart : Stmt := topS 40
abbrev N_apart : List Str := ["_law_told", "_law_due", "_law_web_here", "_law_kept", "_law_row"]
abbrev P_apart : List Str := ["_law_told", "_law_due", "_law_web_here", "_law_kept"]
theorem sc_apart : FnScope N_apart P_apart (defScope s_apart) := ⟨rfl, rfl, rfl, by decide +kernel, rfl, by decide +kernel, by decide +kernel⟩
/-- a new web told, which has nothing to do with the others -/
def sp_apart (K : PySem.W.Frag) : Sp := fun vs H Q _ => ∃ (Tt L1 L2 : Addr) (xs : List V) (bs : List Addr) (G : Hp) (w u : Wb) (d v c : V), vs = [.ref Tt, d, v, c] ∧ NewW K G H w Tt L1 L2 xs bs ∧ w.Ok ∧
  Da K G w.d d ∧ Da K G u.d v ∧ Da K G u.d c ∧ ∀ H', Ex G H' → Q (.bl true) H'
section
variable {P : Program} {w : World} {K : PySem.W.Frag} {mg : Str → Option Value} {base : Heap}
theorem ok_apart {f : Addr} {fd : FuncData} (T : Txt K mg) (F : Fun K "_law_apart" "_law_apart" s_apart f fd) :
    FnG P w K mg base CX0 1 f fd P_apart (sp_apart K) := by
  refine okG0 F sc_apart (fun vs H Q E h => ?_) (fun cdv A outer s H vs Q E hr hq h => ?_)
  · obtain ⟨_, _, _, _, _, _, _, _, _, _, _, rfl, _⟩ := h
    rfl
  · obtain ⟨Tt, L1, L2, xs, bs, G, w, u, d, v, c, rfl, hN, hw, hd, hv, hc, q⟩ := h
    have b3 := hw.few
    have b4 := hw.len
    obtain ⟨w1, w2, w3⟩ := show_web hw
    have hT := hN.da hw
    refine ⟨_, (pss_cons (ps_if (pt_cmpR op_ne (pe_callB (call_reprK K hq hr) (by rfl) T.b_repr bt_repr (pa_cons (pv 0) pa_nil)) (pe_callB (call_reprK K hq hr) (by rfl) T.b_repr bt_repr (pa_cons (pv 1) pa_nil)) (nomark _)) (pss_one (ps_ret pe_bl)) pss_nil)
      (pss_cons (ps_expr (pe_bm PySem.F.plainAttrs_list PySem.F.slot_list_append PySem.F.type_list_append mt_append (pe_ix (ix_seqK K) (pv 0) pe_int (fun _ _ => rfl)) (pa_cons pe_str pa_nil)))
      (pss_cons (ps_for PassesOwn.never rfl (pi_listK K (pe_ix (ix_seqK K) (pv 0) pe_int (fun _ _ => rfl))) (pg_name (i := 4) sc_apart.nd rfl (by first | exact .inl rfl | exact .inr rfl)) (pss_one (ps_expr (pe_bm PySem.F.plainAttrs_list PySem.F.slot_list_append PySem.F.type_list_append mt_append (pv 4) (pa_cons pe_str pa_nil)))))
      (pss_cons (ps_if (pt_cmpR (op_neDk K hr.units) (pe_lc (own := [("_law_row", 4)]) rfl sc_apart.nd (pi_listK K (pe_ix (ix_seqK K) (pv 0) pe_int (fun _ _ => rfl))) (blkOk_by (N := N_apart) (sc := defScope s_apart) (by decide +kernel)) (fun _ _ _ _ _ => (pg_name (i := 4) sc_apart.nd rfl (by first | exact .inl rfl | exact .inr rfl))) (fun _ _ _ _ _ => pts_nil) (fun _ _ _ _ _ => (pe_callB (call_lenK K) (by rfl) T.b_len bt_len (pa_cons (pv 4) pa_nil)))) (pe_lc (own := [("_law_row", 4)]) rfl sc_apart.nd (pi_listK K (pe_ix (ix_seqK K) (pv 1) pe_int (fun _ _ => rfl))) (blkOk_by (N := N_apart) (sc := defScope s_apart) (by decide +kernel)) (fun _ _ _ _ _ => (pg_name (i := 4) sc_apart.nd rfl (by first | exact .inl rfl | exact .inr rfl))) (fun _ _ _ _ _ => pts_nil) (fun _ _ _ _ _ => (pe_op op_add (pe_callB (call_lenK K) (by rfl) T.b_len bt_len (pa_cons (pv 4) pa_nil)) pe_int))) (nomark _)) (pss_one (ps_ret pe_bl)) pss_nil)
      (pss_cons (ps_expr (pe_bm PySem.F.plainAttrs_list PySem.F.slot_list_append PySem.F.type_list_append mt_append (pe_ix (ix_seqK K) (pv 0) pe_int (fun _ _ => rfl)) (pa_cons pe_str pa_nil)))
      (pss_one (ps_ret (pe_cmpR (op_eqDk K hr.units) (pv 2) (pv 3) (nomark _))))))))), ?_⟩
    refine ⟨_, rfl, _, _, rfl, hT.web, w1, w2, w3, ?_⟩
    refine ⟨_, rfl, _, _, rfl, (hd.up hN.ex).web, w1, w2, w3, ?_⟩
    refine ⟨rfl, _, rfl, ite2 (fun h1 => ?_) (fun _ => ?_)⟩
    · simp at h1
    have hTS : SqT K H Tt [.int w.n, .ref L1, .ref L2] := .inl (.inl hN.tup)
    have lx := hN.ps.len
    rw [List.length_map] at lx
    refine ⟨_, rfl, .inr (.inl ⟨Tt, _, 1, _, rfl, rfl, hTS, rfl, ?_⟩)⟩
    refine ⟨.inl ⟨rfl, _, .inl (.inl hN.at_)⟩, L1, _, _, rfl, rfl, hN.at_, mil' (by omega), ?_⟩
    have k1 : Ex G (upd H L1 (.lst (xs ++ [.str "?"]))) := hN.ex.wr hN.new
    have k2 : (upd H L1 (.lst (xs ++ [.str "?"]))) Tt = some (.tup [.int w.n, .ref L1, .ref L2]) := by
      rw [upd_ne (fun e => by have := hN.tup; rw [e, hN.at_] at this; cases this)]
      exact hN.tup
    have k3 : (upd H L1 (.lst (xs ++ [.str "?"]))) L2 = some (.lst (bs.map V.ref)) := by
      rw [upd_ne hN.ne.symm]
      exact hN.at2
    have k4 : ∀ (k : Nat) (b : Addr), bs[k]? = some b → ∃ r, w.ns[k]? = some r ∧ (upd H L1 (.lst (xs ++ [.str "?"]))) b = some (.lst (r.map V.int)) := by
      intro k b hb
      obtain ⟨n, r, h1, h2⟩ := hN.row k b hb
      exact ⟨r, h1, by rw [upd_ne n.2.2]; exact h2⟩
    generalize upd H L1 (.lst (xs ++ [.str "?"])) = H1 at k1 k2 k3 k4
    have hTS1 : SqT K H1 Tt [.int w.n, .ref L1, .ref L2] := .inl (.inl k2)
    refine ⟨_, rfl, .inr (.inl ⟨Tt, _, 2, _, rfl, rfl, hTS1, rfl, ?_⟩)⟩
    refine ⟨L2, rfl, ⟨_, .inl (.inl k3)⟩, ?_⟩
    refine for_by (bs.map V.ref).length (fun i σ H' => ∃ y, σ = [some (V.ref Tt), some d, some v, some c, y] ∧ Ex G H' ∧ H' Tt = some (.tup [.int w.n, .ref L1, .ref L2]) ∧ H' L2 = some (.lst (bs.map V.ref)) ∧
        ∀ (k : Nat) (b : Addr), bs[k]? = some b → ∃ r, w.ns[k]? = some r ∧ H' b = some (.lst (if k < i then r.map V.int ++ [.str "?"] else r.map V.int)))
      ⟨_, rfl, k1, k2, k3, fun k b hb => ?_⟩ (fun i σ H' hi p => ?_) (fun σ H' p => ?_) ?_ ?_
    · obtain ⟨r, h1, h2⟩ := k4 k b hb
      exact ⟨r, h1, by rw [if_neg (by omega)]; exact h2⟩
    · obtain ⟨_, _, _, _, h4, _⟩ := p
      exact itl_go (.inl (.inl h4)) Ex.rfl hi
    · obtain ⟨_, _, _, _, h4, _⟩ := p
      exact itl_stop (.inl (.inl h4)) Ex.rfl
    · rintro i σ H2 x H3 hi ⟨y, rfl, m1, m2, m3, m4⟩ ⟨rfl, hx⟩
      obtain ⟨b, hb, rfl⟩ := map_at (hx _ (.inl (.inl m3)))
      obtain ⟨r, h1, h2⟩ := m4 i b hb
      rw [if_neg (by omega)] at h2
      obtain ⟨n, _⟩ := hN.row i b hb
      have rl := hw.row (List.mem_of_getElem? h1)
      refine ⟨_, rfl, .inl ⟨rfl, _, .inl (.inl h2)⟩, b, _, _, rfl, rfl, h2, mil' (by rw [List.length_map]; omega), ?_⟩
      refine ⟨_, rfl, m1.wr n.1, ?_, ?_, ?_⟩
      · rw [upd_ne (fun e => by rw [e, h2] at m2; cases m2)]
        exact m2
      · rw [upd_ne n.2.1.symm]
        exact m3
      · intro k b' hb'
        by_cases ek : k = i
        · subst ek
          rw [hb] at hb'
          cases hb'
          exact ⟨r, h1, by rw [upd_same, if_pos (by omega)]⟩
        · obtain ⟨r', g1, g2⟩ := m4 k b' hb'
          have ne : b' ≠ b := nodup_at hN.nd hb' hb ek
          refine ⟨r', g1, ?_⟩
          rw [upd_ne ne, g2]
          by_cases hk : k < i
          · rw [if_pos hk, if_pos (by omega)]
          · rw [if_neg hk, if_neg (by omega)]
    · rintro σ H2 ⟨y, rfl, m1, m2, m3, m4⟩
      have hTS2 : SqT K H2 Tt [.int w.n, .ref L1, .ref L2] := .inl (.inl m2)
      have hB : SqL K H2 L2 (bs.map V.ref) := .inl (.inl m3)
      have gl : ∀ (i : Nat) (r : List Int), w.ns[i]? = some r → (w.ns.getD i []) = r := fun i r h => by
        rw [List.getD_eq_getElem?_getD, h]
        rfl
      have hlen : ∀ (ys : List V), ys = (List.range w.ns.length).map (fun i => V.int (((w.ns.getD i []).length : Int) + 1)) → ys = (w.ns.map fun r => ((r.length : Int) + 1)).map V.int := fun ys e => by
        rw [e, List.map_map]
        exact rangeD_map (fun r : List Int => V.int ((r.length : Int) + 1)) [] w.ns
      refine ⟨_, rfl, .inr (.inl ⟨Tt, _, 2, _, rfl, rfl, hTS2, rfl, ?_⟩)⟩
      refine ⟨L2, rfl, ⟨_, hB⟩, fun D hD => ?_⟩
      refine lc_ev (bs.map V.ref).length (fun _ => true) (fun i y _ => y = .int (((w.ns.getD i []).length : Int) + 1)) (by rw [List.length_map, hN.len]; omega) hD (fun _ _ _ _ _ h => h)
        (fun i H' hi e => itl_go hB e hi) (fun H' e => itl_stop hB e) ?_ ?_
      · intro i H3 x H4 hi e _ y Q' N' hQ _
        obtain ⟨rfl, hx⟩ := itl_yld y hB e
        obtain ⟨b, hb, rfl⟩ := map_at hx
        obtain ⟨r, h1, h2⟩ := m4 i b hb
        rw [if_pos hi] at h2
        have h3 := e _ _ h2
        refine ⟨rfl, _, rfl, b, _, rfl, .inl (.inl (.inl h3)), hQ rfl _ _ Ex.rfl ?_⟩
        rw [gl i r h1, List.length_append, List.length_map]
        rfl
      · intro ys H3 e3 hy gv
        have ey := gv.all
        rw [List.length_map, hN.len] at ey
        have ey := hlen _ ey
        rw [ey] at hy
        have m13 := m1.tr e3
        obtain ⟨td, z2, z3, rfl, hSd, _, g3⟩ := Wb.at (hd.up m13)
        obtain ⟨a3, rs, rfl, hL3, hA3, hz3⟩ := g3
        have hR : SqL K H3 a3 rs := .inl (.inl hL3)
        have hrl := hA3.len
        rw [List.length_map] at hrl
        refine ⟨_, rfl, .inr (.inl ⟨td, _, 2, _, rfl, rfl, hSd, rfl, ?_⟩)⟩
        refine ⟨a3, rfl, ⟨_, hR⟩, fun D2 hD2 => ?_⟩
        refine lc_ev rs.length (fun _ => true) (fun i y _ => y = .int (((w.ns.getD i []).length : Int) + 1)) (by omega) hD2 (fun _ _ _ _ _ h => h)
          (fun i H' hi e => itl_go hR e hi) (fun H' e => itl_stop hR e) ?_ ?_
        · intro i H4 x H5 hi e _ y Q' N' hQ _
          obtain ⟨rfl, hx⟩ := itl_yld y hR e
          obtain ⟨dr, hdr, hxd⟩ := hA3.at' hx
          obtain ⟨r, hrr, rfl⟩ := map_at hdr
          obtain ⟨ar, rfl, hr0⟩ := dInts_at hxd
          refine ⟨rfl, _, rfl, ar, _, rfl, .inl (e.l hr0), _, _, rfl, rfl, hQ rfl _ _ Ex.rfl ?_⟩
          rw [gl i r hrr, List.length_map]
        · intro ys2 H4 e4 hy2 gv2
          have ey2 := gv2.all
          rw [← hrl] at ey2
          have ey2 := hlen _ ey2
          rw [ey2] at hy2
          have hz : (w.ns.map fun r => ((r.length : Int) + 1)).length ≤ 100000 := by
            rw [List.length_map]
            omega
          refine ⟨_, _, (dInts_of (e4 _ _ hy) hz).dInts, (dInts_of hy2 hz).dInts, sh_dInts _, sh_dInts _, _, rfl, ite2 (fun h1 => ?_) (fun _ => ?_)⟩
          · rw [eqv_dInts] at h1
            simp at h1
          have m14 := m13.tr e4
          have hL4 := e4 _ _ (e3 _ _ m3)
          refine ⟨_, rfl, .inr (.inl ⟨Tt, _, 2, _, rfl, rfl, (e3.tr e4).t hTS2, rfl, ?_⟩)⟩
          refine ⟨.inl ⟨rfl, _, .inl (.inl hL4)⟩, L2, _, _, rfl, rfl, hL4, mil' (by rw [List.length_map, hN.len]; omega), ?_⟩
          have m15 := m14.wr hN.new2 (o := .lst (bs.map V.ref ++ [.str "?"]))
          refine ⟨_, rfl, _, rfl, _, _, (hv.up m15).web, (hc.up m15).web, sh_web _, sh_web _, ?_⟩
          rw [eqv_web, decide_eq_true rfl]
          exact q _ m15
end

end K43
namespace K43
open PySem PySem.Spec PyProof.Rows L2 Nw
/-! _law_purse: slots 0 _law_script, 1 _law_k, 2 _law_cell -/
abbrev s_purse : Stmt := topS 33
abbrev N_purse : List Str := ["_law_script", "_law_k", "_law_cell"]
abbrev P_purse : List Str := ["_law_script", "_law_k"]
theorem sc_purse : FnScope N_purse P_purse (defScope s_purse) := ⟨rfl, rfl, rfl, by decide +kernel, rfl, by decide +kernel, by decide +kernel⟩
def sp_purse (K : PySem.W.Frag) : Sp := fun vs H Q _ => ∃ (a : Addr) (ns : List Int) (k : Int), vs = [.ref a, .int k] ∧ SqL K H a (ns.map V.int) ∧ (0 ≤ k ∧ k ≤ 63) ∧
  ∀ p H', H p = none → Ex H H' → Purse H' p 0 → Q (.ref p) H'
section
variable {P : Program} {w : World} {K : PySem.W.Frag} {mg : Str → Option Value} {base : Heap}
theorem ok_purse {f : Addr} {fd : FuncData} (T : Txt K mg) (F : Fun K "_law_purse" "_law_purse" s_purse f fd) :
    FnG P w K mg base CX0 1 f fd P_purse (sp_purse K) := by
  refine okG0 F sc_purse (fun vs H Q E h => ?_) (fun cdv A outer s H vs Q E hr hq h => ?_)
  · obtain ⟨a, ns, k, rfl, _⟩ := h
    rfl
  · obtain ⟨a, ns, k, rfl, hS, hk, q⟩ := h
    have fin : ∀ (z x y : Int) (p : Addr), H p = none → 0 ≤ x → Q (.ref p) (upd H p (.lst [.int x, .int (y.fmod (10 ^ Int.toNat 41 + 37) + 90001 * k + 17), .int 0])) :=
      fun z x y p hp hx => q p _ hp (Ex.nw hp) ⟨_, _, _, upd_same, hx, purse_new (x := z) hk, by omega, by omega⟩
    refine ⟨_, (pss_cons (ps_set (i := 2) sc_purse.nd rfl (by first | exact .inl rfl | exact .inr rfl) (pe_ifExp (pt_cmpR op_lt (pv 1) (pe_callB (call_lenK K) (by rfl) T.b_len bt_len (pa_cons (pv 0) pa_nil)) (nomark _)) (pe_ix (ix_listK K) (pv 0) (pv 1) (fun _ _ => rfl)) pe_int))
      (pss_one (ps_ret (pe_lst (pa_cons (pe_callB (call_max2 rfl) (by rfl) T.b_max bt_max (pa_cons pe_int (pa_cons (pe_op op_sub (pv 2) (pe_op op_powW pe_int pe_int)) pa_nil))) (pa_cons (pe_op op_add (pe_op op_add (pe_op op_modN (pe_callTy call_int1 (by rfl) T.b_int bt_int (pa_cons (pe_callB call_abs (by rfl) T.b_abs bt_abs (pa_cons (pv 2) pa_nil)) pa_nil)) (pe_op op_add (pe_op op_powW pe_int pe_int) pe_int)) (pe_op op_mul pe_int (pv 1))) pe_int) (pa_cons pe_int pa_nil))))))), ?_⟩
    refine ⟨_, rfl, _, rfl, a, _, rfl, .inl hS, _, _, rfl, rfl, _, rfl, ?_⟩
    refine ite2 (fun h1 => ?_) (fun h1 => ?_)
    · have h2 : k.toNat < ns.length := by
        simp only [List.length_map, decide_eq_true_eq] at h1
        omega
      refine ⟨_, rfl, _, rfl, a, _, k, .int (ns[k.toNat]), rfl, rfl, hS, atI_int hk.1 (by rw [List.getElem?_map, List.getElem?_eq_getElem h2]; rfl), ?_⟩
      refine ⟨_, rfl, _, _, rfl, rfl, cpow10 (by decide) (by decide), _, _, rfl, rfl, _, _, rfl, ?_⟩
      refine ⟨_, rfl, _, rfl, .inl ⟨_, rfl, _, _, rfl, rfl, cpow10 (by decide) (by decide), _, _, rfl, rfl, _, _, rfl, rfl, ne41, ?_⟩⟩
      refine ⟨_, rfl, _, _, rfl, rfl, .inl ⟨by decide, by decide⟩, _, _, rfl, rfl, _, _, rfl, rfl, by show 3 ≤ sizeLine; decide, fun p hp => ?_⟩
      exact fin (ns[k.toNat]) _ _ p hp (by split <;> omega)
    · refine ⟨_, rfl, _, _, rfl, rfl, cpow10 (by decide) (by decide), _, _, rfl, rfl, _, _, rfl, ?_⟩
      refine ⟨_, rfl, _, rfl, .inl ⟨_, rfl, _, _, rfl, rfl, cpow10 (by decide) (by decide), _, _, rfl, rfl, _, _, rfl, rfl, ne41, ?_⟩⟩
      refine ⟨_, rfl, _, _, rfl, rfl, .inl ⟨by decide, by decide⟩, _, _, rfl, rfl, _, _, rfl, rfl, by show 3 ≤ sizeLine; decide, fun p hp => ?_⟩
      exact fin 0 _ _ p hp (by split <;> omega)
end

/-! _law_coin: slots 0 _law_purse_here, 1 _law_many, 2 _law_found, 3 _law_mixed -/
abbrev s_coin : Stmt := topS 34
abbrev N_coin : List Str := ["_law_purse_here", "_law_many", "_law_found", "_law_mixed"]
abbrev P_coin : List Str := ["_law_purse_here", "_law_many"]
theorem sc_coin : FnScope N_coin P_coin (defScope s_coin) := ⟨rfl, rfl, rfl, by decide +kernel, rfl, by decide +kernel, by decide +kernel⟩
def sp_coin (K : PySem.W.Frag) : Sp := fun vs H Q _ => ∃ (p : Addr) (m : Int) (n : Nat), vs = [.ref p, .int m] ∧ (0 < m ∧ m < 1000000000000000000000000000000000000000000000000000000000000) ∧ Purse H p n ∧ n ≤ 1000000000 ∧
  ∀ z H', (0 ≤ z ∧ z < m) → Purse H' p (n + 1) → ExD p H H' → Q (.int z) H'
section
variable {P : Program} {w : World} {K : PySem.W.Frag} {mg : Str → Option Value} {base : Heap}
theorem ok_coin {f : Addr} {fd : FuncData} (T : Txt K mg) (F : Fun K "_law_coin" "_law_coin" s_coin f fd) :
    FnG P w K mg base CX0 1 f fd P_coin (sp_coin K) := by
  refine okG0 F sc_coin (fun vs H Q E h => ?_) (fun cdv A outer s H vs Q E hr hq h => ?_)
  · obtain ⟨p, m, n, rfl, _⟩ := h
    rfl
  · obtain ⟨p, m, n, rfl, hm, ⟨b, c, e, hp, hb, hc, he⟩, hn, q⟩ := h
    have hS : SqL K H p [.int b, .int c, .int e] := .inl (.inl hp)
    refine ⟨_, (pss_cons (ps_if (pt_cmpR op_gt (pe_ix (ix_listK K) (pv 0) pe_int (fun _ _ => rfl)) pe_int (nomark _)) (pss_cons (ps_set (i := 2) sc_coin.nd rfl (by first | exact .inl rfl | exact .inr rfl) (pe_op op_modN (pe_callTy call_int1 (by rfl) T.b_int bt_int (pa_cons (pe_ix (ix_listK K) (pv 0) pe_int (fun _ _ => rfl)) pa_nil)) (pv 1)))
      (pss_cons (ps_asg (pe_op op_fdivW (pe_ix (ix_listK K) (pv 0) pe_int (fun _ _ => rfl)) (pv 1)) (pg_sub (pv 0) pe_int set_list))
      (pss_one (ps_ret (pv 2))))) pss_nil)
      (pss_cons (ps_asg (pe_op op_add (pe_ix (ix_listK K) (pv 0) pe_int (fun _ _ => rfl)) pe_int) (pg_sub (pv 0) pe_int set_list))
      (pss_cons (ps_set (i := 3) sc_coin.nd rfl (by first | exact .inl rfl | exact .inr rfl) (pe_op op_modN (pe_callTy call_int1 (by rfl) T.b_int bt_int (pa_cons (pe_op op_powW (pe_op op_add (pe_ix (ix_listK K) (pv 0) pe_int (fun _ _ => rfl)) (pe_op op_mul pe_int (pe_ix (ix_listK K) (pv 0) pe_int (fun _ _ => rfl)))) pe_int) pa_nil)) (pe_op op_add (pe_op op_powW pe_int pe_int) pe_int)))
      (pss_cons (ps_set (i := 3) sc_coin.nd rfl (by first | exact .inl rfl | exact .inr rfl) (pe_op op_modN (pe_callTy call_int1 (by rfl) T.b_int bt_int (pa_cons (pe_op op_powW (pe_op op_add (pv 3) (pe_op op_mul pe_int (pe_ix (ix_listK K) (pv 0) pe_int (fun _ _ => rfl)))) pe_int) pa_nil)) (pe_op op_add (pe_op op_powW pe_int pe_int) pe_int)))
      (pss_one (ps_ret (pe_op op_modN (pe_callTy call_int1 (by rfl) T.b_int bt_int (pa_cons (pe_op op_fdivW (pv 3) pe_int) pa_nil)) (pv 1)))))))), ?_⟩
    refine ⟨_, rfl, p, _, 0, _, rfl, rfl, hS, rfl, _, _, rfl, rfl, _, rfl, ?_⟩
    refine ite2 (fun h1 => ?_) (fun h1 => ?_)
    · refine ⟨_, rfl, p, _, 0, _, rfl, rfl, hS, rfl, .inl ⟨_, rfl, _, rfl, _, _, rfl, rfl, by omega, ?_⟩⟩
      refine ⟨_, rfl, p, _, 0, _, rfl, rfl, hS, rfl, _, rfl, _, _, rfl, rfl, great_div hm.1 hm.2, ?_⟩
      refine ⟨_, rfl, p, _, 0, 0, rfl, rfl, hp, rfl, _, rfl, ?_⟩
      exact q _ _ (fmod_in hm.1) ⟨_, _, _, upd_same, div_in hb hm.1, hc, he.1, by omega⟩ ExD.put
    · refine ⟨_, rfl, p, _, 2, _, rfl, rfl, hS, rfl, _, _, rfl, rfl, ?_⟩
      refine ⟨_, rfl, p, _, 2, 2, rfl, rfl, hp, rfl, ?_⟩
      have hS2 : SqL K (upd H p (.lst [.int b, .int c, .int (e + 1)])) p [.int b, .int c, .int (e + 1)] := .inl (.inl upd_same)
      have b1 : 0 ≤ c + 15485863 * (e + 1) ∧ c + 15485863 * (e + 1) < 10 ^ 60 := by
        rw [p42] at hc
        rw [p60]
        omega
      refine ⟨_, rfl, p, _, 1, _, rfl, rfl, hS2, rfl, _, rfl, p, _, 2, _, rfl, rfl, hS2, rfl, _, _, rfl, rfl, .inl ⟨by decide, by decide⟩, _, _, rfl, rfl, ?_⟩
      refine ⟨_, _, rfl, rfl, cpow3 b1.1 b1.2, .inl ⟨_, rfl, _, _, rfl, rfl, cpow10 (by decide) (by decide), _, _, rfl, rfl, _, _, rfl, rfl, ne43, ?_⟩⟩
      have b2 := fmod_in (a := (c + 15485863 * (e + 1)) ^ Int.toNat 3) (m := 10 ^ Int.toNat 43 + 29) (by rw [p43]; decide)
      have b3 : ∀ y : Int, 0 ≤ y ∧ y < 10 ^ Int.toNat 43 + 29 → 0 ≤ y + 49979687 * (e + 1) ∧ y + 49979687 * (e + 1) < 10 ^ 60 := by
        intro y b2
        rw [p43] at b2
        rw [p60]
        omega
      refine ⟨_, rfl, _, rfl, p, _, 2, _, rfl, rfl, hS2, rfl, _, _, rfl, rfl, .inl ⟨by decide, by decide⟩, _, _, rfl, rfl, ?_⟩
      refine ⟨_, _, rfl, rfl, cpow3 (b3 _ b2).1 (b3 _ b2).2, .inl ⟨_, rfl, _, _, rfl, rfl, cpow10 (by decide) (by decide), _, _, rfl, rfl, _, _, rfl, rfl, ne45, ?_⟩⟩
      refine ⟨_, rfl, _, _, rfl, rfl, small_div' (by decide) (by decide), .inl ⟨_, rfl, _, rfl, _, _, rfl, rfl, by omega, ?_⟩⟩
      exact q _ _ (fmod_in hm.1) ⟨_, _, _, upd_same, hb, hc, by omega, by omega⟩ ExD.put
end

/-! _law_targets: slots 0 _law_purse_here, 1 _law_count_here, 2 _law_found, 3 _law_at -/
abbrev s_targets : Stmt := topS 35
abbrev N_targets : List Str := ["_law_purse_here", "_law_count_here", "_law_found", "_law_at"]
abbrev P_targets : List Str := ["_law_purse_here", "_law_count_here"]
theorem sc_targets : FnScope N_targets P_targets (defScope s_targets) := ⟨rfl, rfl, rfl, by decide +kernel, rfl, by decide +kernel, by decide +kernel⟩
def sp_targets (K : PySem.W.Frag) : Sp := fun vs H Q _ => ∃ (p : Addr) (n : Int) (m : Nat), vs = [.ref p, .int n] ∧ (1 ≤ n ∧ n ≤ 20) ∧ Purse H p m ∧ m ≤ 1000000 ∧
  ∀ (l : Addr) (r : List Int) H', H l = none → ExD p H H' → Purse H' p (m + 21) → H' l = some (.lst (r.map V.int)) →
    r ≠ [] ∧ (∀ t ∈ r, 0 ≤ t ∧ t < n) ∧ ascB ltIn r = true → Q (.ref l) H'
section
variable {P : Program} {w : World} {K : PySem.W.Frag} {mg : Str → Option Value} {base : Heap}
theorem ok_targets {f : Addr} {fd : FuncData} (T : Txt K mg) (F : Fun K "_law_targets" "_law_targets" s_targets f fd)
    (D_coin : DefOk P w K mg base CX0 1 "_law_coin" P_coin (sp_coin K)) :
    FnG P w K mg base CX0 2 f fd P_targets (sp_targets K) := by
  refine okG0 F sc_targets (fun vs H Q E h => ?_) (fun cdv A outer s H vs Q E hr hq h => ?_)
  · obtain ⟨p, n, m, rfl, _⟩ := h
    rfl
  · obtain ⟨p, n, m, rfl, hn, hp, hm, q⟩ := h
    refine ⟨_, (pss_cons (ps_setLc (i := 2) (own := [("_law_at", 3)]) rfl sc_targets.nd rfl rfl (sw_true rfl rfl rfl (by decide +kernel)) (pi_range1 (by rfl) T.b_range (pa_cons (pv 1) pa_nil)) (blkOk_by (N := N_targets) (sc := defScope s_targets) (by decide +kernel)) (fun _ _ _ _ _ => (pg_name (i := 3) sc_targets.nd rfl (by first | exact .inl rfl | exact .inr rfl))) (fun _ _ _ _ _ => (pts_one (pt_cmpR op_eq (pe_callD D_coin (hr.mono (by decide)) hq pass0 (pa_cons (pv 0) (pa_cons pe_int pa_nil))) pe_int (nomark _)))) (fun _ _ _ _ _ => (pv 3)))
      (pss_one (ps_ret (pe_ifExp (pt_cmpR (op_neDk K hr.units) (pv 2) (pe_lst pa_nil) (nomark _)) (pv 2) (pe_lst (pa_cons (pe_callD D_coin (hr.mono (by decide)) hq pass0 (pa_cons (pv 0) (pa_cons (pv 1) pa_nil))) pa_nil)))))), ?_⟩
    refine ⟨_, rfl, _, rfl, by omega, by omega, fun D hD => ?_⟩
    have pD := hp.off hD
    refine lc_by n.toNat (fun i H' => ExD p H H' ∧ Purse H' p (m + i) ∧ ∃ r : List Int, H' D = some (.lst (r.map V.int)) ∧ ascB ltIn r = true ∧
        (∀ t ∈ r, 0 ≤ t ∧ t < (i : Int)) ∧ r.length ≤ i)
      ⟨ExD.nw hD, hp.put pD.symm, [], upd_same, rfl, fun t ht => (by cases ht), Nat.le_refl _⟩ (fun i H' hi _ => hi) (fun H' _ => Nat.le_refl _) ?_ ?_
    · rintro i H1 x H2 hi ⟨e1, p1, r, hr1, ha, hb, hl⟩ ⟨rfl, rfl⟩
      refine ⟨rfl, ?_⟩
      refine ⟨_, rfl, p, 3, _, rfl, by decide, p1, by omega, fun z H3 hz p3 e3 => ?_⟩
      have hr3 := e3 D _ pD hr1
      refine ⟨rfl, _, rfl, ite2 (fun _ => ?_) (fun _ => ?_)⟩
      · refine ⟨_, rfl, _, hr3, mil' (by rw [List.length_map]; omega), (e1.tr e3).wr hD, p3.put pD.symm, r ++ [0 + (i : Int)], ?_, ?_, ?_, ?_⟩
        · rw [upd_same, List.map_append]
          rfl
        · exact asc_snoc ha fun t ht => by have := hb t ht; omega
        · intro t ht
          rcases List.mem_append.mp ht with ht | ht
          · have := hb t ht
            omega
          · obtain rfl := List.mem_singleton.mp ht
            omega
        · rw [List.length_append, List.length_singleton]
          omega
      · exact ⟨e1.tr e3, p3, r, hr3, ha, fun t ht => by have := hb t ht; omega, by omega⟩
    · rintro H1 ⟨e1, p1, r, hr1, ha, hb, hl⟩
      have lr : r.length ≤ 100000 := by omega
      refine ⟨_, rfl, Nat.zero_le _, fun z hz => ?_⟩
      have dD : Dp K (upd H1 z (.lst [])) (.ref D) (dInts r) := ((dInts_of hr1 lr).up (Ex.nw hz)).dInts
      have dz : Dp K (upd H1 z (.lst [])) (.ref z) (dInts []) := Da.dInts (dInts_of upd_same (by decide))
      refine ⟨_, _, dD, dz, sh_dInts _, sh_dInts _, _, rfl, ?_⟩
      rw [eqv_dInts]
      refine ite2 (fun h1 => ?_) (fun h1 => ?_)
      · refine ⟨_, rfl, q D r _ hD (e1.tr (ExD.nw hz)) ((p1.up (Ex.nw hz)).mono (by omega)) ?_ ⟨by simpa using h1, fun t ht => by have := hb t ht; omega, ha⟩⟩
        rw [upd_ne (ne_of_none hr1 hz)]
        exact hr1
      · refine ⟨_, rfl, _, rfl, p, n, m + n.toNat, rfl, by omega, p1.up (Ex.nw hz), by omega, fun y H2 hy p2 e2 => ⟨by show 1 ≤ sizeLine; decide, fun l hl => ?_⟩⟩
        refine q l [y] _ ?_ ((e1.tr (ExD.nw hz)).tr (e2.tr (ExD.nw hl))) ((p2.up (Ex.nw hl)).mono (by omega)) upd_same ⟨by simp, ?_, rfl⟩
        · exact Purse.fr ((e1.tr (ExD.nw hz)).tr e2) p2 hl
        · intro t ht
          obtain rfl := List.mem_singleton.mp ht
          exact hy
end

/-! _law_web: slots 0 _law_purse_here, 1 _law_most_here, 2 _law_most_nudges, 3 _law_count_here, 4 _law_chance, 5 _law_pairs_here, 6 _law_one, 7 _law_other, 8 _law_nudges_here, 9 _law_turn -/
abbrev s_web : Stmt := topS 36
abbrev N_web : List Str := ["_law_purse_here", "_law_most_here", "_law_most_nudges", "_law_count_here", "_law_chance", "_law_pairs_here", "_law_one", "_law_other", "_law_nudges_here", "_law_turn"]
abbrev P_web : List Str := ["_law_purse_here", "_law_most_here", "_law_most_nudges"]
theorem sc_web : FnScope N_web P_web (defScope s_web) := ⟨rfl, rfl, rfl, by decide +kernel, rfl, by decide +kernel, by decide +kernel⟩
/-- some web, off the purse -/
def sp_web (K : PySem.W.Frag) : Sp := fun vs H Q _ => ∃ (p : Addr) (most mn : Int) (m : Nat), vs = [.ref p, .int most, .int mn] ∧ (1 ≤ most ∧ most ≤ 20) ∧ (0 ≤ mn ∧ mn ≤ 8) ∧
  Purse H p m ∧ m ≤ 100000 ∧
  ∀ (v : V) (u : Wb) H', ExD p H H' → Purse H' p (m + 700) → Da K (rm H' p) u.d v → u.Ok → u.n ≤ most → (u.ns.length : Int) ≤ mn → Q v H'
section
variable {P : Program} {w : World} {K : PySem.W.Frag} {mg : Str → Option Value} {base : Heap}
theorem ok_web {f : Addr} {fd : FuncData} (T : Txt K mg) (F : Fun K "_law_web" "_law_web" s_web f fd)
    (D_coin : DefOk P w K mg base CX0 1 "_law_coin" P_coin (sp_coin K))
    (D_targets : DefOk P w K mg base CX0 2 "_law_targets" P_targets (sp_targets K)) :
    FnG P w K mg base CX0 3 f fd P_web (sp_web K) := by
  refine okG0 F sc_web (fun vs H Q E h => ?_) (fun cdv A outer s H vs Q E hr hq h => ?_)
  · obtain ⟨p, most, mn, m, rfl, _⟩ := h
    rfl
  · obtain ⟨p, most, mn, m, rfl, hmost, hmn, hp, hm, q⟩ := h
    refine ⟨_, (pss_cons (ps_asg (pe_tup (pa_cons (pe_op op_add pe_int (pe_callD D_coin (hr.mono (by decide)) hq pass0 (pa_cons (pv 0) (pa_cons (pv 1) pa_nil)))) (pa_cons (pe_op op_add pe_int (pe_callD D_coin (hr.mono (by decide)) hq pass0 (pa_cons (pv 0) (pa_cons pe_int pa_nil)))) (pa_cons (pe_lst pa_nil) pa_nil)))) (pg_tupK (n := 3) K rfl (pgs_cons (pg_name (i := 3) sc_web.nd rfl (by first | exact .inl rfl | exact .inr rfl)) (pgs_cons (pg_name (i := 4) sc_web.nd rfl (by first | exact .inl rfl | exact .inr rfl)) (pgs_cons (pg_name (i := 5) sc_web.nd rfl (by first | exact .inl rfl | exact .inr rfl)) pgs_nil)))))
      (pss_cons (ps_for PassesOwn.never rfl (pi_range1 (by rfl) T.b_range (pa_cons (pv 3) pa_nil)) (pg_name (i := 6) sc_web.nd rfl (by first | exact .inl rfl | exact .inr rfl)) (pss_one (ps_expr (pe_bm PySem.F.plainAttrs_list PySem.F.slot_list_extend PySem.F.type_list_extend mt_extend (pv 5) (pa_cons (pe_lc (own := [("_law_other", 7)]) rfl sc_web.nd (pi_range1 (by rfl) T.b_range (pa_cons (pv 3) pa_nil)) (blkOk_by (N := N_web) (sc := defScope s_web) (by decide +kernel)) (fun _ _ _ _ _ => (pg_name (i := 7) sc_web.nd rfl (by first | exact .inl rfl | exact .inr rfl))) (fun _ _ _ _ _ => (pts_one (pt_cmpR op_eq (pe_callD D_coin (hr.mono (by decide)) hq pass0 (pa_cons (pv 0) (pa_cons (pv 4) pa_nil))) pe_int (nomark _)))) (fun _ _ _ _ _ => (pe_tup (pa_cons (pv 6) (pa_cons (pv 7) pa_nil))))) pa_nil)))))
      (pss_cons (ps_setLc (i := 8) (own := [("_law_turn", 9)]) rfl sc_web.nd rfl rfl (sw_true rfl rfl rfl (by decide +kernel)) (pi_range1 (by rfl) T.b_range (pa_cons (pe_callD D_coin (hr.mono (by decide)) hq pass0 (pa_cons (pv 0) (pa_cons (pe_op op_add (pv 2) pe_int) pa_nil))) pa_nil)) (blkOk_by (N := N_web) (sc := defScope s_web) (by decide +kernel)) (fun _ _ _ _ _ => (pg_name (i := 9) sc_web.nd rfl (by first | exact .inl rfl | exact .inr rfl))) (fun _ _ _ _ _ => pts_nil) (fun _ _ _ _ _ => (pe_callD D_targets (hr.mono (by decide)) hq pass0 (pa_cons (pv 0) (pa_cons (pv 3) pa_nil)))))
      (pss_one (ps_ret (pe_tup (pa_cons (pv 3) (pa_cons (pv 5) (pa_cons (pv 8) pa_nil))))))))), ?_⟩
    refine ⟨_, rfl, _, rfl, p, most, m, rfl, by omega, hp, by omega, fun z1 H1 hz1 p1 e1 => ⟨_, _, rfl, rfl, ?_⟩⟩
    refine ⟨_, rfl, p, 7, m + 1, rfl, by decide, p1, by omega, fun z2 H2 hz2 p2 e2 => ⟨_, _, rfl, rfl, ?_⟩⟩
    refine ⟨Nat.zero_le _, fun L hL => ⟨by show 3 ≤ sizeLine; decide, fun T1 hT1 => ?_⟩⟩
    have pL := p2.off hL
    have TL : T1 ≠ L := fun e => by
      rw [e, upd_same] at hT1
      cases hT1
    refine ⟨T1, _, rfl, .inl (.inl upd_same), rfl, _, _, rfl, _, _, rfl, _, _, rfl, rfl, ?_⟩
    -- the pairs
    refine ⟨_, rfl, _, rfl, by omega, by omega, ?_⟩
    have e20 : ExD p H (upd (upd H2 L (.lst [])) T1 (.tup [.int (1 + z1), .int (1 + z2), .ref L])) := ((e1.tr e2).tr (ExD.nw hL)).tr (ExD.nw hT1)
    have hL0 : (upd (upd H2 L (.lst [])) T1 (.tup [.int (1 + z1), .int (1 + z2), .ref L])) L = some (.lst []) := by
      rw [upd_ne TL.symm, upd_same]
    have HL : H L = none := Purse.fr (e1.tr e2) p2 hL
    have HT1 : H2 T1 = none := by rw [upd_ne TL] at hT1; exact hT1
    have p20 : Purse (upd (upd H2 L (.lst [])) T1 (.tup [.int (1 + z1), .int (1 + z2), .ref L])) p (m + 2) :=
      (p2.put pL.symm).put (p2.off HT1).symm
    refine for_by (1 + z1).toNat (fun i σ H' => ∃ y6 y7 y8 y9, σ = [some (V.ref p), some (V.int most), some (V.int mn), some (V.int (1 + z1)), some (V.int (1 + z2)), some (V.ref L), y6, y7, y8, y9] ∧
        ExD p H H' ∧ Purse H' p (m + 2 + 20 * i) ∧ ∃ (acc : List V) (ps : List (Int × Int)), H' L = some (.lst acc) ∧ DaAll K (rm (rm H' p) L) (ps.map dPair) acc ∧
        ascB ltPr ps = true ∧ (∀ x ∈ ps, (0 ≤ x.1 ∧ x.1 < (i : Int)) ∧ (0 ≤ x.2 ∧ x.2 < 1 + z1)) ∧ ps.length ≤ 20 * i)
      ⟨_, _, _, _, rfl, e20, p20, [], [], hL0, rfl, rfl, fun x hx => (by cases hx), Nat.le_refl _⟩ (fun i σ H' hi _ => hi) (fun σ H' _ => Nat.le_refl _) ?_ ?_
    · rintro i σ H3 x H4 hi ⟨y6, y7, y8, y9, rfl, e3, p3, acc, ps, hL3, hA3, ha, hb, hl⟩ ⟨rfl, rfl⟩
      refine ⟨_, rfl, .inl ⟨rfl, _, .inl (.inl hL3)⟩, ?_⟩
      refine ⟨_, rfl, _, rfl, by omega, by omega, fun D hD => ?_⟩
      have Dp := p3.off hD
      have DL : D ≠ L := fun e => by
        rw [e, hL3] at hD
        cases hD
      refine lc_by (1 + z1).toNat (fun j H' => ExD p H4 H' ∧ Purse H' p (m + 2 + 20 * i + j) ∧ ∃ (ac2 : List V) (p2 : List (Int × Int)), H' D = some (.lst ac2) ∧
          DaAll K (rm (rm (rm H' p) L) D) (p2.map dPair) ac2 ∧ ascB ltPr p2 = true ∧ (∀ x ∈ p2, x.1 = (i : Int) ∧ (0 ≤ x.2 ∧ x.2 < (j : Int))) ∧ p2.length ≤ j)
        ⟨ExD.nw hD, p3.put Dp.symm, [], [], upd_same, rfl, rfl, fun x hx => (by cases hx), Nat.le_refl _⟩ (fun j H' hj _ => hj) (fun H' _ => Nat.le_refl _) ?_ ?_
      · rintro j H5 x H6 hj ⟨e5, p5, ac2, ps2, hD5, hA5, ha5, hb5, hl5⟩ ⟨rfl, rfl⟩
        refine ⟨rfl, ?_⟩
        refine ⟨_, rfl, _, rfl, p, 1 + z2, _, rfl, by omega, p5, by omega, fun z H7 hz p7 e7 => ?_⟩
        have hD7 := e7 D _ Dp hD5
        have hA7 : DaAll K (rm (rm (rm H7 p) L) D) (ps2.map dPair) ac2 := hA5.up (Ex.rm (Ex.rm e7.rm))
        refine ⟨rfl, _, rfl, ite2 (fun _ => ?_) (fun _ => ?_)⟩
        · refine ⟨_, rfl, _, rfl, by show 2 ≤ sizeLine; decide, fun T2 hT2 => ?_⟩
          have T2D : T2 ≠ D := fun e => by
            rw [e, hD7] at hT2
            cases hT2
          have T2p := p7.off hT2
          have T2L : T2 ≠ L := fun e => by
            have h9 := e7 L _ pL (e5 L _ pL hL3)
            rw [e, h9] at hT2
            cases hT2
          have hA8 := hA7.len
          rw [List.length_map] at hA8
          refine ⟨ac2, by rw [upd_ne T2D.symm]; exact hD7, mil' (by omega), ((e5.tr e7).tr (ExD.nw hT2)).wr hD, (p7.up (Ex.nw hT2)).put Dp.symm, ac2 ++ [.ref T2], ps2 ++ [(0 + (i : Int), 0 + (j : Int))], upd_same, ?_, ?_, ?_, ?_⟩
          · rw [List.map_append]
            refine (hA7.up (ex_rm3 fun b o _ _ n3 h => ?_)).app ⟨_, _, rfl, dPair_of (p := (0 + (i : Int), 0 + (j : Int))) ?_, rfl⟩
            · rw [upd_ne n3, upd_ne (ne_of_none h hT2)]
              exact h
            · rw [rm_ne T2D, rm_ne T2L, rm_ne T2p, upd_ne T2D, upd_same]
          · exact ascP_snoc ha5 fun t ht => ltPr_iff.mpr (by have := hb5 t ht; simp only; omega)
          · intro x hx
            rcases List.mem_append.mp hx with hx | hx
            · have := hb5 x hx
              omega
            · obtain rfl := List.mem_singleton.mp hx
              simp only
              omega
          · rw [List.length_append, List.length_singleton]
            omega
        · exact ⟨e5.tr e7, p7, ac2, ps2, hD7, hA7, ha5, fun x hx => by have := hb5 x hx; omega, by omega⟩
      · rintro H5 ⟨e5, p5, ac2, ps2, hD5, hA5, ha5, hb5, hl5⟩
        have hL5 := e5 L _ pL hL3
        have l1 := hA3.len
        have l2 := hA5.len
        rw [List.length_map] at l1 l2
        refine ⟨L, D, acc, ac2, rfl, rfl, hL5, hD5, mil (by omega), ?_⟩
        refine ⟨_, _, _, _, rfl, (e3.tr e5).wr HL, (p5.put pL.symm).mono (by omega), acc ++ ac2, ps ++ ps2, upd_same, ?_, ?_, ?_, ?_⟩
        · rw [List.map_append]
          refine (hA3.up (ex_rm2 fun b o n1 n2 h => ?_)).app (hA5.up (rm_ex.tr (ex_rm2 fun b o n1 n2 h => ?_)))
          · rw [upd_ne n2]
            exact e5 b o n1 h
          · rw [upd_ne n2]
            exact h
        · refine asc_app ha ha5 fun x hx y hy => ltPr_iff.mpr (.inl ?_)
          have := hb x hx
          have := hb5 y hy
          omega
        · intro x hx
          rcases List.mem_append.mp hx with hx | hx
          · have := hb x hx
            omega
          · have := hb5 x hx
            omega
        · rw [List.length_append]
          omega
    · rintro σ H3 ⟨y6, y7, y8, y9, rfl, e3, p3, acc, ps, hL3, hA3, ha, hb, hl⟩
      -- the nudges
      refine ⟨_, rfl, _, rfl, _, _, rfl, rfl, p, mn + 1, _, rfl, by omega, p3, by omega, fun z3 H4 hz3 p4 e4 => ⟨_, rfl, by omega, by omega, fun D hD => ?_⟩⟩
      have Dp := p4.off hD
      have hL4 := e4 L _ pL hL3
      have DL : D ≠ L := fun e => by
        rw [e, hL4] at hD
        cases hD
      have hm0 : m + 2 + 20 * (1 + z1).toNat + 1 ≤ m + 403 := by omega
      have p40 := p4.mono hm0
      refine lc_by z3.toNat (fun i H' => ExD p H4 H' ∧ Purse H' p (m + 403 + 21 * i) ∧ ∃ (ac : List V) (rs : List (List Int)), H' D = some (.lst ac) ∧
          DaAll K (rm (rm H' p) D) (rs.map dInts) ac ∧ (∀ r ∈ rs, r ≠ [] ∧ (∀ t ∈ r, 0 ≤ t ∧ t < 1 + z1) ∧ ascB ltIn r = true) ∧ rs.length = i)
        ⟨ExD.nw hD, p40.put Dp.symm, [], [], upd_same, rfl, fun r hr => (by cases hr), rfl⟩ (fun i H' hi _ => hi) (fun H' _ => Nat.le_refl _) ?_ ?_
      · rintro i H5 x H6 hi ⟨e5, p5, ac, rs, hD5, hA5, hr5, hl5⟩ ⟨rfl, rfl⟩
        refine ⟨rfl, ?_⟩
        refine ⟨_, rfl, _, rfl, p, 1 + z1, _, rfl, by omega, p5, by omega, fun l r H7 hl e7 p7 h7 hr7 => ?_⟩
        have hD7 := e7 D _ Dp hD5
        have lD : l ≠ D := fun e => by
          rw [e, hD5] at hl
          cases hl
        have lp := p5.off hl
        have l1 := hA5.len
        rw [List.length_map] at l1
        have lr : r.length ≤ 20 := by
          have := asc_len r 0 hr7.2.1 hr7.2.2
          omega
        refine ⟨ac, hD7, mil' (by omega), (e5.tr e7).wr hD, p7.put Dp.symm, ac ++ [.ref l], rs ++ [r], upd_same, ?_, ?_, ?_⟩
        · rw [List.map_append]
          refine (hA5.up (ex_rm2 fun b o n1 n2 h => ?_)).app ⟨_, _, rfl, dInts_of ?_ (by omega), rfl⟩
          · rw [upd_ne n2]
            exact e7 b o n1 h
          · rw [rm_ne lD, rm_ne lp, upd_ne lD]
            exact h7
        · intro s hs
          rcases List.mem_append.mp hs with hs | hs
          · exact hr5 s hs
          · obtain rfl := List.mem_singleton.mp hs
            exact hr7
        · rw [List.length_append, hl5]
          rfl
      · rintro H5 ⟨e5, p5, ac, rs, hD5, hA5, hr5, hl5⟩
        refine ⟨_, rfl, _, rfl, _, rfl, by show 3 ≤ sizeLine; decide, fun T3 hT3 => ?_⟩
        have hL5 := e5 L _ pL hL4
        have T3p := p5.off hT3
        have T3L : T3 ≠ L := fun e => by
          rw [e, hL5] at hT3
          cases hT3
        have T3D : T3 ≠ D := fun e => by
          rw [e, hD5] at hT3
          cases hT3
        have l1 := hA3.len
        have l2 := hA5.len
        rw [List.length_map] at l1 l2
        refine q (.ref T3) ⟨1 + z1, ps, rs⟩ _ (((e3.tr e4).tr e5).tr (ExD.nw hT3)) ((p5.up (Ex.nw hT3)).mono (by omega)) ?_ ?_ (by show 1 + z1 ≤ most; omega) (by show (rs.length : Int) ≤ mn; omega)
        · refine ⟨T3, _, rfl, by rw [rm_ne T3p, upd_same], _, _, rfl, rfl, _, _, rfl, ⟨L, acc, rfl, ?_, ?_, ?_⟩, _, _, rfl, ⟨D, ac, rfl, ?_, ?_, ?_⟩, rfl⟩
          · rw [rm_ne pL, upd_ne T3L.symm]
            exact hL5
          · refine hA3.up (rm_ex.tr (ex_rm1 fun b o n h => ?_))
            rw [upd_ne (ne_of_none (e5 b o n (e4 b o n h)) hT3)]
            exact e5 b o n (e4 b o n h)
          · rw [List.length_map]
            show ps.length ≤ 100000
            omega
          · rw [rm_ne Dp, upd_ne T3D.symm]
            exact hD5
          · refine hA5.up (rm_ex.tr (ex_rm1 fun b o n h => ?_))
            rw [upd_ne (ne_of_none h hT3)]
            exact h
          · rw [List.length_map]
            show rs.length ≤ 100000
            omega
        · refine ⟨by show 1 ≤ 1 + z1; omega, by show 1 + z1 ≤ 20; omega, ?_, ha, by show rs.length ≤ 8; omega, hr5⟩
          intro x hx
          have := hb x hx
          refine ⟨⟨this.1.1, ?_⟩, this.2⟩
          show x.1 < 1 + z1
          omega
end

end K43
namespace K43
open PySem PySem.Spec PyProof.Rows L2 Nw
/-! _law_right: slots 0 _law_purse_here, 1 _law_web_here, 2 _law_kept, 3 _law_count_here, 4 _law_pairs_here, 5 _law_nudges_here, 6 _law_turn, 7 _law_pair_here, 8 _law_is_there, 9 _law_found, 10 _law_rest, 11 _law_due, 12 _law_back, 13 _law_more, 14 _law_less, 15 _law_one, 16 _law_row, 17 _law_passed, 18 _law_at -/
abbrev s_right : Stmt := topS 41
abbrev N_right : List Str := ["_law_purse_here", "_law_web_here", "_law_kept", "_law_count_here", "_law_pairs_here", "_law_nudges_here", "_law_turn", "_law_pair_here", "_law_is_there", "_law_found", "_law_rest", "_law_due", "_law_back", "_law_more", "_law_less", "_law_one", "_law_row", "_law_passed", "_law_at"]
abbrev P_right : List Str := ["_law_purse_here", "_law_web_here"]
theorem sc_right : FnScope N_right P_right (defScope s_right) := ⟨rfl, rfl, rfl, by decide +kernel, rfl, by decide +kernel, by decide +kernel⟩
theorem moreN_ok {u : Wb} (hu : u.Ok) {r : List Int} (hr : r ≠ [] ∧ (∀ t ∈ r, 0 ≤ t ∧ t < u.n) ∧ ascB ltIn r = true) (h : u.ns.length < 8) : (moreN u r).Ok := by
  refine ⟨hu.lo, hu.hi, hu.ps, hu.asc, ?_, fun s hs => ?_⟩
  · show (u.ns ++ [r]).length ≤ 8
    rw [List.length_append, List.length_singleton]
    omega
  · rcases List.mem_append.mp hs with hs | hs
    · exact hu.ns s hs
    · obtain rfl := List.mem_singleton.mp hs
      exact hr
theorem lessN_ok {u : Wb} (hu : u.Ok) {k : Nat} : (lessN u k).Ok := by
  refine ⟨hu.lo, hu.hi, hu.ps, hu.asc, ?_, fun s hs => ?_⟩
  · show (u.ns.take k ++ u.ns.drop (k + 1)).length ≤ 8
    have := hu.few
    rw [List.length_append, List.length_take, List.length_drop]
    omega
  · rcases List.mem_append.mp hs with hs | hs
    · exact hu.ns s (List.mem_of_mem_take hs)
    · exact hu.ns s (List.mem_of_mem_drop hs)
theorem less_more (u : Wb) (r : List Int) : lessN (moreN u r) u.ns.length = u := by
  obtain ⟨n, ps, ns⟩ := u
  show Wb.mk n ps ((ns ++ [r]).take ns.length ++ (ns ++ [r]).drop (ns.length + 1)) = _
  rw [List.take_left, List.drop_eq_nil_of_le (by rw [List.length_append, List.length_singleton]; exact Nat.le_refl _), List.append_nil]
def sp_right (K : PySem.W.Frag) : Sp := fun vs H Q _ => ∃ (p : Addr) (v : V) (u : Wb) (m : Nat), vs = [.ref p, v] ∧ Purse H p m ∧ m ≤ 100000 ∧ Da K (rm H p) (Wb.d u) v ∧ u.Ok ∧
  ∀ H', ExD p H H' → Purse H' p (m + 40) → Q (.bl true) H'
section
variable {P : Program} {w : World} {K : PySem.W.Frag} {mg : Str → Option Value} {base : Heap}
theorem ok_right {f : Addr} {fd : FuncData} (T : Txt K mg) (F : Fun K "_law_right" "_law_right" s_right f fd)
    (D_without_nudge : DefOk P w K mg base CX0 8 "without_nudge" P_without_nudge (sp_without_nudge K))
    (D_coin : DefOk P w K mg base CX0 1 "_law_coin" P_coin (sp_coin K))
    (D_targets : DefOk P w K mg base CX0 2 "_law_targets" P_targets (sp_targets K))
    (D_copy : DefOk P w K mg base CX0 1 "_law_copy" P_copy (sp_copy K))
    (D_pair : DefOk P w K mg base CX0 9 "_law_pair" P_pair (sp_pair K))
    (D_nudge : DefOk P w K mg base CX0 9 "_law_nudge" P_nudge (sp_nudge K))
    (D_apart : DefOk P w K mg base CX0 1 "_law_apart" P_apart (sp_apart K)) :
    FnG P w K mg base CX0 10 f fd P_right (sp_right K) := by
  refine okG0 F sc_right (fun vs H Q E h => ?_) (fun cdv A outer s H vs Q E hr hq h => ?_)
  · obtain ⟨p, v, u, m, rfl, _⟩ := h
    rfl
  · obtain ⟨p, v, u, m, rfl, hp, hm, hd0, hu, q⟩ := h
    obtain ⟨pb, pc, pe, hpl, _⟩ := hp.ex
    have hd := hd0.up rm_ex
    have b1 := hu.lo
    have b2 := hu.hi
    have b3 := hu.few
    have b4 := hu.len
    obtain ⟨w1, w2, w3⟩ := show_web hu
    refine ⟨_, (pss_cons (ps_set (i := 2) sc_right.nd rfl (by first | exact .inl rfl | exact .inr rfl) (pe_callD D_copy (hr.mono (by decide)) hq pass0 (pa_cons (pv 1) pa_nil)))
      (pss_cons (ps_asg (pv 2) (pg_tupK (n := 3) K rfl (pgs_cons (pg_name (i := 3) sc_right.nd rfl (by first | exact .inl rfl | exact .inr rfl)) (pgs_cons (pg_name (i := 4) sc_right.nd rfl (by first | exact .inl rfl | exact .inr rfl)) (pgs_cons (pg_name (i := 5) sc_right.nd rfl (by first | exact .inl rfl | exact .inr rfl)) pgs_nil)))))
      (pss_cons (ps_for PassesOwn.never rfl (pi_range1 (by rfl) T.b_range (pa_cons pe_int pa_nil)) (pg_name (i := 6) sc_right.nd rfl (by first | exact .inl rfl | exact .inr rfl)) (pss_cons (ps_set (i := 7) sc_right.nd rfl (by first | exact .inl rfl | exact .inr rfl) (pe_tup (pa_cons (pe_callD D_coin (hr.mono (by decide)) hq pass0 (pa_cons (pv 0) (pa_cons (pv 3) pa_nil))) (pa_cons (pe_callD D_coin (hr.mono (by decide)) hq pass0 (pa_cons (pv 0) (pa_cons (pv 3) pa_nil))) pa_nil))))
      (pss_cons (ps_if (PW.pt (pw_and (pt_cmpR op_eq (pv 6) pe_int (nomark _)) (pw_and1 (pt_cmpR (op_neDk K hr.units) (pv 4) (pe_lst pa_nil) (nomark _))))) (pss_one (ps_set (i := 7) sc_right.nd rfl (by first | exact .inl rfl | exact .inr rfl) (pe_ix (ix_listK K) (pv 4) (pe_callD D_coin (hr.mono (by decide)) hq pass0 (pa_cons (pv 0) (pa_cons (pe_callB (call_lenK K) (by rfl) T.b_len bt_len (pa_cons (pv 4) pa_nil)) pa_nil))) (fun _ _ => rfl)))) pss_nil)
      (pss_cons (ps_set (i := 8) sc_right.nd rfl (by first | exact .inl rfl | exact .inr rfl) (pe_cmpR (op_inDk K hr) (pv 7) (pv 4) (by rfl)))
      (pss_cons (ps_par (i := 13) (j := 14) (by rfl) sc_right.nd rfl rfl (by decide) rfl rfl (pa_cons (pe_callD D_pair (hr.mono (by decide)) hq pass0 (pa_cons pe_bl (pa_cons (pv 1) (pa_cons (pe_ix (ix_tupK K) (pv 7) pe_int (fun _ _ => rfl)) (pa_cons (pe_ix (ix_tupK K) (pv 7) pe_int (fun _ _ => rfl)) pa_nil))))) (pa_cons (pe_callD D_pair (hr.mono (by decide)) hq pass0 (pa_cons pe_bl (pa_cons (pv 1) (pa_cons (pe_ix (ix_tupK K) (pv 7) pe_int (fun _ _ => rfl)) (pa_cons (pe_ix (ix_tupK K) (pv 7) pe_int (fun _ _ => rfl)) pa_nil))))) pa_nil)) (by rfl))
      (pss_cons (ps_if (PW.pt (pw_or (pt_cmpR op_ne (pe_cmpR (op_eqDk K hr.units) (pv 13) pe_str (nomark _)) (pv 8) (nomark _)) (pw_or1 (pt_cmpR op_eq (pe_cmpR (op_eqDk K hr.units) (pv 14) pe_str (nomark _)) (pv 8) (nomark _))))) (pss_one (ps_ret pe_bl)) pss_nil)
      (pss_cons (ps_set (i := 9) sc_right.nd rfl (by first | exact .inl rfl | exact .inr rfl) (pe_ifExp (pt_val (pv 8)) (pv 14) (pv 13)))
      (pss_cons (ps_setLc (i := 10) (own := [("_law_one", 15)]) rfl sc_right.nd rfl rfl (sw_true rfl rfl rfl (by decide +kernel)) (pi_listK K (pv 4)) (blkOk_by (N := N_right) (sc := defScope s_right) (by decide +kernel)) (fun _ _ _ _ _ => (pg_name (i := 15) sc_right.nd rfl (by first | exact .inl rfl | exact .inr rfl))) (fun _ _ _ _ _ => (pts_one (pt_cmpR (op_neDk K hr.units) (pv 15) (pv 7) (nomark _)))) (fun _ _ _ _ _ => (pv 15)))
      (pss_cons (ps_set (i := 11) sc_right.nd rfl (by first | exact .inl rfl | exact .inr rfl) (pe_tup (pa_cons (pv 3) (pa_cons (pe_ifExp (pt_val (pv 8)) (pv 10) (pe_callB (cr_sortedPOk K) (by rfl) T.b_sorted bt_sorted (pa_cons (pe_op (op_catS K) (pv 10) (pe_lst (pa_cons (pv 7) pa_nil))) pa_nil))) (pa_cons (pv 5) pa_nil)))))
      (pss_cons (ps_set (i := 12) sc_right.nd rfl (by first | exact .inl rfl | exact .inr rfl) (pe_callD D_pair (hr.mono (by decide)) hq pass0 (pa_cons (pv 8) (pa_cons (pe_callD D_copy (hr.mono (by decide)) hq pass0 (pa_cons (pv 11) pa_nil)) (pa_cons (pe_ix (ix_tupK K) (pv 7) pe_int (fun _ _ => rfl)) (pa_cons (pe_ix (ix_tupK K) (pv 7) pe_int (fun _ _ => rfl)) pa_nil))))))
      (pss_one (ps_if (PW.pt (pw_or (pt_cmpR op_ne (pe_callB (call_reprK K hq hr) (by rfl) T.b_repr bt_repr (pa_cons (pv 12) pa_nil)) (pe_callB (call_reprK K hq hr) (by rfl) T.b_repr bt_repr (pa_cons (pv 2) pa_nil)) (nomark _)) (pw_or1 (pt_not (pt_val (pe_callD D_apart (hr.mono (by decide)) hq pass0 (pa_cons (pv 9) (pa_cons (pv 11) (pa_cons (pv 1) (pa_cons (pv 2) pa_nil)))))))))) (pss_one (ps_ret pe_bl)) pss_nil))))))))))))
      (pss_cons (ps_set (i := 16) sc_right.nd rfl (by first | exact .inl rfl | exact .inr rfl) (pe_callD D_targets (hr.mono (by decide)) hq pass0 (pa_cons (pv 0) (pa_cons (pv 3) pa_nil))))
      (pss_cons (ps_set (i := 17) sc_right.nd rfl (by first | exact .inl rfl | exact .inr rfl) (pe_callTy (call_listK K) (by rfl) T.b_list bt_list (pa_cons (pv 16) pa_nil)))
      (pss_cons (ps_set (i := 9) sc_right.nd rfl (by first | exact .inl rfl | exact .inr rfl) (pe_callD D_nudge (hr.mono (by decide)) hq pass0 (pa_cons (pv 1) (pa_cons (pv 17) pa_nil))))
      (pss_cons (ps_if (pt_cmpR op_eq (pe_callB (call_lenK K) (by rfl) T.b_len bt_len (pa_cons (pv 5) pa_nil)) pe_int (nomark _)) (pss_one (ps_if (pt_cmpR (op_neDk K hr.units) (pv 9) pe_int (nomark _)) (pss_one (ps_ret pe_bl)) pss_nil)) (pss_cons (ps_if (pt_cmpR op_ne (pe_callB (call_reprK K hq hr) (by rfl) T.b_repr bt_repr (pa_cons (pe_callD D_without_nudge (hr.mono (by decide)) hq pass0 (pa_cons (pe_callD D_copy (hr.mono (by decide)) hq pass0 (pa_cons (pv 9) pa_nil)) (pa_cons (pe_callB (call_lenK K) (by rfl) T.b_len bt_len (pa_cons (pv 5) pa_nil)) pa_nil))) pa_nil)) (pe_callB (call_reprK K hq hr) (by rfl) T.b_repr bt_repr (pa_cons (pv 2) pa_nil)) (nomark _)) (pss_one (ps_ret pe_bl)) pss_nil)
      (pss_cons (ps_set (i := 11) sc_right.nd rfl (by first | exact .inl rfl | exact .inr rfl) (pe_tup (pa_cons (pv 3) (pa_cons (pv 4) (pa_cons (pe_op (op_catS K) (pv 5) (pe_lst (pa_cons (pv 16) pa_nil))) pa_nil)))))
      (pss_one (ps_if (PW.pt (pw_or (pt_cmpR (op_neDk K hr.units) (pv 17) (pv 16) (nomark _)) (pw_or1 (pt_not (pt_val (pe_callD D_apart (hr.mono (by decide)) hq pass0 (pa_cons (pv 9) (pa_cons (pv 11) (pa_cons (pv 1) (pa_cons (pv 2) pa_nil)))))))))) (pss_one (ps_ret pe_bl)) pss_nil)))))
      (pss_cons (ps_for PassesOwn.never rfl (pi_range1 (by rfl) T.b_range (pa_cons (pe_callB (call_lenK K) (by rfl) T.b_len bt_len (pa_cons (pv 5) pa_nil)) pa_nil)) (pg_name (i := 18) sc_right.nd rfl (by first | exact .inl rfl | exact .inr rfl)) (pss_cons (ps_set (i := 10) sc_right.nd rfl (by first | exact .inl rfl | exact .inr rfl) (pe_op (op_catS K) (pe_slice (sl_listK K) (pv 5) po_none (po_some (pv 18))) (pe_slice (sl_listK K) (pv 5) (po_some (pe_op op_add (pv 18) pe_int)) po_none)))
      (pss_cons (ps_set (i := 11) sc_right.nd rfl (by first | exact .inl rfl | exact .inr rfl) (pe_tup (pa_cons (pv 3) (pa_cons (pv 4) (pa_cons (pv 10) pa_nil)))))
      (pss_one (ps_if (pt_not (pt_val (pe_callD D_apart (hr.mono (by decide)) hq pass0 (pa_cons (pe_callD D_without_nudge (hr.mono (by decide)) hq pass0 (pa_cons (pv 1) (pa_cons (pv 18) pa_nil))) (pa_cons (pv 11) (pa_cons (pv 1) (pa_cons (pv 2) pa_nil))))))) (pss_one (ps_ret pe_bl)) pss_nil)))))
      (pss_one (ps_ret (pe_cmpR (op_eqDk K hr.units) (pv 1) (pv 2) (nomark _)))))))))))), ?_⟩
    refine ⟨_, rfl, v, u, rfl, hd, hu, fun c K1 K2 xs bs H1 N => ?_⟩
    obtain ⟨c0, cp0, cn0⟩ := N.offs hu hpl
    have e1 := N.ex
    have p1 := hp.up e1
    have hv1 := hd0.up e1.d.rm
    clear hd
    refine ⟨_, rfl, c, _, rfl, .inl (.inl N.tup), rfl, _, _, rfl, _, _, rfl, _, _, rfl, rfl, ?_⟩
    -- what is known at a later heap
    have at_ : ∀ H', ExD p H1 H' → Da K H' u.d v ∧ Da K H' u.d (.ref c) ∧ Da K H' (dPairs u.ps) (.ref K1) ∧ Da K H' (dRows u.ns) (.ref K2) := fun H' e =>
      ⟨(hv1.up e.rm).up rm_ex, ((da_web c0 cp0 cn0).up e.rm).up rm_ex, (cp0.up e.rm).up rm_ex, (cn0.up e.rm).up rm_ex⟩
    refine ⟨_, rfl, by decide, by decide, ?_⟩
    refine for_by 4 (fun i σ H' => ∃ y6 y7 y8 y9 y10 y11 y12 y13 y14 y15 y16 y17 y18, σ = [some (V.ref p), some v, some (V.ref c), some (V.int u.n), some (V.ref K1), some (V.ref K2), y6, y7, y8, y9, y10, y11, y12, y13, y14, y15, y16, y17, y18] ∧
        ExD p H1 H' ∧ Purse H' p (m + 3 * i))
      ⟨_, _, _, _, _, _, _, _, _, _, _, _, _, rfl, fun _ _ _ h => h, p1⟩ (fun i σ H' hi _ => hi) (fun σ H' _ => Nat.le_refl _) ?_ ?_
    · rintro i σ H2 x H3 hi ⟨y6, y7, y8, y9, y10, y11, y12, y13, y14, y15, y16, y17, y18, rfl, e2, p2⟩ ⟨rfl, rfl⟩
      have ds : ∀ (H' : Hp) (x : Str), Dp K H' (.str x) (.str x) := fun H' x => (show Da K H' (.str x) (.str x) from rfl).dp _ _ rfl
      have shs1 : SeqAt.shaped (.str "there") = true := by decide +kernel
      have shs2 : SeqAt.shaped (.str "none") = true := by decide +kernel
      refine ⟨_, rfl, _, rfl, p, u.n, _, rfl, by omega, p2, by omega, fun a H4 ha p4 e4 => ?_⟩
      refine ⟨_, rfl, _, rfl, p, u.n, _, rfl, by omega, p4, by omega, fun b H5 hb p5 e5 => ?_⟩
      refine ⟨by show 2 ≤ sizeLine; decide, fun tp htp => ?_⟩
      have e50 : Ex H5 (upd H5 tp (.tup [.int a, .int b])) := Ex.nw htp
      have fT : (upd H5 tp (.tup [.int a, .int b])) tp = some (.tup [.int a, .int b]) := upd_same
      generalize upd H5 tp (.tup [.int a, .int b]) = H50 at e50 fT
      have eX : ExD p H1 H50 := ((e2.tr e4).tr e5).tr e50.d
      have pX := p5.up e50
      refine ⟨_, rfl, rfl, _, rfl, ite2 (fun h3 => ?_) (fun _ => ?_)⟩
      · obtain ⟨gv0, gc0, gp0, gn0⟩ := at_ _ eX
        refine ⟨_, rfl, Nat.zero_le _, fun z0 hz0 => ?_⟩
        have e51 : Ex H50 (upd H50 z0 (.lst [])) := Ex.nw hz0
        have f51 : (upd H50 z0 (.lst [])) z0 = some (.lst []) := upd_same
        generalize upd H50 z0 (.lst []) = H51 at e51 f51
        have dz : Da K H51 (dPairs []) (.ref z0) := ⟨z0, [], rfl, f51, rfl, by decide⟩
        have p51 := pX.up e51
        have eY := eX.tr e51.d
        have fY := e51 _ _ fT
        refine ⟨_, _, (gp0.up e51).dPairs, dz.dPairs, sh_dPairs _, sh_dPairs _, _, rfl, ite2 (fun h4 => ?_) (fun _ => ?_)⟩
        · rw [eqv_dPairs] at h4
          have hne : u.ps ≠ [] := by simpa using h4
          obtain ⟨K1', qs, hK, hQ, gA0, _⟩ := gp0.up e51
          cases hK
          have hql0 := gA0.len
          rw [List.length_map] at hql0
          have hpos : 0 < qs.length := by
            rw [← hql0]
            exact List.length_pos_iff.mpr hne
          have K1p : K1 ≠ p := fun x => by
            have := N.new
            rw [x, hpl] at this
            cases this
          refine ⟨_, rfl, _, rfl, _, rfl, K1, _, rfl, .inl (.inl (.inl hQ)), ?_⟩
          refine ⟨p, _, _, rfl, by omega, p51, by omega, fun zz H52 hzz p52 e52 => ?_⟩
          have hQ2 := e52 _ _ K1p hQ
          have hx := List.getElem?_eq_getElem (l := qs) (i := zz.toNat) (by omega)
          generalize qs[zz.toNat]'(by omega) = y0 at hx
          obtain ⟨dr, hdr, hxd⟩ := gA0.at' hx
          obtain ⟨⟨a, b⟩, hp', rfl⟩ := map_at hdr
          obtain ⟨tp, ws, rfl, hS0, g1, r1, rfl, q1, g2, r2, rfl, q2, rfl⟩ := hxd
          obtain rfl := q1
          obtain rfl := q2
          obtain ⟨_, _, _, hp51, _⟩ := p51.ex
          have tpp : tp ≠ p := fun x => by
            rw [x, hp51] at hS0
            cases hS0
          have fT : H52 tp = some (.tup [.int a, .int b]) := e52 _ _ tpp hS0
          have eX : ExD p H1 H52 := eY.tr e52
          have pX := p52
          obtain ⟨ha, hb⟩ := hu.ps _ (List.mem_of_getElem? hp')
          refine ⟨K1, _, zz, _, rfl, rfl, .inl (.inl hQ2), atI_int hzz.1 hx, ?_⟩
          obtain ⟨gv, gc, gp, gn⟩ := at_ _ eX
          have gT : SqT K _ tp [.int a, .int b] := .inl (.inl fT)
          by_cases hin : (a, b) ∈ u.ps
          · refine ⟨_, rfl, _, rfl, dPair (a, b), u.ps.map dPair, (dPair_of (p := (a, b)) fT).dPair, gp.dPairs, sh_dPair _, sh_dPairs _, ?_⟩
            rw [any_pair, decide_eq_true hin]
            refine ⟨_, rfl, _, rfl, tp, _, 0, _, rfl, rfl, gT, rfl, ?_⟩
            refine ⟨_, rfl, tp, _, 1, _, rfl, rfl, gT, rfl, ?_⟩
            refine ⟨true, v, u, a, b, rfl, gv, hu, ha, hb, fun _ _ H6 e6 => ?_, fun h => (by cases h), fun _ h => absurd hin h, fun h => (by cases h)⟩
            refine ⟨_, rfl, _, rfl, tp, _, 0, _, rfl, rfl, e6.t gT, rfl, ?_⟩
            refine ⟨_, rfl, tp, _, 1, _, rfl, rfl, e6.t gT, rfl, ?_⟩
            refine ⟨false, v, u, a, b, rfl, gv.up e6, hu, ha, hb, fun h => (by cases h), fun _ h => absurd hin h, fun h => (by cases h), fun _ _ wl T1 L1 L2 xs1 bs1 H7 N1 ok1 pw1 => ⟨_, _, rfl, ?_⟩⟩
            refine ⟨_, rfl, .str "there", .str "there", ds _ _, ds _ _, shs1, shs1, ?_⟩
            refine ⟨_, rfl, rfl, _, rfl, ite2 (fun h1 => ?_) (fun _ => ?_)⟩
            · simp [PyData.eqv] at h1
            refine ⟨_, rfl, wl.d, .str "none", (N1.da ok1).web, ds _ _, sh_web _, shs2, ?_⟩
            refine ⟨_, rfl, rfl, _, rfl, ite2 (fun h1 => ?_) (fun _ => ?_)⟩
            · simp [PyData.eqv, Wb.d] at h1
            refine ⟨_, rfl, true, rfl, _, rfl, ?_⟩
            have e67 := e6.tr N1.ex
            have fTX := e67 _ _ fT
            obtain ⟨K1', qs, hK, hQ7, gA, _⟩ := gp.up e67
            cases hK
            have gY : SqL K H7 K1 qs := .inl (.inl hQ7)
            have hql := gA.len
            rw [List.length_map] at hql
            refine ⟨_, rfl, K1, rfl, ⟨_, gY⟩, fun D hD => ?_⟩
            refine lc_by qs.length (fun i H' => Ex H7 H' ∧ ∃ ac, H' D = some (.lst ac) ∧ ac.length ≤ i ∧ DaAll K H' (((u.ps.take i).filter fun q => decide (q ≠ (a, b))).map dPair) ac)
              ⟨Ex.nw hD, [], upd_same, Nat.le_refl _, rfl⟩ (fun i H' hi p => itl_go gY p.1 hi) (fun H' p => itl_stop gY p.1) ?_ ?_
            · rintro i Ha x Hb hi ⟨e4, ac, hD4, hac, hA4⟩ y
              obtain ⟨rfl, hx⟩ := itl_yld y gY e4
              obtain ⟨dr, hdr, hxd⟩ := gA.at' hx
              obtain ⟨p', hp', rfl⟩ := map_at hdr
              have dx := hxd.up (e4)
              obtain ⟨bx, zx, rfl, hSx, _⟩ := id dx
              refine ⟨rfl, ?_⟩
              refine ⟨_, rfl, _, rfl, dPair p', dPair (a, b), dx.dPair, ((dPair_of (p := (a, b)) fTX).up e4).dPair, sh_dPair _, sh_dPair _, _, rfl, ?_⟩
              rw [eqv_dPair]
              refine ite2 (fun h2 => ?_) (fun h2 => ?_)
              · have hne : p' ≠ (a, b) := by simpa using h2
                refine ⟨_, rfl, ac, hD4, mil' (by omega), e4.wr hD, ac ++ [.ref bx], upd_same, by rw [List.length_append, List.length_singleton]; omega, ?_⟩
                rw [take_snoc hp', List.filter_append, List.filter_cons_of_pos (p := fun q => decide (q ≠ (a, b))) (decide_eq_true hne), List.filter_nil]
                refine pairs_wr hD4 ?_
                rw [List.map_append]
                exact hA4.app ⟨_, _, rfl, dx, rfl⟩
              · have hne : p' = (a, b) := by simpa using h2
                refine ⟨e4, ac, hD4, by omega, ?_⟩
                rw [take_snoc hp', List.filter_append, List.filter_cons_of_neg (p := fun q => decide (q ≠ (a, b))) (by simp [hne]), List.filter_nil, List.append_nil]
                exact hA4
            rintro H8 ⟨e8, ac, hD8, hac, hA8⟩
            rw [← hql, List.take_length] at hA8
            have okd := (⟨rfl, rfl, fun p => by
              show p ∈ List.filter _ _ ↔ _
              rw [List.mem_filter, decide_eq_true_eq]⟩ : PairW u ⟨u.n, u.ps.filter fun q => decide (q ≠ (a, b)), u.ns⟩ (fun p => p ∈ u.ps ∧ p ≠ (a, b))).ok hu (fun p h => hu.ps p h.1) (asc_filter _ hu.asc)
            refine ⟨_, rfl, _, rfl, true, rfl, _, rfl, _, rfl, by show 3 ≤ sizeLine; decide, fun T9 hT9 => ?_⟩
            have e9 : Ex H8 (upd H8 T9 (.tup [.int u.n, .ref D, .ref K2])) := Ex.nw hT9
            have f9 : (upd H8 T9 (.tup [.int u.n, .ref D, .ref K2])) T9 = some (.tup [.int u.n, .ref D, .ref K2]) := upd_same
            generalize upd H8 T9 (.tup [.int u.n, .ref D, .ref K2]) = H9 at e9 f9
            have hDl : ((u.ps.filter fun q => decide (q ≠ (a, b))).map dPair).length ≤ 100000 := by
              rw [List.length_map]
              exact Nat.le_trans (List.length_filter_le _ _) (by omega)
            have dd : Da K H9 (Wb.d ⟨u.n, u.ps.filter fun q => decide (q ≠ (a, b)), u.ns⟩) (.ref T9) := da_web (w := ⟨u.n, u.ps.filter fun q => decide (q ≠ (a, b)), u.ns⟩) f9 ⟨D, ac, rfl, e9 _ _ hD8, hA8.up e9, hDl⟩ (gn.up (e67.tr (e8.tr e9)))
            refine ⟨_, rfl, _, rfl, _, ⟨u.n, u.ps.filter fun q => decide (q ≠ (a, b)), u.ns⟩, rfl, dd, okd, fun T3 L3 L4 xs3 bs3 H10 N3 => ?_⟩
            have e710 := (e8.tr e9).tr N3.ex
            refine ⟨_, rfl, tp, _, 0, _, rfl, rfl, (e67.tr e710).t gT, rfl, ?_⟩
            refine ⟨_, rfl, tp, _, 1, _, rfl, rfl, (e67.tr e710).t gT, rfl, ?_⟩
            have nin : (a, b) ∉ (u.ps.filter fun q => decide (q ≠ (a, b))) := fun h => of_decide_eq_true (List.mem_filter.mp h).2 rfl
            refine ⟨true, _, ⟨u.n, u.ps.filter fun q => decide (q ≠ (a, b)), u.ns⟩, a, b, rfl, N3.da okd, okd, ha, hb, fun _ h => absurd h nin, fun h => (by cases h), fun _ _ wb T4 L5 L6 xs4 bs4 H11 N4 ok4 pw4 => ?_, fun h => (by cases h)⟩
            have hwb : PairW u wb (fun p => p ∈ u.ps) := ⟨pw4.n, pw4.ns, fun p => (pw4.ps p).trans (by
              show (p ∈ List.filter _ _ ∨ _) ↔ _
              rw [List.mem_filter, decide_eq_true_eq]
              constructor
              · rintro (h | rfl)
                · exact h.1
                · exact hin
              · intro h
                by_cases e : p = (a, b)
                · exact .inr e
                · exact .inl ⟨h, e⟩)⟩
            obtain rfl : u = wb := (hwb.uniq (⟨rfl, rfl, fun p => Iff.rfl⟩ : PairW u u (fun p => p ∈ u.ps)) ok4.asc hu.asc).symm
            have e711 := e710.tr N4.ex
            obtain ⟨NM, x6, xn⟩ := N1.mask e711
            have hlist := N1.lists e711
            refine ⟨_, rfl, _, _, rfl, (N4.da ok4).web, w1, w2, w3, ?_⟩
            refine ⟨_, rfl, _, _, rfl, (gc.up (e67.tr e711)).web, w1, w2, w3, ?_⟩
            refine ⟨rfl, _, rfl, ite2 (fun h1 => ?_) (fun _ => ?_)⟩
            · simp at h1
            obtain rfl : (⟨u.n, u.ps.filter fun q => decide (q ≠ (a, b)), u.ns⟩ : Wb) = wl := (⟨rfl, rfl, fun p => by
              show p ∈ List.filter _ _ ↔ _
              rw [List.mem_filter, decide_eq_true_eq]⟩ : PairW u ⟨u.n, u.ps.filter fun q => decide (q ≠ (a, b)), u.ns⟩ (fun p => p ∈ u.ps ∧ p ≠ (a, b))).uniq pw1 okd.asc ok1.asc
            have x911 := N3.ex.tr N4.ex
            have ddm : Da K (Nw.mask H11 L1 L2 bs1) (Wb.d ⟨u.n, u.ps.filter fun q => decide (q ≠ (a, b)), u.ns⟩) (.ref T9) :=
              da_web (w := ⟨u.n, u.ps.filter fun q => decide (q ≠ (a, b)), u.ns⟩) (xn _ _ (e8.fr hT9) (x911 _ _ f9)) ⟨D, ac, rfl, xn _ _ hD (x911 _ _ (e9 _ _ hD8)), pairs_mask hlist (hA8.up (e9.tr x911)), hDl⟩ (gn.up (e6.tr x6))
            refine ⟨_, rfl, _, rfl, _, rfl, _, rfl, T1, L1, L2, xs1, bs1, _, _, u, _, _, _, rfl, NM, ok1, ddm, gv.up (e6.tr x6), gc.up (e6.tr x6), fun H12 e12 => ?_⟩
            refine ⟨true, rfl, ite2 (fun h1 => (by cases h1)) (fun _ => ?_)⟩
            exact ⟨_, _, _, _, _, _, _, _, _, _, _, _, _, rfl, eX.tr (e6.tr (x6.tr e12)).d, (pX.up (e6.tr (x6.tr e12))).mono (by omega)⟩
          · refine ⟨_, rfl, _, rfl, dPair (a, b), u.ps.map dPair, (dPair_of (p := (a, b)) fT).dPair, gp.dPairs, sh_dPair _, sh_dPairs _, ?_⟩
            rw [any_pair, decide_eq_false hin]
            refine ⟨_, rfl, _, rfl, tp, _, 0, _, rfl, rfl, gT, rfl, ?_⟩
            refine ⟨_, rfl, tp, _, 1, _, rfl, rfl, gT, rfl, ?_⟩
            refine ⟨true, v, u, a, b, rfl, gv, hu, ha, hb, fun _ h => absurd h hin, fun h => (by cases h), fun _ _ wl T1 L1 L2 xs1 bs1 H6 N1 ok1 pw1 => ?_, fun h => (by cases h)⟩
            refine ⟨_, rfl, _, rfl, tp, _, 0, _, rfl, rfl, N1.ex.t gT, rfl, ?_⟩
            refine ⟨_, rfl, tp, _, 1, _, rfl, rfl, N1.ex.t gT, rfl, ?_⟩
            refine ⟨false, v, u, a, b, rfl, gv.up N1.ex, hu, ha, hb, fun h => (by cases h), fun _ _ H7 e7 => ⟨_, _, rfl, ?_⟩, fun h => (by cases h), fun _ h => absurd h hin⟩
            refine ⟨_, rfl, wl.d, .str "there", ((N1.da ok1).up e7).web, ds _ _, sh_web _, shs1, ?_⟩
            refine ⟨_, rfl, rfl, _, rfl, ite2 (fun h1 => ?_) (fun _ => ?_)⟩
            · simp [PyData.eqv, Wb.d] at h1
            refine ⟨_, rfl, .str "none", .str "none", ds _ _, ds _ _, shs2, shs2, ?_⟩
            refine ⟨_, rfl, rfl, _, rfl, ite2 (fun h1 => ?_) (fun _ => ?_)⟩
            · simp [PyData.eqv] at h1
            refine ⟨_, rfl, false, rfl, _, rfl, ?_⟩
            have e67 := N1.ex.tr e7
            have fTX := e67 _ _ fT
            obtain ⟨K1', qs, hK, hQ7, gA, _⟩ := gp.up e67
            cases hK
            have gY : SqL K H7 K1 qs := .inl (.inl hQ7)
            have hql := gA.len
            rw [List.length_map] at hql
            refine ⟨_, rfl, K1, rfl, ⟨_, gY⟩, fun D hD => ?_⟩
            refine lc_by qs.length (fun i H' => Ex H7 H' ∧ ∃ ac, H' D = some (.lst ac) ∧ ac.length ≤ i ∧ DaAll K H' (((u.ps.take i).filter fun q => decide (q ≠ (a, b))).map dPair) ac)
              ⟨Ex.nw hD, [], upd_same, Nat.le_refl _, rfl⟩ (fun i H' hi p => itl_go gY p.1 hi) (fun H' p => itl_stop gY p.1) ?_ ?_
            · rintro i Ha x Hb hi ⟨e4, ac, hD4, hac, hA4⟩ y
              obtain ⟨rfl, hx⟩ := itl_yld y gY e4
              obtain ⟨dr, hdr, hxd⟩ := gA.at' hx
              obtain ⟨p', hp', rfl⟩ := map_at hdr
              have dx := hxd.up (e4)
              obtain ⟨bx, zx, rfl, hSx, _⟩ := id dx
              refine ⟨rfl, ?_⟩
              refine ⟨_, rfl, _, rfl, dPair p', dPair (a, b), dx.dPair, ((dPair_of (p := (a, b)) fTX).up e4).dPair, sh_dPair _, sh_dPair _, _, rfl, ?_⟩
              rw [eqv_dPair]
              refine ite2 (fun h2 => ?_) (fun h2 => ?_)
              · have hne : p' ≠ (a, b) := by simpa using h2
                refine ⟨_, rfl, ac, hD4, mil' (by omega), e4.wr hD, ac ++ [.ref bx], upd_same, by rw [List.length_append, List.length_singleton]; omega, ?_⟩
                rw [take_snoc hp', List.filter_append, List.filter_cons_of_pos (p := fun q => decide (q ≠ (a, b))) (decide_eq_true hne), List.filter_nil]
                refine pairs_wr hD4 ?_
                rw [List.map_append]
                exact hA4.app ⟨_, _, rfl, dx, rfl⟩
              · have hne : p' = (a, b) := by simpa using h2
                refine ⟨e4, ac, hD4, by omega, ?_⟩
                rw [take_snoc hp', List.filter_append, List.filter_cons_of_neg (p := fun q => decide (q ≠ (a, b))) (by simp [hne]), List.filter_nil, List.append_nil]
                exact hA4
            rintro H8 ⟨e8, ac, hD8, hac, hA8⟩
            rw [← hql, List.take_length] at hA8
            have hfil : (u.ps.filter fun q => decide (q ≠ (a, b))) = u.ps := List.filter_eq_self.mpr fun q hq => decide_eq_true fun e => hin (by rw [← e]; exact hq)
            rw [hfil] at hA8
            refine ⟨_, rfl, _, rfl, false, rfl, ?_⟩
            refine ⟨_, rfl, _, rfl, by show 1 ≤ sizeLine; decide, fun l1 hl1 => ?_⟩
            have e9 : Ex H8 (upd H8 l1 (.lst [.ref tp])) := Ex.nw hl1
            have f9 : (upd H8 l1 (.lst [.ref tp])) l1 = some (.lst [.ref tp]) := upd_same
            generalize upd H8 l1 (.lst [.ref tp]) = H9 at e9 f9
            refine ⟨D, l1, _, _, rfl, rfl, .inl (.inl (e9 _ _ hD8)), .inl (.inl f9), by show ac.length + 1 ≤ 1000000; omega, fun l2 hl2 => ?_⟩
            have e91 : Ex H9 (upd H9 l2 (.lst (ac ++ [.ref tp]))) := Ex.nw hl2
            have f91 : (upd H9 l2 (.lst (ac ++ [.ref tp]))) l2 = some (.lst (ac ++ [.ref tp])) := upd_same
            generalize upd H9 l2 (.lst (ac ++ [.ref tp])) = H91 at e91 f91
            have e891 := e9.tr e91
            have hAll : DaAll K H91 ((u.ps ++ [(a, b)]).map dPair) (ac ++ [.ref tp]) := by
              rw [List.map_append]
              exact (hA8.up e891).app ⟨_, _, rfl, dPair_of (p := (a, b)) ((e8.tr e891) _ _ fTX), rfl⟩
            have hnd : (u.ps ++ [(a, b)]).Nodup := nodup_snoc (nodup_asc hu.asc) hin
            obtain ⟨g1, g2⟩ := keys_of hAll
            refine ⟨l2, _, keyOf H91, rfl, .inl (.inl f91), g1, fun zs p3 s1 s2 hp3 => ?_⟩
            obtain ⟨M, m1, m2, m3, m4⟩ := sortedP hAll hnd s1 s2
            have e92 : Ex H91 (upd H91 p3 (.lst zs)) := Ex.nw hp3
            have f92 : (upd H91 p3 (.lst zs)) p3 = some (.lst zs) := upd_same
            generalize upd H91 p3 (.lst zs) = H92 at e92 f92
            have pw0 : PairW u ⟨u.n, M, u.ns⟩ (fun p => p ∈ u.ps ∨ p = (a, b)) := ⟨rfl, rfl, fun p => by
              show p ∈ M ↔ _
              rw [m3, List.mem_append, List.mem_singleton]⟩
            have okd := pw0.ok hu (fun p h => by
              rcases h with h | rfl
              · exact hu.ps p h
              · exact ⟨ha, hb⟩) m2
            refine ⟨_, rfl, by show 3 ≤ sizeLine; decide, fun T9 hT9 => ?_⟩
            have e93 : Ex H92 (upd H92 T9 (.tup [.int u.n, .ref p3, .ref K2])) := Ex.nw hT9
            have f93 : (upd H92 T9 (.tup [.int u.n, .ref p3, .ref K2])) T9 = some (.tup [.int u.n, .ref p3, .ref K2]) := upd_same
            generalize upd H92 T9 (.tup [.int u.n, .ref p3, .ref K2]) = H93 at e93 f93
            have e793 := e8.tr (e891.tr (e92.tr e93))
            have hDl : (M.map dPair).length ≤ 100000 := by
              rw [List.length_map]
              exact Nat.le_trans okd.len (by decide)
            have dd : Da K H93 (Wb.d ⟨u.n, M, u.ns⟩) (.ref T9) := da_web (w := ⟨u.n, M, u.ns⟩) f93 ⟨p3, zs, rfl, e93 _ _ f92, m1.up (e92.tr e93), hDl⟩ (gn.up (e67.tr e793))
            refine ⟨_, rfl, _, rfl, _, ⟨u.n, M, u.ns⟩, rfl, dd, okd, fun T3 L3 L4 xs3 bs3 H10 N3 => ?_⟩
            have e710 := e793.tr N3.ex
            refine ⟨_, rfl, tp, _, 0, _, rfl, rfl, (e67.tr e710).t gT, rfl, ?_⟩
            refine ⟨_, rfl, tp, _, 1, _, rfl, rfl, (e67.tr e710).t gT, rfl, ?_⟩
            have nin : (a, b) ∈ M := (pw0.ps _).mpr (.inr rfl)
            refine ⟨false, _, ⟨u.n, M, u.ns⟩, a, b, rfl, N3.da okd, okd, ha, hb, fun h => (by cases h), fun _ h => absurd nin h, fun h => (by cases h), fun _ _ wb T4 L5 L6 xs4 bs4 H11 N4 ok4 pw4 => ?_⟩
            have hwb : PairW u wb (fun p => p ∈ u.ps) := ⟨pw4.n, pw4.ns, fun p => (pw4.ps p).trans (by
              show (p ∈ M ∧ _) ↔ _
              rw [m3, List.mem_append, List.mem_singleton]
              constructor
              · rintro ⟨h | h, n⟩
                · exact h
                · exact absurd h n
              · intro h
                exact ⟨.inl h, fun e => hin (by rw [← e]; exact h)⟩)⟩
            obtain rfl : u = wb := (hwb.uniq (⟨rfl, rfl, fun p => Iff.rfl⟩ : PairW u u (fun p => p ∈ u.ps)) ok4.asc hu.asc).symm
            have e711 := e710.tr N4.ex
            obtain ⟨NM, x6, xn⟩ := N1.mask (e7.tr e711)
            have hlist := N1.lists (e7.tr e711)
            refine ⟨_, rfl, _, _, rfl, (N4.da ok4).web, w1, w2, w3, ?_⟩
            refine ⟨_, rfl, _, _, rfl, (gc.up (e67.tr e711)).web, w1, w2, w3, ?_⟩
            refine ⟨rfl, _, rfl, ite2 (fun h1 => ?_) (fun _ => ?_)⟩
            · simp at h1
            obtain rfl : (⟨u.n, M, u.ns⟩ : Wb) = wl := pw0.uniq pw1 okd.asc ok1.asc
            have x911 := N3.ex.tr N4.ex
            have ddm : Da K (Nw.mask H11 L1 L2 bs1) (Wb.d ⟨u.n, M, u.ns⟩) (.ref T9) :=
              da_web (w := ⟨u.n, M, u.ns⟩) (xn _ _ ((e7.tr (e8.tr (e891.tr e92))).fr hT9) (x911 _ _ f93)) ⟨p3, zs, rfl, xn _ _ ((e7.tr (e8.tr e891)).fr hp3) (x911 _ _ (e93 _ _ f92)), pairs_mask hlist (m1.up ((e92.tr e93).tr x911)), hDl⟩ (gn.up x6)
            refine ⟨_, rfl, _, rfl, _, rfl, _, rfl, T1, L1, L2, xs1, bs1, _, _, u, _, _, _, rfl, NM, ok1, ddm, gv.up x6, gc.up x6, fun H12 e12 => ?_⟩
            refine ⟨true, rfl, ite2 (fun h1 => (by cases h1)) (fun _ => ?_)⟩
            exact ⟨_, _, _, _, _, _, _, _, _, _, _, _, _, rfl, eX.tr (x6.tr e12).d, (pX.up (x6.tr e12)).mono (by omega)⟩

        · have fT := fY
          have eX := eY
          have pX := p51
          obtain ⟨gv, gc, gp, gn⟩ := at_ _ eX
          have gT : SqT K _ tp [.int a, .int b] := .inl (.inl fT)
          by_cases hin : (a, b) ∈ u.ps
          · refine ⟨_, rfl, _, rfl, dPair (a, b), u.ps.map dPair, (dPair_of (p := (a, b)) fT).dPair, gp.dPairs, sh_dPair _, sh_dPairs _, ?_⟩
            rw [any_pair, decide_eq_true hin]
            refine ⟨_, rfl, _, rfl, tp, _, 0, _, rfl, rfl, gT, rfl, ?_⟩
            refine ⟨_, rfl, tp, _, 1, _, rfl, rfl, gT, rfl, ?_⟩
            refine ⟨true, v, u, a, b, rfl, gv, hu, ha, hb, fun _ _ H6 e6 => ?_, fun h => (by cases h), fun _ h => absurd hin h, fun h => (by cases h)⟩
            refine ⟨_, rfl, _, rfl, tp, _, 0, _, rfl, rfl, e6.t gT, rfl, ?_⟩
            refine ⟨_, rfl, tp, _, 1, _, rfl, rfl, e6.t gT, rfl, ?_⟩
            refine ⟨false, v, u, a, b, rfl, gv.up e6, hu, ha, hb, fun h => (by cases h), fun _ h => absurd hin h, fun h => (by cases h), fun _ _ wl T1 L1 L2 xs1 bs1 H7 N1 ok1 pw1 => ⟨_, _, rfl, ?_⟩⟩
            refine ⟨_, rfl, .str "there", .str "there", ds _ _, ds _ _, shs1, shs1, ?_⟩
            refine ⟨_, rfl, rfl, _, rfl, ite2 (fun h1 => ?_) (fun _ => ?_)⟩
            · simp [PyData.eqv] at h1
            refine ⟨_, rfl, wl.d, .str "none", (N1.da ok1).web, ds _ _, sh_web _, shs2, ?_⟩
            refine ⟨_, rfl, rfl, _, rfl, ite2 (fun h1 => ?_) (fun _ => ?_)⟩
            · simp [PyData.eqv, Wb.d] at h1
            refine ⟨_, rfl, true, rfl, _, rfl, ?_⟩
            have e67 := e6.tr N1.ex
            have fTX := e67 _ _ fT
            obtain ⟨K1', qs, hK, hQ7, gA, _⟩ := gp.up e67
            cases hK
            have gY : SqL K H7 K1 qs := .inl (.inl hQ7)
            have hql := gA.len
            rw [List.length_map] at hql
            refine ⟨_, rfl, K1, rfl, ⟨_, gY⟩, fun D hD => ?_⟩
            refine lc_by qs.length (fun i H' => Ex H7 H' ∧ ∃ ac, H' D = some (.lst ac) ∧ ac.length ≤ i ∧ DaAll K H' (((u.ps.take i).filter fun q => decide (q ≠ (a, b))).map dPair) ac)
              ⟨Ex.nw hD, [], upd_same, Nat.le_refl _, rfl⟩ (fun i H' hi p => itl_go gY p.1 hi) (fun H' p => itl_stop gY p.1) ?_ ?_
            · rintro i Ha x Hb hi ⟨e4, ac, hD4, hac, hA4⟩ y
              obtain ⟨rfl, hx⟩ := itl_yld y gY e4
              obtain ⟨dr, hdr, hxd⟩ := gA.at' hx
              obtain ⟨p', hp', rfl⟩ := map_at hdr
              have dx := hxd.up (e4)
              obtain ⟨bx, zx, rfl, hSx, _⟩ := id dx
              refine ⟨rfl, ?_⟩
              refine ⟨_, rfl, _, rfl, dPair p', dPair (a, b), dx.dPair, ((dPair_of (p := (a, b)) fTX).up e4).dPair, sh_dPair _, sh_dPair _, _, rfl, ?_⟩
              rw [eqv_dPair]
              refine ite2 (fun h2 => ?_) (fun h2 => ?_)
              · have hne : p' ≠ (a, b) := by simpa using h2
                refine ⟨_, rfl, ac, hD4, mil' (by omega), e4.wr hD, ac ++ [.ref bx], upd_same, by rw [List.length_append, List.length_singleton]; omega, ?_⟩
                rw [take_snoc hp', List.filter_append, List.filter_cons_of_pos (p := fun q => decide (q ≠ (a, b))) (decide_eq_true hne), List.filter_nil]
                refine pairs_wr hD4 ?_
                rw [List.map_append]
                exact hA4.app ⟨_, _, rfl, dx, rfl⟩
              · have hne : p' = (a, b) := by simpa using h2
                refine ⟨e4, ac, hD4, by omega, ?_⟩
                rw [take_snoc hp', List.filter_append, List.filter_cons_of_neg (p := fun q => decide (q ≠ (a, b))) (by simp [hne]), List.filter_nil, List.append_nil]
                exact hA4
            rintro H8 ⟨e8, ac, hD8, hac, hA8⟩
            rw [← hql, List.take_length] at hA8
            have okd := (⟨rfl, rfl, fun p => by
              show p ∈ List.filter _ _ ↔ _
              rw [List.mem_filter, decide_eq_true_eq]⟩ : PairW u ⟨u.n, u.ps.filter fun q => decide (q ≠ (a, b)), u.ns⟩ (fun p => p ∈ u.ps ∧ p ≠ (a, b))).ok hu (fun p h => hu.ps p h.1) (asc_filter _ hu.asc)
            refine ⟨_, rfl, _, rfl, true, rfl, _, rfl, _, rfl, by show 3 ≤ sizeLine; decide, fun T9 hT9 => ?_⟩
            have e9 : Ex H8 (upd H8 T9 (.tup [.int u.n, .ref D, .ref K2])) := Ex.nw hT9
            have f9 : (upd H8 T9 (.tup [.int u.n, .ref D, .ref K2])) T9 = some (.tup [.int u.n, .ref D, .ref K2]) := upd_same
            generalize upd H8 T9 (.tup [.int u.n, .ref D, .ref K2]) = H9 at e9 f9
            have hDl : ((u.ps.filter fun q => decide (q ≠ (a, b))).map dPair).length ≤ 100000 := by
              rw [List.length_map]
              exact Nat.le_trans (List.length_filter_le _ _) (by omega)
            have dd : Da K H9 (Wb.d ⟨u.n, u.ps.filter fun q => decide (q ≠ (a, b)), u.ns⟩) (.ref T9) := da_web (w := ⟨u.n, u.ps.filter fun q => decide (q ≠ (a, b)), u.ns⟩) f9 ⟨D, ac, rfl, e9 _ _ hD8, hA8.up e9, hDl⟩ (gn.up (e67.tr (e8.tr e9)))
            refine ⟨_, rfl, _, rfl, _, ⟨u.n, u.ps.filter fun q => decide (q ≠ (a, b)), u.ns⟩, rfl, dd, okd, fun T3 L3 L4 xs3 bs3 H10 N3 => ?_⟩
            have e710 := (e8.tr e9).tr N3.ex
            refine ⟨_, rfl, tp, _, 0, _, rfl, rfl, (e67.tr e710).t gT, rfl, ?_⟩
            refine ⟨_, rfl, tp, _, 1, _, rfl, rfl, (e67.tr e710).t gT, rfl, ?_⟩
            have nin : (a, b) ∉ (u.ps.filter fun q => decide (q ≠ (a, b))) := fun h => of_decide_eq_true (List.mem_filter.mp h).2 rfl
            refine ⟨true, _, ⟨u.n, u.ps.filter fun q => decide (q ≠ (a, b)), u.ns⟩, a, b, rfl, N3.da okd, okd, ha, hb, fun _ h => absurd h nin, fun h => (by cases h), fun _ _ wb T4 L5 L6 xs4 bs4 H11 N4 ok4 pw4 => ?_, fun h => (by cases h)⟩
            have hwb : PairW u wb (fun p => p ∈ u.ps) := ⟨pw4.n, pw4.ns, fun p => (pw4.ps p).trans (by
              show (p ∈ List.filter _ _ ∨ _) ↔ _
              rw [List.mem_filter, decide_eq_true_eq]
              constructor
              · rintro (h | rfl)
                · exact h.1
                · exact hin
              · intro h
                by_cases e : p = (a, b)
                · exact .inr e
                · exact .inl ⟨h, e⟩)⟩
            obtain rfl : u = wb := (hwb.uniq (⟨rfl, rfl, fun p => Iff.rfl⟩ : PairW u u (fun p => p ∈ u.ps)) ok4.asc hu.asc).symm
            have e711 := e710.tr N4.ex
            obtain ⟨NM, x6, xn⟩ := N1.mask e711
            have hlist := N1.lists e711
            refine ⟨_, rfl, _, _, rfl, (N4.da ok4).web, w1, w2, w3, ?_⟩
            refine ⟨_, rfl, _, _, rfl, (gc.up (e67.tr e711)).web, w1, w2, w3, ?_⟩
            refine ⟨rfl, _, rfl, ite2 (fun h1 => ?_) (fun _ => ?_)⟩
            · simp at h1
            obtain rfl : (⟨u.n, u.ps.filter fun q => decide (q ≠ (a, b)), u.ns⟩ : Wb) = wl := (⟨rfl, rfl, fun p => by
              show p ∈ List.filter _ _ ↔ _
              rw [List.mem_filter, decide_eq_true_eq]⟩ : PairW u ⟨u.n, u.ps.filter fun q => decide (q ≠ (a, b)), u.ns⟩ (fun p => p ∈ u.ps ∧ p ≠ (a, b))).uniq pw1 okd.asc ok1.asc
            have x911 := N3.ex.tr N4.ex
            have ddm : Da K (Nw.mask H11 L1 L2 bs1) (Wb.d ⟨u.n, u.ps.filter fun q => decide (q ≠ (a, b)), u.ns⟩) (.ref T9) :=
              da_web (w := ⟨u.n, u.ps.filter fun q => decide (q ≠ (a, b)), u.ns⟩) (xn _ _ (e8.fr hT9) (x911 _ _ f9)) ⟨D, ac, rfl, xn _ _ hD (x911 _ _ (e9 _ _ hD8)), pairs_mask hlist (hA8.up (e9.tr x911)), hDl⟩ (gn.up (e6.tr x6))
            refine ⟨_, rfl, _, rfl, _, rfl, _, rfl, T1, L1, L2, xs1, bs1, _, _, u, _, _, _, rfl, NM, ok1, ddm, gv.up (e6.tr x6), gc.up (e6.tr x6), fun H12 e12 => ?_⟩
            refine ⟨true, rfl, ite2 (fun h1 => (by cases h1)) (fun _ => ?_)⟩
            exact ⟨_, _, _, _, _, _, _, _, _, _, _, _, _, rfl, eX.tr (e6.tr (x6.tr e12)).d, (pX.up (e6.tr (x6.tr e12))).mono (by omega)⟩
          · refine ⟨_, rfl, _, rfl, dPair (a, b), u.ps.map dPair, (dPair_of (p := (a, b)) fT).dPair, gp.dPairs, sh_dPair _, sh_dPairs _, ?_⟩
            rw [any_pair, decide_eq_false hin]
            refine ⟨_, rfl, _, rfl, tp, _, 0, _, rfl, rfl, gT, rfl, ?_⟩
            refine ⟨_, rfl, tp, _, 1, _, rfl, rfl, gT, rfl, ?_⟩
            refine ⟨true, v, u, a, b, rfl, gv, hu, ha, hb, fun _ h => absurd h hin, fun h => (by cases h), fun _ _ wl T1 L1 L2 xs1 bs1 H6 N1 ok1 pw1 => ?_, fun h => (by cases h)⟩
            refine ⟨_, rfl, _, rfl, tp, _, 0, _, rfl, rfl, N1.ex.t gT, rfl, ?_⟩
            refine ⟨_, rfl, tp, _, 1, _, rfl, rfl, N1.ex.t gT, rfl, ?_⟩
            refine ⟨false, v, u, a, b, rfl, gv.up N1.ex, hu, ha, hb, fun h => (by cases h), fun _ _ H7 e7 => ⟨_, _, rfl, ?_⟩, fun h => (by cases h), fun _ h => absurd h hin⟩
            refine ⟨_, rfl, wl.d, .str "there", ((N1.da ok1).up e7).web, ds _ _, sh_web _, shs1, ?_⟩
            refine ⟨_, rfl, rfl, _, rfl, ite2 (fun h1 => ?_) (fun _ => ?_)⟩
            · simp [PyData.eqv, Wb.d] at h1
            refine ⟨_, rfl, .str "none", .str "none", ds _ _, ds _ _, shs2, shs2, ?_⟩
            refine ⟨_, rfl, rfl, _, rfl, ite2 (fun h1 => ?_) (fun _ => ?_)⟩
            · simp [PyData.eqv] at h1
            refine ⟨_, rfl, false, rfl, _, rfl, ?_⟩
            have e67 := N1.ex.tr e7
            have fTX := e67 _ _ fT
            obtain ⟨K1', qs, hK, hQ7, gA, _⟩ := gp.up e67
            cases hK
            have gY : SqL K H7 K1 qs := .inl (.inl hQ7)
            have hql := gA.len
            rw [List.length_map] at hql
            refine ⟨_, rfl, K1, rfl, ⟨_, gY⟩, fun D hD => ?_⟩
            refine lc_by qs.length (fun i H' => Ex H7 H' ∧ ∃ ac, H' D = some (.lst ac) ∧ ac.length ≤ i ∧ DaAll K H' (((u.ps.take i).filter fun q => decide (q ≠ (a, b))).map dPair) ac)
              ⟨Ex.nw hD, [], upd_same, Nat.le_refl _, rfl⟩ (fun i H' hi p => itl_go gY p.1 hi) (fun H' p => itl_stop gY p.1) ?_ ?_
            · rintro i Ha x Hb hi ⟨e4, ac, hD4, hac, hA4⟩ y
              obtain ⟨rfl, hx⟩ := itl_yld y gY e4
              obtain ⟨dr, hdr, hxd⟩ := gA.at' hx
              obtain ⟨p', hp', rfl⟩ := map_at hdr
              have dx := hxd.up (e4)
              obtain ⟨bx, zx, rfl, hSx, _⟩ := id dx
              refine ⟨rfl, ?_⟩
              refine ⟨_, rfl, _, rfl, dPair p', dPair (a, b), dx.dPair, ((dPair_of (p := (a, b)) fTX).up e4).dPair, sh_dPair _, sh_dPair _, _, rfl, ?_⟩
              rw [eqv_dPair]
              refine ite2 (fun h2 => ?_) (fun h2 => ?_)
              · have hne : p' ≠ (a, b) := by simpa using h2
                refine ⟨_, rfl, ac, hD4, mil' (by omega), e4.wr hD, ac ++ [.ref bx], upd_same, by rw [List.length_append, List.length_singleton]; omega, ?_⟩
                rw [take_snoc hp', List.filter_append, List.filter_cons_of_pos (p := fun q => decide (q ≠ (a, b))) (decide_eq_true hne), List.filter_nil]
                refine pairs_wr hD4 ?_
                rw [List.map_append]
                exact hA4.app ⟨_, _, rfl, dx, rfl⟩
              · have hne : p' = (a, b) := by simpa using h2
                refine ⟨e4, ac, hD4, by omega, ?_⟩
                rw [take_snoc hp', List.filter_append, List.filter_cons_of_neg (p := fun q => decide (q ≠ (a, b))) (by simp [hne]), List.filter_nil, List.append_nil]
                exact hA4
            rintro H8 ⟨e8, ac, hD8, hac, hA8⟩
            rw [← hql, List.take_length] at hA8
            have hfil : (u.ps.filter fun q => decide (q ≠ (a, b))) = u.ps := List.filter_eq_self.mpr fun q hq => decide_eq_true fun e => hin (by rw [← e]; exact hq)
            rw [hfil] at hA8
            refine ⟨_, rfl, _, rfl, false, rfl, ?_⟩
            refine ⟨_, rfl, _, rfl, by show 1 ≤ sizeLine; decide, fun l1 hl1 => ?_⟩
            have e9 : Ex H8 (upd H8 l1 (.lst [.ref tp])) := Ex.nw hl1
            have f9 : (upd H8 l1 (.lst [.ref tp])) l1 = some (.lst [.ref tp]) := upd_same
            generalize upd H8 l1 (.lst [.ref tp]) = H9 at e9 f9
            refine ⟨D, l1, _, _, rfl, rfl, .inl (.inl (e9 _ _ hD8)), .inl (.inl f9), by show ac.length + 1 ≤ 1000000; omega, fun l2 hl2 => ?_⟩
            have e91 : Ex H9 (upd H9 l2 (.lst (ac ++ [.ref tp]))) := Ex.nw hl2
            have f91 : (upd H9 l2 (.lst (ac ++ [.ref tp]))) l2 = some (.lst (ac ++ [.ref tp])) := upd_same
            generalize upd H9 l2 (.lst (ac ++ [.ref tp])) = H91 at e91 f91
            have e891 := e9.tr e91
            have hAll : DaAll K H91 ((u.ps ++ [(a, b)]).map dPair) (ac ++ [.ref tp]) := by
              rw [List.map_append]
              exact (hA8.up e891).app ⟨_, _, rfl, dPair_of (p := (a, b)) ((e8.tr e891) _ _ fTX), rfl⟩
            have hnd : (u.ps ++ [(a, b)]).Nodup := nodup_snoc (nodup_asc hu.asc) hin
            obtain ⟨g1, g2⟩ := keys_of hAll
            refine ⟨l2, _, keyOf H91, rfl, .inl (.inl f91), g1, fun zs p3 s1 s2 hp3 => ?_⟩
            obtain ⟨M, m1, m2, m3, m4⟩ := sortedP hAll hnd s1 s2
            have e92 : Ex H91 (upd H91 p3 (.lst zs)) := Ex.nw hp3
            have f92 : (upd H91 p3 (.lst zs)) p3 = some (.lst zs) := upd_same
            generalize upd H91 p3 (.lst zs) = H92 at e92 f92
            have pw0 : PairW u ⟨u.n, M, u.ns⟩ (fun p => p ∈ u.ps ∨ p = (a, b)) := ⟨rfl, rfl, fun p => by
              show p ∈ M ↔ _
              rw [m3, List.mem_append, List.mem_singleton]⟩
            have okd := pw0.ok hu (fun p h => by
              rcases h with h | rfl
              · exact hu.ps p h
              · exact ⟨ha, hb⟩) m2
            refine ⟨_, rfl, by show 3 ≤ sizeLine; decide, fun T9 hT9 => ?_⟩
            have e93 : Ex H92 (upd H92 T9 (.tup [.int u.n, .ref p3, .ref K2])) := Ex.nw hT9
            have f93 : (upd H92 T9 (.tup [.int u.n, .ref p3, .ref K2])) T9 = some (.tup [.int u.n, .ref p3, .ref K2]) := upd_same
            generalize upd H92 T9 (.tup [.int u.n, .ref p3, .ref K2]) = H93 at e93 f93
            have e793 := e8.tr (e891.tr (e92.tr e93))
            have hDl : (M.map dPair).length ≤ 100000 := by
              rw [List.length_map]
              exact Nat.le_trans okd.len (by decide)
            have dd : Da K H93 (Wb.d ⟨u.n, M, u.ns⟩) (.ref T9) := da_web (w := ⟨u.n, M, u.ns⟩) f93 ⟨p3, zs, rfl, e93 _ _ f92, m1.up (e92.tr e93), hDl⟩ (gn.up (e67.tr e793))
            refine ⟨_, rfl, _, rfl, _, ⟨u.n, M, u.ns⟩, rfl, dd, okd, fun T3 L3 L4 xs3 bs3 H10 N3 => ?_⟩
            have e710 := e793.tr N3.ex
            refine ⟨_, rfl, tp, _, 0, _, rfl, rfl, (e67.tr e710).t gT, rfl, ?_⟩
            refine ⟨_, rfl, tp, _, 1, _, rfl, rfl, (e67.tr e710).t gT, rfl, ?_⟩
            have nin : (a, b) ∈ M := (pw0.ps _).mpr (.inr rfl)
            refine ⟨false, _, ⟨u.n, M, u.ns⟩, a, b, rfl, N3.da okd, okd, ha, hb, fun h => (by cases h), fun _ h => absurd nin h, fun h => (by cases h), fun _ _ wb T4 L5 L6 xs4 bs4 H11 N4 ok4 pw4 => ?_⟩
            have hwb : PairW u wb (fun p => p ∈ u.ps) := ⟨pw4.n, pw4.ns, fun p => (pw4.ps p).trans (by
              show (p ∈ M ∧ _) ↔ _
              rw [m3, List.mem_append, List.mem_singleton]
              constructor
              · rintro ⟨h | h, n⟩
                · exact h
                · exact absurd h n
              · intro h
                exact ⟨.inl h, fun e => hin (by rw [← e]; exact h)⟩)⟩
            obtain rfl : u = wb := (hwb.uniq (⟨rfl, rfl, fun p => Iff.rfl⟩ : PairW u u (fun p => p ∈ u.ps)) ok4.asc hu.asc).symm
            have e711 := e710.tr N4.ex
            obtain ⟨NM, x6, xn⟩ := N1.mask (e7.tr e711)
            have hlist := N1.lists (e7.tr e711)
            refine ⟨_, rfl, _, _, rfl, (N4.da ok4).web, w1, w2, w3, ?_⟩
            refine ⟨_, rfl, _, _, rfl, (gc.up (e67.tr e711)).web, w1, w2, w3, ?_⟩
            refine ⟨rfl, _, rfl, ite2 (fun h1 => ?_) (fun _ => ?_)⟩
            · simp at h1
            obtain rfl : (⟨u.n, M, u.ns⟩ : Wb) = wl := pw0.uniq pw1 okd.asc ok1.asc
            have x911 := N3.ex.tr N4.ex
            have ddm : Da K (Nw.mask H11 L1 L2 bs1) (Wb.d ⟨u.n, M, u.ns⟩) (.ref T9) :=
              da_web (w := ⟨u.n, M, u.ns⟩) (xn _ _ ((e7.tr (e8.tr (e891.tr e92))).fr hT9) (x911 _ _ f93)) ⟨p3, zs, rfl, xn _ _ ((e7.tr (e8.tr e891)).fr hp3) (x911 _ _ (e93 _ _ f92)), pairs_mask hlist (m1.up ((e92.tr e93).tr x911)), hDl⟩ (gn.up x6)
            refine ⟨_, rfl, _, rfl, _, rfl, _, rfl, T1, L1, L2, xs1, bs1, _, _, u, _, _, _, rfl, NM, ok1, ddm, gv.up x6, gc.up x6, fun H12 e12 => ?_⟩
            refine ⟨true, rfl, ite2 (fun h1 => (by cases h1)) (fun _ => ?_)⟩
            exact ⟨_, _, _, _, _, _, _, _, _, _, _, _, _, rfl, eX.tr (x6.tr e12).d, (pX.up (x6.tr e12)).mono (by omega)⟩

      · simp only [Bool.false_eq_true, if_false]
        obtain ⟨gv, gc, gp, gn⟩ := at_ _ eX
        have gT : SqT K _ tp [.int a, .int b] := .inl (.inl fT)
        by_cases hin : (a, b) ∈ u.ps
        · refine ⟨_, rfl, _, rfl, dPair (a, b), u.ps.map dPair, (dPair_of (p := (a, b)) fT).dPair, gp.dPairs, sh_dPair _, sh_dPairs _, ?_⟩
          rw [any_pair, decide_eq_true hin]
          refine ⟨_, rfl, _, rfl, tp, _, 0, _, rfl, rfl, gT, rfl, ?_⟩
          refine ⟨_, rfl, tp, _, 1, _, rfl, rfl, gT, rfl, ?_⟩
          refine ⟨true, v, u, a, b, rfl, gv, hu, ha, hb, fun _ _ H6 e6 => ?_, fun h => (by cases h), fun _ h => absurd hin h, fun h => (by cases h)⟩
          refine ⟨_, rfl, _, rfl, tp, _, 0, _, rfl, rfl, e6.t gT, rfl, ?_⟩
          refine ⟨_, rfl, tp, _, 1, _, rfl, rfl, e6.t gT, rfl, ?_⟩
          refine ⟨false, v, u, a, b, rfl, gv.up e6, hu, ha, hb, fun h => (by cases h), fun _ h => absurd hin h, fun h => (by cases h), fun _ _ wl T1 L1 L2 xs1 bs1 H7 N1 ok1 pw1 => ⟨_, _, rfl, ?_⟩⟩
          refine ⟨_, rfl, .str "there", .str "there", ds _ _, ds _ _, shs1, shs1, ?_⟩
          refine ⟨_, rfl, rfl, _, rfl, ite2 (fun h1 => ?_) (fun _ => ?_)⟩
          · simp [PyData.eqv] at h1
          refine ⟨_, rfl, wl.d, .str "none", (N1.da ok1).web, ds _ _, sh_web _, shs2, ?_⟩
          refine ⟨_, rfl, rfl, _, rfl, ite2 (fun h1 => ?_) (fun _ => ?_)⟩
          · simp [PyData.eqv, Wb.d] at h1
          refine ⟨_, rfl, true, rfl, _, rfl, ?_⟩
          have e67 := e6.tr N1.ex
          have fTX := e67 _ _ fT
          obtain ⟨K1', qs, hK, hQ7, gA, _⟩ := gp.up e67
          cases hK
          have gY : SqL K H7 K1 qs := .inl (.inl hQ7)
          have hql := gA.len
          rw [List.length_map] at hql
          refine ⟨_, rfl, K1, rfl, ⟨_, gY⟩, fun D hD => ?_⟩
          refine lc_by qs.length (fun i H' => Ex H7 H' ∧ ∃ ac, H' D = some (.lst ac) ∧ ac.length ≤ i ∧ DaAll K H' (((u.ps.take i).filter fun q => decide (q ≠ (a, b))).map dPair) ac)
            ⟨Ex.nw hD, [], upd_same, Nat.le_refl _, rfl⟩ (fun i H' hi p => itl_go gY p.1 hi) (fun H' p => itl_stop gY p.1) ?_ ?_
          · rintro i Ha x Hb hi ⟨e4, ac, hD4, hac, hA4⟩ y
            obtain ⟨rfl, hx⟩ := itl_yld y gY e4
            obtain ⟨dr, hdr, hxd⟩ := gA.at' hx
            obtain ⟨p', hp', rfl⟩ := map_at hdr
            have dx := hxd.up (e4)
            obtain ⟨bx, zx, rfl, hSx, _⟩ := id dx
            refine ⟨rfl, ?_⟩
            refine ⟨_, rfl, _, rfl, dPair p', dPair (a, b), dx.dPair, ((dPair_of (p := (a, b)) fTX).up e4).dPair, sh_dPair _, sh_dPair _, _, rfl, ?_⟩
            rw [eqv_dPair]
            refine ite2 (fun h2 => ?_) (fun h2 => ?_)
            · have hne : p' ≠ (a, b) := by simpa using h2
              refine ⟨_, rfl, ac, hD4, mil' (by omega), e4.wr hD, ac ++ [.ref bx], upd_same, by rw [List.length_append, List.length_singleton]; omega, ?_⟩
              rw [take_snoc hp', List.filter_append, List.filter_cons_of_pos (p := fun q => decide (q ≠ (a, b))) (decide_eq_true hne), List.filter_nil]
              refine pairs_wr hD4 ?_
              rw [List.map_append]
              exact hA4.app ⟨_, _, rfl, dx, rfl⟩
            · have hne : p' = (a, b) := by simpa using h2
              refine ⟨e4, ac, hD4, by omega, ?_⟩
              rw [take_snoc hp', List.filter_append, List.filter_cons_of_neg (p := fun q => decide (q ≠ (a, b))) (by simp [hne]), List.filter_nil, List.append_nil]
              exact hA4
          rintro H8 ⟨e8, ac, hD8, hac, hA8⟩
          rw [← hql, List.take_length] at hA8
          have okd := (⟨rfl, rfl, fun p => by
            show p ∈ List.filter _ _ ↔ _
            rw [List.mem_filter, decide_eq_true_eq]⟩ : PairW u ⟨u.n, u.ps.filter fun q => decide (q ≠ (a, b)), u.ns⟩ (fun p => p ∈ u.ps ∧ p ≠ (a, b))).ok hu (fun p h => hu.ps p h.1) (asc_filter _ hu.asc)
          refine ⟨_, rfl, _, rfl, true, rfl, _, rfl, _, rfl, by show 3 ≤ sizeLine; decide, fun T9 hT9 => ?_⟩
          have e9 : Ex H8 (upd H8 T9 (.tup [.int u.n, .ref D, .ref K2])) := Ex.nw hT9
          have f9 : (upd H8 T9 (.tup [.int u.n, .ref D, .ref K2])) T9 = some (.tup [.int u.n, .ref D, .ref K2]) := upd_same
          generalize upd H8 T9 (.tup [.int u.n, .ref D, .ref K2]) = H9 at e9 f9
          have hDl : ((u.ps.filter fun q => decide (q ≠ (a, b))).map dPair).length ≤ 100000 := by
            rw [List.length_map]
            exact Nat.le_trans (List.length_filter_le _ _) (by omega)
          have dd : Da K H9 (Wb.d ⟨u.n, u.ps.filter fun q => decide (q ≠ (a, b)), u.ns⟩) (.ref T9) := da_web (w := ⟨u.n, u.ps.filter fun q => decide (q ≠ (a, b)), u.ns⟩) f9 ⟨D, ac, rfl, e9 _ _ hD8, hA8.up e9, hDl⟩ (gn.up (e67.tr (e8.tr e9)))
          refine ⟨_, rfl, _, rfl, _, ⟨u.n, u.ps.filter fun q => decide (q ≠ (a, b)), u.ns⟩, rfl, dd, okd, fun T3 L3 L4 xs3 bs3 H10 N3 => ?_⟩
          have e710 := (e8.tr e9).tr N3.ex
          refine ⟨_, rfl, tp, _, 0, _, rfl, rfl, (e67.tr e710).t gT, rfl, ?_⟩
          refine ⟨_, rfl, tp, _, 1, _, rfl, rfl, (e67.tr e710).t gT, rfl, ?_⟩
          have nin : (a, b) ∉ (u.ps.filter fun q => decide (q ≠ (a, b))) := fun h => of_decide_eq_true (List.mem_filter.mp h).2 rfl
          refine ⟨true, _, ⟨u.n, u.ps.filter fun q => decide (q ≠ (a, b)), u.ns⟩, a, b, rfl, N3.da okd, okd, ha, hb, fun _ h => absurd h nin, fun h => (by cases h), fun _ _ wb T4 L5 L6 xs4 bs4 H11 N4 ok4 pw4 => ?_, fun h => (by cases h)⟩
          have hwb : PairW u wb (fun p => p ∈ u.ps) := ⟨pw4.n, pw4.ns, fun p => (pw4.ps p).trans (by
            show (p ∈ List.filter _ _ ∨ _) ↔ _
            rw [List.mem_filter, decide_eq_true_eq]
            constructor
            · rintro (h | rfl)
              · exact h.1
              · exact hin
            · intro h
              by_cases e : p = (a, b)
              · exact .inr e
              · exact .inl ⟨h, e⟩)⟩
          obtain rfl : u = wb := (hwb.uniq (⟨rfl, rfl, fun p => Iff.rfl⟩ : PairW u u (fun p => p ∈ u.ps)) ok4.asc hu.asc).symm
          have e711 := e710.tr N4.ex
          obtain ⟨NM, x6, xn⟩ := N1.mask e711
          have hlist := N1.lists e711
          refine ⟨_, rfl, _, _, rfl, (N4.da ok4).web, w1, w2, w3, ?_⟩
          refine ⟨_, rfl, _, _, rfl, (gc.up (e67.tr e711)).web, w1, w2, w3, ?_⟩
          refine ⟨rfl, _, rfl, ite2 (fun h1 => ?_) (fun _ => ?_)⟩
          · simp at h1
          obtain rfl : (⟨u.n, u.ps.filter fun q => decide (q ≠ (a, b)), u.ns⟩ : Wb) = wl := (⟨rfl, rfl, fun p => by
            show p ∈ List.filter _ _ ↔ _
            rw [List.mem_filter, decide_eq_true_eq]⟩ : PairW u ⟨u.n, u.ps.filter fun q => decide (q ≠ (a, b)), u.ns⟩ (fun p => p ∈ u.ps ∧ p ≠ (a, b))).uniq pw1 okd.asc ok1.asc
          have x911 := N3.ex.tr N4.ex
          have ddm : Da K (Nw.mask H11 L1 L2 bs1) (Wb.d ⟨u.n, u.ps.filter fun q => decide (q ≠ (a, b)), u.ns⟩) (.ref T9) :=
            da_web (w := ⟨u.n, u.ps.filter fun q => decide (q ≠ (a, b)), u.ns⟩) (xn _ _ (e8.fr hT9) (x911 _ _ f9)) ⟨D, ac, rfl, xn _ _ hD (x911 _ _ (e9 _ _ hD8)), pairs_mask hlist (hA8.up (e9.tr x911)), hDl⟩ (gn.up (e6.tr x6))
          refine ⟨_, rfl, _, rfl, _, rfl, _, rfl, T1, L1, L2, xs1, bs1, _, _, u, _, _, _, rfl, NM, ok1, ddm, gv.up (e6.tr x6), gc.up (e6.tr x6), fun H12 e12 => ?_⟩
          refine ⟨true, rfl, ite2 (fun h1 => (by cases h1)) (fun _ => ?_)⟩
          exact ⟨_, _, _, _, _, _, _, _, _, _, _, _, _, rfl, eX.tr (e6.tr (x6.tr e12)).d, (pX.up (e6.tr (x6.tr e12))).mono (by omega)⟩
        · refine ⟨_, rfl, _, rfl, dPair (a, b), u.ps.map dPair, (dPair_of (p := (a, b)) fT).dPair, gp.dPairs, sh_dPair _, sh_dPairs _, ?_⟩
          rw [any_pair, decide_eq_false hin]
          refine ⟨_, rfl, _, rfl, tp, _, 0, _, rfl, rfl, gT, rfl, ?_⟩
          refine ⟨_, rfl, tp, _, 1, _, rfl, rfl, gT, rfl, ?_⟩
          refine ⟨true, v, u, a, b, rfl, gv, hu, ha, hb, fun _ h => absurd h hin, fun h => (by cases h), fun _ _ wl T1 L1 L2 xs1 bs1 H6 N1 ok1 pw1 => ?_, fun h => (by cases h)⟩
          refine ⟨_, rfl, _, rfl, tp, _, 0, _, rfl, rfl, N1.ex.t gT, rfl, ?_⟩
          refine ⟨_, rfl, tp, _, 1, _, rfl, rfl, N1.ex.t gT, rfl, ?_⟩
          refine ⟨false, v, u, a, b, rfl, gv.up N1.ex, hu, ha, hb, fun h => (by cases h), fun _ _ H7 e7 => ⟨_, _, rfl, ?_⟩, fun h => (by cases h), fun _ h => absurd h hin⟩
          refine ⟨_, rfl, wl.d, .str "there", ((N1.da ok1).up e7).web, ds _ _, sh_web _, shs1, ?_⟩
          refine ⟨_, rfl, rfl, _, rfl, ite2 (fun h1 => ?_) (fun _ => ?_)⟩
          · simp [PyData.eqv, Wb.d] at h1
          refine ⟨_, rfl, .str "none", .str "none", ds _ _, ds _ _, shs2, shs2, ?_⟩
          refine ⟨_, rfl, rfl, _, rfl, ite2 (fun h1 => ?_) (fun _ => ?_)⟩
          · simp [PyData.eqv] at h1
          refine ⟨_, rfl, false, rfl, _, rfl, ?_⟩
          have e67 := N1.ex.tr e7
          have fTX := e67 _ _ fT
          obtain ⟨K1', qs, hK, hQ7, gA, _⟩ := gp.up e67
          cases hK
          have gY : SqL K H7 K1 qs := .inl (.inl hQ7)
          have hql := gA.len
          rw [List.length_map] at hql
          refine ⟨_, rfl, K1, rfl, ⟨_, gY⟩, fun D hD => ?_⟩
          refine lc_by qs.length (fun i H' => Ex H7 H' ∧ ∃ ac, H' D = some (.lst ac) ∧ ac.length ≤ i ∧ DaAll K H' (((u.ps.take i).filter fun q => decide (q ≠ (a, b))).map dPair) ac)
            ⟨Ex.nw hD, [], upd_same, Nat.le_refl _, rfl⟩ (fun i H' hi p => itl_go gY p.1 hi) (fun H' p => itl_stop gY p.1) ?_ ?_
          · rintro i Ha x Hb hi ⟨e4, ac, hD4, hac, hA4⟩ y
            obtain ⟨rfl, hx⟩ := itl_yld y gY e4
            obtain ⟨dr, hdr, hxd⟩ := gA.at' hx
            obtain ⟨p', hp', rfl⟩ := map_at hdr
            have dx := hxd.up (e4)
            obtain ⟨bx, zx, rfl, hSx, _⟩ := id dx
            refine ⟨rfl, ?_⟩
            refine ⟨_, rfl, _, rfl, dPair p', dPair (a, b), dx.dPair, ((dPair_of (p := (a, b)) fTX).up e4).dPair, sh_dPair _, sh_dPair _, _, rfl, ?_⟩
            rw [eqv_dPair]
            refine ite2 (fun h2 => ?_) (fun h2 => ?_)
            · have hne : p' ≠ (a, b) := by simpa using h2
              refine ⟨_, rfl, ac, hD4, mil' (by omega), e4.wr hD, ac ++ [.ref bx], upd_same, by rw [List.length_append, List.length_singleton]; omega, ?_⟩
              rw [take_snoc hp', List.filter_append, List.filter_cons_of_pos (p := fun q => decide (q ≠ (a, b))) (decide_eq_true hne), List.filter_nil]
              refine pairs_wr hD4 ?_
              rw [List.map_append]
              exact hA4.app ⟨_, _, rfl, dx, rfl⟩
            · have hne : p' = (a, b) := by simpa using h2
              refine ⟨e4, ac, hD4, by omega, ?_⟩
              rw [take_snoc hp', List.filter_append, List.filter_cons_of_neg (p := fun q => decide (q ≠ (a, b))) (by simp [hne]), List.filter_nil, List.append_nil]
              exact hA4
          rintro H8 ⟨e8, ac, hD8, hac, hA8⟩
          rw [← hql, List.take_length] at hA8
          have hfil : (u.ps.filter fun q => decide (q ≠ (a, b))) = u.ps := List.filter_eq_self.mpr fun q hq => decide_eq_true fun e => hin (by rw [← e]; exact hq)
          rw [hfil] at hA8
          refine ⟨_, rfl, _, rfl, false, rfl, ?_⟩
          refine ⟨_, rfl, _, rfl, by show 1 ≤ sizeLine; decide, fun l1 hl1 => ?_⟩
          have e9 : Ex H8 (upd H8 l1 (.lst [.ref tp])) := Ex.nw hl1
          have f9 : (upd H8 l1 (.lst [.ref tp])) l1 = some (.lst [.ref tp]) := upd_same
          generalize upd H8 l1 (.lst [.ref tp]) = H9 at e9 f9
          refine ⟨D, l1, _, _, rfl, rfl, .inl (.inl (e9 _ _ hD8)), .inl (.inl f9), by show ac.length + 1 ≤ 1000000; omega, fun l2 hl2 => ?_⟩
          have e91 : Ex H9 (upd H9 l2 (.lst (ac ++ [.ref tp]))) := Ex.nw hl2
          have f91 : (upd H9 l2 (.lst (ac ++ [.ref tp]))) l2 = some (.lst (ac ++ [.ref tp])) := upd_same
          generalize upd H9 l2 (.lst (ac ++ [.ref tp])) = H91 at e91 f91
          have e891 := e9.tr e91
          have hAll : DaAll K H91 ((u.ps ++ [(a, b)]).map dPair) (ac ++ [.ref tp]) := by
            rw [List.map_append]
            exact (hA8.up e891).app ⟨_, _, rfl, dPair_of (p := (a, b)) ((e8.tr e891) _ _ fTX), rfl⟩
          have hnd : (u.ps ++ [(a, b)]).Nodup := nodup_snoc (nodup_asc hu.asc) hin
          obtain ⟨g1, g2⟩ := keys_of hAll
          refine ⟨l2, _, keyOf H91, rfl, .inl (.inl f91), g1, fun zs p3 s1 s2 hp3 => ?_⟩
          obtain ⟨M, m1, m2, m3, m4⟩ := sortedP hAll hnd s1 s2
          have e92 : Ex H91 (upd H91 p3 (.lst zs)) := Ex.nw hp3
          have f92 : (upd H91 p3 (.lst zs)) p3 = some (.lst zs) := upd_same
          generalize upd H91 p3 (.lst zs) = H92 at e92 f92
          have pw0 : PairW u ⟨u.n, M, u.ns⟩ (fun p => p ∈ u.ps ∨ p = (a, b)) := ⟨rfl, rfl, fun p => by
            show p ∈ M ↔ _
            rw [m3, List.mem_append, List.mem_singleton]⟩
          have okd := pw0.ok hu (fun p h => by
            rcases h with h | rfl
            · exact hu.ps p h
            · exact ⟨ha, hb⟩) m2
          refine ⟨_, rfl, by show 3 ≤ sizeLine; decide, fun T9 hT9 => ?_⟩
          have e93 : Ex H92 (upd H92 T9 (.tup [.int u.n, .ref p3, .ref K2])) := Ex.nw hT9
          have f93 : (upd H92 T9 (.tup [.int u.n, .ref p3, .ref K2])) T9 = some (.tup [.int u.n, .ref p3, .ref K2]) := upd_same
          generalize upd H92 T9 (.tup [.int u.n, .ref p3, .ref K2]) = H93 at e93 f93
          have e793 := e8.tr (e891.tr (e92.tr e93))
          have hDl : (M.map dPair).length ≤ 100000 := by
            rw [List.length_map]
            exact Nat.le_trans okd.len (by decide)
          have dd : Da K H93 (Wb.d ⟨u.n, M, u.ns⟩) (.ref T9) := da_web (w := ⟨u.n, M, u.ns⟩) f93 ⟨p3, zs, rfl, e93 _ _ f92, m1.up (e92.tr e93), hDl⟩ (gn.up (e67.tr e793))
          refine ⟨_, rfl, _, rfl, _, ⟨u.n, M, u.ns⟩, rfl, dd, okd, fun T3 L3 L4 xs3 bs3 H10 N3 => ?_⟩
          have e710 := e793.tr N3.ex
          refine ⟨_, rfl, tp, _, 0, _, rfl, rfl, (e67.tr e710).t gT, rfl, ?_⟩
          refine ⟨_, rfl, tp, _, 1, _, rfl, rfl, (e67.tr e710).t gT, rfl, ?_⟩
          have nin : (a, b) ∈ M := (pw0.ps _).mpr (.inr rfl)
          refine ⟨false, _, ⟨u.n, M, u.ns⟩, a, b, rfl, N3.da okd, okd, ha, hb, fun h => (by cases h), fun _ h => absurd nin h, fun h => (by cases h), fun _ _ wb T4 L5 L6 xs4 bs4 H11 N4 ok4 pw4 => ?_⟩
          have hwb : PairW u wb (fun p => p ∈ u.ps) := ⟨pw4.n, pw4.ns, fun p => (pw4.ps p).trans (by
            show (p ∈ M ∧ _) ↔ _
            rw [m3, List.mem_append, List.mem_singleton]
            constructor
            · rintro ⟨h | h, n⟩
              · exact h
              · exact absurd h n
            · intro h
              exact ⟨.inl h, fun e => hin (by rw [← e]; exact h)⟩)⟩
          obtain rfl : u = wb := (hwb.uniq (⟨rfl, rfl, fun p => Iff.rfl⟩ : PairW u u (fun p => p ∈ u.ps)) ok4.asc hu.asc).symm
          have e711 := e710.tr N4.ex
          obtain ⟨NM, x6, xn⟩ := N1.mask (e7.tr e711)
          have hlist := N1.lists (e7.tr e711)
          refine ⟨_, rfl, _, _, rfl, (N4.da ok4).web, w1, w2, w3, ?_⟩
          refine ⟨_, rfl, _, _, rfl, (gc.up (e67.tr e711)).web, w1, w2, w3, ?_⟩
          refine ⟨rfl, _, rfl, ite2 (fun h1 => ?_) (fun _ => ?_)⟩
          · simp at h1
          obtain rfl : (⟨u.n, M, u.ns⟩ : Wb) = wl := pw0.uniq pw1 okd.asc ok1.asc
          have x911 := N3.ex.tr N4.ex
          have ddm : Da K (Nw.mask H11 L1 L2 bs1) (Wb.d ⟨u.n, M, u.ns⟩) (.ref T9) :=
            da_web (w := ⟨u.n, M, u.ns⟩) (xn _ _ ((e7.tr (e8.tr (e891.tr e92))).fr hT9) (x911 _ _ f93)) ⟨p3, zs, rfl, xn _ _ ((e7.tr (e8.tr e891)).fr hp3) (x911 _ _ (e93 _ _ f92)), pairs_mask hlist (m1.up ((e92.tr e93).tr x911)), hDl⟩ (gn.up x6)
          refine ⟨_, rfl, _, rfl, _, rfl, _, rfl, T1, L1, L2, xs1, bs1, _, _, u, _, _, _, rfl, NM, ok1, ddm, gv.up x6, gc.up x6, fun H12 e12 => ?_⟩
          refine ⟨true, rfl, ite2 (fun h1 => (by cases h1)) (fun _ => ?_)⟩
          exact ⟨_, _, _, _, _, _, _, _, _, _, _, _, _, rfl, eX.tr (x6.tr e12).d, (pX.up (x6.tr e12)).mono (by omega)⟩

    · rintro σ H2 ⟨y6, y7, y8, y9, y10, y11, y12, y13, y14, y15, y16, y17, y18, rfl, e2, p2⟩
      refine ⟨_, rfl, _, rfl, p, u.n, _, rfl, ⟨hu.lo, hu.hi⟩, p2, by omega, fun lr r H3 hlr e3 p3 f3 hr3 => ?_⟩
      have eX := e2.tr e3
      obtain ⟨gv, gc, gp, gn⟩ := at_ _ eX
      have q3 : ∀ H', Ex H3 H' → Q (.bl true) H' := fun H' e => q H' (e1.d.tr (eX.tr e.d)) ((p3.up e).mono (by omega))
      have rlen : r.length ≤ 20 := by
        have := asc_len r 0 hr3.2.1 hr3.2.2
        omega
      have dint : ∀ (H' : Hp), Dp K H' (.int 8) (.int 8) := fun H' => (show Da K H' (.int 8) (.int 8) from rfl).dp _ _ rfl
      refine ⟨_, rfl, lr, _, rfl, .inl (.inl (.inl f3)), fun lp hlp => ?_⟩
      have e4 : Ex H3 (upd H3 lp (.lst (r.map V.int))) := Ex.nw hlp
      have f4 : (upd H3 lp (.lst (r.map V.int))) lp = some (.lst (r.map V.int)) := upd_same
      generalize upd H3 lp (.lst (r.map V.int)) = H4 at e4 f4
      have dpa : Da K H4 (dInts r) (.ref lp) := dInts_of f4 (by omega)
      have dro : Da K H4 (dInts r) (.ref lr) := dInts_of (e4 _ _ f3) (by omega)
      obtain ⟨K2', rs0, hK0, hR0, hB0, _⟩ := gn.up e4
      cases hK0
      have hrl0 := hB0.len
      rw [List.length_map] at hrl0
      by_cases h8 : u.ns.length = 8
      · refine ⟨_, rfl, _, rfl, v, _, u, r, rfl, gv.up e4, hu, dpa, hr3, fun _ H5 e5 => ?_, fun h => absurd h8 (by omega)⟩
        refine ⟨_, rfl, K2, _, rfl, .inl (.inl (.inl (e5 _ _ hR0))), rfl, _, rfl, ite2 (fun _ => ?_) (fun h => ?_)⟩
        · refine ⟨_, rfl, .int 8, .int 8, dint _, dint _, by decide, by decide, _, rfl, ite2 (fun h1 => ?_) (fun _ => ?_)⟩
          · simp [PyData.eqv] at h1
          have eZ := e4.tr e5
          obtain ⟨K2', rs, hK, hR, hB, _⟩ := gn.up eZ
          cases hK
          have hrl := hB.len
          rw [List.length_map] at hrl
          refine ⟨_, rfl, K2, _, rfl, .inl (.inl (.inl hR)), _, rfl, by omega, by omega, ?_⟩
          refine for_by rs.length (fun i σ H' => ∃ y6 y7 y8 y9 y10 y11 y12 y13 y14 y15 y16 y17 y18, σ = [some (V.ref p), some v, some (V.ref c), some (V.int u.n), some (V.ref K1), some (V.ref K2), y6, y7, y8, y9, y10, y11, y12, y13, y14, y15, y16, y17, y18] ∧ Ex H5 H')
            ⟨_, _, _, _, _, _, _, _, _, _, _, _, _, rfl, Ex.rfl⟩ (fun i σ H' hi _ => by show i < ((rs.length : Nat) : Int).toNat; omega) (fun σ H' _ => by show ((rs.length : Nat) : Int).toNat ≤ rs.length; omega) ?_ ?_
          · rintro i σ J1 x J2 hi ⟨y6, y7, y8, y9, y10, y11, y12, y13, y14, y15, y16, y17, y18, rfl, j1⟩ ⟨rfl, rfl⟩
            rw [Int.zero_add]
            have hRL : SqL K J2 K2 rs := .inl (.inl (j1 _ _ hR))
            refine ⟨_, rfl, _, rfl, _, rfl, K2, rs, rfl, hRL, fun c1 hc1 => ?_⟩
            rw [cut_take rs i (by omega)]
            have j2 : Ex J2 (upd J2 c1 (.lst (rs.take i))) := Ex.nw hc1
            have k2 : (upd J2 c1 (.lst (rs.take i))) c1 = some (.lst (rs.take i)) := upd_same
            generalize upd J2 c1 (.lst (rs.take i)) = J3 at j2 k2
            refine ⟨_, rfl, _, rfl, _, _, rfl, rfl, _, rfl, K2, rs, rfl, j2.l hRL, fun c2 hc2 => ?_⟩
            rw [show ((i : Int) + 1) = ((i + 1 : Nat) : Int) by omega, cut_drop rs (i + 1) (by omega)]
            have j3 : Ex J3 (upd J3 c2 (.lst (rs.drop (i + 1)))) := Ex.nw hc2
            have k3 : (upd J3 c2 (.lst (rs.drop (i + 1)))) c2 = some (.lst (rs.drop (i + 1))) := upd_same
            generalize upd J3 c2 (.lst (rs.drop (i + 1))) = J4 at j3 k3
            refine ⟨c1, c2, _, _, rfl, rfl, .inl (.inl (j3 _ _ k2)), .inl (.inl k3), by rw [List.length_take, List.length_drop]; omega, fun c3 hc3 => ?_⟩
            have j4 : Ex J4 (upd J4 c3 (.lst (rs.take i ++ rs.drop (i + 1)))) := Ex.nw hc3
            have k4 : (upd J4 c3 (.lst (rs.take i ++ rs.drop (i + 1)))) c3 = some (.lst (rs.take i ++ rs.drop (i + 1))) := upd_same
            generalize upd J4 c3 (.lst (rs.take i ++ rs.drop (i + 1))) = J5 at j4 k4
            refine ⟨_, rfl, _, rfl, _, rfl, by show 3 ≤ sizeLine; decide, fun T9 hT9 => ?_⟩
            have j5 : Ex J5 (upd J5 T9 (.tup [.int u.n, .ref K1, .ref c3])) := Ex.nw hT9
            have k5 : (upd J5 T9 (.tup [.int u.n, .ref K1, .ref c3])) T9 = some (.tup [.int u.n, .ref K1, .ref c3]) := upd_same
            generalize upd J5 T9 (.tup [.int u.n, .ref K1, .ref c3]) = J6 at j5 k5
            have j16 := j1.tr (j2.tr (j3.tr (j4.tr j5)))
            have z6 := eZ.tr j16
            have hB6 := hB.up j16
            have okl := lessN_ok hu (k := i)
            have dd : Da K J6 (Wb.d (lessN u i)) (.ref T9) := by
              refine da_web (w := lessN u i) k5 (gp.up z6) ⟨c3, _, rfl, j5 _ _ k4, ?_, by rw [List.length_map, List.length_append, List.length_take, List.length_drop]; omega⟩
              show DaAll K J6 ((u.ns.take i ++ u.ns.drop (i + 1)).map dInts) _
              rw [List.map_append, List.map_take, List.map_drop]
              exact (hB6.take i).app (hB6.drop (i + 1))
            refine ⟨_, rfl, _, rfl, _, u, (i : Int), rfl, gv.up z6, hu, by omega, fun Ta La Lb xsa bsa J7 Na => ?_⟩
            refine ⟨_, rfl, _, rfl, _, rfl, Ta, La, Lb, xsa, bsa, _, _, u, _, _, _, rfl, Na, okl, dd, gv.up z6, gc.up z6, fun J8 j8 => ?_⟩
            refine ⟨true, rfl, ite2 (fun h1 => (by cases h1)) (fun _ => ?_)⟩
            exact ⟨_, _, _, _, _, _, _, _, _, _, _, _, _, rfl, j16.tr j8⟩
          · rintro σ J1 ⟨y6, y7, y8, y9, y10, y11, y12, y13, y14, y15, y16, y17, y18, rfl, j1⟩
            have z1 := eZ.tr j1
            refine ⟨_, rfl, _, rfl, _, _, (gv.up z1).web, (gc.up z1).web, sh_web _, sh_web _, ?_⟩
            rw [eqv_web, decide_eq_true rfl]
            exact q3 _ z1
        · exfalso
          apply h
          rw [decide_eq_true_eq]
          show V.int ((rs0.length : Nat) : Int) = V.int 8
          rw [← hrl0, h8]
          rfl
      · have h8' : u.ns.length < 8 := by omega
        have okm := moreN_ok hu hr3 h8'
        refine ⟨_, rfl, _, rfl, v, _, u, r, rfl, gv.up e4, hu, dpa, hr3, fun h => absurd h h8, fun _ T1 L1 L2 xs1 bs1 H5 N1 => ?_⟩
        refine ⟨_, rfl, K2, _, rfl, .inl (.inl (.inl (N1.ex _ _ hR0))), rfl, _, rfl, ite2 (fun h => ?_) (fun _ => ?_)⟩
        · exfalso
          have h2 := of_decide_eq_true h
          have h3 : ((rs0.length : Nat) : Int) = 8 := by
            simp only [V.int.injEq] at h2
            exact h2
          omega
        refine ⟨_, rfl, _, moreN u r, rfl, N1.da okm, okm, fun T3 L3 L4 xs3 bs3 H6 N3 => ?_⟩
        refine ⟨_, rfl, K2, _, rfl, .inl (.inl (.inl (N3.ex _ _ (N1.ex _ _ hR0)))), ?_⟩
        refine ⟨_, moreN u r, (rs0.length : Int), rfl, N3.da okm, okm, by
          show 0 ≤ _ ∧ _ < (((u.ns ++ [r]).length : Nat) : Int)
          rw [List.length_append, List.length_singleton]
          omega, fun T4 L5 L6 xs4 bs4 H7 N4 => ?_⟩
        have hback : lessN (moreN u r) ((rs0.length : Nat) : Int).toNat = u := by
          rw [Int.toNat_natCast, ← hrl0]
          exact less_more u r
        rw [hback] at N4
        have e57 := N3.ex.tr N4.ex
        have e37 := e4.tr (N1.ex.tr e57)
        refine ⟨_, _, rfl, (N4.da hu).web, w1, w2, w3, ?_⟩
        refine ⟨_, rfl, _, _, rfl, (gc.up e37).web, w1, w2, w3, ?_⟩
        refine ⟨rfl, _, rfl, ite2 (fun h1 => ?_) (fun _ => ?_)⟩
        · simp at h1
        refine ⟨_, rfl, _, rfl, _, rfl, _, rfl, by show 1 ≤ sizeLine; decide, fun l1 hl1 => ?_⟩
        have e8 : Ex H7 (upd H7 l1 (.lst [.ref lr])) := Ex.nw hl1
        have f8 : (upd H7 l1 (.lst [.ref lr])) l1 = some (.lst [.ref lr]) := upd_same
        generalize upd H7 l1 (.lst [.ref lr]) = H8 at e8 f8
        have e48 := N1.ex.tr (e57.tr e8)
        refine ⟨K2, l1, _, _, rfl, rfl, .inl (.inl (e48 _ _ hR0)), .inl (.inl f8), by show rs0.length + 1 ≤ 1000000; omega, fun l2 hl2 => ?_⟩
        have e9 : Ex H8 (upd H8 l2 (.lst (rs0 ++ [.ref lr]))) := Ex.nw hl2
        have f9 : (upd H8 l2 (.lst (rs0 ++ [.ref lr]))) l2 = some (.lst (rs0 ++ [.ref lr])) := upd_same
        generalize upd H8 l2 (.lst (rs0 ++ [.ref lr])) = H9 at e9 f9
        refine ⟨by show 3 ≤ sizeLine; decide, fun T9 hT9 => ?_⟩
        have e10 : Ex H9 (upd H9 T9 (.tup [.int u.n, .ref K1, .ref l2])) := Ex.nw hT9
        have f10 : (upd H9 T9 (.tup [.int u.n, .ref K1, .ref l2])) T9 = some (.tup [.int u.n, .ref K1, .ref l2]) := upd_same
        generalize upd H9 T9 (.tup [.int u.n, .ref K1, .ref l2]) = H10 at e10 f10
        have e810 := e9.tr e10
        have e410 := e48.tr e810
        refine ⟨_, rfl, _, rfl, _, _, (dpa.up e410).dInts, (dro.up e410).dInts, sh_dInts _, sh_dInts _, _, rfl, ite2 (fun h1 => ?_) (fun _ => ?_)⟩
        · rw [eqv_dInts] at h1
          simp at h1
        obtain ⟨NM, x4, xn⟩ := N1.mask (e57.tr (e8.tr e810))
        have hlist := N1.lists (e57.tr (e8.tr e810))
        have ddm : Da K (Nw.mask H10 L1 L2 bs1) (Wb.d (moreN u r)) (.ref T9) := by
          refine da_web (w := moreN u r) (xn _ _ ((e57.tr (e8.tr e9)).fr hT9) f10) (gp.up (e4.tr x4)) ⟨l2, _, rfl, xn _ _ ((e57.tr e8).fr hl2) (e10 _ _ f9), ?_, by rw [List.length_map, List.length_append, List.length_singleton]; omega⟩
          show DaAll K _ ((u.ns ++ [r]).map dInts) _
          rw [List.map_append]
          exact (hB0.up x4).app ⟨_, _, rfl, dro.up x4, rfl⟩
        refine ⟨_, rfl, _, rfl, _, rfl, _, rfl, T1, L1, L2, xs1, bs1, _, _, u, _, _, _, rfl, NM, okm, ddm, gv.up (e4.tr x4), gc.up (e4.tr x4), fun H12 e12 => ?_⟩
        refine ⟨true, rfl, ite2 (fun h1 => (by cases h1)) (fun _ => ?_)⟩
        have eZ := e4.tr (x4.tr e12)
        obtain ⟨K2', rs, hK, hR, hB, _⟩ := gn.up eZ
        cases hK
        have hrl := hB.len
        rw [List.length_map] at hrl
        refine ⟨_, rfl, K2, _, rfl, .inl (.inl (.inl hR)), _, rfl, by omega, by omega, ?_⟩
        refine for_by rs.length (fun i σ H' => ∃ y6 y7 y8 y9 y10 y11 y12 y13 y14 y15 y16 y17 y18, σ = [some (V.ref p), some v, some (V.ref c), some (V.int u.n), some (V.ref K1), some (V.ref K2), y6, y7, y8, y9, y10, y11, y12, y13, y14, y15, y16, y17, y18] ∧ Ex H12 H')
          ⟨_, _, _, _, _, _, _, _, _, _, _, _, _, rfl, Ex.rfl⟩ (fun i σ H' hi _ => by show i < ((rs.length : Nat) : Int).toNat; omega) (fun σ H' _ => by show ((rs.length : Nat) : Int).toNat ≤ rs.length; omega) ?_ ?_
        · rintro i σ J1 x J2 hi ⟨y6, y7, y8, y9, y10, y11, y12, y13, y14, y15, y16, y17, y18, rfl, j1⟩ ⟨rfl, rfl⟩
          rw [Int.zero_add]
          have hRL : SqL K J2 K2 rs := .inl (.inl (j1 _ _ hR))
          refine ⟨_, rfl, _, rfl, _, rfl, K2, rs, rfl, hRL, fun c1 hc1 => ?_⟩
          rw [cut_take rs i (by omega)]
          have j2 : Ex J2 (upd J2 c1 (.lst (rs.take i))) := Ex.nw hc1
          have k2 : (upd J2 c1 (.lst (rs.take i))) c1 = some (.lst (rs.take i)) := upd_same
          generalize upd J2 c1 (.lst (rs.take i)) = J3 at j2 k2
          refine ⟨_, rfl, _, rfl, _, _, rfl, rfl, _, rfl, K2, rs, rfl, j2.l hRL, fun c2 hc2 => ?_⟩
          rw [show ((i : Int) + 1) = ((i + 1 : Nat) : Int) by omega, cut_drop rs (i + 1) (by omega)]
          have j3 : Ex J3 (upd J3 c2 (.lst (rs.drop (i + 1)))) := Ex.nw hc2
          have k3 : (upd J3 c2 (.lst (rs.drop (i + 1)))) c2 = some (.lst (rs.drop (i + 1))) := upd_same
          generalize upd J3 c2 (.lst (rs.drop (i + 1))) = J4 at j3 k3
          refine ⟨c1, c2, _, _, rfl, rfl, .inl (.inl (j3 _ _ k2)), .inl (.inl k3), by rw [List.length_take, List.length_drop]; omega, fun c3 hc3 => ?_⟩
          have j4 : Ex J4 (upd J4 c3 (.lst (rs.take i ++ rs.drop (i + 1)))) := Ex.nw hc3
          have k4 : (upd J4 c3 (.lst (rs.take i ++ rs.drop (i + 1)))) c3 = some (.lst (rs.take i ++ rs.drop (i + 1))) := upd_same
          generalize upd J4 c3 (.lst (rs.take i ++ rs.drop (i + 1))) = J5 at j4 k4
          refine ⟨_, rfl, _, rfl, _, rfl, by show 3 ≤ sizeLine; decide, fun T9 hT9 => ?_⟩
          have j5 : Ex J5 (upd J5 T9 (.tup [.int u.n, .ref K1, .ref c3])) := Ex.nw hT9
          have k5 : (upd J5 T9 (.tup [.int u.n, .ref K1, .ref c3])) T9 = some (.tup [.int u.n, .ref K1, .ref c3]) := upd_same
          generalize upd J5 T9 (.tup [.int u.n, .ref K1, .ref c3]) = J6 at j5 k5
          have j16 := j1.tr (j2.tr (j3.tr (j4.tr j5)))
          have z6 := eZ.tr j16
          have hB6 := hB.up j16
          have okl := lessN_ok hu (k := i)
          have dd : Da K J6 (Wb.d (lessN u i)) (.ref T9) := by
            refine da_web (w := lessN u i) k5 (gp.up z6) ⟨c3, _, rfl, j5 _ _ k4, ?_, by rw [List.length_map, List.length_append, List.length_take, List.length_drop]; omega⟩
            show DaAll K J6 ((u.ns.take i ++ u.ns.drop (i + 1)).map dInts) _
            rw [List.map_append, List.map_take, List.map_drop]
            exact (hB6.take i).app (hB6.drop (i + 1))
          refine ⟨_, rfl, _, rfl, _, u, (i : Int), rfl, gv.up z6, hu, by omega, fun Ta La Lb xsa bsa J7 Na => ?_⟩
          refine ⟨_, rfl, _, rfl, _, rfl, Ta, La, Lb, xsa, bsa, _, _, u, _, _, _, rfl, Na, okl, dd, gv.up z6, gc.up z6, fun J8 j8 => ?_⟩
          refine ⟨true, rfl, ite2 (fun h1 => (by cases h1)) (fun _ => ?_)⟩
          exact ⟨_, _, _, _, _, _, _, _, _, _, _, _, _, rfl, j16.tr j8⟩
        · rintro σ J1 ⟨y6, y7, y8, y9, y10, y11, y12, y13, y14, y15, y16, y17, y18, rfl, j1⟩
          have z1 := eZ.tr j1
          refine ⟨_, rfl, _, rfl, _, _, (gv.up z1).web, (gc.up z1).web, sh_web _, sh_web _, ?_⟩
          rw [eqv_web, decide_eq_true rfl]
          exact q3 _ z1
end

end K43
namespace K43
open PySem PySem.Spec PyProof.Rows L2 Nw
/-! law: slots 0 _law_script, 1 _law_k, 2 _law_purse_here, 3 _law_size, 4 _law_web_here, 5 _law_full -/
abbrev s_law : Stmt := topS 42
abbrev N_law : List Str := ["_law_script", "_law_k", "_law_purse_here", "_law_size", "_law_web_here", "_law_full"]
abbrev P_law : List Str := ["_law_script"]
theorem sc_law : FnScope N_law P_law (defScope s_law) := ⟨rfl, rfl, rfl, by decide +kernel, rfl, by decide +kernel, by decide +kernel⟩
theorem dp8 {K : PySem.W.Frag} (H' : Hp) : Dp K H' (.int 8) (.int 8) := (show Da K H' (.int 8) (.int 8) from rfl).dp _ _ rfl
abbrev fullW (u : Wb) : Wb := ⟨u.n, u.ps, (u.ns ++ [[0], [0], [0], [0], [0], [0], [0], [0]]).take 8⟩
theorem fullW_ok {u : Wb} (hu : u.Ok) : (fullW u).Ok := by
  refine ⟨hu.lo, hu.hi, hu.ps, hu.asc, ?_, fun s hs => ?_⟩
  · show (List.take 8 _).length ≤ 8
    rw [List.length_take]
    exact Nat.min_le_left _ _
  · rcases List.mem_append.mp (List.mem_of_mem_take hs) with hs | hs
    · exact hu.ns s hs
    · have e : s = [0] := by simpa using hs
      subst e
      have := hu.lo
      refine ⟨by decide, fun t ht => ?_, rfl⟩
      obtain rfl := List.mem_singleton.mp ht
      show 0 ≤ (0 : Int) ∧ (0 : Int) < u.n
      omega
theorem fullW_len (u : Wb) : (fullW u).ns.length = 8 := by
  show (List.take 8 _).length = 8
  rw [List.length_take, List.length_append]
  have : ([[0], [0], [0], [0], [0], [0], [0], [0]] : List (List Int)).length = 8 := rfl
  omega
def sp_law (K : PySem.W.Frag) : Sp := fun vs H Q _ => ∃ (a : Addr) (ns : List Int), vs = [.ref a] ∧ ns.length ≤ 63 ∧ SqL K H a (ns.map V.int) ∧ ∀ H', Ex H H' → Q (.bl true) H'
theorem sp_law_start {K : PySem.W.Frag} {H : Hp} {a : Addr} {ns : List Int} (hl : ns.length ≤ 63) (hS : SqL K H a (ns.map V.int)) : sp_law K [.ref a] H (fun v _ => v = .bl true) (fun _ _ _ => False) :=
  ⟨a, ns, rfl, hl, hS, fun _ _ => rfl⟩
section
variable {P : Program} {w : World} {K : PySem.W.Frag} {mg : Str → Option Value} {base : Heap}
theorem ok_law {f : Addr} {fd : FuncData} (T : Txt K mg) (F : Fun K "law" "law" s_law f fd)
    (D_with_pair : DefOk P w K mg base (L2.CX P w) 8 "with_pair" P_with_pair (sp_with_pair K))
    (D_with_nudge : DefOk P w K mg base (L2.CX P w) 8 "with_nudge" P_with_nudge (sp_with_nudge K))
    (D_purse : DefOk P w K mg base CX0 1 "_law_purse" P_purse (sp_purse K))
    (D_web : DefOk P w K mg base CX0 3 "_law_web" P_web (sp_web K))
    (D_nudge : DefOk P w K mg base CX0 9 "_law_nudge" P_nudge (sp_nudge K))
    (D_right : DefOk P w K mg base CX0 10 "_law_right" P_right (sp_right K)) :
    FnG P w K mg base CX0 11 f fd P_law (sp_law K) := by
  refine okG0 F sc_law (fun vs H Q E h => ?_) (fun cdv A outer s H vs Q E hr hq h => ?_)
  · obtain ⟨a, ns, rfl, _⟩ := h
    rfl
  · obtain ⟨a, ns, rfl, hn, hS, q⟩ := h
    refine ⟨_, (pss_cons (ps_for PassesOwn.never rfl (pi_range1 (by rfl) T.b_range (pa_cons (pe_callB (call_max2 rfl) (by rfl) T.b_max bt_max (pa_cons pe_int (pa_cons (pe_callB (call_min2 rfl) (by rfl) T.b_min bt_min (pa_cons pe_int (pa_cons (pe_callB (call_lenK K) (by rfl) T.b_len bt_len (pa_cons (pv 0) pa_nil)) pa_nil))) pa_nil))) pa_nil)) (pg_name (i := 1) sc_law.nd rfl (by first | exact .inl rfl | exact .inr rfl)) (pss_cons (ps_set (i := 2) sc_law.nd rfl (by first | exact .inl rfl | exact .inr rfl) (pe_callD D_purse (hr.mono (by decide)) hq pass0 (pa_cons (pv 0) (pa_cons (pv 1) pa_nil))))
      (pss_one (ps_for PassesOwn.never rfl (pi_listK K (pe_lst (pa_cons pe_int (pa_cons pe_int (pa_cons pe_int pa_nil))))) (pg_name (i := 3) sc_law.nd rfl (by first | exact .inl rfl | exact .inr rfl)) (pss_cons (ps_set (i := 4) sc_law.nd rfl (by first | exact .inl rfl | exact .inr rfl) (pe_callD D_web (hr.mono (by decide)) hq pass0 (pa_cons (pv 2) (pa_cons (pv 3) (pa_cons pe_int pa_nil)))))
      (pss_cons (ps_if (pt_not (pt_val (pe_callD D_right (hr.mono (by decide)) hq pass0 (pa_cons (pv 2) (pa_cons (pv 4) pa_nil))))) (pss_one (ps_ret pe_bl)) pss_nil)
      (pss_cons (ps_set (i := 5) sc_law.nd rfl (by first | exact .inl rfl | exact .inr rfl) (pe_tup (pa_cons (pe_ix (ix_tupK K) (pv 4) pe_int (fun _ _ => rfl)) (pa_cons (pe_ix (ix_tupK K) (pv 4) pe_int (fun _ _ => rfl)) (pa_cons (pe_slice (sl_listK K) (pe_op (op_catS K) (pe_ix (ix_tupK K) (pv 4) pe_int (fun _ _ => rfl)) (pe_op op_rep (pe_lst (pa_cons (pe_lst (pa_cons pe_int pa_nil)) pa_nil)) pe_int)) po_none (po_some pe_int)) pa_nil)))))
      (pss_one (ps_if (PW.pt (pw_or (pt_cmpR (op_neDk K hr.units) (pe_callD D_nudge (hr.mono (by decide)) hq pass0 (pa_cons (pv 5) (pa_cons (pe_lst (pa_cons pe_int pa_nil)) pa_nil))) pe_int (nomark _)) (pw_or1 (pt_not (pt_val (pe_callD D_right (hr.mono (by decide)) hq pass0 (pa_cons (pv 2) (pa_cons (pv 5) pa_nil)))))))) (pss_one (ps_ret pe_bl)) pss_nil)))))))))
      (pss_one (ps_ret (pe_and (pe_cmpR (op_eqDk K hr.units) (pe_callD D_with_pair (hr.mono (by decide)) hq passN (pa_cons (pe_tup (pa_cons pe_int (pa_cons (pe_lst pa_nil) (pa_cons (pe_lst pa_nil) pa_nil)))) (pa_cons pe_int (pa_cons pe_int pa_nil)))) (pe_tup (pa_cons pe_int (pa_cons (pe_lst (pa_cons (pe_tup (pa_cons pe_int (pa_cons pe_int pa_nil))) pa_nil)) (pa_cons (pe_lst pa_nil) pa_nil)))) (nomark _)) (pe_one (pe_cmpR (op_eqDk K hr.units) (pe_callD D_with_nudge (hr.mono (by decide)) hq passN (pa_cons (pe_tup (pa_cons pe_int (pa_cons (pe_lst pa_nil) (pa_cons (pe_lst pa_nil) pa_nil)))) (pa_cons (pe_lst (pa_cons pe_int pa_nil)) pa_nil))) (pe_tup (pa_cons pe_int (pa_cons (pe_lst pa_nil) (pa_cons (pe_lst (pa_cons (pe_lst (pa_cons pe_int pa_nil)) pa_nil)) pa_nil)))) (nomark _))))))), ?_⟩
    refine ⟨_, rfl, a, _, rfl, .inl hS, ?_⟩
    have hmm : ∃ m : Int, m = (if (if ((ns.map V.int).length : Int) < 6 then ((ns.map V.int).length : Int) else 6) > 1 then (if ((ns.map V.int).length : Int) < 6 then ((ns.map V.int).length : Int) else 6) else 1) ∧ 0 ≤ m ∧ m ≤ 6 := by
      refine ⟨_, rfl, ?_, ?_⟩
      · split <;> split <;> omega
      · split <;> split <;> omega
    obtain ⟨m, em, m0, m6⟩ := hmm
    refine ⟨_, _, rfl, _, _, rfl, m, by rw [em], by omega, by omega, ?_⟩
    refine for_by m.toNat (fun i σ H' => ∃ y1 y2 y3 y4 y5, σ = [some (V.ref a), y1, y2, y3, y4, y5] ∧ Ex H H')
      ⟨_, _, _, _, _, rfl, Ex.rfl⟩ (fun i σ H' hi p => hi) (fun σ H' p => Nat.le_refl _) ?_ ?_
    · rintro i σ H1 x H2 hi ⟨y1, y2, y3, y4, y5, rfl, e1⟩ ⟨rfl, rfl⟩
      refine ⟨_, rfl, _, rfl, a, ns, (0 + (i : Int)), rfl, e1.l hS, by omega, fun p H3 hp e3 p3 => ?_⟩
      refine ⟨by show 3 ≤ sizeLine; decide, fun D hD => ?_⟩
      have Dp := p3.off hD
      have hD3 : (upd H3 D (.lst [.int 2, .int 6, .int 20])) D = some (.lst [.int 2, .int 6, .int 20]) := upd_same
      have p30 := p3.up (Ex.nw hD (o := .lst [.int 2, .int 6, .int 20]))
      have e30 := e3.tr (Ex.nw hD (o := .lst [.int 2, .int 6, .int 20]))
      have hpD : D ≠ p := Dp
      generalize upd H3 D (.lst [.int 2, .int 6, .int 20]) = H4 at hD3 p30 e30
      have hSD : SqL K H4 D [.int 2, .int 6, .int 20] := .inl (.inl hD3)
      refine ⟨D, rfl, ⟨_, hSD⟩, ?_⟩
      refine for_by 3 (fun j σ H' => ∃ y3 y4 y5, σ = [some (V.ref a), some (V.int (0 + (i : Int))), some (V.ref p), y3, y4, y5] ∧ ExD p H4 H' ∧ Purse H' p (780 * j))
        ⟨_, _, _, rfl, fun _ _ _ h => h, p30⟩ (fun j σ H' hj p => ?_) (fun σ H' p => ?_) ?_ ?_
      · obtain ⟨_, _, _, _, h4, _⟩ := p
        exact itl_go (h4.l hpD hSD) Ex.rfl hj
      · obtain ⟨_, _, _, _, h4, _⟩ := p
        exact itl_stop (h4.l hpD hSD) Ex.rfl
      · rintro j σ H5 x H6 hj ⟨y3, y4, y5, rfl, e5, p5⟩ ⟨rfl, hx⟩
        have hx := hx _ (e5.l hpD hSD)
        obtain ⟨z, rfl, hz⟩ : ∃ z : Int, x = .int z ∧ (1 ≤ z ∧ z ≤ 20) := by
          match j, hj, hx with
          | 0, _, hx => exact ⟨2, (Option.some.inj hx).symm, by decide⟩
          | 1, _, hx => exact ⟨6, (Option.some.inj hx).symm, by decide⟩
          | 2, _, hx => exact ⟨20, (Option.some.inj hx).symm, by decide⟩
        refine ⟨_, rfl, _, rfl, p, z, 8, 780 * j, rfl, hz, by decide, p5, by omega, fun v u H7 e7 p7 hd hu _ _ => ?_⟩
        refine ⟨_, rfl, _, rfl, p, v, u, _, rfl, p7, by omega, hd, hu, fun H8 e8 p8 => ?_⟩
        refine ⟨true, rfl, ite2 (fun h1 => (by cases h1)) (fun _ => ?_)⟩
        have hd8 := hd.up e8.rm
        obtain ⟨t, x2, x3, rfl, hSt, g2, g3⟩ := Wb.at hd8
        obtain ⟨a3, rs, rfl, hL3, hA3, _⟩ := g3
        have hrl := hA3.len
        rw [List.length_map] at hrl
        have hfew := hu.few
        have hS8 : SqT K H8 t [.int u.n, x2, .ref a3] := rm_ex.t hSt
        have hR8 := rm_ex _ _ hL3
        refine ⟨_, rfl, t, _, 0, _, rfl, rfl, hS8, rfl, ?_⟩
        refine ⟨_, rfl, t, _, 1, _, rfl, rfl, hS8, rfl, ?_⟩
        refine ⟨_, rfl, t, _, 2, _, rfl, rfl, hS8, rfl, ?_⟩
        refine ⟨by show 1 ≤ sizeLine; decide, fun z1 hz1 => ?_⟩
        have Ez1 : Ex H8 (upd H8 z1 (.lst [.int 0])) := Ex.nw hz1
        have Fz1 : (upd H8 z1 (.lst [.int 0])) z1 = some (.lst [.int 0]) := upd_same
        generalize upd H8 z1 (.lst [.int 0]) = W1 at Ez1 Fz1
        refine ⟨by show 1 ≤ sizeLine; decide, fun z2 hz2 => ?_⟩
        have Ez2 : Ex W1 (upd W1 z2 (.lst [.ref z1])) := Ex.nw hz2
        have Fz2 : (upd W1 z2 (.lst [.ref z1])) z2 = some (.lst [.ref z1]) := upd_same
        generalize upd W1 z2 (.lst [.ref z1]) = W2 at Ez2 Fz2
        refine ⟨z2, 8, _, rfl, rfl, Fz2, by decide, by decide, by show 8 ≤ sizeLine; decide, fun z3 hz3 => ?_⟩
        have Ez3 : Ex W2 (upd W2 z3 (.lst (List.replicate (Int.toNat 8) [.ref z1]).flatten)) := Ex.nw hz3
        have Fz3 : (upd W2 z3 (.lst (List.replicate (Int.toNat 8) [.ref z1]).flatten)) z3 = some (.lst [V.ref z1, V.ref z1, V.ref z1, V.ref z1, V.ref z1, V.ref z1, V.ref z1, V.ref z1]) := upd_same
        generalize upd W2 z3 (.lst (List.replicate (Int.toNat 8) [.ref z1]).flatten) = W3 at Ez3 Fz3
        refine ⟨a3, z3, rs, [V.ref z1, V.ref z1, V.ref z1, V.ref z1, V.ref z1, V.ref z1, V.ref z1, V.ref z1], rfl, rfl, .inl (.inl ((Ez1.tr (Ez2.tr Ez3)) _ _ hR8)), .inl (.inl Fz3), by show rs.length + 8 ≤ 1000000; omega, fun z4 hz4 => ?_⟩
        have Ez4 : Ex W3 (upd W3 z4 (.lst (rs ++ [V.ref z1, V.ref z1, V.ref z1, V.ref z1, V.ref z1, V.ref z1, V.ref z1, V.ref z1]))) := Ex.nw hz4
        have Fz4 : (upd W3 z4 (.lst (rs ++ [V.ref z1, V.ref z1, V.ref z1, V.ref z1, V.ref z1, V.ref z1, V.ref z1, V.ref z1]))) z4 = some (.lst (rs ++ [V.ref z1, V.ref z1, V.ref z1, V.ref z1, V.ref z1, V.ref z1, V.ref z1, V.ref z1])) := upd_same
        generalize upd W3 z4 (.lst (rs ++ [V.ref z1, V.ref z1, V.ref z1, V.ref z1, V.ref z1, V.ref z1, V.ref z1, V.ref z1])) = W4 at Ez4 Fz4
        refine ⟨_, rfl, z4, _, rfl, .inl (.inl Fz4), fun z5 hz5 => ?_⟩
        rw [show (8 : Int) = ((8 : Nat) : Int) from rfl, cut_take (rs ++ [V.ref z1, V.ref z1, V.ref z1, V.ref z1, V.ref z1, V.ref z1, V.ref z1, V.ref z1]) 8 (by rw [List.length_append]; show 8 ≤ rs.length + 8; omega)]
        have Ez5 : Ex W4 (upd W4 z5 (.lst ((rs ++ [V.ref z1, V.ref z1, V.ref z1, V.ref z1, V.ref z1, V.ref z1, V.ref z1, V.ref z1]).take 8))) := Ex.nw hz5
        have Fz5 : (upd W4 z5 (.lst ((rs ++ [V.ref z1, V.ref z1, V.ref z1, V.ref z1, V.ref z1, V.ref z1, V.ref z1, V.ref z1]).take 8))) z5 = some (.lst ((rs ++ [V.ref z1, V.ref z1, V.ref z1, V.ref z1, V.ref z1, V.ref z1, V.ref z1, V.ref z1]).take 8)) := upd_same
        generalize upd W4 z5 (.lst ((rs ++ [V.ref z1, V.ref z1, V.ref z1, V.ref z1, V.ref z1, V.ref z1, V.ref z1, V.ref z1]).take 8)) = W5 at Ez5 Fz5
        refine ⟨by show 3 ≤ sizeLine; decide, fun tf htf => ?_⟩
        have Etf : Ex W5 (upd W5 tf (.tup [.int u.n, x2, .ref z5])) := Ex.nw htf
        have Ftf : (upd W5 tf (.tup [.int u.n, x2, .ref z5])) tf = some (.tup [.int u.n, x2, .ref z5]) := upd_same
        generalize upd W5 tf (.tup [.int u.n, x2, .ref z5]) = W6 at Etf Ftf
        have eC : Ex H8 W6 := (Ez1.tr (Ez2.tr (Ez3.tr (Ez4.tr (Ez5.tr Etf)))))
        have eR := eC.d.rm (p := p)
        have pC := p8.up eC
        have z1p : z1 ≠ p := p8.off hz1
        have z5p : z5 ≠ p := (p8.up (Ez1.tr (Ez2.tr (Ez3.tr Ez4)))).off hz5
        have tfp : tf ≠ p := (p8.up (Ez1.tr (Ez2.tr (Ez3.tr (Ez4.tr Ez5))))).off htf
        have dF : Da K (rm W6 p) (Wb.d (fullW u)) (.ref tf) := by
          refine da_web (w := fullW u) (by rw [rm_ne tfp]; exact Ftf) (g2.up eR) ⟨z5, _, rfl, by rw [rm_ne z5p]; exact (Etf _ _ Fz5), ?_, by rw [List.length_map, fullW_len]; decide⟩
          show DaAll K _ (((u.ns ++ [[0], [0], [0], [0], [0], [0], [0], [0]]).take 8).map dInts) _
          rw [List.map_take, List.map_append]
          refine DaAll.take 8 ((hA3.up eR).app ?_)
          have f0 : (rm W6 p) z1 = some (.lst (([0] : List Int).map V.int)) := by
            rw [rm_ne z1p]
            exact ((Ez2.tr (Ez3.tr (Ez4.tr (Ez5.tr Etf)))) _ _ Fz1)
          exact ⟨_, _, rfl, dInts_of (r := [0]) f0 (by decide), _, _, rfl, dInts_of (r := [0]) f0 (by decide), _, _, rfl, dInts_of (r := [0]) f0 (by decide), _, _, rfl, dInts_of (r := [0]) f0 (by decide), _, _, rfl, dInts_of (r := [0]) f0 (by decide), _, _, rfl, dInts_of (r := [0]) f0 (by decide), _, _, rfl, dInts_of (r := [0]) f0 (by decide), _, _, rfl, dInts_of (r := [0]) f0 (by decide), rfl⟩
        have okF := fullW_ok hu
        refine ⟨_, rfl, by show 1 ≤ sizeLine; decide, fun y1 hy1 => ?_⟩
        have Ey1 : Ex W6 (upd W6 y1 (.lst [.int 0])) := Ex.nw hy1
        have Fy1 : (upd W6 y1 (.lst [.int 0])) y1 = some (.lst [.int 0]) := upd_same
        generalize upd W6 y1 (.lst [.int 0]) = W7 at Ey1 Fy1
        have n0 : ([0] : List Int) ≠ [] ∧ (∀ t ∈ ([0] : List Int), 0 ≤ t ∧ t < u.n) ∧ ascB ltIn [0] = true := by
          have := hu.lo
          refine ⟨by decide, fun t ht => ?_, rfl⟩
          obtain rfl := List.mem_singleton.mp ht
          omega
        refine ⟨_, _, fullW u, [0], rfl, (dF.up rm_ex).up Ey1, okF, dInts_of (r := [0]) Fy1 (by decide), n0, fun _ H9 e9 => ?_, fun h => absurd (fullW_len u) (Nat.ne_of_lt h)⟩
        refine ⟨_, _, dp8 _, dp8 _, by decide, by decide, _, rfl, ite2 (fun h1 => ?_) (fun _ => ?_)⟩
        · simp [PyData.eqv] at h1
        have eC9 := Ey1.tr e9
        refine ⟨_, rfl, _, rfl, p, _, fullW u, _, rfl, pC.up eC9, by omega, dF.up eC9.d.rm, okF, fun H10 e10 p10 => ?_⟩
        refine ⟨true, rfl, ite2 (fun h1 => (by cases h1)) (fun _ => ?_)⟩
        exact ⟨_, _, _, rfl, ((((e5.tr e7).tr e8).tr eC.d).tr eC9.d).tr e10, p10.mono (by omega)⟩
      · rintro σ H5 ⟨y3, y4, y5, rfl, e5, p5⟩
        exact ⟨_, _, _, _, _, rfl, e1.tr (fun b o g => e5 b o (fun n => by rw [n, hp] at g; cases g) (e30 b o g))⟩
    · rintro σ H1 ⟨y1, y2, y3, y4, y5, rfl, e1⟩
      refine ⟨by show 0 ≤ sizeLine; decide, fun ga hga => ?_⟩
      have Ega : Ex H1 (upd H1 ga (.lst [])) := Ex.nw hga
      have Fga : (upd H1 ga (.lst [])) ga = some (.lst []) := upd_same
      generalize upd H1 ga (.lst []) = W8 at Ega Fga
      refine ⟨by show 0 ≤ sizeLine; decide, fun gb hgb => ?_⟩
      have Egb : Ex W8 (upd W8 gb (.lst [])) := Ex.nw hgb
      have Fgb : (upd W8 gb (.lst [])) gb = some (.lst []) := upd_same
      generalize upd W8 gb (.lst []) = W9 at Egb Fgb
      refine ⟨by show 3 ≤ sizeLine; decide, fun gc hgc => ?_⟩
      have Egc : Ex W9 (upd W9 gc (.tup [.int 2, .ref ga, .ref gb])) := Ex.nw hgc
      have Fgc : (upd W9 gc (.tup [.int 2, .ref ga, .ref gb])) gc = some (.tup [.int 2, .ref ga, .ref gb]) := upd_same
      generalize upd W9 gc (.tup [.int 2, .ref ga, .ref gb]) = W10 at Egc Fgc
      have dg : Da K W10 (Wb.d ⟨2, [], []⟩) (.ref gc) := ⟨gc, _, rfl, Fgc, _, _, rfl, rfl, _, _, rfl, ⟨ga, _, rfl, ((Egb.tr Egc) _ _ Fga), rfl, by decide⟩, _, _, rfl, ⟨gb, _, rfl, (Egc _ _ Fgb), rfl, by decide⟩, rfl⟩
      have ug : (Wb.mk 2 [] []).Ok := ⟨by decide, by decide, by decide, by decide, by decide, by decide⟩
      refine ⟨_, ⟨2, [], []⟩, 1, 0, rfl, dg, ug, by decide, by decide, fun h => absurd h (by decide), fun _ w T1 L1 L2 xs bs W11 N ok pw => ?_⟩
      have hw : (⟨2, [(1, 0)], []⟩ : Wb) = w := (⟨rfl, rfl, fun p => by
        show p ∈ [((1 : Int), (0 : Int))] ↔ _
        simp⟩ : PairW ⟨2, [], []⟩ ⟨2, [(1, 0)], []⟩ (fun p => p ∈ ([] : List (Int × Int)) ∨ p = (1, 0))).uniq pw rfl ok.asc
      subst hw
      refine ⟨by show 2 ≤ sizeLine; decide, fun i1 hi1 => ?_⟩
      have Ei1 : Ex W11 (upd W11 i1 (.tup [.int 1, .int 0])) := Ex.nw hi1
      have Fi1 : (upd W11 i1 (.tup [.int 1, .int 0])) i1 = some (.tup [.int 1, .int 0]) := upd_same
      generalize upd W11 i1 (.tup [.int 1, .int 0]) = W12 at Ei1 Fi1
      refine ⟨by show 1 ≤ sizeLine; decide, fun i2 hi2 => ?_⟩
      have Ei2 : Ex W12 (upd W12 i2 (.lst [.ref i1])) := Ex.nw hi2
      have Fi2 : (upd W12 i2 (.lst [.ref i1])) i2 = some (.lst [.ref i1]) := upd_same
      generalize upd W12 i2 (.lst [.ref i1]) = W13 at Ei2 Fi2
      refine ⟨by show 0 ≤ sizeLine; decide, fun i3 hi3 => ?_⟩
      have Ei3 : Ex W13 (upd W13 i3 (.lst [])) := Ex.nw hi3
      have Fi3 : (upd W13 i3 (.lst [])) i3 = some (.lst []) := upd_same
      generalize upd W13 i3 (.lst []) = W14 at Ei3 Fi3
      refine ⟨by show 3 ≤ sizeLine; decide, fun i4 hi4 => ?_⟩
      have Ei4 : Ex W14 (upd W14 i4 (.tup [.int 2, .ref i2, .ref i3])) := Ex.nw hi4
      have Fi4 : (upd W14 i4 (.tup [.int 2, .ref i2, .ref i3])) i4 = some (.tup [.int 2, .ref i2, .ref i3]) := upd_same
      generalize upd W14 i4 (.tup [.int 2, .ref i2, .ref i3]) = W15 at Ei4 Fi4
      have di : Da K W15 (Wb.d ⟨2, [(1, 0)], []⟩) (.ref i4) := ⟨i4, _, rfl, Fi4, _, _, rfl, rfl, _, _, rfl, ⟨i2, _, rfl, ((Ei3.tr Ei4) _ _ Fi2), ⟨_, _, rfl, dPair_of (p := (1, 0)) ((Ei2.tr (Ei3.tr Ei4)) _ _ Fi1), rfl⟩, by decide⟩, _, _, rfl, ⟨i3, _, rfl, (Ei4 _ _ Fi3), rfl, by decide⟩, rfl⟩
      refine ⟨_, _, ((N.da ok).up (Ei1.tr (Ei2.tr (Ei3.tr Ei4)))).web, di.web, sh_web _, sh_web _, _, rfl, ?_⟩
      rw [eqv_web, decide_eq_true rfl]
      refine ⟨by show 0 ≤ sizeLine; decide, fun ka hka => ?_⟩
      have Eka : Ex W15 (upd W15 ka (.lst [])) := Ex.nw hka
      have Fka : (upd W15 ka (.lst [])) ka = some (.lst []) := upd_same
      generalize upd W15 ka (.lst []) = W16 at Eka Fka
      refine ⟨by show 0 ≤ sizeLine; decide, fun kb hkb => ?_⟩
      have Ekb : Ex W16 (upd W16 kb (.lst [])) := Ex.nw hkb
      have Fkb : (upd W16 kb (.lst [])) kb = some (.lst []) := upd_same
      generalize upd W16 kb (.lst []) = W17 at Ekb Fkb
      refine ⟨by show 3 ≤ sizeLine; decide, fun kc hkc => ?_⟩
      have Ekc : Ex W17 (upd W17 kc (.tup [.int 1, .ref ka, .ref kb])) := Ex.nw hkc
      have Fkc : (upd W17 kc (.tup [.int 1, .ref ka, .ref kb])) kc = some (.tup [.int 1, .ref ka, .ref kb]) := upd_same
      generalize upd W17 kc (.tup [.int 1, .ref ka, .ref kb]) = W18 at Ekc Fkc
      have dk : Da K W18 (Wb.d ⟨1, [], []⟩) (.ref kc) := ⟨kc, _, rfl, Fkc, _, _, rfl, rfl, _, _, rfl, ⟨ka, _, rfl, ((Ekb.tr Ekc) _ _ Fka), rfl, by decide⟩, _, _, rfl, ⟨kb, _, rfl, (Ekc _ _ Fkb), rfl, by decide⟩, rfl⟩
      have uk : (Wb.mk 1 [] []).Ok := ⟨by decide, by decide, by decide, by decide, by decide, by decide⟩
      refine ⟨by show 1 ≤ sizeLine; decide, fun q1 hq1 => ?_⟩
      have Eq1 : Ex W18 (upd W18 q1 (.lst [.int 0])) := Ex.nw hq1
      have Fq1 : (upd W18 q1 (.lst [.int 0])) q1 = some (.lst [.int 0]) := upd_same
      generalize upd W18 q1 (.lst [.int 0]) = W19 at Eq1 Fq1
      refine ⟨_, _, ⟨1, [], []⟩, [0], rfl, dk.up Eq1, uk, dInts_of (r := [0]) Fq1 (by decide), by decide, fun h => absurd h (by decide), fun _ T2 L3 L4 xs2 bs2 W20 N2 => ?_⟩
      refine ⟨by show 0 ≤ sizeLine; decide, fun m1 hm1 => ?_⟩
      have Em1 : Ex W20 (upd W20 m1 (.lst [])) := Ex.nw hm1
      have Fm1 : (upd W20 m1 (.lst [])) m1 = some (.lst []) := upd_same
      generalize upd W20 m1 (.lst []) = W21 at Em1 Fm1
      refine ⟨by show 1 ≤ sizeLine; decide, fun m2 hm2 => ?_⟩
      have Em2 : Ex W21 (upd W21 m2 (.lst [.int 0])) := Ex.nw hm2
      have Fm2 : (upd W21 m2 (.lst [.int 0])) m2 = some (.lst [.int 0]) := upd_same
      generalize upd W21 m2 (.lst [.int 0]) = W22 at Em2 Fm2
      refine ⟨by show 1 ≤ sizeLine; decide, fun m3 hm3 => ?_⟩
      have Em3 : Ex W22 (upd W22 m3 (.lst [.ref m2])) := Ex.nw hm3
      have Fm3 : (upd W22 m3 (.lst [.ref m2])) m3 = some (.lst [.ref m2]) := upd_same
      generalize upd W22 m3 (.lst [.ref m2]) = W23 at Em3 Fm3
      refine ⟨by show 3 ≤ sizeLine; decide, fun m4 hm4 => ?_⟩
      have Em4 : Ex W23 (upd W23 m4 (.tup [.int 1, .ref m1, .ref m3])) := Ex.nw hm4
      have Fm4 : (upd W23 m4 (.tup [.int 1, .ref m1, .ref m3])) m4 = some (.tup [.int 1, .ref m1, .ref m3]) := upd_same
      generalize upd W23 m4 (.tup [.int 1, .ref m1, .ref m3]) = W24 at Em4 Fm4
      have dm : Da K W24 (Wb.d ⟨1, [], [[0]]⟩) (.ref m4) := ⟨m4, _, rfl, Fm4, _, _, rfl, rfl, _, _, rfl, ⟨m1, _, rfl, ((Em2.tr (Em3.tr Em4)) _ _ Fm1), rfl, by decide⟩, _, _, rfl, ⟨m3, _, rfl, (Em4 _ _ Fm3), ⟨_, _, rfl, dInts_of (r := [0]) ((Em3.tr Em4) _ _ Fm2) (by decide), rfl⟩, by decide⟩, rfl⟩
      have okm : (moreN ⟨1, [], []⟩ [0]).Ok := ⟨by decide, by decide, by decide, by decide, by decide, by decide⟩
      refine ⟨_, _, ((N2.da okm).up (Em1.tr (Em2.tr (Em3.tr Em4)))).web, dm.web, sh_web _, sh_web _, ?_⟩
      rw [eqv_web]
      rw [show decide (moreN ⟨1, [], []⟩ [0] = (⟨1, [], [[0]]⟩ : Wb)) = true from decide_eq_true rfl]
      exact q _ (e1.tr (Ega.tr (Egb.tr (Egc.tr (N.ex.tr (Ei1.tr (Ei2.tr (Ei3.tr (Ei4.tr (Eka.tr (Ekb.tr (Ekc.tr (Eq1.tr (N2.ex.tr (Em1.tr (Em2.tr (Em3.tr Em4)))))))))))))))))
end

theorem all_mk {l : PySem.W.OpenLaw} {w : World} {K : PySem.W.Frag} {h : Heap} {mg : Str → Option Value} {fa : Addr} (X : K.In h) (G : h.Ns mainGlobals mg) (hfa : mg "law" = some (.ref fa))
    {f0 f1 f2 f3 f4 f5 f6 f7 f8 f9 f10 f11 f12 f13 f14 f15 f16 f17 f18 f19 f20 f21 f22 f23 f24 f25 f26 f27 : Addr} {od0 an0 od1 an1 od2 an2 od3 an3 od4 an4 od5 an5 od6 an6 od7 an7 od8 an8 od9 an9 od10 an10 od11 an11 od12 an12 od13 an13 od14 an14 od15 an15 od16 an16 od17 an17 od18 an18 od19 an19 od20 an20 od21 an21 od22 an22 od23 an23 od24 an24 od25 an25 od26 an26 od27 an27 : Option Addr} {sl0 sl1 sl2 sl3 sl4 sl5 sl6 sl7 sl8 sl9 sl10 sl11 sl12 sl13 sl14 sl15 sl16 sl17 sl18 sl19 sl20 sl21 sl22 sl23 sl24 sl25 sl26 sl27 : Array (Option Value)}
    {oc0 kV0 dc0 pm0 cd0 ct0 oc1 kV1 dc1 pm1 cd1 ct1 oc2 kV2 dc2 pm2 cd2 ct2 oc3 kV3 dc3 pm3 cd3 ct3 oc4 kV4 dc4 pm4 cd4 ct4 oc5 kV5 dc5 pm5 cd5 ct5 oc6 kV6 dc6 pm6 cd6 ct6 oc7 kV7 dc7 pm7 cd7 ct7 oc8 kV8 dc8 pm8 cd8 ct8 oc9 kV9 dc9 pm9 cd9 ct9 oc10 kV10 dc10 pm10 cd10 ct10 oc11 kV11 dc11 pm11 cd11 ct11 oc12 kV12 dc12 pm12 cd12 ct12 oc13 kV13 dc13 pm13 cd13 ct13 oc14 kV14 dc14 pm14 cd14 ct14 oc15 kV15 dc15 pm15 cd15 ct15 oc16 kV16 dc16 pm16 cd16 ct16 oc17 kV17 dc17 pm17 cd17 ct17 oc18 kV18 dc18 pm18 cd18 ct18 oc19 kV19 dc19 pm19 cd19 ct19 oc20 kV20 dc20 pm20 cd20 ct20 oc21 kV21 dc21 pm21 cd21 ct21 oc22 kV22 dc22 pm22 cd22 ct22 oc23 kV23 dc23 pm23 cd23 ct23 oc24 kV24 dc24 pm24 cd24 ct24 oc25 kV25 dc25 pm25 cd25 ct25 oc26 kV26 dc26 pm26 cd26 ct26 oc27 kV27 dc27 pm27 cd27 ct27 : Value}
    (a0 : PySem.W.nsIn K mainGlobals "is_integer" = some (some (.ref f0))) (l0 : K.lookup f0 = some ⟨oc0, od0, .func (PySem.W.fnOf "is_integer" "is_integer" (defArgs s_is_integer) (defBody s_is_integer) (defScope s_is_integer) .none kV0 dc0 pm0 an0 cd0 ct0), sl0⟩) (c0 : PySem.W.codeIn K cd0 "is_integer" = true) (k0 : PySem.W.keepIn K (.ref f0) = true)
    (a1 : PySem.W.nsIn K mainGlobals "is_number_below" = some (some (.ref f1))) (l1 : K.lookup f1 = some ⟨oc1, od1, .func (PySem.W.fnOf "is_number_below" "is_number_below" (defArgs s_is_number_below) (defBody s_is_number_below) (defScope s_is_number_below) .none kV1 dc1 pm1 an1 cd1 ct1), sl1⟩) (c1 : PySem.W.codeIn K cd1 "is_number_below" = true) (k1 : PySem.W.keepIn K (.ref f1) = true)
    (a2 : PySem.W.nsIn K mainGlobals "is_tuple_below" = some (some (.ref f2))) (l2 : K.lookup f2 = some ⟨oc2, od2, .func (PySem.W.fnOf "is_tuple_below" "is_tuple_below" (defArgs s_is_tuple_below) (defBody s_is_tuple_below) (defScope s_is_tuple_below) .none kV2 dc2 pm2 an2 cd2 ct2), sl2⟩) (c2 : PySem.W.codeIn K cd2 "is_tuple_below" = true) (k2 : PySem.W.keepIn K (.ref f2) = true)
    (a3 : PySem.W.nsIn K mainGlobals "are_ascending" = some (some (.ref f3))) (l3 : K.lookup f3 = some ⟨oc3, od3, .func (PySem.W.fnOf "are_ascending" "are_ascending" (defArgs s_are_ascending) (defBody s_are_ascending) (defScope s_are_ascending) .none kV3 dc3 pm3 an3 cd3 ct3), sl3⟩) (c3 : PySem.W.codeIn K cd3 "are_ascending" = true) (k3 : PySem.W.keepIn K (.ref f3) = true)
    (a4 : PySem.W.nsIn K mainGlobals "are_ascending_tuples" = some (some (.ref f4))) (l4 : K.lookup f4 = some ⟨oc4, od4, .func (PySem.W.fnOf "are_ascending_tuples" "are_ascending_tuples" (defArgs s_are_ascending_tuples) (defBody s_are_ascending_tuples) (defScope s_are_ascending_tuples) .none kV4 dc4 pm4 an4 cd4 ct4), sl4⟩) (c4 : PySem.W.codeIn K cd4 "are_ascending_tuples" = true) (k4 : PySem.W.keepIn K (.ref f4) = true)
    (a5 : PySem.W.nsIn K mainGlobals "are_below" = some (some (.ref f5))) (l5 : K.lookup f5 = some ⟨oc5, od5, .func (PySem.W.fnOf "are_below" "are_below" (defArgs s_are_below) (defBody s_are_below) (defScope s_are_below) .none kV5 dc5 pm5 an5 cd5 ct5), sl5⟩) (c5 : PySem.W.codeIn K cd5 "are_below" = true) (k5 : PySem.W.keepIn K (.ref f5) = true)
    (a6 : PySem.W.nsIn K mainGlobals "are_targets" = some (some (.ref f6))) (l6 : K.lookup f6 = some ⟨oc6, od6, .func (PySem.W.fnOf "are_targets" "are_targets" (defArgs s_are_targets) (defBody s_are_targets) (defScope s_are_targets) .none kV6 dc6 pm6 an6 cd6 ct6), sl6⟩) (c6 : PySem.W.codeIn K cd6 "are_targets" = true) (k6 : PySem.W.keepIn K (.ref f6) = true)
    (a7 : PySem.W.nsIn K mainGlobals "are_nudges" = some (some (.ref f7))) (l7 : K.lookup f7 = some ⟨oc7, od7, .func (PySem.W.fnOf "are_nudges" "are_nudges" (defArgs s_are_nudges) (defBody s_are_nudges) (defScope s_are_nudges) .none kV7 dc7 pm7 an7 cd7 ct7), sl7⟩) (c7 : PySem.W.codeIn K cd7 "are_nudges" = true) (k7 : PySem.W.keepIn K (.ref f7) = true)
    (a8 : PySem.W.nsIn K mainGlobals "has_web_shape" = some (some (.ref f8))) (l8 : K.lookup f8 = some ⟨oc8, od8, .func (PySem.W.fnOf "has_web_shape" "has_web_shape" (defArgs s_has_web_shape) (defBody s_has_web_shape) (defScope s_has_web_shape) .none kV8 dc8 pm8 an8 cd8 ct8), sl8⟩) (c8 : PySem.W.codeIn K cd8 "has_web_shape" = true) (k8 : PySem.W.keepIn K (.ref f8) = true)
    (a9 : PySem.W.nsIn K mainGlobals "check_web" = some (some (.ref f9))) (l9 : K.lookup f9 = some ⟨oc9, od9, .func (PySem.W.fnOf "check_web" "check_web" (defArgs s_check_web) (defBody s_check_web) (defScope s_check_web) .none kV9 dc9 pm9 an9 cd9 ct9), sl9⟩) (c9 : PySem.W.codeIn K cd9 "check_web" = true) (k9 : PySem.W.keepIn K (.ref f9) = true)
    (a10 : PySem.W.nsIn K mainGlobals "check_quantity" = some (some (.ref f10))) (l10 : K.lookup f10 = some ⟨oc10, od10, .func (PySem.W.fnOf "check_quantity" "check_quantity" (defArgs s_check_quantity) (defBody s_check_quantity) (defScope s_check_quantity) .none kV10 dc10 pm10 an10 cd10 ct10), sl10⟩) (c10 : PySem.W.codeIn K cd10 "check_quantity" = true) (k10 : PySem.W.keepIn K (.ref f10) = true)
    (a11 : PySem.W.nsIn K mainGlobals "copied_nudges" = some (some (.ref f11))) (l11 : K.lookup f11 = some ⟨oc11, od11, .func (PySem.W.fnOf "copied_nudges" "copied_nudges" (defArgs s_copied_nudges) (defBody s_copied_nudges) (defScope s_copied_nudges) .none kV11 dc11 pm11 an11 cd11 ct11), sl11⟩) (c11 : PySem.W.codeIn K cd11 "copied_nudges" = true) (k11 : PySem.W.keepIn K (.ref f11) = true)
    (a12 : PySem.W.nsIn K mainGlobals "with_pair" = some (some (.ref f12))) (l12 : K.lookup f12 = some ⟨oc12, od12, .func (PySem.W.fnOf "with_pair" "with_pair" (defArgs s_with_pair) (defBody s_with_pair) (defScope s_with_pair) .none kV12 dc12 pm12 an12 cd12 ct12), sl12⟩) (c12 : PySem.W.codeIn K cd12 "with_pair" = true) (k12 : PySem.W.keepIn K (.ref f12) = true)
    (a13 : PySem.W.nsIn K mainGlobals "check_targets" = some (some (.ref f13))) (l13 : K.lookup f13 = some ⟨oc13, od13, .func (PySem.W.fnOf "check_targets" "check_targets" (defArgs s_check_targets) (defBody s_check_targets) (defScope s_check_targets) .none kV13 dc13 pm13 an13 cd13 ct13), sl13⟩) (c13 : PySem.W.codeIn K cd13 "check_targets" = true) (k13 : PySem.W.keepIn K (.ref f13) = true)
    (a14 : PySem.W.nsIn K mainGlobals "with_nudge" = some (some (.ref f14))) (l14 : K.lookup f14 = some ⟨oc14, od14, .func (PySem.W.fnOf "with_nudge" "with_nudge" (defArgs s_with_nudge) (defBody s_with_nudge) (defScope s_with_nudge) .none kV14 dc14 pm14 an14 cd14 ct14), sl14⟩) (c14 : PySem.W.codeIn K cd14 "with_nudge" = true) (k14 : PySem.W.keepIn K (.ref f14) = true)
    (a15 : PySem.W.nsIn K mainGlobals "_law_purse" = some (some (.ref f15))) (l15 : K.lookup f15 = some ⟨oc15, od15, .func (PySem.W.fnOf "_law_purse" "_law_purse" (defArgs s_purse) (defBody s_purse) (defScope s_purse) .none kV15 dc15 pm15 an15 cd15 ct15), sl15⟩) (c15 : PySem.W.codeIn K cd15 "_law_purse" = true) (k15 : PySem.W.keepIn K (.ref f15) = true)
    (a16 : PySem.W.nsIn K mainGlobals "_law_coin" = some (some (.ref f16))) (l16 : K.lookup f16 = some ⟨oc16, od16, .func (PySem.W.fnOf "_law_coin" "_law_coin" (defArgs s_coin) (defBody s_coin) (defScope s_coin) .none kV16 dc16 pm16 an16 cd16 ct16), sl16⟩) (c16 : PySem.W.codeIn K cd16 "_law_coin" = true) (k16 : PySem.W.keepIn K (.ref f16) = true)
    (a17 : PySem.W.nsIn K mainGlobals "_law_targets" = some (some (.ref f17))) (l17 : K.lookup f17 = some ⟨oc17, od17, .func (PySem.W.fnOf "_law_targets" "_law_targets" (defArgs s_targets) (defBody s_targets) (defScope s_targets) .none kV17 dc17 pm17 an17 cd17 ct17), sl17⟩) (c17 : PySem.W.codeIn K cd17 "_law_targets" = true) (k17 : PySem.W.keepIn K (.ref f17) = true)
    (a18 : PySem.W.nsIn K mainGlobals "_law_web" = some (some (.ref f18))) (l18 : K.lookup f18 = some ⟨oc18, od18, .func (PySem.W.fnOf "_law_web" "_law_web" (defArgs s_web) (defBody s_web) (defScope s_web) .none kV18 dc18 pm18 an18 cd18 ct18), sl18⟩) (c18 : PySem.W.codeIn K cd18 "_law_web" = true) (k18 : PySem.W.keepIn K (.ref f18) = true)
    (a19 : PySem.W.nsIn K mainGlobals "_law_nudge" = some (some (.ref f19))) (l19 : K.lookup f19 = some ⟨oc19, od19, .func (PySem.W.fnOf "_law_nudge" "_law_nudge" (defArgs s_nudge) (defBody s_nudge) (defScope s_nudge) .none kV19 dc19 pm19 an19 cd19 ct19), sl19⟩) (c19 : PySem.W.codeIn K cd19 "_law_nudge" = true) (k19 : PySem.W.keepIn K (.ref f19) = true)
    (a20 : PySem.W.nsIn K mainGlobals "check_nudge" = some (some (.ref f20))) (l20 : K.lookup f20 = some ⟨oc20, od20, .func (PySem.W.fnOf "check_nudge" "check_nudge" (defArgs s_check_nudge) (defBody s_check_nudge) (defScope s_check_nudge) .none kV20 dc20 pm20 an20 cd20 ct20), sl20⟩) (c20 : PySem.W.codeIn K cd20 "check_nudge" = true) (k20 : PySem.W.keepIn K (.ref f20) = true)
    (a21 : PySem.W.nsIn K mainGlobals "without_nudge" = some (some (.ref f21))) (l21 : K.lookup f21 = some ⟨oc21, od21, .func (PySem.W.fnOf "without_nudge" "without_nudge" (defArgs s_without_nudge) (defBody s_without_nudge) (defScope s_without_nudge) .none kV21 dc21 pm21 an21 cd21 ct21), sl21⟩) (c21 : PySem.W.codeIn K cd21 "without_nudge" = true) (k21 : PySem.W.keepIn K (.ref f21) = true)
    (a22 : PySem.W.nsIn K mainGlobals "_law_copy" = some (some (.ref f22))) (l22 : K.lookup f22 = some ⟨oc22, od22, .func (PySem.W.fnOf "_law_copy" "_law_copy" (defArgs s_copy) (defBody s_copy) (defScope s_copy) .none kV22 dc22 pm22 an22 cd22 ct22), sl22⟩) (c22 : PySem.W.codeIn K cd22 "_law_copy" = true) (k22 : PySem.W.keepIn K (.ref f22) = true)
    (a23 : PySem.W.nsIn K mainGlobals "without_pair" = some (some (.ref f23))) (l23 : K.lookup f23 = some ⟨oc23, od23, .func (PySem.W.fnOf "without_pair" "without_pair" (defArgs s_without_pair) (defBody s_without_pair) (defScope s_without_pair) .none kV23 dc23 pm23 an23 cd23 ct23), sl23⟩) (c23 : PySem.W.codeIn K cd23 "without_pair" = true) (k23 : PySem.W.keepIn K (.ref f23) = true)
    (a24 : PySem.W.nsIn K mainGlobals "_law_pair" = some (some (.ref f24))) (l24 : K.lookup f24 = some ⟨oc24, od24, .func (PySem.W.fnOf "_law_pair" "_law_pair" (defArgs s_pair) (defBody s_pair) (defScope s_pair) .none kV24 dc24 pm24 an24 cd24 ct24), sl24⟩) (c24 : PySem.W.codeIn K cd24 "_law_pair" = true) (k24 : PySem.W.keepIn K (.ref f24) = true)
    (a25 : PySem.W.nsIn K mainGlobals "_law_apart" = some (some (.ref f25))) (l25 : K.lookup f25 = some ⟨oc25, od25, .func (PySem.W.fnOf "_law_apart" "_law_apart" (defArgs s_apart) (defBody s_apart) (defScope s_apart) .none kV25 dc25 pm25 an25 cd25 ct25), sl25⟩) (c25 : PySem.W.codeIn K cd25 "_law_apart" = true) (k25 : PySem.W.keepIn K (.ref f25) = true)
    (a26 : PySem.W.nsIn K mainGlobals "_law_right" = some (some (.ref f26))) (l26 : K.lookup f26 = some ⟨oc26, od26, .func (PySem.W.fnOf "_law_right" "_law_right" (defArgs s_right) (defBody s_right) (defScope s_right) .none kV26 dc26 pm26 an26 cd26 ct26), sl26⟩) (c26 : PySem.W.codeIn K cd26 "_law_right" = true) (k26 : PySem.W.keepIn K (.ref f26) = true)
    (a27 : PySem.W.nsIn K mainGlobals "law" = some (some (.ref f27))) (l27 : K.lookup f27 = some ⟨oc27, od27, .func (PySem.W.fnOf "law" "law" (defArgs s_law) (defBody s_law) (defScope s_law) .none kV27 dc27 pm27 an27 cd27 ct27), sl27⟩) (c27 : PySem.W.codeIn K cd27 "law" = true) (k27 : PySem.W.keepIn K (.ref f27) = true)
    (z_isinstance : PySem.W.nsIn K mainGlobals "isinstance" = some none)
    (z_len : PySem.W.nsIn K mainGlobals "len" = some none)
    (z_all : PySem.W.nsIn K mainGlobals "all" = some none)
    (z_repr : PySem.W.nsIn K mainGlobals "repr" = some none)
    (z_abs : PySem.W.nsIn K mainGlobals "abs" = some none)
    (z_max : PySem.W.nsIn K mainGlobals "max" = some none)
    (z_min : PySem.W.nsIn K mainGlobals "min" = some none)
    (z_sorted : PySem.W.nsIn K mainGlobals "sorted" = some none)
    (z_int : PySem.W.nsIn K mainGlobals "int" = some none)
    (z_bool : PySem.W.nsIn K mainGlobals "bool" = some none)
    (z_list : PySem.W.nsIn K mainGlobals "list" = some none)
    (z_tuple : PySem.W.nsIn K mainGlobals "tuple" = some none)
    (z_range : PySem.W.nsIn K mainGlobals "range" = some none)
    (z_zip : PySem.W.nsIn K mainGlobals "zip" = some none)
    {t_MOST_QUANTITIES : Tok} (v_MOST_QUANTITIES : PySem.W.nsIn K mainGlobals "MOST_QUANTITIES" = some (some (.int 20 t_MOST_QUANTITIES)))
    {t_MOST_NUDGES : Tok} (v_MOST_NUDGES : PySem.W.nsIn K mainGlobals "MOST_NUDGES" = some (some (.int 8 t_MOST_NUDGES)))
    {C_there : Addr} (g_there : PySem.W.nsIn K mainGlobals "LineThere" = some (some (.ref C_there))) (e_there : PySem.W.excIn K C_there [.type "ValueError", .type "Exception", .type "BaseException", .type "object"] "ValueError.__new__" = true)
    (k_there : PySem.W.keepIn K (.ref C_there) = true) (b_there : PySem.W.subIn K (.ref C_there) (.type "BaseException") = some true) (t_there : PySem.W.typeIn K (.ref C_there) = some (.type "type")) (i_there : PySem.W.isClsIn K C_there = true) (s_there : PySem.W.subIn K (.ref C_there) (.ref C_there) = some true)
    {C_noline : Addr} (g_noline : PySem.W.nsIn K mainGlobals "NoLine" = some (some (.ref C_noline))) (e_noline : PySem.W.excIn K C_noline [.type "ValueError", .type "Exception", .type "BaseException", .type "object"] "ValueError.__new__" = true)
    (k_noline : PySem.W.keepIn K (.ref C_noline) = true) (b_noline : PySem.W.subIn K (.ref C_noline) (.type "BaseException") = some true) (t_noline : PySem.W.typeIn K (.ref C_noline) = some (.type "type")) (i_noline : PySem.W.isClsIn K C_noline = true) (s_noline : PySem.W.subIn K (.ref C_noline) (.ref C_noline) = some true)
    (n_there_noline : PySem.W.subIn K (.ref C_there) (.ref C_noline) = some false)
    (n_noline_there : PySem.W.subIn K (.ref C_noline) (.ref C_there) = some false)
    {C fI : Addr} {nm q : Str} {N : Addr} {bs bm : List Value} {sn : List Str} {sub : List Value} {ab : Bool} {col : Option Bool} {dd : Option Addr} {m0 m1 m2 m3 m5 : Option Value} {odI anI : Option Addr} {slI : Array (Option Value)} {ocI dcI pmI cdI ctI : Value} {p1 p2 q1 q2 q3 q4 : Pos}
    (aC : PySem.W.nsIn K mainGlobals "TooLarge" = some (some (.ref C)))
    (xL : K.lookup C = some (excClassObj nm q C N bs bm true sn sub ab col dd m0 m1 m2 m3 m5 "ValueError.__new__")) (rB : PySem.HandSPX.refsVE bm = true)
    (sa : PySem.W.findIn K (.ref C) "__setattr__" = some (some (.builtin "object.__setattr__")))
    (ga : PySem.W.findIn K (.ref C) "__getattribute__" = some (some (.builtin "BaseException.__getattribute__")))
    (gg : PySem.W.findIn K (.ref C) "__getattr__" = some none)
    (nb : PySem.W.findIn K (.ref C) "limit" = some none)
    (aI : PySem.W.findIn K (.ref C) "__init__" = some (some (.ref fI)))
    (tI : PySem.W.typeIn K (.ref fI) = some (.type "function")) (lI : K.lookup fI = some ⟨ocI, odI, .func (PySem.W.fnOf "__init__" "TooLarge.__init__" (PySem.BigX.iA p1 p2) (PySem.BigX.iB q1 q2 q3 q4) PySem.BigX.iS .none .none dcI pmI anI cdI ctI), slI⟩) (cI : PySem.W.codeIn K cdI "TooLarge.__init__" = true)
    (kC : PySem.W.keepIn K (.ref C) = true) (eC : PySem.W.subIn K (.ref C) (.type "BaseException") = some true) (tC : PySem.W.typeIn K (.ref C) = some (.type "type")) (hC : PySem.W.hasDictIn K C = true) (iC : PySem.W.isClsIn K C = true) (sC : PySem.W.subIn K (.ref C) (.ref C) = some true)
    : ∃ fd : FuncData, (∀ (s : Shared) (v : Value), BindsTo s fd ⟨[v], []⟩ [("_law_script", v)]) ∧ ∀ base : Heap, K.In base → base.Ns mainGlobals mg → FnG l.prog w K mg base CX0 11 fa fd ["_law_script"] (sp_law K) := by
  have e := hfa.symm.trans (PySem.W.mg_of X G a27)
  cases e
  have big : PySem.BigX.BigTxt K mg C fI :=
    { gC := PySem.W.mg_of X G aC, cls := ⟨nm, q, N, bs, bm, sn, sub, ab, col, dd, m0, m1, m2, m3, m5, xL, rB⟩, sa := sa, ga := ga, gg := gg, noN := nb, iC := aI, tC := tI, kC := kC, exC := eC, tyC := tC, hdC := hC, te := exm_of eC iC tC sC, fn := ⟨_, _, _, _, _, _, _, _, _, _, _, _, _, _, lI, cI⟩ }
  have T : Txt K mg := ⟨PySem.W.mg_none_of X G z_isinstance, PySem.W.mg_none_of X G z_len, PySem.W.mg_none_of X G z_all, PySem.W.mg_none_of X G z_repr, PySem.W.mg_none_of X G z_abs, PySem.W.mg_none_of X G z_max, PySem.W.mg_none_of X G z_min, PySem.W.mg_none_of X G z_sorted, PySem.W.mg_none_of X G z_int, PySem.W.mg_none_of X G z_bool, PySem.W.mg_none_of X G z_list, PySem.W.mg_none_of X G z_tuple, PySem.W.mg_none_of X G z_range, PySem.W.mg_none_of X G z_zip, ⟨_, PySem.W.mg_of X G v_MOST_QUANTITIES⟩, ⟨_, PySem.W.mg_of X G v_MOST_NUDGES⟩, ⟨C_there, ⟨PySem.W.mg_of X G g_there, e_there, k_there, b_there, t_there, i_there, s_there, g_there⟩⟩, ⟨C_noline, ⟨PySem.W.mg_of X G g_noline, e_noline, k_noline, b_noline, t_noline, i_noline, s_noline, g_noline⟩⟩, fun C D hC hD => (err_uniq hC g_there) ▸ (err_uniq hD g_noline) ▸ exm_two b_noline i_noline t_noline n_there_noline, fun C D hC hD => (err_uniq hC g_noline) ▸ (err_uniq hD g_there) ▸ exm_two b_there i_there t_there n_noline_there, ⟨C, fI, big, aC⟩⟩
  refine ⟨PySem.W.fnOf "law" "law" (defArgs s_law) (defBody s_law) (defScope s_law) .none kV27 dc27 pm27 an27 cd27 ct27, fun s v => .of_eq rfl, fun base _ _ => ?_⟩
  have F0 := fun_mk (st := s_is_integer) l0 c0 k0
  have G0 := ok_is_integer (P := l.prog) (w := w) (base := base) T F0 
  have B0 := F0.binds (ps := P_is_integer) fun _ _ _ _ _ _ us hl => match us, hl with | [_], _ => rfl
  have D_is_integer : DefOk l.prog w K mg base CX0 1 "is_integer" P_is_integer (sp_is_integer K) := ⟨f0, _, G0, PySem.W.mg_of X G a0, k0, B0⟩
  have F1 := fun_mk (st := s_is_number_below) l1 c1 k1
  have G1 := ok_is_number_below (P := l.prog) (w := w) (base := base) T F1 D_is_integer
  have B1 := F1.binds (ps := P_is_number_below) fun _ _ _ _ _ _ us hl => match us, hl with | [_, _], _ => rfl
  have D_is_number_below : DefOk l.prog w K mg base CX0 2 "is_number_below" P_is_number_below (sp_is_number_below K) := ⟨f1, _, G1, PySem.W.mg_of X G a1, k1, B1⟩
  have F2 := fun_mk (st := s_is_tuple_below) l2 c2 k2
  have G2 := ok_is_tuple_below (P := l.prog) (w := w) (base := base) T F2 D_is_number_below
  have B2 := F2.binds (ps := P_is_tuple_below) fun _ _ _ _ _ _ us hl => match us, hl with | [_, _, _], _ => rfl
  have D_is_tuple_below : DefOk l.prog w K mg base CX0 3 "is_tuple_below" P_is_tuple_below (sp_is_tuple_below K) := ⟨f2, _, G2, PySem.W.mg_of X G a2, k2, B2⟩
  have F3 := fun_mk (st := s_are_ascending) l3 c3 k3
  have G3 := ok_are_ascending (P := l.prog) (w := w) (base := base) T F3 
  have B3 := F3.binds (ps := P_are_ascending) fun _ _ _ _ _ _ us hl => match us, hl with | [_], _ => rfl
  have D_are_ascending : DefOk l.prog w K mg base CX0 1 "are_ascending" P_are_ascending (sp_are_ascending K) := ⟨f3, _, G3, PySem.W.mg_of X G a3, k3, B3⟩
  have F4 := fun_mk (st := s_are_ascending_tuples) l4 c4 k4
  have G4 := ok_are_ascending_tuples (P := l.prog) (w := w) (base := base) T F4 D_is_tuple_below D_are_ascending
  have B4 := F4.binds (ps := P_are_ascending_tuples) fun _ _ _ _ _ _ us hl => match us, hl with | [_, _, _], _ => rfl
  have D_are_ascending_tuples : DefOk l.prog w K mg base CX0 4 "are_ascending_tuples" P_are_ascending_tuples (sp_are_ascending_tuples K) := ⟨f4, _, G4, PySem.W.mg_of X G a4, k4, B4⟩
  have F5 := fun_mk (st := s_are_below) l5 c5 k5
  have G5 := ok_are_below (P := l.prog) (w := w) (base := base) T F5 D_is_number_below
  have B5 := F5.binds (ps := P_are_below) fun _ _ _ _ _ _ us hl => match us, hl with | [_, _], _ => rfl
  have D_are_below : DefOk l.prog w K mg base CX0 3 "are_below" P_are_below (sp_are_below K) := ⟨f5, _, G5, PySem.W.mg_of X G a5, k5, B5⟩
  have F6 := fun_mk (st := s_are_targets) l6 c6 k6
  have G6 := ok_are_targets (P := l.prog) (w := w) (base := base) T F6 D_are_below D_are_ascending
  have B6 := F6.binds (ps := P_are_targets) fun _ _ _ _ _ _ us hl => match us, hl with | [_, _], _ => rfl
  have D_are_targets : DefOk l.prog w K mg base CX0 4 "are_targets" P_are_targets (sp_are_targets K) := ⟨f6, _, G6, PySem.W.mg_of X G a6, k6, B6⟩
  have F7 := fun_mk (st := s_are_nudges) l7 c7 k7
  have G7 := ok_are_nudges (P := l.prog) (w := w) (base := base) T F7 D_are_targets
  have B7 := F7.binds (ps := P_are_nudges) fun _ _ _ _ _ _ us hl => match us, hl with | [_, _], _ => rfl
  have D_are_nudges : DefOk l.prog w K mg base CX0 5 "are_nudges" P_are_nudges (sp_are_nudges K) := ⟨f7, _, G7, PySem.W.mg_of X G a7, k7, B7⟩
  have F8 := fun_mk (st := s_has_web_shape) l8 c8 k8
  have G8 := ok_has_web_shape (P := l.prog) (w := w) (base := base) T F8 D_is_integer D_are_ascending_tuples D_are_nudges
  have B8 := F8.binds (ps := P_has_web_shape) fun _ _ _ _ _ _ us hl => match us, hl with | [_], _ => rfl
  have D_has_web_shape : DefOk l.prog w K mg base CX0 6 "has_web_shape" P_has_web_shape (sp_has_web_shape K) := ⟨f8, _, G8, PySem.W.mg_of X G a8, k8, B8⟩
  have F9 := fun_mk (st := s_check_web) l9 c9 k9
  have G9 := ok_check_web (P := l.prog) (w := w) (base := base) T F9 D_has_web_shape
  have B9 := F9.binds (ps := P_check_web) fun _ _ _ _ _ _ us hl => match us, hl with | [_], _ => rfl
  have D_check_web : DefOk l.prog w K mg base CX0 7 "check_web" P_check_web (sp_check_web K) := ⟨f9, _, G9, PySem.W.mg_of X G a9, k9, B9⟩
  have F10 := fun_mk (st := s_check_quantity) l10 c10 k10
  have G10 := ok_check_quantity (P := l.prog) (w := w) (base := base) T F10 D_is_number_below
  have B10 := F10.binds (ps := P_check_quantity) fun _ _ _ _ _ _ us hl => match us, hl with | [_, _], _ => rfl
  have D_check_quantity : DefOk l.prog w K mg base CX0 3 "check_quantity" P_check_quantity (sp_check_quantity K) := ⟨f10, _, G10, PySem.W.mg_of X G a10, k10, B10⟩
  have F11 := fun_mk (st := s_copied_nudges) l11 c11 k11
  have G11 := ok_copied_nudges (P := l.prog) (w := w) (base := base) T F11 
  have B11 := F11.binds (ps := P_copied_nudges) fun _ _ _ _ _ _ us hl => match us, hl with | [_], _ => rfl
  have D_copied_nudges : DefOk l.prog w K mg base CX0 1 "copied_nudges" P_copied_nudges (sp_copied_nudges K) := ⟨f11, _, G11, PySem.W.mg_of X G a11, k11, B11⟩
  have F12 := fun_mk (st := s_with_pair) l12 c12 k12
  have G12 := ok_with_pair (P := l.prog) (w := w) (base := base) T F12 D_check_web D_check_quantity D_copied_nudges
  have B12 := F12.binds (ps := P_with_pair) fun _ _ _ _ _ _ us hl => match us, hl with | [_, _, _], _ => rfl
  have D_with_pair : DefOk l.prog w K mg base (L2.CX l.prog w) 8 "with_pair" P_with_pair (sp_with_pair K) := ⟨f12, _, G12, PySem.W.mg_of X G a12, k12, B12⟩
  have F13 := fun_mk (st := s_check_targets) l13 c13 k13
  have G13 := ok_check_targets (P := l.prog) (w := w) (base := base) T F13 D_are_targets
  have B13 := F13.binds (ps := P_check_targets) fun _ _ _ _ _ _ us hl => match us, hl with | [_, _], _ => rfl
  have D_check_targets : DefOk l.prog w K mg base CX0 5 "check_targets" P_check_targets (sp_check_targets K) := ⟨f13, _, G13, PySem.W.mg_of X G a13, k13, B13⟩
  have F14 := fun_mk (st := s_with_nudge) l14 c14 k14
  have G14 := ok_with_nudge (P := l.prog) (w := w) (base := base) T F14 D_check_web D_check_targets D_copied_nudges
  have B14 := F14.binds (ps := P_with_nudge) fun _ _ _ _ _ _ us hl => match us, hl with | [_, _], _ => rfl
  have D_with_nudge : DefOk l.prog w K mg base (L2.CX l.prog w) 8 "with_nudge" P_with_nudge (sp_with_nudge K) := ⟨f14, _, G14, PySem.W.mg_of X G a14, k14, B14⟩
  have F15 := fun_mk (st := s_purse) l15 c15 k15
  have G15 := ok_purse (P := l.prog) (w := w) (base := base) T F15 
  have B15 := F15.binds (ps := P_purse) fun _ _ _ _ _ _ us hl => match us, hl with | [_, _], _ => rfl
  have D_purse : DefOk l.prog w K mg base CX0 1 "_law_purse" P_purse (sp_purse K) := ⟨f15, _, G15, PySem.W.mg_of X G a15, k15, B15⟩
  have F16 := fun_mk (st := s_coin) l16 c16 k16
  have G16 := ok_coin (P := l.prog) (w := w) (base := base) T F16 
  have B16 := F16.binds (ps := P_coin) fun _ _ _ _ _ _ us hl => match us, hl with | [_, _], _ => rfl
  have D_coin : DefOk l.prog w K mg base CX0 1 "_law_coin" P_coin (sp_coin K) := ⟨f16, _, G16, PySem.W.mg_of X G a16, k16, B16⟩
  have F17 := fun_mk (st := s_targets) l17 c17 k17
  have G17 := ok_targets (P := l.prog) (w := w) (base := base) T F17 D_coin
  have B17 := F17.binds (ps := P_targets) fun _ _ _ _ _ _ us hl => match us, hl with | [_, _], _ => rfl
  have D_targets : DefOk l.prog w K mg base CX0 2 "_law_targets" P_targets (sp_targets K) := ⟨f17, _, G17, PySem.W.mg_of X G a17, k17, B17⟩
  have F18 := fun_mk (st := s_web) l18 c18 k18
  have G18 := ok_web (P := l.prog) (w := w) (base := base) T F18 D_coin D_targets
  have B18 := F18.binds (ps := P_web) fun _ _ _ _ _ _ us hl => match us, hl with | [_, _, _], _ => rfl
  have D_web : DefOk l.prog w K mg base CX0 3 "_law_web" P_web (sp_web K) := ⟨f18, _, G18, PySem.W.mg_of X G a18, k18, B18⟩
  have F19 := fun_mk (st := s_nudge) l19 c19 k19
  have G19 := ok_nudge (P := l.prog) (w := w) (base := base) T F19 D_with_nudge
  have B19 := F19.binds (ps := P_nudge) fun _ _ _ _ _ _ us hl => match us, hl with | [_, _], _ => rfl
  have D_nudge : DefOk l.prog w K mg base CX0 9 "_law_nudge" P_nudge (sp_nudge K) := ⟨f19, _, G19, PySem.W.mg_of X G a19, k19, B19⟩
  have F20 := fun_mk (st := s_check_nudge) l20 c20 k20
  have G20 := ok_check_nudge (P := l.prog) (w := w) (base := base) T F20 D_is_number_below
  have B20 := F20.binds (ps := P_check_nudge) fun _ _ _ _ _ _ us hl => match us, hl with | [_, _], _ => rfl
  have D_check_nudge : DefOk l.prog w K mg base CX0 3 "check_nudge" P_check_nudge (sp_check_nudge K) := ⟨f20, _, G20, PySem.W.mg_of X G a20, k20, B20⟩
  have F21 := fun_mk (st := s_without_nudge) l21 c21 k21
  have G21 := ok_without_nudge (P := l.prog) (w := w) (base := base) T F21 D_check_web D_check_nudge D_copied_nudges
  have B21 := F21.binds (ps := P_without_nudge) fun _ _ _ _ _ _ us hl => match us, hl with | [_, _], _ => rfl
  have D_without_nudge : DefOk l.prog w K mg base CX0 8 "without_nudge" P_without_nudge (sp_without_nudge K) := ⟨f21, _, G21, PySem.W.mg_of X G a21, k21, B21⟩
  have F22 := fun_mk (st := s_copy) l22 c22 k22
  have G22 := ok_copy (P := l.prog) (w := w) (base := base) T F22 
  have B22 := F22.binds (ps := P_copy) fun _ _ _ _ _ _ us hl => match us, hl with | [_], _ => rfl
  have D_copy : DefOk l.prog w K mg base CX0 1 "_law_copy" P_copy (sp_copy K) := ⟨f22, _, G22, PySem.W.mg_of X G a22, k22, B22⟩
  have F23 := fun_mk (st := s_without_pair) l23 c23 k23
  have G23 := ok_without_pair (P := l.prog) (w := w) (base := base) T F23 D_check_web D_check_quantity D_copied_nudges
  have B23 := F23.binds (ps := P_without_pair) fun _ _ _ _ _ _ us hl => match us, hl with | [_, _, _], _ => rfl
  have D_without_pair : DefOk l.prog w K mg base (L2.CX l.prog w) 8 "without_pair" P_without_pair (sp_without_pair K) := ⟨f23, _, G23, PySem.W.mg_of X G a23, k23, B23⟩
  have F24 := fun_mk (st := s_pair) l24 c24 k24
  have G24 := ok_pair (P := l.prog) (w := w) (base := base) T F24 D_with_pair D_without_pair
  have B24 := F24.binds (ps := P_pair) fun _ _ _ _ _ _ us hl => match us, hl with | [_, _, _, _], _ => rfl
  have D_pair : DefOk l.prog w K mg base CX0 9 "_law_pair" P_pair (sp_pair K) := ⟨f24, _, G24, PySem.W.mg_of X G a24, k24, B24⟩
  have F25 := fun_mk (st := s_apart) l25 c25 k25
  have G25 := ok_apart (P := l.prog) (w := w) (base := base) T F25 
  have B25 := F25.binds (ps := P_apart) fun _ _ _ _ _ _ us hl => match us, hl with | [_, _, _, _], _ => rfl
  have D_apart : DefOk l.prog w K mg base CX0 1 "_law_apart" P_apart (sp_apart K) := ⟨f25, _, G25, PySem.W.mg_of X G a25, k25, B25⟩
  have F26 := fun_mk (st := s_right) l26 c26 k26
  have G26 := ok_right (P := l.prog) (w := w) (base := base) T F26 D_without_nudge D_coin D_targets D_copy D_pair D_nudge D_apart
  have B26 := F26.binds (ps := P_right) fun _ _ _ _ _ _ us hl => match us, hl with | [_, _], _ => rfl
  have D_right : DefOk l.prog w K mg base CX0 10 "_law_right" P_right (sp_right K) := ⟨f26, _, G26, PySem.W.mg_of X G a26, k26, B26⟩
  have F27 := fun_mk (st := s_law) l27 c27 k27
  have G27 := ok_law (P := l.prog) (w := w) (base := base) T F27 D_with_pair D_with_nudge D_purse D_web D_nudge D_right
  exact G27
theorem walk {l : PySem.W.OpenLaw} {q : Program} {loose : List Str} {XP : (Str → Option Value) → Heap → Prop} {YP : World → Heap → Prop} {d : DefRec} {K : Params → PySem.W.Frag} (hn : l.most = some 63) (hdf : d.params.defaults = [])
    (hY : ∀ (w : World) (h : Heap), YP w h → (K w.params).In h)
    (F : ∀ (w : World) (mg : Str → Option Value) (fa : Addr) (h : Heap), (K w.params).In h → h.Ns mainGlobals mg → mg d.name = some (.ref fa) →
      ∃ fd : FuncData, (∀ (s : Shared) (u : Value), BindsTo s fd ⟨[u], []⟩ [("_law_script", u)]) ∧ ∀ base : Heap, (K w.params).In base → base.Ns mainGlobals mg → FnG l.prog w (K w.params) mg base CX0 11 fa fd ["_law_script"] (sp_law (K w.params))) :
    PySem.W.WalkO q loose XP YP l.row.toRowW d [] (fun f vs => PySem.call f vs) :=
  walkG (n := 63) (k := 11) (x := "_law_script") (CX := fun _ => CX0) (sp := fun w => sp_law (K w.params)) hn (by decide) hdf ⟨rfl, by decide, by decide⟩ hY F (fun _ H a ns hl _ hS => sp_law_start hl hS) fun _ _ _ _ _ z => z
end K43
open PySem PySem.W PyProof.Rows in
set_option maxRecDepth 100000 in
set_option maxHeartbeats 0 in
theorem PySem.Challenge.cw_nudgewebs_k43_webs_changed_holds : PySem.Challenge.rw_nudgewebs_k43_webs_changed.Holds := by
  w_on; o_law; k_head; (case hw => w_witness2)
  k_fill
  refine K43.walk (l := PySem.Challenge.rw_nudgewebs_k43_webs_changed) rfl rfl (fun w h Y => PySem.W.kIn_of Y) ?F
  case F =>
    intro w mg fa h KX G hmg
    refine' K43.all_mk KX G hmg ?a0 ?l0 ?c0 ?k0 ?a1 ?l1 ?c1 ?k1 ?a2 ?l2 ?c2 ?k2 ?a3 ?l3 ?c3 ?k3 ?a4 ?l4 ?c4 ?k4 ?a5 ?l5 ?c5 ?k5 ?a6 ?l6 ?c6 ?k6 ?a7 ?l7 ?c7 ?k7 ?a8 ?l8 ?c8 ?k8 ?a9 ?l9 ?c9 ?k9 ?a10 ?l10 ?c10 ?k10 ?a11 ?l11 ?c11 ?k11 ?a12 ?l12 ?c12 ?k12 ?a13 ?l13 ?c13 ?k13 ?a14 ?l14 ?c14 ?k14 ?a15 ?l15 ?c15 ?k15 ?a16 ?l16 ?c16 ?k16 ?a17 ?l17 ?c17 ?k17 ?a18 ?l18 ?c18 ?k18 ?a19 ?l19 ?c19 ?k19 ?a20 ?l20 ?c20 ?k20 ?a21 ?l21 ?c21 ?k21 ?a22 ?l22 ?c22 ?k22 ?a23 ?l23 ?c23 ?k23 ?a24 ?l24 ?c24 ?k24 ?a25 ?l25 ?c25 ?k25 ?a26 ?l26 ?c26 ?k26 ?a27 ?l27 ?c27 ?k27 ?z_isinstance ?z_len ?z_all ?z_repr ?z_abs ?z_max ?z_min ?z_sorted ?z_int ?z_bool ?z_list ?z_tuple ?z_range ?z_zip ?v_MOST_QUANTITIES ?v_MOST_NUDGES ?g_there ?e_there ?k_there ?b_there ?t_there ?i_there ?s_there ?g_noline ?e_noline ?k_noline ?b_noline ?t_noline ?i_noline ?s_noline ?n_there_noline ?n_noline_there ?aC ?xL ?rB ?sa ?ga ?gg ?nb ?aI ?tI ?lI ?cI ?kC ?eC ?tC ?hC ?iC ?sC
    (case a0 => k_is)
    (case l0 => k_is)
    (case c0 => k_is)
    (case k0 => k_is)
    (case a1 => k_is)
    (case l1 => k_is)
    (case c1 => k_is)
    (case k1 => k_is)
    (case a2 => k_is)
    (case l2 => k_is)
    (case c2 => k_is)
    (case k2 => k_is)
    (case a3 => k_is)
    (case l3 => k_is)
    (case c3 => k_is)
    (case k3 => k_is)
    (case a4 => k_is)
    (case l4 => k_is)
    (case c4 => k_is)
    (case k4 => k_is)
    (case a5 => k_is)
    (case l5 => k_is)
    (case c5 => k_is)
    (case k5 => k_is)
    (case a6 => k_is)
    (case l6 => k_is)
    (case c6 => k_is)
    (case k6 => k_is)
    (case a7 => k_is)
    (case l7 => k_is)
    (case c7 => k_is)
    (case k7 => k_is)
    (case a8 => k_is)
    (case l8 => k_is)
    (case c8 => k_is)
    (case k8 => k_is)
    (case a9 => k_is)
    (case l9 => k_is)
    (case c9 => k_is)
    (case k9 => k_is)
    (case a10 => k_is)
    (case l10 => k_is)
    (case c10 => k_is)
    (case k10 => k_is)
    (case a11 => k_is)
    (case l11 => k_is)
    (case c11 => k_is)
    (case k11 => k_is)
    (case a12 => k_is)
    (case l12 => k_is)
    (case c12 => k_is)
    (case k12 => k_is)
    (case a13 => k_is)
    (case l13 => k_is)
    (case c13 => k_is)
    (case k13 => k_is)
    (case a14 => k_is)
    (case l14 => k_is)
    (case c14 => k_is)
    (case k14 => k_is)
    (case a15 => k_is)
    (case l15 => k_is)
    (case c15 => k_is)
    (case k15 => k_is)
    (case a16 => k_is)
    (case l16 => k_is)
    (case c16 => k_is)
    (case k16 => k_is)
    (case a17 => k_is)
    (case l17 => k_is)
    (case c17 => k_is)
    (case k17 => k_is)
    (case a18 => k_is)
    (case l18 => k_is)
    (case c18 => k_is)
    (case k18 => k_is)
    (case a19 => k_is)
    (case l19 => k_is)
    (case c19 => k_is)
    (case k19 => k_is)
    (case a20 => k_is)
    (case l20 => k_is)
    (case c20 => k_is)
    (case k20 => k_is)
    (case a21 => k_is)
    (case l21 => k_is)
    (case c21 => k_is)
    (case k21 => k_is)
    (case a22 => k_is)
    (case l22 => k_is)
    (case c22 => k_is)
    (case k22 => k_is)
    (case a23 => k_is)
    (case l23 => k_is)
    (case c23 => k_is)
    (case k23 => k_is)
    (case a24 => k_is)
    (case l24 => k_is)
    (case c24 => k_is)
    (case k24 => k_is)
    (case a25 => k_is)
    (case l25 => k_is)
    (case c25 => k_is)
    (case k25 => k_is)
    (case a26 => k_is)
    (case l26 => k_is)
    (case c26 => k_is)
    (case k26 => k_is)
    (case a27 => k_is)
    (case l27 => k_is)
    (case c27 => k_is)
    (case k27 => k_is)
    (case z_isinstance => k_is)
    (case z_len => k_is)
    (case z_all => k_is)
    (case z_repr => k_is)
    (case z_abs => k_is)
    (case z_max => k_is)
    (case z_min => k_is)
    (case z_sorted => k_is)
    (case z_int => k_is)
    (case z_bool => k_is)
    (case z_list => k_is)
    (case z_tuple => k_is)
    (case z_range => k_is)
    (case z_zip => k_is)
    (case v_MOST_QUANTITIES => k_is)
    (case v_MOST_NUDGES => k_is)
    (case g_there => k_is)
    (case e_there => k_exc)
    (case k_there => k_is)
    (case b_there => k_is)
    (case t_there => k_is)
    (case i_there => k_is)
    (case s_there => first | rfl | k_is)
    (case g_noline => k_is)
    (case e_noline => k_exc)
    (case k_noline => k_is)
    (case b_noline => k_is)
    (case t_noline => k_is)
    (case i_noline => k_is)
    (case s_noline => first | rfl | k_is)
    (case n_there_noline => k_is)
    (case n_noline_there => k_is)
    (case aC => k_is)
    (case xL => k_is)
    (case rB => decide +kernel)
    (case sa => k_is)
    (case ga => k_is)
    (case gg => k_is)
    (case nb => k_is)
    (case aI => k_is)
    (case tI => k_is)
    (case lI => k_is)
    (case cI => k_is)
    (case kC => k_is)
    (case eC => k_is)
    (case tC => k_is)
    (case hC => k_is)
    (case iC => k_is)
    (case sC => first | rfl | k_is)
