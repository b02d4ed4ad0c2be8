import PyProof.Rows.All
import Wide.All
import OpenK.AllK
import Wide.FinOn
import PyProof.EqAt
import PyProof.EqKinds
import PyProof.TupleCall
import PyProof.ReprReads
import HandS.ForMost
import HandS.Exc
import HandS.TryOnly
import HandS.ExcOwn
import HandS.WordsExc
import HandS.Wide
import HandS.IsInst
import HandS.Deep
import HandS.Style
import HandS.Conv
import HandS.Zip
import HandS.SortRule
import HandS.SortInts
import HandS.DictComp
import HandS.WideBits
import HandS.TupSets
import KE.KDictSum
import HandS.ExcValue
import HandS.ReSet
import HandS.SetFor
import HandS.Strs
import HandS.SetKeys
import HandS.Flow
import PyProof.NeKinds
import PySem.Challenge.RW_nudgewebs_k36_shown_step_by_step
set_option Elab.async false
set_option linter.all false
set_option maxRecDepth 100000
set_option maxHeartbeats 4000000
/-! The ground: defs that run where nothing is being shown (so that repr may be asked), calls by name, repr of data, powers. -/
namespace Nw
open PySem PySem.Spec PyProof.Rows L2

/-! ### defs that run where no repr is under way -/
abbrev Quiet (A : Around) : Prop := A.guards = some []
structure FnG (P : Program) (w : World) (K : PySem.W.Frag) (mg : Str → Option Value)
    (base : Heap) (CX : CXT) (k : Nat) (f : Addr) (fd : FuncData) (ps : List Str) (sp : Sp) : Prop where
  len : ∀ vs H Q E, sp vs H Q E → vs.length = ps.length
  run : ∀ (A : Around) (outer : List Env) (s : Shared) (H : Hp) (args : Args) (us : List Value) (vs : List V)
    (Q : VK) (E : XK), Room k A → Quiet A → Env0 P w K mg base A outer s H →
    BindsTo s fd args (ps.zip us) → Vals vs us → sp vs H Q E →
    codeAny (model P w) A (.call (.ref f) args) (CR CX outer P w H s Q E) s

section
variable {P : Program} {w : World} {K : PySem.W.Frag} {mg : Str → Option Value} {base : Heap} {CX : CXT}
theorem FnG.mono {j k : Nat} {f : Addr} {fd : FuncData} {ps : List Str} {sp : Sp}
    (F : FnG P w K mg base CX j f fd ps sp) (h : j ≤ k) : FnG P w K mg base CX k f fd ps sp :=
  ⟨F.len, fun A outer s H args us vs Q E hr =>
    F.run A outer s H args us vs Q E (hr.mono h)⟩

theorem fng_of {k : Nat} {f : Addr} {name qual : Str} {params : Arguments} {body : List Stmt} {scope : Scope}
    {dV kV doc pm cdv ct oc : Value} {an od : Option Addr} {osl : Array (Option Value)} {N ps : List Str} {sp : Sp}
    (lk : K.lookup f = some ⟨oc, od, .func (PySem.W.fnOf name qual params body scope dV kV doc pm an cdv ct), osl⟩)
    (hcd : PySem.W.codeIn K cdv qual = true) (S : FnScope N ps scope)
    (len : ∀ vs H Q E, sp vs H Q E → vs.length = ps.length)
    (hbody : ∀ (A : Around) (outer : List Env) (s : Shared) (H : Hp) (vs : List V) (Q : VK) (E : XK),
      Room k (A.deeper (envOfC qual scope s.heap.objs.size f cdv)) → Quiet A → sp vs H Q E →
      ∃ t, PSs (cxOf CX P w K mg base N qual scope f cdv A outer s H E) body t ∧
        t { nx := fun _ H' => Q .non H', rt := Q } (start N vs) H) :
    FnG P w K mg base CX (k + 1) f (PySem.W.fnOf name qual params body scope dV kV doc pm an cdv ct) ps sp := by
  refine ⟨len, ?_⟩
  intro A outer s H args us vs Q E hr hgd e0 hb r hsp
  have hl := len _ _ _ _ hsp
  have old := fun b o (e : base.get? b = some o) => (e0.bs b o e).1
  have kinds : ∀ y ∈ ps.zip us, scope.names.lookup y.1 = some .local ∨
      (scope.names.lookup y.1 = some .cell ∧ ((cellsFrom (s.heap.objs.size + 1) scope.names []).lookup y.1).isSome = true) := by
    rintro ⟨n, v⟩ hy
    rcases S.par n (List.of_mem_zip hy).1 with q | q
    · exact Or.inl q
    · exact Or.inr ⟨q, PySem.W.cellsFrom_some _ _ _ (Or.inl q)⟩
  refine codeAny_call_function hr.depth ((e0.mod.kin.keeps old) _ _ lk) rfl S.co S.gen rfl
    (PySem.W.codeRec_of (e0.mod.kin.keeps old) hcd) (hb _ _ _ _ ?_)
  refine wpAny_newFunctionEnv_cells S.kind kinds fun env he s1 x => ?_
  subst he
  refine ⟨(e0.mod.nolimit.keeps old).keeps x.toInCall.keep, codeAny_func ?_⟩
  obtain ⟨t, ht, hq⟩ := hbody A outer s H vs Q E (hr.deeper _) hgd hsp
  have I0 : Inv (cxOf CX P w K mg base N qual scope f cdv A outer s H E) [] (start N vs) H s1 :=
    inv_start S hr.hd e0 hl r x
  refine wpAny_mono (ht.run [] s1 (start N vs) H _ I0 hq) ?_ (fun e s' hs => hs)
  intro fl s' hs
  cases fl with
  | ret u =>
    obtain ⟨v, σ', H', J, rv, q⟩ := hs
    exact (show CE outer P w H s Q u s' from ⟨v, H', J.os, J.bare, J.base, J.hok, rv, q⟩)
  | next =>
    obtain ⟨σ', H', J, q⟩ := hs
    exact (show CE outer P w H s Q Value.none s' from ⟨V.non, H', J.os, J.bare, J.base, J.hok, rfl, q⟩)
  | brk =>
    obtain ⟨_, _, _, q⟩ := hs
    exact q.elim
  | cont =>
    obtain ⟨_, _, _, q⟩ := hs
    exact q.elim

/-- a def of the text, by its body -/
theorem okG {x qual : Str} {st : Stmt} {f : Addr} {fd : FuncData} {N ps : List Str} {k : Nat} {sp : Sp}
    (F : Fun K x qual st f fd) (S : FnScope N ps (defScope st)) (len : ∀ vs H Q E, sp vs H Q E → vs.length = ps.length)
    (hbody : ∀ (cdv : Value) (A : Around) (outer : List Env) (s : Shared) (H : Hp) (vs : List V) (Q : VK) (E : XK),
      Room k (A.deeper (envOfC qual (defScope st) s.heap.objs.size f cdv)) →
      Quiet (A.deeper (envOfC qual (defScope st) s.heap.objs.size f cdv)) → sp vs H Q E →
      ∃ t, PSs (cxOf CX P w K mg base N qual (defScope st) f cdv A outer s H E) (defBody st) t ∧
        t { nx := fun _ H' => Q .non H', rt := Q } (start N vs) H) : FnG P w K mg base CX (k + 1) f fd ps sp := by
  obtain ⟨oc, od, kV, doc, pm, an, cdv, ct, osl, rfl, lk, hcd⟩ := F.ex
  exact fng_of lk hcd S len fun A outer s H vs Q E hr hq hsp => hbody cdv A outer s H vs Q E hr hq hsp

/-- a def as its callers see it -/
structure DefOk (P : Program) (w : World) (K : PySem.W.Frag) (mg : Str → Option Value) (base : Heap) (CX : CXT)
    (k : Nat) (x : Str) (ps : List Str) (sp : Sp) : Prop where
  ex : ∃ f fd, FnG P w K mg base CX k f fd ps sp ∧ mg x = some (.ref f) ∧
    PySem.W.keepIn K (.ref f) = true ∧ Binds K fd ps []
theorem DefOk.mono {j k : Nat} {x : Str} {ps : List Str} {sp : Sp} (D : DefOk P w K mg base CX j x ps sp) (h : j ≤ k) :
    DefOk P w K mg base CX k x ps sp := by
  obtain ⟨f, fd, F, r⟩ := D.ex
  exact ⟨f, fd, F.mono h, r⟩
end

/-- f(e, ..) -/
def tCallD (sp : Sp) (E : XK) (t : TA) : TE := fun σ H Q => t σ H fun vs H1 => sp vs H1 Q E
section
variable {X : Cx} {CX : CXT} {k : Nat} {ps : List Str} {sp : Sp} {E : XK} {x : Str} {p pos : Pos} {e : Expr} {es : List Expr} {t : TA}
theorem run_fng {f : Addr} {fd : FuncData} {pins : List (Addr × Obj)} {σ : L2.St} {H : Hp} {s : Shared} {Q : VK} {us : List Value} {vs : List V}
    (F : FnG X.prog X.w X.K X.mg X.base CX k f fd ps sp) (hr : Room k X.A) (hgd : Quiet X.A) (hb : Binds X.K fd ps [])
    (hx : Passes CX X E) (I : Inv X pins σ H s) (r : Vals vs us) (h : sp vs H Q E) :
    wpAny (model X.prog X.w) X.A (call (.ref f) us) (EP X pins σ Q) X.xe s := by
  have hl : (us ++ ([] : List Value)).length = ps.length := by
    rw [List.append_nil, ← r.length]
    exact F.len _ _ _ _ h
  have hb2 := hb s us I.kIn hl
  rw [List.append_nil] at hb2
  refine wpAny_call (codeAny_mono (F.run X.A X.stack s H ⟨us, []⟩ us vs Q E hr hgd I.env0 hb2 r h) ?_)
  intro r s' hq
  cases r with
  | error e => exact hx pins σ H s e s' I hq
  | ok fl =>
    cases fl with
    | ret u => exact I.after hq
    | next => exact (show False from hq).elim
    | brk => exact (show False from hq).elim
    | cont => exact (show False from hq).elim

theorem pe_callD (D : DefOk X.prog X.w X.K X.mg X.base CX k x ps sp) (hr : Room k X.A) (hgd : Quiet X.A) (hx : Passes CX X E)
    (ha : PA X (e :: es) t) (hg : Gl X x := by rfl) (hdb : (x == ("__debug__" : Str)) = false := by decide)
    (he : starEach (e :: es) X.env = (false, eval e X.env) :: starEach es X.env := by rfl)
    (hpl : (backTo pos (starEach es X.env)).any (·.1) = false := by rfl) :
    PE X (.Call (.Name x p) (e :: es) [] pos) (tCallD sp E t) := by
  obtain ⟨f, fd, F, hm, hk, hb⟩ := D.ex
  refine ⟨fun pins s σ H Q I h => ?_⟩
  refine wpAny_Call_Name_kw (ld_glob I hg hm ?_ hdb)
  refine PySem.W.callWith_K (h₀ := X.base) I.ok.mod.kin hk (thn (ha.run pos pins s σ H _ I h) ?_) he hpl
  rintro us s1 ⟨vs, H1, I1, r, q⟩
  exact ⟨I1.kIn, run_fng F hr hgd hb hx I1 r q⟩
end

/-! ### the law's end -/
section
variable {P : Program} {w : World} {K : PySem.W.Frag}
theorem law_callG {mg mb : Str → Option Value} {CX : CXT} {k : Nat} {fa a : Addr} {fd : FuncData} {x : Str} {sp : Sp}
    {s1 : Shared} {vs : List Value} {ns : List Int}
    (KX : K.In s1.heap) (hns : s1.heap.Ns mainGlobals mg) (hb : s1.heap.Ns builtinsNs mb)
    (hbb : ∀ x : Str, x ≠ "__name__" → mb x = bootBuiltins x) (hlim : s1.heap.NoLimit) (hg : s1.gens = #[])
    (ha : s1.heap.get? a = some { cls := .type "list", data := .seq vs.toArray }) (hi : IntsAre vs ns)
    (hl : ns.length ≤ sizeLine) (hr : Room k callerA)
    (F : ∀ base : Heap, K.In base → base.Ns mainGlobals mg → FnG P w K mg base CX k fa fd [x] sp)
    (hbind : ∀ (s : Shared) (u : Value), BindsTo s fd ⟨[u], []⟩ [(x, u)])
    (hsp : ∀ H : Hp, Only H → SqL K H a (ns.map V.int) → sp [.ref a] H (fun v _ => v = .bl true) fun _ _ _ => False)
    (hCX : ∀ H e s', CX [] H s1 (fun _ _ _ => False) e s' → False) :
    codeAny (model P w) callerA (.call (.ref fa) ⟨[.ref a], []⟩)
      (fun r s' => r = .ok (.ret (.bool true)) ∧ OldK s1.heap s'.heap ∧ s'.os = s1.os ∧ AllBare s'.gens) s1 := by
  have rv := vals_ints hi
  have lenV := hi.length
  have core : ∀ H : Hp, Only H → SqL K H a (ns.map V.int) → HOk P w H s1.heap →
      (∀ b, H b ≠ none → b = a) → (H a ≠ none → K.lookup a = none) →
      codeAny (model P w) callerA (.call (.ref fa) ⟨[.ref a], []⟩)
        (fun r s' => r = .ok (.ret (.bool true)) ∧ OldK s1.heap s'.heap ∧ s'.os = s1.os ∧ AllBare s'.gens) s1 := by
    intro H hO hS hok hA hK
    have fromH : ∀ {b : Addr} {o : Obj}, s1.heap.get? b = some o → H b = none →
        (hidT s1.heap H).get? b = some o := fun e n => hidT_get e n
    have free : ∀ {b : Addr} {o : Obj} {es : Array DictEntry} {ep : Nat},
        s1.heap.get? b = some o → o.data = .dict es ep → H b = none := by
      intro b o es ep e d
      cases q : H b with
      | none => rfl
      | some u =>
        have e' : b = a := hA b (by rw [q]; exact fun z => nomatch z)
        subst e'
        rw [ha] at e
        cases e
        exact nomatch d
    have nsK : ∀ {b : Addr} {m : Str → Option Value}, s1.heap.Ns b m → (hidT s1.heap H).Ns b m := by
      rintro b m ⟨o, es, ep, e, d, r⟩
      exact ⟨o, es, ep, fromH e (free e d), d, r⟩
    have hKb : K.In (hidT s1.heap H) := by
      intro b o e
      refine fromH (KX b o e) ?_
      cases q : H b with
      | none => rfl
      | some u =>
        have e' : b = a := hA b (by rw [q]; exact fun z => nomatch z)
        subst e'
        rw [hK (by rw [q]; exact fun z => nomatch z)] at e
        cases e
    have hM : Mod K mg (hidT s1.heap H) := by
      obtain ⟨mc, h1, h2⟩ := hlim
      exact ⟨hKb, nsK hns, ⟨mb, nsK hb, hbb⟩, ⟨mc, nsK h1, h2⟩⟩
    have e0 : Env0 P w K mg (hidT s1.heap H) callerA [] s1 H :=
      ⟨rfl, hM, fun b o e => of_hidT e, Nat.le_of_eq (hidT_size _ _), trivial,
        fun b hb => (List.not_mem_nil hb).elim, hok, .of_eq hg⟩
    refine codeAny_mono ((F _ hKb (nsK hns)).run callerA [] s1 H ⟨[.ref a], []⟩ [.ref a] [.ref a] _ _ hr rfl e0
      (hbind s1 (.ref a)) (.cons rfl .nil) (hsp H hO hS)) ?_
    intro r s' h
    cases r with
    | error e => exact (hCX H e s' h).elim
    | ok fl =>
      cases fl with
      | next => exact (show False from h).elim
      | brk => exact (show False from h).elim
      | cont => exact (show False from h).elim
      | ret u =>
        obtain ⟨v, H', os, bare, un, hok', r', q⟩ := h
        have q' : v = .bl true := q
        subst q'
        obtain rfl : u = Value.bool true := r'
        refine ⟨rfl, OldK.of_keep ?_, os, bare⟩
        intro b o e
        cases q : H b with
        | none => exact un.keep b o e q (fun z => (List.not_mem_nil z).elim) (fun z => (List.not_mem_nil z).elim)
        | some u =>
          rcases hO b with z | ⟨ob, xs, z⟩
          · rw [q] at z
            cases z
          · obtain ⟨e1, _⟩ := hok b _ z
            obtain ⟨e2, _⟩ := hok' b _ (un.frzs b ob _ z)
            rw [e] at e1
            cases e1
            exact e2
  cases hk : K.lookup a with
  | some o =>
    have e := KX a o hk
    rw [ha] at e
    cases e
    exact core (fun _ => none) (fun _ => .inl rfl)
      (.inr ⟨_, vs.toArray, _, hk, rfl, rfl, rfl, by rw [List.size_toArray, lenV]; exact hl, by simpa using rv⟩)
      (fun b u z => nomatch z) (fun b z => (z rfl).elim) (fun z => (z rfl).elim)
  | none =>
    refine core (fun b => if b = a then some (.frz { cls := .type "list", data := .seq vs.toArray } (.lst (ns.map V.int))) else none)
      ?_ (.inl (.inr ⟨{ cls := .type "list", data := .seq vs.toArray }, if_pos rfl⟩)) ?_ ?_ (fun _ => hk)
    · intro b
      by_cases hb : b = a
      · exact .inr ⟨_, _, if_pos hb⟩
      · exact .inl (if_neg hb)
    · intro b u z
      by_cases hb : b = a
      · have z' := (if_pos hb).symm.trans z
        cases z'
        subst hb
        exact ⟨ha, by rw [List.length_map]; exact hl, vs, _, rv, ha⟩
      · have z' := (if_neg hb).symm.trans z
        cases z'
    · intro b z
      by_cases hb : b = a
      · exact hb
      · exact (z (if_neg hb)).elim
end

theorem walkG {l : PySem.W.OpenLaw} {n k : Nat} {q : Program} {loose : List Str} {XP : (Str → Option Value) → Heap → Prop}
    {YP : World → Heap → Prop} {d : DefRec} {K : Params → PySem.W.Frag} {CX : World → CXT} {sp : World → Sp} {x : Str}
    (hn : l.most = some n) (hn2 : n ≤ sizeLine) (hdf : d.params.defaults = []) (hr : Room k callerA)
    (hY : ∀ (w : World) (h : Heap), YP w h → (K w.params).In h)
    (F : ∀ (w : World) (mg : Str → Option Value) (fa : Addr) (h : Heap), (K w.params).In h → h.Ns mainGlobals mg →
      mg d.name = some (.ref fa) → ∃ fd : FuncData, (∀ (s : Shared) (u : Value), BindsTo s fd ⟨[u], []⟩ [(x, u)]) ∧
        ∀ base : Heap, (K w.params).In base → base.Ns mainGlobals mg →
          FnG l.prog w (K w.params) mg base (CX w) k fa fd [x] (sp w))
    (hsp : ∀ (w : World) (H : Hp) (a : Addr) (ns : List Int), ns.length ≤ n → Only H →
      SqL (K w.params) H a (ns.map V.int) → sp w [.ref a] H (fun v _ => v = .bl true) fun _ _ _ => False)
    (hCX : ∀ (w : World) (H : Hp) (s : Shared) (e : Value) (s' : Shared), CX w [] H s (fun _ _ _ => False) e s' → False) :
    PySem.W.WalkO q loose XP YP l.row.toRowW d [] (fun f vs => PySem.call f vs) := by
  refine Att.attach_call hn hdf ?_
  intro w s0 s1 mg mb fa o pm cd doc a vs ns G Y ho hd hcd hmg hobj hints hlen hg
  obtain ⟨fd, hb, hF⟩ := F w mg fa _ (hY w _ Y) G.T.g hmg
  exact law_callG (hY w _ Y) G.T.g G.T.b G.T.builtins G.T.nolimit hg hobj hints (Nat.le_trans hlen hn2) hr hF hb
    (fun H hO hS => hsp w H a ns hlen hO hS) (fun H e s' => hCX w H s1 e s')

/-! ### repr of data -/
section
variable {X : Cx}
mutual
theorem dp_noDict {K : PySem.W.Frag} {H : Hp} : ∀ (d : PyData) (v : V), Dp K H v d → d.hasDict = false
  | .none, _, _ => by simp only [PyData.hasDict]
  | .bool _, _, _ => by simp only [PyData.hasDict]
  | .int _, _, _ => by simp only [PyData.hasDict]
  | .str _, _, _ => by simp only [PyData.hasDict]
  | .list ds, _, h => by
    cases h with
    | lst _ ha =>
      simp only [PyData.hasDict]
      exact dp_noDictAll ds _ ha
  | .tuple ds, _, h => by
    cases h with
    | tup _ ha =>
      simp only [PyData.hasDict]
      exact dp_noDictAll ds _ ha
  | .dict _, _, h => by cases h
theorem dp_noDictAll {K : PySem.W.Frag} {H : Hp} : ∀ (ds : List PyData) (vs : List V), DpAll K H vs ds → PyData.hasDictAll ds = false
  | [], _, _ => by simp only [PyData.hasDictAll]
  | d :: ds, _, h => by
    cases h with
    | cons h1 h2 => simp only [PyData.hasDictAll, dp_noDict d _ h1, dp_noDictAll ds _ h2, Bool.or_self]
end
/-- repr(x), x any data without dicts -/
def rReprD (K : PySem.W.Frag) : List V → Hp → VK → Prop := fun xs H Q =>
  ∃ x d, xs = [x] ∧ Dp K H x d ∧ d.showable = true ∧ d.shown.length ≤ sizeLine ∧ d.depth ≤ 60 ∧ Q (.str d.shown) H
end
end Nw
/-! Data as trees over the abstract heap; what is asked of them. -/
namespace Nw
open PySem PySem.Spec PyProof.Rows L2

/-- what is known stays known -/
abbrev Ex (H H' : Hp) : Prop := ∀ b o, H b = some o → H' b = some o
theorem Ex.rfl {H : Hp} : Ex H H := fun _ _ h => h
theorem Ex.tr {H H1 H2 : Hp} (a : Ex H H1) (b : Ex H1 H2) : Ex H H2 := fun c o h => b c o (a c o h)
theorem Ex.nw {H : Hp} {p : Addr} {o : HO} (h : H p = none) : Ex H (upd H p o) := fun b u e => by
  rw [upd_ne (ne_of_none e h)]
  exact e
theorem Ex.nw2 {H H' : Hp} {p : Addr} {o : HO} (e : Ex H H') (h : H' p = none) : Ex H (upd H' p o) := e.tr (Ex.nw h)
theorem Ex.fr {H H' : Hp} (e : Ex H H') {l : Addr} (h : H' l = none) : H l = none := by
  cases q : H l with
  | none => exact Eq.refl _
  | some o =>
    rw [e l o q] at h
    cases h
/-- an object that H does not know may change -/
theorem Ex.wr {H H' : Hp} {p : Addr} {o : HO} (e : Ex H H') (h : H p = none) : Ex H (upd H' p o) := fun a u ha => by
  rw [upd_ne (ne_of_none ha h)]
  exact e a u ha
section
variable {K : PySem.W.Frag} {H H' : Hp}
theorem Ex.rd {a : Addr} {u : HO} (e : Ex H H') (h : Rd H a u) : Rd H' a u := by
  rcases h with h | ⟨o, h⟩
  · exact Or.inl (e a _ h)
  · exact Or.inr ⟨o, e a _ h⟩
theorem Ex.l {a : Addr} {xs : List V} (e : Ex H H') (h : SqL K H a xs) : SqL K H' a xs := by
  rcases h with h | h
  · exact Or.inl (e.rd h)
  · exact Or.inr h
theorem Ex.t {a : Addr} {xs : List V} (e : Ex H H') (h : SqT K H a xs) : SqT K H' a xs := by
  rcases h with h | h
  · exact Or.inl (e.rd h)
  · exact Or.inr h
end

/-! ### data -/
/-- a dict of ints and texts with plain values -/
def keyD : Key → PyData
  | .inl i => .int i
  | .inr x => .str x
mutual
def Da (K : PySem.W.Frag) (H : Hp) : PyData → V → Prop
  | .none, v => v = .non
  | .bool b, v => v = .bl b
  | .int i, v => v = .int i
  | .str x, v => v = .str x
  | .list ds, v => ∃ a xs, v = .ref a ∧ H a = some (.lst xs) ∧ DaAll K H ds xs ∧ ds.length ≤ 100000
  | .tuple ds, v => ∃ a xs, v = .ref a ∧ H a = some (.tup xs) ∧ DaAll K H ds xs
  | .dict kd, v => ∃ a kvs, v = .ref a ∧ H a = some (.dK kvs) ∧ (kvs.map fun kv => keyD kv.1) = kd.map (·.1) ∧ DaKv K H kd (kvs.map (·.2))
def DaAll (K : PySem.W.Frag) (H : Hp) : List PyData → List V → Prop
  | [], vs => vs = []
  | d :: ds, vs => ∃ x xs, vs = x :: xs ∧ Da K H d x ∧ DaAll K H ds xs
def DaKv (K : PySem.W.Frag) (H : Hp) : List (PyData × PyData) → List V → Prop
  | [], vs => vs = []
  | (_, d) :: ds, vs => ∃ x xs, vs = x :: xs ∧ Da K H d x ∧ DaKv K H ds xs
end
section
variable {K : PySem.W.Frag} {H H' : Hp}
mutual
theorem Da.mono (e : Ex H H') : ∀ (d : PyData) (v : V), Da K H d v → Da K H' d v
  | .none, _, h => h
  | .bool _, _, h => h
  | .int _, _, h => h
  | .str _, _, h => h
  | .list ds, v, h => by
    obtain ⟨a, xs, ev, hs, ha, hz⟩ := h
    exact ⟨a, xs, ev, e _ _ hs, DaAll.mono e ds xs ha, hz⟩
  | .tuple ds, v, h => by
    obtain ⟨a, xs, ev, hs, ha⟩ := h
    exact ⟨a, xs, ev, e _ _ hs, DaAll.mono e ds xs ha⟩
  | .dict kd, v, h => by
    obtain ⟨a, kvs, ev, hs, hk, hv⟩ := h
    exact ⟨a, kvs, ev, e _ _ hs, hk, DaKv.mono e kd _ hv⟩
theorem DaAll.mono (e : Ex H H') : ∀ (ds : List PyData) (vs : List V), DaAll K H ds vs → DaAll K H' ds vs
  | [], _, h => h
  | d :: ds, vs, h => by
    obtain ⟨x, xs, ev, h1, h2⟩ := h
    exact ⟨x, xs, ev, Da.mono e d x h1, DaAll.mono e ds xs h2⟩
theorem DaKv.mono (e : Ex H H') : ∀ (ds : List (PyData × PyData)) (vs : List V), DaKv K H ds vs → DaKv K H' ds vs
  | [], _, h => h
  | (_, d) :: ds, vs, h => by
    obtain ⟨x, xs, ev, h1, h2⟩ := h
    exact ⟨x, xs, ev, Da.mono e d x h1, DaKv.mono e ds xs h2⟩
end
theorem Da.up {d : PyData} {v : V} (h : Da K H d v) (e : Ex H H') : Da K H' d v := Da.mono e d v h
theorem DaAll.up {ds : List PyData} {vs : List V} (h : DaAll K H ds vs) (e : Ex H H') : DaAll K H' ds vs := DaAll.mono e ds vs h
mutual
theorem Da.dp : ∀ (d : PyData) (v : V), Da K H d v → d.hasDict = false → Dp K H v d
  | .none, _, h, _ => by
    obtain rfl := h
    exact .non
  | .bool b, _, h, _ => by
    obtain rfl := h
    exact .bl b
  | .int i, _, h, _ => by
    obtain rfl := h
    exact .int i
  | .str x, _, h, _ => by
    obtain rfl := h
    exact .str x
  | .list ds, v, h, hd => by
    obtain ⟨a, xs, rfl, hs, ha, _⟩ := h
    exact .lst (.inl (.inl hs)) (DaAll.dp ds xs ha (by simpa only [PyData.hasDict] using hd))
  | .tuple ds, v, h, hd => by
    obtain ⟨a, xs, rfl, hs, ha⟩ := h
    exact .tup (.inl (.inl hs)) (DaAll.dp ds xs ha (by simpa only [PyData.hasDict] using hd))
  | .dict kd, v, h, hd => by
    simp only [PyData.hasDict] at hd
    cases hd
theorem DaAll.dp : ∀ (ds : List PyData) (vs : List V), DaAll K H ds vs → PyData.hasDictAll ds = false → DpAll K H vs ds
  | [], _, h, _ => by
    obtain rfl := h
    exact .nil
  | d :: ds, vs, h, hd => by
    obtain ⟨x, xs, rfl, h1, h2⟩ := h
    simp only [PyData.hasDictAll, Bool.or_eq_false_iff] at hd
    exact .cons (Da.dp d x h1 hd.1) (DaAll.dp ds xs h2 hd.2)
end
theorem DaAll.len : ∀ {ds : List PyData} {vs : List V}, DaAll K H ds vs → ds.length = vs.length
  | [], _, h => by
    obtain rfl := h
    exact Eq.refl _
  | d :: ds, vs, h => by
    obtain ⟨x, xs, rfl, _, h2⟩ := h
    rw [List.length_cons, List.length_cons, DaAll.len h2]
theorem DaAll.at : ∀ {ds : List PyData} {vs : List V} {i : Nat} {d : PyData}, DaAll K H ds vs → ds[i]? = some d → ∃ x, vs[i]? = some x ∧ Da K H d x
  | [], _, _, _, _, e => by simp at e
  | d :: ds, vs, 0, _, h, e => by
    obtain ⟨x, xs, rfl, h1, _⟩ := h
    cases e
    exact ⟨x, Eq.refl _, h1⟩
  | d :: ds, vs, i + 1, _, h, e => by
    obtain ⟨x, xs, rfl, _, h2⟩ := h
    simp only [List.getElem?_cons_succ] at e ⊢
    exact DaAll.at h2 e
theorem DaAll.at' : ∀ {ds : List PyData} {vs : List V} {i : Nat} {x : V}, DaAll K H ds vs → vs[i]? = some x → ∃ d, ds[i]? = some d ∧ Da K H d x
  | [], _, _, _, h, e => by
    obtain rfl := h
    simp at e
  | d :: ds, vs, 0, _, h, e => by
    obtain ⟨x, xs, rfl, h1, _⟩ := h
    cases e
    exact ⟨d, Eq.refl _, h1⟩
  | d :: ds, vs, i + 1, _, h, e => by
    obtain ⟨x, xs, rfl, _, h2⟩ := h
    simp only [List.getElem?_cons_succ] at e ⊢
    exact DaAll.at' h2 e
theorem DaAll.app : ∀ {ds es : List PyData} {vs ws : List V}, DaAll K H ds vs → DaAll K H es ws → DaAll K H (ds ++ es) (vs ++ ws)
  | [], _, _, _, h, g => by
    obtain rfl := h
    exact g
  | d :: ds, es, vs, ws, h, g => by
    obtain ⟨x, xs, rfl, h1, h2⟩ := h
    exact ⟨x, xs ++ ws, Eq.refl _, h1, DaAll.app h2 g⟩
theorem DaAll.ints : ∀ {ns : List Int} {vs : List V}, DaAll K H (ns.map PyData.int) vs ↔ vs = ns.map V.int
  | [], vs => Iff.rfl
  | n :: ns, vs => by
    constructor
    · rintro ⟨x, xs, rfl, rfl, h2⟩
      rw [List.map_cons, DaAll.ints.mp h2]
    · rintro rfl
      exact ⟨_, _, Eq.refl _, Eq.refl _, DaAll.ints.mpr (Eq.refl _)⟩
theorem DaAll.mem : ∀ {ds : List PyData} {vs : List V}, DaAll K H ds vs → ∀ x ∈ vs, ∃ d ∈ ds, Da K H d x
  | [], _, h, x, hx => by
    obtain rfl := h
    cases hx
  | d :: ds, vs, h, x, hx => by
    obtain ⟨y, ys, rfl, h1, h2⟩ := h
    rcases List.mem_cons.mp hx with rfl | hx
    · exact ⟨d, List.mem_cons_self, h1⟩
    · obtain ⟨e, he, hd⟩ := DaAll.mem h2 x hx
      exact ⟨e, List.mem_cons_of_mem _ he, hd⟩

/-! ### types -/
theorem tyx_l {a : Addr} {xs : List V} (h : SqL K H a xs) : TyX K H (.ref a) (.type "list") := by
  rcases h with (h | ⟨o, h⟩) | ⟨o, its, n, e, c, _⟩
  · exact .base (.lst h)
  · exact .base (.frz h)
  · exact .kList e c
theorem tyx_t {a : Addr} {xs : List V} (h : SqT K H a xs) : TyX K H (.ref a) (.type "tuple") := by
  rcases h with (h | ⟨o, h⟩) | ⟨o, its, n, e, c, _⟩
  · exact .base (.tup h)
  · exact .fTuple h
  · exact .kTuple e c
/-- the name of a datum's type -/
def tyName : PyData → String
  | .none => "NoneType"
  | .bool _ => "bool"
  | .int _ => "int"
  | .str _ => "str"
  | .list _ => "list"
  | .tuple _ => "tuple"
  | .dict _ => "dict"
theorem Da.ty : ∀ {d : PyData} {v : V}, Da K H d v → TyX K H v (.type (tyName d))
  | .none, _, h => by
    obtain rfl := h
    exact .base .non
  | .bool b, _, h => by
    obtain rfl := h
    exact .base (.bl b)
  | .int i, _, h => by
    obtain rfl := h
    exact .base (.int i)
  | .str x, _, h => by
    obtain rfl := h
    exact .base (.str x)
  | .list ds, v, h => by
    obtain ⟨a, xs, rfl, hs, _⟩ := h
    exact tyx_l (.inl (.inl hs))
  | .tuple ds, v, h => by
    obtain ⟨a, xs, rfl, hs, _⟩ := h
    exact tyx_t (.inl (.inl hs))
  | .dict kd, v, h => by
    obtain ⟨a, kvs, rfl, hs, _⟩ := h
    exact .base (.dK hs)
/-- isinstance by the types' names -/
def isN (T n : String) : Bool := T == n || (T == "int" && n == "bool")
/-- isinstance of data: int, bool, list, tuple, str -/
def isA (T : String) (d : PyData) : Bool := isN T (tyName d)
theorem isN_ok (T : String) (hT : T = "int" ∨ T = "bool" ∨ T = "list" ∨ T = "tuple" ∨ T = "str") (n : String)
    (hn : n = "NoneType" ∨ n = "bool" ∨ n = "int" ∨ n = "str" ∨ n = "list" ∨ n = "tuple" ∨ n = "dict") :
    PySem.W.kitOne K (.type n) (.type T) = some (isN T n) := by
  rcases hT with rfl | rfl | rfl | rfl | rfl <;> rcases hn with rfl | rfl | rfl | rfl | rfl | rfl | rfl <;> exact kit_ty (by decide +kernel)
theorem isA_ok (T : String) (hT : T = "int" ∨ T = "bool" ∨ T = "list" ∨ T = "tuple" ∨ T = "str") (d : PyData) :
    PySem.W.kitOne K (.type (tyName d)) (.type T) = some (isA T d) := isN_ok T hT _ (by cases d <;> simp [tyName])
end

/-! ### rules -/
section
variable {X : Cx}
theorem call_reprD {k : Nat} (hq : Quiet X.A) (hr : Room k X.A) : CallR X (.builtin "repr") (rReprD X.K) := by
  intro pins s σ H xs us Q I r h
  obtain ⟨x, d, rfl, hd, hs, hz, hdp, q⟩ := h
  obtain ⟨u, rfl, rx⟩ := Vals.one r
  obtain ⟨as, rd⟩ := Dp.reads I d x u hd rx
  have nd := dp_noDict d x hd
  have hu : X.A.units + 200 < cLine := by have := hr.un; omega
  have fin : ∀ h' u' tk, (∀ b o, s.heap.get? b = some o → h'.get? b = some o) →
      EP X pins σ Q (.str d.shown u') { s with heap := h', toks := tk } :=
    fun h' u' tk hk => ⟨.str d.shown, H, I.kept hk, ⟨_, rfl⟩, q⟩
  cases d with
  | none =>
    cases hd
    obtain rfl : u = Value.none := rx
    exact PySem.P.repr_of_none (fin s.heap _ _ fun _ _ e => e)
  | bool b =>
    cases hd
    obtain rfl : u = Value.bool b := rx
    exact PySem.P.repr_of_bool (fin s.heap _ _ fun _ _ e => e)
  | int i =>
    cases hd
    obtain ⟨t, rfl⟩ := rx
    exact PySem.P.repr_of_int (by simpa only [PyData.showable, decide_eq_true_eq] using hs) (fin s.heap _ _ fun _ _ e => e)
  | str z =>
    cases hd
    obtain ⟨t, rfl⟩ := rx
    exact PySem.P.repr_of_str (fin s.heap _ _ fun _ _ e => e) (by simpa only [PyData.shown] using hz)
  | list ds =>
    cases hd with
    | lst h1 h2 =>
      cases rx
      exact repr_of_reads' rd hs (PyData.noDict_hsm nd) hq (by omega) (fun _ _ e => e) fin hz
  | tuple ds =>
    cases hd with
    | tup h1 h2 =>
      cases rx
      exact repr_of_reads' rd hs (PyData.noDict_hsm nd) hq (by omega) (fun _ _ e => e) fin hz
  | dict kd => cases hd

/-- a ** b of great numbers -/
def CPowW (i j : Int) : Prop := 0 ≤ j ∧ j ≤ 100 ∧ i.natAbs < 2 ^ 10000
theorem op_powW : OpR X (binaryOp .Pow) (rI CPowW fun i j => .int (i ^ j.toNat)) := opI fun i j t u s A E hc q => by
  obtain ⟨h0, h8, hi⟩ := hc
  refine pow_int h0 ?_ q
  have hb : Builtin.Int.intBits i ≤ 10000 := by
    unfold Builtin.Int.intBits
    split
    · omega
    · rename_i hn
      have hne : i.natAbs ≠ 0 := by
        intro e
        exact hn (by simpa using e)
      have := (Nat.log2_lt hne).mpr hi
      omega
  have h1 : (Builtin.Int.intBits i : Int) * j ≤ 10000 * 100 := Int.mul_le_mul (by omega) h8 h0 (by omega)
  omega
end
end Nw
namespace Nw
open PySem PySem.Spec PyProof.Rows L2
section
variable {P : Program} {w : World} {K : PySem.W.Frag} {mg : Str → Option Value} {base : Heap}
/-- a def that lets no exception out -/
theorem okG0 {x qual : Str} {st : Stmt} {f : Addr} {fd : FuncData} {N ps : List Str} {k : Nat} {sp : Sp}
    (F : Fun K x qual st f fd) (S : FnScope N ps (defScope st)) (len : ∀ vs H Q E, sp vs H Q E → vs.length = ps.length)
    (hbody : ∀ (cdv : Value) (A : Around) (outer : List Env) (s : Shared) (H : Hp) (vs : List V) (Q : VK) (E : XK),
      Room k (A.deeper (envOfC qual (defScope st) s.heap.objs.size f cdv)) →
      Quiet (A.deeper (envOfC qual (defScope st) s.heap.objs.size f cdv)) → sp vs H Q E →
      ∃ t, PSs (cxOf CX0 P w K mg base N qual (defScope st) f cdv A outer s H E).nox (defBody st) t ∧
        t { nx := fun _ H' => Q .non H', rt := Q } (start N vs) H) : FnG P w K mg base CX0 (k + 1) f fd ps sp :=
  okG F S len fun cdv A outer s H vs Q E hr hq hsp => by
    obtain ⟨t, h, q⟩ := hbody cdv A outer s H vs Q E hr hq hsp
    exact ⟨t, h.nox, q⟩
end
theorem pe_globI {X : Cx} {x : Str} {n : Int} {pos : Pos} (hm : ∃ t, X.mg x = some (.int n t)) (hg : Gl X x := by rfl)
    (hd : (x == ("__debug__" : Str)) = false := by decide) : PE X (.Name x pos) (tC (.int n)) := by
  obtain ⟨t, h⟩ := hm
  exact pe_glob hg h ⟨t, rfl⟩ hd
theorem pe_bty {X : Cx} {x : Str} {n : String} {pos : Pos} (hm : X.mg x = none) (hv : bootBuiltins x = some (.type n)) (hg : Gl X x := by rfl)
    (hn : x ≠ "__name__" := by decide) (hd : (x == ("__debug__" : Str)) = false := by decide) : PE X (.Name x pos) (tC (.ty n)) :=
  pe_bltn hg hm hv rfl hn hd
theorem bt_isinstance : bootBuiltins "isinstance" = some (.builtin "isinstance") := by decide +kernel
theorem bt_len : bootBuiltins "len" = some (.builtin "len") := by decide +kernel
theorem bt_all : bootBuiltins "all" = some (.builtin "all") := by decide +kernel
theorem bt_any : bootBuiltins "any" = some (.builtin "any") := by decide +kernel
theorem bt_sum : bootBuiltins "sum" = some (.builtin "sum") := by decide +kernel
theorem bt_repr : bootBuiltins "repr" = some (.builtin "repr") := by decide +kernel
theorem bt_abs : bootBuiltins "abs" = some (.builtin "abs") := by decide +kernel
theorem bt_max : bootBuiltins "max" = some (.builtin "max") := by decide +kernel
theorem bt_min : bootBuiltins "min" = some (.builtin "min") := by decide +kernel
theorem bt_sorted : bootBuiltins "sorted" = some (.builtin "sorted") := by decide +kernel
theorem bt_int : bootBuiltins "int" = some (.type "int") := by decide +kernel
theorem bt_bool : bootBuiltins "bool" = some (.type "bool") := by decide +kernel
theorem bt_str : bootBuiltins "str" = some (.type "str") := by decide +kernel
theorem bt_list : bootBuiltins "list" = some (.type "list") := by decide +kernel
theorem bt_tuple : bootBuiltins "tuple" = some (.type "tuple") := by decide +kernel
theorem bt_set : bootBuiltins "set" = some (.type "set") := by decide +kernel
/-- isinstance(x, T) of data -/
theorem isi_da {K : PySem.W.Frag} {H : Hp} {d : PyData} {v : V} {T : String} {Q : VK} (h : Da K H d v)
    (hT : T = "int" ∨ T = "bool" ∨ T = "list" ∨ T = "tuple" ∨ T = "str") (q : Q (.bl (isA T d)) H) : rIsi K [v, .ty T] H Q :=
  ⟨v, .ty T, _, _, _, rfl, .ty T, h.ty, isA_ok T hT d, q⟩
theorem start_eq {N : List Str} {vs : List V} : start N vs = vs.map some ++ List.replicate (N.length - vs.length) none := rfl
end Nw
/-! Walks of anything by one word. -/
namespace Nw
open PySem PySem.Spec PyProof.Rows L2

/-- what a comprehension's reading asks, D its new list -/
abbrev LcW (J : It) (g : TG) (tt : TT) (te : TE) (vs : List Nat) (σ : L2.St) (D : Addr) (H1 : Hp) (Qd : Hp → Prop) : Prop :=
  ∃ W : Nat → Nat → Hp → Prop, (∃ m, W 0 m (upd H1 D (.lst []))) ∧ ∀ i m H, W i m H →
    (J.stop i H ∧ Qd H) ∨ (J.go i H ∧ ∃ Nx : Hp → Prop, (∀ H', Nx H' → ∃ m', m' < m ∧ W (i + 1) m' H') ∧
      ∀ x H', J.yld i H x H' → g x (wipe σ vs) H' fun σ2 H2 => wipe σ2 vs = wipe σ vs ∧ tt σ2 H2 fun b H3 =>
        if b = true then te σ2 H3 fun y H4 => ∃ acc, H4 D = some (.lst acc) ∧ acc.length < sizeLine ∧
          Nx (upd H4 D (.lst (acc ++ [y]))) else Nx H3)
theorem lc_by {J : It} {g : TG} {tt : TT} {te : TE} {vs : List Nat} {σ : L2.St} {D : Addr} {H1 : Hp} {Qd : Hp → Prop}
    (n : Nat) (Pv : Nat → Hp → Prop) (h0 : Pv 0 (upd H1 D (.lst [])))
    (hgo : ∀ i H, i < n → Pv i H → J.go i H) (hst : ∀ H, Pv n H → J.stop n H)
    (hs : ∀ i H x H', i < n → Pv i H → J.yld i H x H' → g x (wipe σ vs) H' fun σ2 H2 => wipe σ2 vs = wipe σ vs ∧
      tt σ2 H2 fun b H3 => if b = true then te σ2 H3 fun y H4 => ∃ acc, H4 D = some (.lst acc) ∧ acc.length < sizeLine ∧
        Pv (i + 1) (upd H4 D (.lst (acc ++ [y]))) else Pv (i + 1) H3)
    (hd : ∀ H, Pv n H → Qd H) : LcW J g tt te vs σ D H1 Qd := by
  refine ⟨fun i m H => m = n - i ∧ i ≤ n ∧ Pv i H, ⟨n, by omega, Nat.zero_le _, h0⟩, ?_⟩
  rintro i m H ⟨rfl, hi, p⟩
  by_cases hlt : i < n
  · refine .inr ⟨hgo i H hlt p, Pv (i + 1), fun H' p' => ⟨n - (i + 1), by omega, rfl, hlt, p'⟩, ?_⟩
    intro x H' y
    exact hs i H x H' hlt p y
  · have e : i = n := by omega
    subst e
    exact .inl ⟨hst H p, hd H p⟩
theorem for_by {J : It} {g : TG} {tb : TS} {D : Ends} {σ : L2.St} {H1 : Hp} (n : Nat) (Pv : Nat → L2.St → Hp → Prop) (h0 : Pv 0 σ H1)
    (hgo : ∀ i σ H, i < n → Pv i σ H → J.go i H) (hst : ∀ σ H, Pv n σ H → J.stop n H)
    (hs : ∀ i σ H x H', i < n → Pv i σ H → J.yld i H x H' →
      g x σ H' fun σ2 H2 => tb { D with nx := Pv (i + 1), ct := Pv (i + 1), bk := D.nx } σ2 H2)
    (hd : ∀ σ H, Pv n σ H → D.nx σ H) :
    ∃ W : Nat → Nat → L2.St → Hp → Prop, (∃ m, W 0 m σ H1) ∧ ∀ i m σ H, W i m σ H →
      (J.stop i H ∧ D.nx σ H) ∨ (J.go i H ∧ ∃ N : L2.St → Hp → Prop, (∀ σ' H', N σ' H' → ∃ m', m' < m ∧ W (i + 1) m' σ' H') ∧
        ∀ x H', J.yld i H x H' → g x σ H' fun σ2 H2 => tb { D with nx := N, ct := N, bk := D.nx } σ2 H2) := by
  refine ⟨fun i m σ H => m = n - i ∧ i ≤ n ∧ Pv i σ H, ⟨n, by omega, Nat.zero_le _, h0⟩, ?_⟩
  rintro i m σ H ⟨rfl, hi, p⟩
  by_cases hlt : i < n
  · refine .inr ⟨hgo i σ H hlt p, Pv (i + 1), fun σ' H' p' => ⟨n - (i + 1), by omega, rfl, hlt, p'⟩, ?_⟩
    intro x H' y
    exact hs i σ H x H' hlt p y
  · have e : i = n := by omega
    subst e
    exact .inl ⟨hst σ H p, hd σ H p⟩

/-- what is known but at D stays known -/
abbrev ExD (D : Addr) (H H' : Hp) : Prop := ∀ b o, b ≠ D → H b = some o → H' b = some o
theorem Ex.d {D : Addr} {H H' : Hp} (e : Ex H H') : ExD D H H' := fun b o _ h => e b o h
theorem ExD.put {D : Addr} {H : Hp} {o : HO} : ExD D H (upd H D o) := fun b u n h => by
  rw [upd_ne n]
  exact h
theorem ExD.tr {D : Addr} {H H1 H2 : Hp} (a : ExD D H H1) (b : ExD D H1 H2) : ExD D H H2 := fun c o n h => b c o n (a c o n h)
/-- item by item over the turns that give -/
def Given (n : Nat) (f : Nat → Bool) (R : Nat → V → Prop) (ys : List V) : Prop := Paired R ((List.range n).filter f) ys
theorem Given.nil {f : Nat → Bool} {R : Nat → V → Prop} : Given 0 f R [] := Paired.nil
theorem paired_app {α β : Type} {F : α → β → Prop} : ∀ {as : List α} {bs : List β} {as' : List α} {bs' : List β}, Paired F as bs → Paired F as' bs' → Paired F (as ++ as') (bs ++ bs')
  | _, _, _, _, .nil, h => h
  | _, _, _, _, .cons r t, h => .cons r (paired_app t h)
theorem Given.yes {n : Nat} {f : Nat → Bool} {R : Nat → V → Prop} {ys : List V} {y : V} (h : Given n f R ys) (hf : f n = true) (r : R n y) : Given (n + 1) f R (ys ++ [y]) := by
  unfold Given
  rw [List.range_succ, List.filter_append, List.filter_cons, if_pos hf]
  exact paired_app h (Paired.cons r Paired.nil)
theorem Given.no {n : Nat} {f : Nat → Bool} {R : Nat → V → Prop} {ys : List V} (h : Given n f R ys) (hf : f n = false) : Given (n + 1) f R ys := by
  unfold Given
  rw [List.range_succ, List.filter_append, List.filter_cons, if_neg (by rw [hf]; decide)]
  rw [List.filter_nil, List.append_nil]
  exact h
theorem paired_imp {α β : Type} {F G : α → β → Prop} (h : ∀ a b, F a b → G a b) : ∀ {as : List α} {bs : List β}, Paired F as bs → Paired G as bs
  | _, _, .nil => .nil
  | _, _, .cons r t => .cons (h _ _ r) (paired_imp h t)
theorem Given.imp {n : Nat} {f : Nat → Bool} {R S : Nat → V → Prop} {ys : List V} (g : Given n f R ys) (h : ∀ i y, R i y → S i y) : Given n f S ys := paired_imp h g
theorem Given.len {n : Nat} {f : Nat → Bool} {R : Nat → V → Prop} {ys : List V} (g : Given n f R ys) : ys.length ≤ n := by
  have h := Paired.length g
  have h2 := List.length_filter_le f (List.range n)
  rw [List.length_range] at h2
  omega
theorem paired_eq {α β : Type} {v : α → β} : ∀ {as : List α} {bs : List β}, Paired (fun a b => b = v a) as bs → bs = as.map v
  | _, _, .nil => rfl
  | _, _, .cons r t => by
    rw [List.map_cons, ← r, ← paired_eq t]
/-- what each turn gives is told outright -/
theorem Given.eq {n : Nat} {f : Nat → Bool} {v : Nat → V} {ys : List V} (g : Given n f (fun i y => y = v i) ys) : ys = ((List.range n).filter f).map v := paired_eq g
theorem filter_true {α : Type} (l : List α) : l.filter (fun _ => true) = l := List.filter_eq_self.mpr fun _ _ => rfl
theorem Given.all {n : Nat} {v : Nat → V} {ys : List V} (g : Given n (fun _ => true) (fun i y => y = v i) ys) : ys = (List.range n).map v := by
  have h := g.eq
  rw [filter_true] at h
  exact h

/-- a comprehension that changes nothing that was there: f which turns give, R what (not hanging on D) -/
theorem lc_ev {J : It} {g : TG} {tt : TT} {te : TE} {vs : List Nat} {σ : L2.St} {D : Addr} {H1 : Hp} {Qd : Hp → Prop}
    (n : Nat) (f : Nat → Bool) (R : Nat → V → Hp → Prop) (hz : n ≤ 100000) (hD : H1 D = none)
    (mono : ∀ i y H H', ExD D H H' → R i y H → R i y H')
    (hgo : ∀ i H, i < n → Ex H1 H → J.go i H) (hst : ∀ H, Ex H1 H → J.stop n H)
    (hs : ∀ i H x H', i < n → Ex H1 H → (∃ acc, H D = some (.lst acc)) → J.yld i H x H' → ∀ (Q : V → Hp → Prop) (N : Hp → Prop),
      (f i = true → ∀ y H4, Ex H H4 → R i y H4 → Q y H4) → (f i = false → ∀ H4, Ex H H4 → N H4) →
      g x (wipe σ vs) H' fun σ2 H2 => wipe σ2 vs = wipe σ vs ∧ tt σ2 H2 fun b H3 => if b = true then te σ2 H3 Q else N H3)
    (hd : ∀ ys H, Ex H1 H → H D = some (.lst ys) → Given n f (fun i y => R i y H) ys → Qd H) : LcW J g tt te vs σ D H1 Qd := by
  refine lc_by n (fun i H => Ex H1 H ∧ ∃ ys, H D = some (.lst ys) ∧ Given i f (fun i y => R i y H) ys)
    ⟨Ex.nw hD, [], upd_same, .nil⟩ (fun i H hi p => hgo i H hi p.1) (fun H p => hst H p.1) ?_ ?_
  · rintro i H x H' hi ⟨e, ys, hy, gv⟩ y
    refine hs i H x H' hi e ⟨_, hy⟩ y _ _ ?_ ?_
    · intro hf z H4 e4 r
      refine ⟨ys, e4 D _ hy, by have := gv.len; have e1 : sizeLine = 16777216 := sizeLine_eq; omega, (e.tr e4).wr hD, _, upd_same, ?_⟩
      exact (gv.imp fun j y r' => mono j y _ _ (e4.d.tr ExD.put) r').yes hf (mono i z _ _ ExD.put r)
    · intro hf H4 e4
      exact ⟨e.tr e4, ys, e4 D _ hy, (gv.imp fun j y r' => mono j y _ _ e4.d r').no hf⟩
  · rintro H ⟨e, ys, hy, gv⟩
    exact hd ys H e hy gv
/-- turns over a list that stands -/
theorem itl_go {K : PySem.W.Frag} {H H' : Hp} {a : Addr} {xs : List V} (h : SqL K H a xs) (e : Ex H H') {i : Nat} (hi : i < xs.length) : (Itl K a).go i H' :=
  ⟨xs, xs[i], e.l h, List.getElem?_eq_getElem hi⟩
theorem itl_stop {K : PySem.W.Frag} {H H' : Hp} {a : Addr} {xs : List V} (h : SqL K H a xs) (e : Ex H H') : (Itl K a).stop xs.length H' :=
  ⟨xs, e.l h, Nat.le_refl _⟩
theorem itl_yld {K : PySem.W.Frag} {H H' H'' : Hp} {a : Addr} {xs : List V} {i : Nat} {x : V} (y : (Itl K a).yld i H' x H'') (h : SqL K H a xs) (e : Ex H H') : H'' = H' ∧ xs[i]? = some x :=
  ⟨y.1, y.2 xs (e.l h)⟩
theorem itz_go {K : PySem.W.Frag} {H H' : Hp} {a b : Addr} {xs ys : List V} (h : SqL K H a xs) (g : SqL K H b ys) (e : Ex H H') {i : Nat} (hi : i < min xs.length ys.length) : (Itz K a b).go i H' :=
  ⟨xs, ys, xs[i]'(by omega), ys[i]'(by omega), e.l h, e.l g, List.getElem?_eq_getElem _, List.getElem?_eq_getElem _⟩
theorem itz_stop {K : PySem.W.Frag} {H H' : Hp} {a b : Addr} {xs ys : List V} (h : SqL K H a xs) (g : SqL K H b ys) (e : Ex H H') : (Itz K a b).stop (min xs.length ys.length) H' :=
  ⟨xs, ys, e.l h, e.l g, by omega⟩
theorem ite_go {K : PySem.W.Frag} {H H' : Hp} {a : Addr} {xs : List V} (h : SqL K H a xs) (e : Ex H H') {i : Nat} (hi : i < xs.length) : (Ite K a).go i H' :=
  ⟨xs, xs[i], e.l h, List.getElem?_eq_getElem hi⟩
theorem ite_stop {K : PySem.W.Frag} {H H' : Hp} {a : Addr} {xs : List V} (h : SqL K H a xs) (e : Ex H H') : (Ite K a).stop xs.length H' :=
  ⟨xs, e.l h, Nat.le_refl _⟩
theorem cut1 (xs : List V) : cutV xs (some 1) none = xs.drop 1 := by
  unfold cutV
  rw [show HT.sIx xs.length 0 (some 1) = min 1 xs.length from HT.sIx_nat xs.length 0 1, HT.sIx_none]
  cases xs with
  | nil => rfl
  | cons x r =>
    have e : min 1 (x :: r).length = 1 := by
      rw [List.length_cons]
      omega
    rw [e]
    show List.take ((x :: r).length - 1) r = r
    rw [List.length_cons, Nat.add_sub_cancel]
    exact List.take_length
end Nw
namespace Nw
open PySem PySem.Spec PyProof.Rows L2
/-- the inner loop of a comprehension of two clauses -/
abbrev LcI (J1 : It) (g1 : TG) (tt1 : TT) (te : TE) (vs1 : List Nat) (σ2 : L2.St) (D : Addr) (H4 : Hp) (Nx : Hp → Prop) : Prop :=
  ∃ W1 : Nat → Nat → Hp → Prop, (∃ m, W1 0 m H4) ∧ ∀ j k H, W1 j k H →
    (J1.stop j H ∧ Nx H) ∨ (J1.go j H ∧ ∃ Nx1 : Hp → Prop, (∀ H', Nx1 H' → ∃ k', k' < k ∧ W1 (j + 1) k' H') ∧
      ∀ x H', J1.yld j H x H' → g1 x (wipe σ2 vs1) H' fun σ3 H5 => wipe σ3 vs1 = wipe σ2 vs1 ∧ tt1 σ3 H5 fun b H6 =>
        if b = true then te σ3 H6 fun y H7 => ∃ acc, H7 D = some (.lst acc) ∧ acc.length < sizeLine ∧
          Nx1 (upd H7 D (.lst (acc ++ [y]))) else Nx1 H6)
theorem lci_by {J1 : It} {g1 : TG} {tt1 : TT} {te : TE} {vs1 : List Nat} {σ2 : L2.St} {D : Addr} {H4 : Hp} {Nx : Hp → Prop}
    (n : Nat) (Pv : Nat → Hp → Prop) (h0 : Pv 0 H4) (hgo : ∀ i H, i < n → Pv i H → J1.go i H) (hst : ∀ H, Pv n H → J1.stop n H)
    (hs : ∀ i H x H', i < n → Pv i H → J1.yld i H x H' → g1 x (wipe σ2 vs1) H' fun σ3 H5 => wipe σ3 vs1 = wipe σ2 vs1 ∧
      tt1 σ3 H5 fun b H6 => if b = true then te σ3 H6 fun y H7 => ∃ acc, H7 D = some (.lst acc) ∧ acc.length < sizeLine ∧
        Pv (i + 1) (upd H7 D (.lst (acc ++ [y]))) else Pv (i + 1) H6)
    (hd : ∀ H, Pv n H → Nx H) : LcI J1 g1 tt1 te vs1 σ2 D H4 Nx := by
  refine ⟨fun i m H => m = n - i ∧ i ≤ n ∧ Pv i H, ⟨n, by omega, Nat.zero_le _, h0⟩, ?_⟩
  rintro i m H ⟨rfl, hi, p⟩
  by_cases hlt : i < n
  · refine .inr ⟨hgo i H hlt p, Pv (i + 1), fun H' p' => ⟨n - (i + 1), by omega, rfl, hlt, p'⟩, ?_⟩
    intro x H' y
    exact hs i H x H' hlt p y
  · have e : i = n := by omega
    subst e
    exact .inl ⟨hst H p, hd H p⟩
theorem lc2_by {J : It} {g : TG} {tt : TT} {wi1 : TI} {g1 : TG} {tt1 : TT} {te : TE} {vs vs1 : List Nat} {σ : L2.St} {D : Addr} {H1 : Hp} {Qd : Hp → Prop}
    (n : Nat) (Pv : Nat → Hp → Prop) (h0 : Pv 0 (upd H1 D (.lst [])))
    (hgo : ∀ i H, i < n → Pv i H → J.go i H) (hst : ∀ H, Pv n H → J.stop n H)
    (hs : ∀ i H x H', i < n → Pv i H → J.yld i H x H' → g x (wipe σ vs) H' fun σ2 H2 => wipe σ2 vs = wipe σ vs ∧
      tt σ2 H2 fun b H3 => if b = true then wi1 σ2 H3 fun J1 H4 => LcI J1 g1 tt1 te vs1 σ2 D H4 (Pv (i + 1)) else Pv (i + 1) H3)
    (hd : ∀ H, Pv n H → Qd H) :
    ∃ W : Nat → Nat → Hp → Prop, (∃ m, W 0 m (upd H1 D (.lst []))) ∧ ∀ i m H, W i m H →
      (J.stop i H ∧ Qd H) ∨ (J.go i H ∧ ∃ Nx : Hp → Prop, (∀ H', Nx H' → ∃ m', m' < m ∧ W (i + 1) m' H') ∧ ∀ x H', J.yld i H x H' →
        g x (wipe σ vs) H' fun σ2 H2 => wipe σ2 vs = wipe σ vs ∧ tt σ2 H2 fun b H3 =>
          if b = true then wi1 σ2 H3 fun J1 H4 => LcI J1 g1 tt1 te vs1 σ2 D H4 Nx else Nx H3) := by
  refine ⟨fun i m H => m = n - i ∧ i ≤ n ∧ Pv i H, ⟨n, by omega, Nat.zero_le _, h0⟩, ?_⟩
  rintro i m H ⟨rfl, hi, p⟩
  by_cases hlt : i < n
  · refine .inr ⟨hgo i H hlt p, Pv (i + 1), fun H' p' => ⟨n - (i + 1), by omega, rfl, hlt, p'⟩, ?_⟩
    intro x H' y
    exact hs i H x H' hlt p y
  · have e : i = n := by omega
    subst e
    exact .inl ⟨hst H p, hd H p⟩
end Nw
/-! Rules told over the written part by its own name, so that a comprehension's block may use them. -/
namespace Nw
open PySem PySem.Spec PyProof.Rows L2
section
variable {X : Cx} {K : PySem.W.Frag}
theorem op_eqDk (K : PySem.W.Frag) (hu : X.A.units + 64 < cLine) (hK : X.K = K := by rfl) : OpR X (compareOp .Eq) (rEqD K) := by
  subst hK
  exact op_eqD hu
theorem op_neDk (K : PySem.W.Frag) (hu : X.A.units + 64 < cLine) (hK : X.K = K := by rfl) : OpR X (compareOp .NotEq) (rNeD K) := by
  subst hK
  exact op_neD hu
theorem op_inK (K : PySem.W.Frag) (hK : X.K = K := by rfl) : OpR X (compareOp .In) (rIn K false) := by
  subst hK
  exact op_in_seq
theorem op_notInK (K : PySem.W.Frag) (hK : X.K = K := by rfl) : OpR X (compareOp .NotIn) (rIn K true) := by
  subst hK
  exact op_notIn_seq
theorem op_inDk (K : PySem.W.Frag) {k : Nat} (hr : Room k X.A) (hK : X.K = K := by rfl) : OpR X (compareOp .In) (rInD K) := by
  subst hK
  exact op_inD (by have := hr.un; omega)
theorem op_notInDk (K : PySem.W.Frag) {k : Nat} (hr : Room k X.A) (hK : X.K = K := by rfl) : OpR X (compareOp .NotIn) (rNotInD K) := by
  subst hK
  exact op_notInD (by have := hr.un; omega)
/-- < of ints, of tuples of ints -/
def rLtA (K : PySem.W.Frag) : R2 := fun x y H Q => (∃ i j, x = .int i ∧ y = .int j ∧ Q (.bl (decide (i < j))) H) ∨ rLtT K x y H Q
theorem op_ltA (K : PySem.W.Frag) (hu : X.A.units < cLine) (hK : X.K = K := by rfl) : OpR X (compareOp .Lt) (rLtA K) := by
  subst hK
  intro pins s σ H x y v u Q I rx ry q
  rcases q with q | q
  · exact op_lt pins s σ H x y v u Q I rx ry q
  · exact op_ltT hu pins s σ H x y v u Q I rx ry q
theorem op_catTk (K : PySem.W.Frag) (hK : X.K = K := by rfl) : OpR X (binaryOp .Add) (rCatT K) := by
  subst hK
  exact op_catT
theorem ix_listK (K : PySem.W.Frag) (hK : X.K = K := by rfl) : IxR X (rIxL K) := by
  subst hK
  exact ix_list
theorem ix_tupK (K : PySem.W.Frag) (hK : X.K = K := by rfl) : IxR X (rIxT K) := by
  subst hK
  exact ix_tup
theorem ix_seqK (K : PySem.W.Frag) (hK : X.K = K := by rfl) : IxR X (rIx K) := by
  subst hK
  exact ix_seq
theorem sl_listK (K : PySem.W.Frag) (hK : X.K = K := by rfl) : SlR X (rSlL K) := by
  subst hK
  exact sl_list
theorem sl_tupK (K : PySem.W.Frag) (hK : X.K = K := by rfl) : SlR X (rSlT K) := by
  subst hK
  exact sl_tup
def rLenQ (K : PySem.W.Frag) : List V → Hp → VK → Prop := fun xs H Q => ∃ p ys, xs = [.ref p] ∧ (SqL K H p ys ∨ SqT K H p ys) ∧ Q (.int ys.length) H
theorem call_lenK (K : PySem.W.Frag) (hK : X.K = K := by rfl) : CallR X (.builtin "len") (rLenQ K) := by
  subst hK
  exact call_len_seq
def rListQ (K : PySem.W.Frag) : List V → Hp → VK → Prop := fun xs H Q => ∃ p ys, xs = [.ref p] ∧ (SqL K H p ys ∨ SqT K H p ys) ∧ ∀ l, H l = none → Q (.ref l) (upd H l (.lst ys))
theorem call_listK (K : PySem.W.Frag) (hK : X.K = K := by rfl) : CallR X (.type "list") (rListQ K) := by
  subst hK
  exact call_list_of
theorem call_reprK (K : PySem.W.Frag) {k : Nat} (hq : Quiet X.A) (hr : Room k X.A) (hK : X.K = K := by rfl) : CallR X (.builtin "repr") (rReprD K) := by
  subst hK
  exact call_reprD hq hr
theorem call_isiK (K : PySem.W.Frag) (hK : X.K = K := by rfl) : CallR X (.builtin "isinstance") (rIsi K) := by
  subst hK
  exact call_isi
theorem cr_allK (K : PySem.W.Frag) (hc : X.calm = true) (hK : X.K = K := by rfl) : CallR X (.builtin "all") (rAll K) := by
  subst hK
  exact cr_all hc
theorem cr_anyK (K : PySem.W.Frag) (hc : X.calm = true) (hK : X.K = K := by rfl) : CallR X (.builtin "any") (rAny K) := by
  subst hK
  exact cr_any hc
theorem cr_sumK (K : PySem.W.Frag) (hc : X.calm = true) (hK : X.K = K := by rfl) : CallR X (.builtin "sum") (rSum K) := by
  subst hK
  exact cr_sum hc
theorem cr_maxK (K : PySem.W.Frag) (hc : X.calm = true) (hK : X.K = K := by rfl) : CallR X (.builtin "max") (rMax K) := by
  subst hK
  exact cr_max hc
theorem cr_minK' (K : PySem.W.Frag) (hc : X.calm = true) (hK : X.K = K := by rfl) : CallR X (.builtin "min") (rMin K) := by
  subst hK
  exact cr_min hc
theorem cr_sortedIk (K : PySem.W.Frag) (hK : X.K = K := by rfl) : CallR X (.builtin "sorted") (rSortedI K) := by
  subst hK
  exact cr_sortedI
theorem cr_sortedPOk (K : PySem.W.Frag) (hK : X.K = K := by rfl) : CallR X (.builtin "sorted") (rSortedPO K) := by
  subst hK
  exact cr_sortedPO
theorem pi_listK (K : PySem.W.Frag) {tg l : Expr} {tl : TE} (hl : PE X l tl) (hK : X.K = K := by rfl) : PI X tg l (iList K tl) := by
  subst hK
  exact pi_list hl
theorem pi_tupK (K : PySem.W.Frag) {tg l : Expr} {tl : TE} (hl : PE X l tl) (hK : X.K = K := by rfl) : PI X tg l (iTup K tl) := by
  subst hK
  exact pi_tup hl
theorem pg_tupK (K : PySem.W.Frag) {es : List Expr} {k : Nat} {pos : Pos} {t : TGs} {n : Nat} (hc : X.calm = true) (h : PGs X es t)
    (hn : (assignEach es X.env).length = n := by rfl)
    (hst : (assignEach es X.env).findIdx? (·.1) = none := by rfl) (hK : X.K = K := by rfl) : PG X (.Tuple es k pos) (gTup K n t) := by
  subst hK
  exact pg_tup hc h hn hst
end
end Nw
namespace Nw
open PySem PySem.Spec PyProof.Rows L2
theorem mil {n : Nat} (h : n ≤ 1000000) : n ≤ sizeLine := by
  rw [sizeLine_eq]
  omega
theorem mil' {n : Nat} (h : n < 1000000) : n < sizeLine := by
  rw [sizeLine_eq]
  omega
/-- xs + ys, lists that are read -/
def rCatS (K : PySem.W.Frag) : R2 := fun x y H Q => ∃ l b xs zs, x = .ref l ∧ y = .ref b ∧ SqL K H l xs ∧ SqL K H b zs ∧
  xs.length + zs.length ≤ 1000000 ∧ ∀ p, H p = none → Q (.ref p) (upd H p (.lst (xs ++ zs)))
theorem op_catS {X : Cx} (K : PySem.W.Frag) (hK : X.K = K := by rfl) : OpR X (binaryOp .Add) (rCatS K) := by
  subst hK
  intro pins s σ H x y v u Q I rx ry h
  obtain ⟨l, b, xs, zs, rfl, rfl, hH, hB, hz, q⟩ := h
  cases rx
  cases ry
  obtain ⟨its, r, ⟨⟨cls, dd, data, sl⟩, n, e, hc, hd0, hd⟩, _⟩ := I.list hH
  obtain ⟨its2, r2, ⟨⟨cls2, dd2, data2, sl2⟩, n2, e2, hc2, hd02, hd2⟩, _⟩ := I.list hB
  simp only at hc hd hc2 hd2
  subst hc hd hc2 hd2
  have l1 := r.length
  have l2 := r2.length
  have z : xs.length + zs.length ≤ sizeLine := mil hz
  refine concat_meets ⟨_, e, rfl⟩ ⟨_, e2, rfl⟩ noFill_list_add seq_list_add PySem.F.slot_list_add PySem.F.entry_list_add
    (PySem.F.args_list_add_2 _ _) (list_addW l b its.toArray its2.toArray n n2 dd dd2 sl sl2 (by simp only [List.size_toArray]; omega)) ⟨e, e2, ?_⟩
  have ea : its.toArray ++ its2.toArray = (its ++ its2).toArray := by simp
  rw [ea]
  exact ⟨.ref _, _, I.lnew (t' := s.toks) (r.append r2) (by rw [List.length_append]; omega), rfl, q _ I.fresh⟩
end Nw
/-! What the package's looks at values answer, on data. -/
namespace Nw
open PySem PySem.Spec PyProof.Rows L2

def isInt : PyData → Bool
  | .int _ => true
  | _ => false
theorem isInt_eq (d : PyData) : (isA "int" d && !isA "bool" d) = isInt d := by
  cases d <;> first | rfl | decide +kernel
/-- an int from 0 to m - 1 -/
def numB : PyData → Int → Bool
  | .int i, m => decide (0 ≤ i) && decide (i < m)
  | _, _ => false
def tupB : PyData → Int → Int → Bool
  | .tuple [a, b], m, n => numB a m && numB b n
  | _, _, _ => false
def listB : PyData → Int → Bool
  | .list ds, m => ds.all fun d => numB d m
  | _, _ => false
/-- ascending, by an order on the items -/
def ascB {α : Type} (lt : α → α → Bool) : List α → Bool
  | x :: y :: r => lt x y && ascB lt (y :: r)
  | _ => true
def ltIn (x y : Int) : Bool := decide (x < y)
def ltPr (x y : Int × Int) : Bool := HT.lexLt [x.1, x.2] [y.1, y.2]
def dPair (p : Int × Int) : PyData := .tuple [.int p.1, .int p.2]
/-- the ints of a list of ints, the pairs of a list of pairs -/
def intsOf : List PyData → Option (List Int)
  | [] => some []
  | .int i :: r => (intsOf r).map (i :: ·)
  | _ => none
def pairsOf : List PyData → Option (List (Int × Int))
  | [] => some []
  | .tuple [.int i, .int j] :: r => (pairsOf r).map ((i, j) :: ·)
  | _ => none
theorem intsOf_map : ∀ ns : List Int, intsOf (ns.map PyData.int) = some ns
  | [] => rfl
  | n :: ns => by
    simp only [List.map_cons, intsOf, intsOf_map ns, Option.map_some]
theorem pairsOf_map : ∀ ps : List (Int × Int), pairsOf (ps.map dPair) = some ps
  | [] => rfl
  | (a, b) :: ps => by
    simp only [List.map_cons, dPair, pairsOf, pairsOf_map ps, Option.map_some]
theorem ints_of_all {m : Int} : ∀ {ds : List PyData}, (ds.all fun d => numB d m) = true → ∃ ns : List Int, ds = ns.map PyData.int ∧ ∀ n ∈ ns, 0 ≤ n ∧ n < m
  | [], _ => ⟨[], rfl, fun _ h => nomatch h⟩
  | d :: ds, h => by
    simp only [List.all_cons, Bool.and_eq_true] at h
    obtain ⟨ns, rfl, hn⟩ := ints_of_all h.2
    cases d with
    | int i =>
      have h1 := h.1
      simp only [numB, Bool.and_eq_true, decide_eq_true_eq] at h1
      refine ⟨i :: ns, rfl, ?_⟩
      intro n hm
      rcases List.mem_cons.mp hm with rfl | hm
      · exact h1
      · exact hn n hm
    | _ =>
      have h1 := h.1
      simp [numB] at h1
theorem numB_inv {d : PyData} {m : Int} (h : numB d m = true) : ∃ i, d = .int i ∧ 0 ≤ i ∧ i < m := by
  cases d with
  | int i =>
    simp only [numB, Bool.and_eq_true, decide_eq_true_eq] at h
    exact ⟨i, rfl, h⟩
  | _ => simp [numB] at h
theorem tupB_inv {d : PyData} {m k : Int} (h : tupB d m k = true) : ∃ i j, d = dPair (i, j) ∧ (0 ≤ i ∧ i < m) ∧ (0 ≤ j ∧ j < k) := by
  match d, h with
  | .tuple [a, b], h =>
    simp only [tupB, Bool.and_eq_true] at h
    obtain ⟨i, rfl, hi⟩ := numB_inv h.1
    obtain ⟨j, rfl, hj⟩ := numB_inv h.2
    exact ⟨i, j, rfl, hi, hj⟩
theorem pairs_of_all {m k : Int} : ∀ {ds : List PyData}, (ds.all fun d => tupB d m k) = true →
    ∃ ps : List (Int × Int), ds = ps.map dPair ∧ ∀ p ∈ ps, (0 ≤ p.1 ∧ p.1 < m) ∧ (0 ≤ p.2 ∧ p.2 < k)
  | [], _ => ⟨[], rfl, fun _ h => nomatch h⟩
  | d :: ds, h => by
    simp only [List.all_cons, Bool.and_eq_true] at h
    obtain ⟨ps, rfl, hn⟩ := pairs_of_all h.2
    obtain ⟨i, j, rfl, hi, hj⟩ := tupB_inv h.1
    refine ⟨(i, j) :: ps, rfl, ?_⟩
    intro p hp
    rcases List.mem_cons.mp hp with rfl | hp
    · exact ⟨hi, hj⟩
    · exact hn p hp
def tuplesB : PyData → Int → Int → Bool
  | .list ds, m, n => (ds.all fun d => tupB d m n) && (match pairsOf ds with | some ps => ascB ltPr ps | none => false)
  | _, _, _ => false
def targetsB : PyData → Int → Bool
  | .list ds, m => (ds.all fun d => numB d m) && (decide (0 < ds.length) && (match intsOf ds with | some ns => ascB ltIn ns | none => false))
  | _, _ => false
def nudgesB : PyData → Int → Bool
  | .list ds, m => decide (ds.length ≤ 8) && ds.all fun d => targetsB d m
  | _, _ => false
def webB : PyData → Bool
  | .tuple [.int n, ps, ns] => (decide (1 ≤ n) && decide (n ≤ 20)) && (tuplesB ps n n && nudgesB ns n)
  | _ => false
/-- ascending, turn by turn -/
def ascAt {α : Type} (lt : α → α → Bool) (xs : List α) (i : Nat) : Bool :=
  match xs[i]?, xs[i + 1]? with
  | some x, some y => lt x y
  | _, _ => true
theorem ascB_range {α : Type} (lt : α → α → Bool) : ∀ xs : List α, ((List.range (xs.length - 1)).map fun i => ascAt lt xs i).all id = ascB lt xs
  | [] => rfl
  | [x] => rfl
  | x :: y :: r => by
    have ih := ascB_range lt (y :: r)
    have e : (x :: y :: r).length - 1 = ((y :: r).length - 1) + 1 := by
      simp only [List.length_cons]
      omega
    rw [e, List.range_succ_eq_map, List.map_cons, List.all_cons, List.map_map]
    show (lt x y && _) = (lt x y && ascB lt (y :: r))
    rw [← ih]
    rfl
theorem all_range_get {α : Type} (p : α → Bool) (d : α) : ∀ xs : List α, ((List.range xs.length).map fun i => p (xs.getD i d)).all id = xs.all p
  | [] => rfl
  | x :: xs => by
    rw [List.length_cons, List.range_succ_eq_map, List.map_cons, List.all_cons, List.map_map, List.all_cons]
    show (p x && _) = (p x && xs.all p)
    rw [← all_range_get p d xs]
    rfl
theorem given_bl {n : Nat} {f : Nat → Bool} : ((List.range n).map fun i => V.bl (f i)) = ((List.range n).map f).map V.bl := by
  rw [List.map_map]
  rfl
end Nw
namespace Nw
section
variable {K : PySem.W.Frag}
theorem isa_int (d : PySem.PyData) : PySem.W.kitOne K (.type (tyName d)) (.type "int") = some (isA "int" d) := isA_ok "int" (by simp) d
theorem isa_bool (d : PySem.PyData) : PySem.W.kitOne K (.type (tyName d)) (.type "bool") = some (isA "bool" d) := isA_ok "bool" (by simp) d
theorem isa_list (d : PySem.PyData) : PySem.W.kitOne K (.type (tyName d)) (.type "list") = some (isA "list" d) := isA_ok "list" (by simp) d
theorem isa_tuple (d : PySem.PyData) : PySem.W.kitOne K (.type (tyName d)) (.type "tuple") = some (isA "tuple" d) := isA_ok "tuple" (by simp) d
theorem isa_str (d : PySem.PyData) : PySem.W.kitOne K (.type (tyName d)) (.type "str") = some (isA "str" d) := isA_ok "str" (by simp) d
end
end Nw
namespace Nw
open PySem PySem.Spec PyProof.Rows L2
theorem map_at {α β : Type} {f : α → β} {l : List α} {i : Nat} {y : β} (h : (l.map f)[i]? = some y) : ∃ x, l[i]? = some x ∧ y = f x := by
  rw [List.getElem?_map] at h
  cases e : l[i]? with
  | none =>
    rw [e] at h
    cases h
  | some x =>
    rw [e] at h
    exact ⟨x, rfl, (Option.some.inj h).symm⟩
theorem drop1_at {α : Type} {l : List α} {i : Nat} {y : α} (h : (l.drop 1)[i]? = some y) : l[i + 1]? = some y := by
  rw [List.getElem?_drop, Nat.add_comm] at h
  exact h
theorem min_drop1 {α : Type} (l : List α) : min l.length (l.drop 1).length = l.length - 1 := by
  rw [List.length_drop]
  omega
/-- the pairs that a list of tuples of two ints holds -/
theorem pairs_at {K : PySem.W.Frag} {H : Hp} {ps : List (Int × Int)} {xs : List V} {i : Nat} {x : V} (h : DaAll K H (ps.map dPair) xs) (hx : xs[i]? = some x) :
    ∃ p, ps[i]? = some p ∧ ∃ a, x = .ref a ∧ SqT K H a [.int p.1, .int p.2] := by
  obtain ⟨d, hd, hdx⟩ := h.at' hx
  obtain ⟨p, hp, rfl⟩ := map_at hd
  obtain ⟨a, ys, rfl, hS, z1, r1, rfl, e1, z2, r2, rfl, e2, rfl⟩ := hdx
  obtain rfl := e1
  obtain rfl := e2
  exact ⟨p, hp, a, rfl, .inl (.inl hS)⟩
end Nw
namespace Nw
open PySem PySem.Spec PyProof.Rows L2
end Nw
/-! Webs as numbers. -/
namespace Nw
open PySem PySem.Spec PyProof.Rows L2
structure Wb where
  n : Int
  ps : List (Int × Int)
  ns : List (List Int)
  deriving DecidableEq
def dInts (r : List Int) : PyData := .list (r.map PyData.int)
def dPairs (ps : List (Int × Int)) : PyData := .list (ps.map dPair)
def dRows (ns : List (List Int)) : PyData := .list (ns.map dInts)
def Wb.d (w : Wb) : PyData := .tuple [.int w.n, dPairs w.ps, dRows w.ns]
structure Wb.Ok (w : Wb) : Prop where
  lo : 1 ≤ w.n
  hi : w.n ≤ 20
  ps : ∀ p ∈ w.ps, (0 ≤ p.1 ∧ p.1 < w.n) ∧ (0 ≤ p.2 ∧ p.2 < w.n)
  asc : ascB ltPr w.ps = true
  few : w.ns.length ≤ 8
  ns : ∀ r ∈ w.ns, r ≠ [] ∧ (∀ t ∈ r, 0 ≤ t ∧ t < w.n) ∧ ascB ltIn r = true
theorem targetsB_of {r : List Int} {m : Int} (h0 : r ≠ []) (h1 : ∀ t ∈ r, 0 ≤ t ∧ t < m) (h2 : ascB ltIn r = true) : targetsB (dInts r) m = true := by
  unfold dInts targetsB
  simp only [intsOf_map, h2, Bool.and_true, Bool.and_eq_true, decide_eq_true_eq, List.length_map]
  refine ⟨?_, List.length_pos_iff.mpr h0⟩
  simp only [List.all_map, List.all_eq_true]
  intro t ht
  have := h1 t ht
  simp [numB, this.1, this.2]
theorem tuplesB_of {ps : List (Int × Int)} {m n : Int} (h1 : ∀ p ∈ ps, (0 ≤ p.1 ∧ p.1 < m) ∧ (0 ≤ p.2 ∧ p.2 < n)) (h2 : ascB ltPr ps = true) : tuplesB (dPairs ps) m n = true := by
  unfold dPairs tuplesB
  simp only [pairsOf_map, h2, Bool.and_true]
  simp only [List.all_map, List.all_eq_true]
  intro p hp
  obtain ⟨⟨a, b⟩, c, d⟩ := h1 p hp
  simp [dPair, tupB, numB, a, b, c, d]
theorem Wb.Ok.web {w : Wb} (h : w.Ok) : webB w.d = true := by
  unfold Wb.d webB
  have h1 := h.lo
  have h2 := h.hi
  have h3 := tuplesB_of h.ps h.asc
  have h4 : nudgesB (dRows w.ns) w.n = true := by
    unfold dRows nudgesB
    simp only [List.length_map, h.few, decide_true, Bool.true_and]
    simp only [List.all_map, List.all_eq_true]
    intro r hr
    obtain ⟨a, b, c⟩ := h.ns r hr
    exact targetsB_of a b c
  simp [h1, h2, h3, h4]
/-- how long ascending rows of small numbers may be -/
theorem asc_len {m : Int} : ∀ (r : List Int) (lo : Int), (∀ t ∈ r, lo ≤ t ∧ t < m) → ascB ltIn r = true → (r.length : Int) ≤ max 0 (m - lo)
  | [], lo, _, _ => by
    simp only [List.length_nil]
    omega
  | [x], lo, h, _ => by
    have := h x (by simp)
    simp only [List.length_singleton]
    omega
  | x :: y :: r, lo, h, ha => by
    simp only [ascB, Bool.and_eq_true, ltIn, decide_eq_true_eq] at ha
    have hx := h x (by simp)
    have hy := h y (by simp)
    have key : ∀ (l : List Int) (a : Int), ascB ltIn (a :: l) = true → ∀ t ∈ l, a + 1 ≤ t := by
      intro l
      induction l with
      | nil =>
        intro a _ t ht
        cases ht
      | cons b l ih =>
        intro a hab t ht
        simp only [ascB, Bool.and_eq_true, ltIn, decide_eq_true_eq] at hab
        rcases List.mem_cons.mp ht with rfl | ht
        · omega
        · have := ih b hab.2 t ht
          omega
    have h' : ∀ t ∈ y :: r, x + 1 ≤ t ∧ t < m := by
      intro t ht
      refine ⟨?_, (h t (List.mem_cons_of_mem _ ht)).2⟩
      exact key (y :: r) x (by simp only [ascB, Bool.and_eq_true, ltIn, decide_eq_true_eq]; exact ha) t ht
    have ih := asc_len (y :: r) (x + 1) h' ha.2
    simp only [List.length_cons] at ih ⊢
    omega
theorem Wb.Ok.row {w : Wb} (h : w.Ok) {r : List Int} (hr : r ∈ w.ns) : r.length ≤ 20 := by
  obtain ⟨_, b, c⟩ := h.ns r hr
  have := asc_len r 0 b c
  have := h.hi
  have := h.lo
  omega
/-- the lines of a web -/
def pushedAt (n : Int) (i : Nat) (r : List Int) : List (Int × Int) := r.map fun t => (n + (i : Int), t)
def pushedFrom (n : Int) : Nat → List (List Int) → List (Int × Int)
  | _, [] => []
  | i, r :: rs => pushedAt n i r ++ pushedFrom n (i + 1) rs
def Wb.lines (w : Wb) : List (Int × Int) := w.ps ++ pushedFrom w.n 0 w.ns
theorem pushedFrom_take (n : Int) : ∀ (rs : List (List Int)) (i k : Nat) (r : List Int), rs[k]? = some r →
    pushedFrom n i (rs.take (k + 1)) = pushedFrom n i (rs.take k) ++ pushedAt n (i + k) r
  | [], _, _, _, h => by simp at h
  | a :: rs, i, 0, r, h => by
    obtain rfl : a = r := by simpa using h
    simp [pushedFrom]
  | a :: rs, i, k + 1, r, h => by
    have ih := pushedFrom_take n rs (i + 1) k r (by simpa using h)
    simp only [List.take_succ_cons, pushedFrom]
    rw [ih, List.append_assoc, show i + 1 + k = i + (k + 1) by omega]
theorem take_all {α : Type} (l : List α) : l.take l.length = l := List.take_length
end Nw
namespace Nw
open PySem PySem.Spec PyProof.Rows L2
theorem ltPr_iff {p q : Int × Int} : ltPr p q = true ↔ p.1 < q.1 ∨ (p.1 = q.1 ∧ p.2 < q.2) := by
  unfold ltPr
  rw [HT.lexLt_cons]
  by_cases h : p.1 = q.1
  · rw [if_pos h, HT.lexLt_cons]
    by_cases h2 : p.2 = q.2
    · rw [if_pos h2, HT.lexLt_nil_nil]
      constructor
      · intro e
        cases e
      · intro e
        omega
    · rw [if_neg h2, decide_eq_true_eq]
      omega
  · rw [if_neg h, decide_eq_true_eq]
    omega
theorem asc_code : ∀ {ps : List (Int × Int)}, (∀ p ∈ ps, 0 ≤ p.2 ∧ p.2 < 64) → ascB ltPr ps = true → ascB ltIn (ps.map fun p => 64 * p.1 + p.2) = true
  | [], _, _ => rfl
  | [_], _, _ => rfl
  | p :: q :: r, h, ha => by
    simp only [ascB, Bool.and_eq_true] at ha
    have hp := h p (by simp)
    have hq := h q (by simp)
    have h1 := ltPr_iff.mp ha.1
    have ih := asc_code (ps := q :: r) (fun z hz => h z (List.mem_cons_of_mem _ hz)) ha.2
    simp only [List.map_cons, ascB, Bool.and_eq_true, ltIn, decide_eq_true_eq] at ih ⊢
    exact ⟨by omega, ih⟩
theorem Wb.Ok.len {w : Wb} (h : w.Ok) : w.ps.length ≤ 1300 := by
  have h1 := asc_code (ps := w.ps) (fun p hp => by have := h.ps p hp; have := h.hi; omega) h.asc
  have h2 := asc_len _ 0 (m := 1300) (by
    intro t ht
    obtain ⟨p, hp, rfl⟩ := List.mem_map.mp ht
    have := h.ps p hp
    have := h.hi
    omega) h1
  rw [List.length_map] at h2
  omega
theorem pushed_len (n : Int) : ∀ (rs : List (List Int)) (i : Nat), (∀ r ∈ rs, r.length ≤ 20) → (pushedFrom n i rs).length ≤ 20 * rs.length
  | [], _, _ => by simp [pushedFrom]
  | r :: rs, i, h => by
    have h1 := h r (by simp)
    have h2 := pushed_len n rs (i + 1) (fun z hz => h z (List.mem_cons_of_mem _ hz))
    simp only [pushedFrom, pushedAt, List.length_append, List.length_map, List.length_cons]
    omega
theorem Wb.Ok.lines_len {w : Wb} (h : w.Ok) : w.lines.length ≤ 1500 := by
  have h1 := h.len
  have h2 := pushed_len w.n w.ns 0 (fun r hr => h.row hr)
  have h3 := h.few
  unfold Wb.lines
  rw [List.length_append]
  omega
/-- a web as it stands -/
theorem Wb.at {K : PySem.W.Frag} {H : Hp} {w : Wb} {v : V} (h : Da K H w.d v) : ∃ t x2 x3, v = .ref t ∧ SqT K H t [.int w.n, x2, x3] ∧ Da K H (dPairs w.ps) x2 ∧ Da K H (dRows w.ns) x3 := by
  obtain ⟨t, xs, rfl, hS, x1, r1, rfl, g1, x2, r2, rfl, g2, x3, r3, rfl, g3, rfl⟩ := h
  obtain rfl := g1
  exact ⟨t, x2, x3, rfl, .inl (.inl hS), g2, g3⟩
theorem dInts_at {K : PySem.W.Frag} {H : Hp} {r : List Int} {v : V} (h : Da K H (dInts r) v) : ∃ a, v = .ref a ∧ SqL K H a (r.map V.int) := by
  obtain ⟨a, xs, rfl, hS, hA, _⟩ := h
  obtain rfl := DaAll.ints.mp hA
  exact ⟨a, rfl, .inl (.inl hS)⟩
theorem dInts_of {K : PySem.W.Frag} {H : Hp} {r : List Int} {a : Addr} (h : H a = some (.lst (r.map V.int))) (hz : r.length ≤ 100000) : Da K H (dInts r) (.ref a) :=
  ⟨a, _, rfl, h, DaAll.ints.mpr rfl, by rw [List.length_map]; exact hz⟩
theorem dPair_of {K : PySem.W.Frag} {H : Hp} {p : Int × Int} {a : Addr} (h : H a = some (.tup [.int p.1, .int p.2])) : Da K H (dPair p) (.ref a) :=
  ⟨a, _, rfl, h, _, _, rfl, rfl, _, _, rfl, rfl, rfl⟩
end Nw
namespace Nw
open PySem PySem.Spec PyProof.Rows L2
theorem ExD.t {K : PySem.W.Frag} {D : Addr} {H H' : Hp} {a : Addr} {xs : List V} (e : ExD D H H') (n : a ≠ D) (h : SqT K H a xs) : SqT K H' a xs := by
  rcases h with (h | ⟨o, h⟩) | h
  · exact .inl (.inl (e a _ n h))
  · exact .inl (.inr ⟨o, e a _ n h⟩)
  · exact .inr h
theorem ExD.l {K : PySem.W.Frag} {D : Addr} {H H' : Hp} {a : Addr} {xs : List V} (e : ExD D H H') (n : a ≠ D) (h : SqL K H a xs) : SqL K H' a xs := by
  rcases h with (h | ⟨o, h⟩) | h
  · exact .inl (.inl (e a _ n h))
  · exact .inl (.inr ⟨o, e a _ n h⟩)
  · exact .inr h
/-- items that do not stand at D -/
abbrev OffD (D : Addr) (xs : List V) : Prop := ∀ x ∈ xs, ∃ b, x = .ref b ∧ b ≠ D
theorem OffD.nil {D : Addr} : OffD D [] := fun x h => by cases h
theorem OffD.snoc {D : Addr} {xs : List V} {b : Addr} (h : OffD D xs) (n : b ≠ D) : OffD D (xs ++ [.ref b]) := by
  intro x hx
  rcases List.mem_append.mp hx with hx | hx
  · exact h x hx
  · obtain rfl := List.mem_singleton.mp hx
    exact ⟨b, rfl, n⟩
theorem pairs_keep {K : PySem.W.Frag} {D : Addr} {H H' : Hp} (e : ExD D H H') : ∀ {L : List (Int × Int)} {acc : List V}, DaAll K H (L.map dPair) acc → OffD D acc → DaAll K H' (L.map dPair) acc
  | [], _, h, _ => h
  | p :: L, acc, h, o => by
    obtain ⟨x, xs, rfl, ⟨a, ys, rfl, hS, z1, r1, rfl, e1, z2, r2, rfl, e2, rfl⟩, h2⟩ := h
    obtain rfl := e1
    obtain rfl := e2
    obtain ⟨b, eb, nb⟩ := o (.ref a) (by simp)
    cases eb
    exact ⟨_, _, rfl, dPair_of (e _ _ nb hS), pairs_keep e h2 fun x hx => o x (List.mem_cons_of_mem _ hx)⟩
end Nw
namespace Nw
open PySem PySem.Spec PyProof.Rows L2
theorem pushed_ok {n : Int} {m : Int} : ∀ {rs : List (List Int)} {i : Nat}, (∀ r ∈ rs, ∀ t ∈ r, 0 ≤ t ∧ t < m) → ∀ l ∈ pushedFrom n i rs,
    (n + (i : Int) ≤ l.1 ∧ l.1 < n + (i : Int) + (rs.length : Int)) ∧ (0 ≤ l.2 ∧ l.2 < m)
  | [], _, _, l, hl => by cases hl
  | r :: rs, i, h, l, hl => by
    simp only [pushedFrom, List.mem_append] at hl
    simp only [List.length_cons]
    rcases hl with hl | hl
    · obtain ⟨t, ht, rfl⟩ := List.mem_map.mp hl
      have := h r (by simp) t ht
      exact ⟨⟨by simp, by simp; omega⟩, this⟩
    · have := pushed_ok (i := i + 1) (fun z hz => h z (List.mem_cons_of_mem _ hz)) l hl
      refine ⟨⟨by omega, by omega⟩, this.2⟩
theorem Wb.Ok.line {w : Wb} (h : w.Ok) : ∀ l ∈ w.lines, (0 ≤ l.1 ∧ l.1 < w.n + (w.ns.length : Int)) ∧ (0 ≤ l.2 ∧ l.2 < w.n) := by
  intro l hl
  have h1 := h.lo
  rcases List.mem_append.mp hl with hl | hl
  · have := h.ps l hl
    refine ⟨⟨this.1.1, by omega⟩, this.2⟩
  · have := pushed_ok (fun r hr => (h.ns r hr).2.1) l hl
    refine ⟨⟨by omega, by omega⟩, this.2⟩
/-- the targets that a list of lines gives a source -/
def rowOf (ls : List (Int × Int)) (s : Int) : List Int := (ls.filter fun l => l.1 == s).map (·.2)
theorem rowOf_nil (s : Int) : rowOf [] s = [] := rfl
theorem rowOf_app (a b : List (Int × Int)) (s : Int) : rowOf (a ++ b) s = rowOf a s ++ rowOf b s := by
  unfold rowOf
  rw [List.filter_append, List.map_append]
theorem rowOf_one (p : Int × Int) (s : Int) : rowOf [p] s = if p.1 = s then [p.2] else [] := by
  unfold rowOf
  by_cases h : p.1 = s
  · rw [if_pos h, List.filter_cons, if_pos (by simpa using h)]
    rfl
  · rw [if_neg h, List.filter_cons, if_neg (by simpa using h)]
    rfl
theorem rowOf_len (ls : List (Int × Int)) (s : Int) : (rowOf ls s).length ≤ ls.length := by
  unfold rowOf
  rw [List.length_map]
  exact List.length_filter_le _ _
theorem nodup_snoc {α : Type} {l : List α} {b : α} (h : l.Nodup) (n : b ∉ l) : (l ++ [b]).Nodup := by
  rw [List.nodup_append]
  refine ⟨h, by simp, ?_⟩
  intro a ha c hc e
  obtain rfl := List.mem_singleton.mp hc
  subst e
  exact n ha
theorem nodup_at {α : Type} {l : List α} (h : l.Nodup) {i j : Nat} {a b : α} (hi : l[i]? = some a) (hj : l[j]? = some b) (n : i ≠ j) : a ≠ b := by
  intro e
  subst e
  obtain ⟨h1, e1⟩ := List.getElem?_eq_some_iff.mp hi
  obtain ⟨h2, e2⟩ := List.getElem?_eq_some_iff.mp hj
  exact n ((List.getElem_inj h).mp (e1.trans e2.symm))
theorem atI_int {α : Type} {xs : List α} {s : Int} {v : α} (h0 : 0 ≤ s) (h : xs[s.toNat]? = some v) : atI xs s = some v := by
  have e := atI_nat h
  rw [Int.toNat_of_nonneg h0] at e
  exact e
theorem take_snoc {α : Type} {l : List α} {i : Nat} {x : α} (h : l[i]? = some x) : l.take (i + 1) = l.take i ++ [x] := by
  rw [List.take_add_one, h]
  rfl
end Nw
namespace Nw
open PySem PySem.Spec PyProof.Rows L2
/-- a tuple outlasts what is done to a list -/
theorem SqT.wr {K : PySem.W.Frag} {H : Hp} {b c : Addr} {xs ys : List V} {o : HO} (h : SqT K H b xs) (hc : H c = some (.lst ys)) : SqT K (upd H c o) b xs := by
  rcases h with (h | ⟨z, h⟩) | h
  · refine .inl (.inl ?_)
    rw [upd_ne (fun e => by rw [e, hc] at h; cases h)]
    exact h
  · refine .inl (.inr ⟨z, ?_⟩)
    rw [upd_ne (fun e => by rw [e, hc] at h; cases h)]
    exact h
  · exact .inr h
end Nw
namespace Nw
open PySem PySem.Spec PyProof.Rows L2
/-- the sources that a list of lines gives a quantity -/
def srcsOf (ls : List (Int × Int)) (t : Int) : List Int := (ls.filter fun l => l.2 == t).map (·.1)
theorem filter_range {α β : Type} (d : α) (p : α → Bool) (g : α → β) : ∀ ls : List α, ((List.range ls.length).filter fun i => p (ls.getD i d)).map (fun i => g (ls.getD i d)) = (ls.filter p).map g
  | [] => rfl
  | x :: ls => by
    have ih := filter_range d p g ls
    rw [List.length_cons, List.range_succ_eq_map, List.filter_cons, List.filter_map, List.filter_cons]
    have e : (fun i => p ((x :: ls).getD i d)) ∘ Nat.succ = fun i => p (ls.getD i d) := rfl
    rw [e]
    have e0 : (x :: ls).getD 0 d = x := rfl
    rw [e0]
    by_cases h : p x = true
    · rw [if_pos h, if_pos h, List.map_cons, List.map_cons, List.map_map, ← ih]
      rfl
    · rw [if_neg h, if_neg h, List.map_map, ← ih]
      rfl
theorem srcs_range (ls : List (Int × Int)) (z : Int) : ((List.range ls.length).filter fun i => (ls.getD i (0, 0)).2 == z).map (fun i => V.int (ls.getD i (0, 0)).1) = (srcsOf ls z).map V.int := by
  have h := filter_range (0, 0) (fun l : Int × Int => l.2 == z) (fun l => V.int l.1) ls
  rw [h]
  unfold srcsOf
  rw [List.map_map]
  rfl
end Nw
namespace Nw
open PySem PySem.Spec PyProof.Rows L2
/-- new rows at new places, apart from one another -/
structure RowsAt (H H' : Hp) (p : Addr) (as : List Addr) (n : Nat) (row : Nat → List Int) : Prop where
  new : H p = none
  ex : Ex H H'
  at_ : H' p = some (.lst (as.map V.ref))
  nd : as.Nodup
  off : ∀ b ∈ as, H b = none ∧ b ≠ p
  len : as.length = n
  row : ∀ s b, as[s]? = some b → H' b = some (.lst ((row s).map V.int))
theorem srcsOf_nil (s : Int) : srcsOf [] s = [] := rfl
theorem srcsOf_app (a b : List (Int × Int)) (s : Int) : srcsOf (a ++ b) s = srcsOf a s ++ srcsOf b s := by
  unfold srcsOf
  rw [List.filter_append, List.map_append]
theorem srcsOf_one (p : Int × Int) (s : Int) : srcsOf [p] s = if p.2 = s then [p.1] else [] := by
  unfold srcsOf
  by_cases h : p.2 = s
  · rw [if_pos h, List.filter_cons, if_pos (by simpa using h)]
    rfl
  · rw [if_neg h, List.filter_cons, if_neg (by simpa using h)]
    rfl
theorem srcsOf_len (ls : List (Int × Int)) (s : Int) : (srcsOf ls s).length ≤ ls.length := by
  unfold srcsOf
  rw [List.length_map]
  exact List.length_filter_le _ _
end Nw
/-! What draws are made of: a list of three numbers that each draw changes. -/
namespace Nw
open PySem PySem.Spec PyProof.Rows L2
/-- the heap without what stands at p -/
def rm (H : Hp) (p : Addr) : Hp := fun b => if b = p then none else H b
theorem rm_ex {H : Hp} {p : Addr} : Ex (rm H p) H := fun b o h => by
  unfold rm at h
  split at h
  · cases h
  · exact h
theorem rm_at {H : Hp} {p : Addr} : rm H p p = none := if_pos rfl
theorem rm_ne {H : Hp} {p b : Addr} (h : b ≠ p) : rm H p b = H b := if_neg h
theorem ExD.rm {p : Addr} {H H' : Hp} (e : ExD p H H') : Ex (rm H p) (rm H' p) := fun b o h => by
  by_cases n : b = p
  · subst n
    rw [rm_at] at h
    cases h
  · rw [rm_ne n] at h ⊢
    exact e b o n h
theorem Ex.rm {p : Addr} {H H' : Hp} (e : Ex H H') : Ex (rm H p) (rm H' p) := ExD.rm (Ex.d e)
theorem ExD.rfl {p : Addr} {H : Hp} : ExD p H H := fun _ _ _ h => h
theorem ExD.nw {p q : Addr} {H : Hp} {o : HO} (h : H q = none) : ExD p H (upd H q o) := (Ex.nw h).d
theorem ExD.wr {p q : Addr} {H H' : Hp} {o : HO} (e : ExD p H H') (h : H q = none) : ExD p H (upd H' q o) := fun a u n ha => by
  rw [upd_ne (ne_of_none ha h)]
  exact e a u n ha
theorem ExD.put2 {p : Addr} {H H' : Hp} {o : HO} (e : ExD p H H') : ExD p H (upd H' p o) := e.tr ExD.put
/-- what is new stands elsewhere than the purse -/
theorem ExD.fr {p q : Addr} {H H' : Hp} {o : HO} (e : ExD p H H') (hp : H' p = some o) (h : H' q = none) : H q = none := by
  cases z : H q with
  | none => exact Eq.refl _
  | some u =>
    by_cases n : q = p
    · subst n
      rw [hp] at h
      cases h
    · rw [e q u n z] at h
      cases h
structure Purse (H : Hp) (p : Addr) (m : Nat) : Prop where
  ex : ∃ b c e : Int, H p = some (.lst [.int b, .int c, .int e]) ∧ 0 ≤ b ∧ (0 ≤ c ∧ c < 10 ^ 42) ∧ (0 ≤ e ∧ e ≤ (m : Int))
theorem Purse.mono {H : Hp} {p : Addr} {m n : Nat} (h : Purse H p m) (l : m ≤ n) : Purse H p n := by
  obtain ⟨b, c, e, h1, h2, h3, h4⟩ := h.ex
  exact ⟨b, c, e, h1, h2, h3, h4.1, by omega⟩
theorem Purse.up {H H' : Hp} {p : Addr} {m : Nat} (h : Purse H p m) (e : Ex H H') : Purse H' p m := by
  obtain ⟨b, c, d, h1, h2⟩ := h.ex
  exact ⟨b, c, d, e _ _ h1, h2⟩
theorem Purse.off {H : Hp} {p : Addr} {m : Nat} (h : Purse H p m) {q : Addr} (n : H q = none) : q ≠ p := by
  obtain ⟨b, c, d, h1, h2⟩ := h.ex
  intro e
  rw [e, h1] at n
  cases n
theorem Purse.put {H : Hp} {p q : Addr} {m : Nat} {o : HO} (h : Purse H p m) (n : p ≠ q) : Purse (upd H q o) p m := by
  obtain ⟨b, c, d, h1, h2⟩ := h.ex
  exact ⟨b, c, d, by rw [upd_ne n]; exact h1, h2⟩
theorem Purse.fr {p q : Addr} {H H' : Hp} {m : Nat} (e : ExD p H H') (hp : Purse H' p m) (h : H' q = none) : H q = none := by
  obtain ⟨b, c, d, h1, _⟩ := hp.ex
  exact e.fr h1 h
/-- a remainder by a positive number -/
theorem fmod_in {a m : Int} (h : 0 < m) : 0 ≤ a.fmod m ∧ a.fmod m < m := by
  rw [Int.fmod_eq_emod_of_nonneg a (by omega)]
  exact ⟨Int.emod_nonneg a (by omega), Int.emod_lt_of_pos a h⟩
theorem div_in {a m : Int} (h0 : 0 ≤ a) (h : 0 < m) : 0 ≤ a / m := Int.ediv_nonneg h0 (by omega)
theorem pow_lt_of {i : Int} (h0 : 0 ≤ i) (h : i < 10 ^ 60) : i.natAbs < 2 ^ 10000 := by
  have h1 : (10 : Nat) ^ 60 < 2 ^ 10000 := by decide +kernel
  have h2 : i.natAbs < 10 ^ 60 := by omega
  omega
theorem small_div {m : Int} (h : 0 < m) (h2 : m < 1073741824) : CDivW 0 m := wide_div (b := 30) h (by omega) (by omega) (by omega)
theorem great_div {i m : Int} (h : 0 < m) (h2 : m < 1000000000000000000000000000000000000000000000000000000000000) : CDivW i m := wide_div (b := 200) h (by
  have e : (2 : Nat) ^ 200 = 1606938044258990275541962092341162602522202993782792835301376 := by decide +kernel
  rw [e]
  omega) (by omega) (by omega)
theorem small_div' {i m : Int} (h : 0 < m) (h2 : m < 1073741824) : CDivW i m := small_div h h2
end Nw
namespace Nw
open PySem PySem.Spec PyProof.Rows L2
theorem cpow10 {j : Int} (h0 : 0 ≤ j) (h1 : j ≤ 100) : CPowW 10 j := ⟨h0, h1, by
  show (10 : Nat) < 2 ^ 10000
  decide +kernel⟩
theorem cpow3 {i : Int} (h0 : 0 ≤ i) (h : i < 10 ^ 60) : CPowW i 3 := ⟨by decide, by decide, pow_lt_of h0 h⟩
theorem p18 : (10 : Int) ^ Int.toNat 18 = 1000000000000000000 := by decide +kernel
theorem p41 : (10 : Int) ^ Int.toNat 41 = 100000000000000000000000000000000000000000 := by decide +kernel
theorem p42 : (10 : Int) ^ 42 = 1000000000000000000000000000000000000000000 := by decide +kernel
theorem p43 : (10 : Int) ^ Int.toNat 43 = 10000000000000000000000000000000000000000000 := by decide +kernel
theorem p45 : (10 : Int) ^ Int.toNat 45 = 1000000000000000000000000000000000000000000000 := by decide +kernel
theorem p60 : (10 : Int) ^ 60 = 1000000000000000000000000000000000000000000000000000000000000 := by decide +kernel
theorem cube_nn {i : Int} (h : 0 ≤ i) : 0 ≤ i ^ Int.toNat 3 := Int.pow_nonneg h
theorem purse_new {a x k : Int} (hk : 0 ≤ k ∧ k ≤ 63) : 0 ≤ a.fmod (10 ^ Int.toNat 41 + 37) + 90001 * k + 17 ∧ a.fmod (10 ^ Int.toNat 41 + 37) + 90001 * k + 17 < 10 ^ 42 := by
  have h := fmod_in (a := a) (m := 10 ^ Int.toNat 41 + 37) (by rw [p41]; omega)
  rw [p41] at h ⊢
  rw [p42]
  omega
end Nw
namespace Nw
theorem ne41 : (10 : Int) ^ Int.toNat 41 + 37 ≠ 0 := by rw [p41]; decide
theorem ne43 : (10 : Int) ^ Int.toNat 43 + 29 ≠ 0 := by rw [p43]; decide
theorem ne45 : (10 : Int) ^ Int.toNat 45 + 9 ≠ 0 := by rw [p45]; decide
end Nw
/-! Data of webs compared and shown. -/
namespace Nw
open PySem PySem.Spec PyProof.Rows L2
theorem asc_snoc : ∀ {r : List Int} {x : Int}, ascB ltIn r = true → (∀ t ∈ r, t < x) → ascB ltIn (r ++ [x]) = true
  | [], _, _, _ => rfl
  | [a], x, _, h => by
    have := h a (by simp)
    simp [ascB, ltIn, this]
  | a :: b :: r, x, ha, h => by
    simp only [ascB, Bool.and_eq_true] at ha
    have ih := asc_snoc (r := b :: r) (x := x) ha.2 (fun t ht => h t (List.mem_cons_of_mem _ ht))
    simp only [List.cons_append, ascB, Bool.and_eq_true] at ih ⊢
    exact ⟨ha.1, ih⟩
theorem ascP_snoc : ∀ {r : List (Int × Int)} {x : Int × Int}, ascB ltPr r = true → (∀ t ∈ r, ltPr t x = true) → ascB ltPr (r ++ [x]) = true
  | [], _, _, _ => rfl
  | [a], x, _, h => by
    have := h a (by simp)
    simp [ascB, this]
  | a :: b :: r, x, ha, h => by
    simp only [ascB, Bool.and_eq_true] at ha
    have ih := ascP_snoc (r := b :: r) (x := x) ha.2 (fun t ht => h t (List.mem_cons_of_mem _ ht))
    simp only [List.cons_append, ascB, Bool.and_eq_true] at ih ⊢
    exact ⟨ha.1, ih⟩
/-! ### == -/
theorem eqv_ints : ∀ r s : List Int, PyData.eqvAll (r.map PyData.int) (s.map PyData.int) = decide (r = s)
  | [], [] => by simp [PyData.eqvAll]
  | [], _ :: _ => by simp [PyData.eqvAll]
  | _ :: _, [] => by simp [PyData.eqvAll]
  | a :: r, b :: s => by
    simp only [List.map_cons, PyData.eqvAll, eqv_ints r s, PyData.eqv]
    by_cases h : a = b
    · by_cases h2 : r = s <;> simp [h, h2]
    · simp [h]
theorem eqv_dInts (r s : List Int) : PyData.eqv (dInts r) (dInts s) = decide (r = s) := by
  unfold dInts
  simp only [PyData.eqv, eqv_ints]
theorem eqv_dPair (p q : Int × Int) : PyData.eqv (dPair p) (dPair q) = decide (p = q) := by
  obtain ⟨a, b⟩ := p
  obtain ⟨c, d⟩ := q
  unfold dPair
  simp only [PyData.eqv, PyData.eqvAll, Bool.and_true, Prod.mk.injEq]
  by_cases h : a = c <;> by_cases h2 : b = d <;> simp [h, h2]
theorem eqv_pairs : ∀ r s : List (Int × Int), PyData.eqvAll (r.map dPair) (s.map dPair) = decide (r = s)
  | [], [] => by simp [PyData.eqvAll]
  | [], _ :: _ => by simp [PyData.eqvAll]
  | _ :: _, [] => by simp [PyData.eqvAll]
  | a :: r, b :: s => by
    simp only [List.map_cons, PyData.eqvAll, eqv_pairs r s, eqv_dPair]
    by_cases h : a = b
    · by_cases h2 : r = s <;> simp [h, h2]
    · simp [h]
theorem eqv_dPairs (r s : List (Int × Int)) : PyData.eqv (dPairs r) (dPairs s) = decide (r = s) := by
  unfold dPairs
  simp only [PyData.eqv, eqv_pairs]
theorem eqv_rows : ∀ r s : List (List Int), PyData.eqvAll (r.map dInts) (s.map dInts) = decide (r = s)
  | [], [] => by simp [PyData.eqvAll]
  | [], _ :: _ => by simp [PyData.eqvAll]
  | _ :: _, [] => by simp [PyData.eqvAll]
  | a :: r, b :: s => by
    simp only [List.map_cons, PyData.eqvAll, eqv_rows r s, eqv_dInts]
    by_cases h : a = b
    · by_cases h2 : r = s <;> simp [h, h2]
    · simp [h]
theorem eqv_dRows (r s : List (List Int)) : PyData.eqv (dRows r) (dRows s) = decide (r = s) := by
  unfold dRows
  simp only [PyData.eqv, eqv_rows]
theorem eqv_web (u v : Wb) : PyData.eqv u.d v.d = decide (u = v) := by
  obtain ⟨a, b, c⟩ := u
  obtain ⟨d, e, f⟩ := v
  unfold Wb.d
  simp only [PyData.eqv, PyData.eqvAll, eqv_dPairs, eqv_dRows, Bool.and_true, Wb.mk.injEq]
  by_cases h : a = d <;> by_cases h2 : b = e <;> by_cases h3 : c = f <;> simp [h, h2, h3]
/-! ### shape -/
theorem shaped_of {d : PyData} (h : d.canLay0 = true) (h2 : d.depth ≤ 64) : SeqAt.shaped d = true := by
  unfold SeqAt.shaped
  rw [h, decide_eq_true h2]
  rfl
theorem lay_ints : ∀ r : List Int, PyData.canLayAll0 (r.map PyData.int) = true
  | [] => by simp [PyData.canLayAll0]
  | a :: r => by simp [PyData.canLayAll0, PyData.canLay0, lay_ints r]
theorem lay_pairs : ∀ r : List (Int × Int), PyData.canLayAll0 (r.map dPair) = true
  | [] => by simp [PyData.canLayAll0]
  | a :: r => by simp [PyData.canLayAll0, PyData.canLay0, dPair, lay_pairs r]
theorem lay_rows : ∀ r : List (List Int), PyData.canLayAll0 (r.map dInts) = true
  | [] => by simp [PyData.canLayAll0]
  | a :: r => by simp [PyData.canLayAll0, PyData.canLay0, dInts, lay_rows r, lay_ints]
theorem dep_ints : ∀ r : List Int, PyData.depthAll (r.map PyData.int) = 0
  | [] => by simp [PyData.depthAll]
  | a :: r => by simp [PyData.depthAll, PyData.depth, dep_ints r]
theorem dep_pairs : ∀ r : List (Int × Int), PyData.depthAll (r.map dPair) ≤ 1
  | [] => by simp [PyData.depthAll]
  | a :: r => by
    have := dep_pairs r
    simp [PyData.depthAll, PyData.depth, dPair]
    omega
theorem dep_rows : ∀ r : List (List Int), PyData.depthAll (r.map dInts) ≤ 1
  | [] => by simp [PyData.depthAll]
  | a :: r => by
    have := dep_rows r
    simp [PyData.depthAll, PyData.depth, dInts, dep_ints]
    omega
theorem lay_dInts (r : List Int) : (dInts r).canLay0 = true := by simp [dInts, PyData.canLay0, lay_ints]
theorem lay_dPairs (r : List (Int × Int)) : (dPairs r).canLay0 = true := by simp [dPairs, PyData.canLay0, lay_pairs]
theorem lay_dRows (r : List (List Int)) : (dRows r).canLay0 = true := by simp [dRows, PyData.canLay0, lay_rows]
theorem lay_dPair (p : Int × Int) : (dPair p).canLay0 = true := by simp [dPair, PyData.canLay0, PyData.canLayAll0]
theorem lay_web (u : Wb) : u.d.canLay0 = true := by simp [Wb.d, PyData.canLay0, PyData.canLayAll0, lay_dPairs, lay_dRows]
theorem dep_dInts (r : List Int) : (dInts r).depth ≤ 1 := by simp [dInts, PyData.depth, dep_ints]
theorem dep_dPair (p : Int × Int) : (dPair p).depth ≤ 1 := by simp [dPair, PyData.depth, PyData.depthAll]
theorem dep_dPairs (r : List (Int × Int)) : (dPairs r).depth ≤ 2 := by
  have := dep_pairs r
  simp [dPairs, PyData.depth]
  omega
theorem dep_dRows (r : List (List Int)) : (dRows r).depth ≤ 2 := by
  have := dep_rows r
  simp [dRows, PyData.depth]
  omega
theorem dep_web (u : Wb) : u.d.depth ≤ 3 := by
  have h1 := dep_dPairs u.ps
  have h2 := dep_dRows u.ns
  simp [Wb.d, PyData.depth, PyData.depthAll]
  omega
theorem sh_dInts (r : List Int) : SeqAt.shaped (dInts r) = true := shaped_of (lay_dInts r) (by have := dep_dInts r; omega)
theorem sh_dPair (r : Int × Int) : SeqAt.shaped (dPair r) = true := shaped_of (lay_dPair r) (by have := dep_dPair r; omega)
theorem sh_dPairs (r : List (Int × Int)) : SeqAt.shaped (dPairs r) = true := shaped_of (lay_dPairs r) (by have := dep_dPairs r; omega)
theorem sh_dRows (r : List (List Int)) : SeqAt.shaped (dRows r) = true := shaped_of (lay_dRows r) (by have := dep_dRows r; omega)
theorem sh_web (u : Wb) : SeqAt.shaped u.d = true := shaped_of (lay_web u) (by have := dep_web u; omega)
theorem nd_of_lay {d : PyData} (h : d.canLay0 = true) : d.hasDict = false := PyData.hasDict_of_canLay d h
section
variable {K : PySem.W.Frag} {H : Hp}
theorem Da.dInts {r : List Int} {v : V} (h : Da K H (dInts r) v) : Dp K H v (dInts r) := h.dp _ _ (nd_of_lay (lay_dInts r))
theorem Da.dPairs {r : List (Int × Int)} {v : V} (h : Da K H (dPairs r) v) : Dp K H v (dPairs r) := h.dp _ _ (nd_of_lay (lay_dPairs r))
theorem Da.dPair {r : Int × Int} {v : V} (h : Da K H (dPair r) v) : Dp K H v (dPair r) := h.dp _ _ (nd_of_lay (lay_dPair r))
theorem Da.dRows {r : List (List Int)} {v : V} (h : Da K H (dRows r) v) : Dp K H v (dRows r) := h.dp _ _ (nd_of_lay (lay_dRows r))
theorem Da.web {u : Wb} {v : V} (h : Da K H u.d v) : Dp K H v u.d := h.dp _ _ (nd_of_lay (lay_web u))
/-- a == b, a != b of lists of ints .. as the readings ask -/
theorem eqD_of {d e : PyData} {x y : V} {Q : VK} (hd : Dp K H x d) (he : Dp K H y e) (sd : SeqAt.shaped d = true) (se : SeqAt.shaped e = true) (q : Q (.bl (PyData.eqv d e)) H) : rEqD K x y H Q := ⟨d, e, hd, he, sd, se, q⟩
end
end Nw
namespace Nw
open PySem PySem.Spec PyProof.Rows L2
theorem ex_rm1 {H H' : Hp} {p : Addr} (h : ∀ b o, b ≠ p → H b = some o → H' b = some o) : Ex (rm H p) (rm H' p) := ExD.rm h
theorem ex_rm2 {H H' : Hp} {p q : Addr} (h : ∀ b o, b ≠ p → b ≠ q → H b = some o → H' b = some o) : Ex (rm (rm H p) q) (rm (rm H' p) q) :=
  ExD.rm fun b o n e => by
    by_cases n2 : b = p
    · subst n2
      rw [rm_at] at e
      cases e
    · rw [rm_ne n2] at e ⊢
      exact h b o n2 n e
theorem ex_rm3 {H H' : Hp} {p q r : Addr} (h : ∀ b o, b ≠ p → b ≠ q → b ≠ r → H b = some o → H' b = some o) : Ex (rm (rm (rm H p) q) r) (rm (rm (rm H' p) q) r) :=
  ExD.rm fun b o n e => by
    by_cases n2 : b = q
    · subst n2
      rw [rm_at] at e
      cases e
    · rw [rm_ne n2] at e ⊢
      by_cases n3 : b = p
      · subst n3
        rw [rm_at] at e
        cases e
      · rw [rm_ne n3] at e ⊢
        exact h b o n3 n2 n e
theorem asc_app : ∀ {a b : List (Int × Int)}, ascB ltPr a = true → ascB ltPr b = true → (∀ x ∈ a, ∀ y ∈ b, ltPr x y = true) → ascB ltPr (a ++ b) = true
  | [], _, _, hb, _ => hb
  | [x], [], _, _, _ => rfl
  | [x], y :: b, _, hb, h => by
    show (ltPr x y && ascB ltPr (y :: b)) = true
    rw [hb, h x (by simp) y (by simp)]
    rfl
  | x :: z :: a, b, ha, hb, h => by
    simp only [ascB, Bool.and_eq_true] at ha
    have ih := asc_app (a := z :: a) ha.2 hb (fun x hx => h x (List.mem_cons_of_mem _ hx))
    show (ltPr x z && ascB ltPr (z :: a ++ b)) = true
    rw [ha.1, ih]
    rfl
end Nw
namespace Nw
open PySem PySem.Spec PyProof.Rows L2
theorem rowOf_none {ls : List (Int × Int)} {s : Int} (h : ∀ l ∈ ls, l.1 ≠ s) : rowOf ls s = [] := by
  unfold rowOf
  rw [List.filter_eq_nil_iff.mpr (fun l hl => by simpa using h l hl)]
  rfl
theorem rowOf_pushedAt (n : Int) (i : Nat) (r : List Int) : rowOf (pushedAt n i r) (n + (i : Int)) = r := by
  unfold rowOf pushedAt
  rw [List.filter_eq_self.mpr]
  · rw [List.map_map]
    exact List.map_id _
  · intro l hl
    obtain ⟨t, _, rfl⟩ := List.mem_map.mp hl
    simp
/-- a quantity's row: from the pairs alone -/
theorem row_low {u : Wb} (h : u.Ok) {s : Int} (hs : s < u.n) : rowOf u.lines s = rowOf u.ps s := by
  unfold Wb.lines
  rw [rowOf_app, rowOf_none (ls := pushedFrom u.n 0 u.ns), List.append_nil]
  intro l hl
  have := pushed_ok (fun r hr => (h.ns r hr).2.1) l hl
  omega
theorem row_push {n : Int} {m : Int} : ∀ {rs : List (List Int)} {i k : Nat} {r : List Int}, (∀ r ∈ rs, ∀ t ∈ r, 0 ≤ t ∧ t < m) → rs[k]? = some r →
    rowOf (pushedFrom n i rs) (n + (i : Int) + (k : Int)) = r
  | [], _, _, _, _, e => by simp at e
  | a :: rs, i, 0, r, h, e => by
    obtain rfl : a = r := by simpa using e
    simp only [pushedFrom]
    rw [rowOf_app, show n + (i : Int) + ((0 : Nat) : Int) = n + (i : Int) by omega, rowOf_pushedAt, rowOf_none, List.append_nil]
    intro l hl
    have := pushed_ok (fun z hz => h z (List.mem_cons_of_mem _ hz)) l hl
    omega
  | a :: rs, i, k + 1, r, h, e => by
    simp only [pushedFrom]
    rw [rowOf_app, rowOf_none, List.nil_append]
    · have ih := row_push (n := n) (i := i + 1) (k := k) (r := r) (fun z hz => h z (List.mem_cons_of_mem _ hz)) (by simpa using e)
      rw [show n + (i : Int) + ((k + 1 : Nat) : Int) = n + ((i + 1 : Nat) : Int) + (k : Int) by omega]
      exact ih
    · intro l hl
      obtain ⟨t, _, rfl⟩ := List.mem_map.mp hl
      simp only
      omega
/-- a nudge's row -/
theorem row_high {u : Wb} (h : u.Ok) {k : Nat} {r : List Int} (hr : u.ns[k]? = some r) {s : Int} (hs : s = u.n + (k : Int)) : rowOf u.lines s = r := by
  subst hs
  unfold Wb.lines
  rw [rowOf_app, rowOf_none (ls := u.ps), List.nil_append]
  · have := row_push (n := u.n) (i := 0) (k := k) (fun r hr => (h.ns r hr).2.1) hr
    rw [show u.n + ((0 : Nat) : Int) + (k : Int) = u.n + (k : Int) by omega] at this
    exact this
  · intro l hl
    have := h.ps l hl
    omega
end Nw
/-! Data of webs shown, lines grouped and sorted. -/
namespace Nw
open PySem PySem.Spec PyProof.Rows L2
theorem short_small : ∀ n : Fin 64, ((PyData.shown (.int (n.val : Int))).length ≤ 8 ∧ (((n.val : Int)).natAbs.log2 < 1920) ∧ PyData.weight (.int (n.val : Int)) ≤ 6) := by decide +kernel
theorem short_int {i : Int} (h0 : 0 ≤ i) (h1 : i < 64) : (PyData.shown (.int i)).length ≤ 8 ∧ i.natAbs.log2 < 1920 ∧ PyData.weight (.int i) ≤ 6 := by
  have h := short_small ⟨i.toNat, by omega⟩
  simp only [Int.toNat_of_nonneg h0] at h
  exact h
abbrev Sm (i : Int) : Prop := 0 ≤ i ∧ i < 64
theorem sm_ints : ∀ {r : List Int}, (∀ t ∈ r, Sm t) → PyData.leavesShortAll 8 (r.map PyData.int) = true ∧ PyData.showableAll (r.map PyData.int) = true ∧ PyData.weightAll (r.map PyData.int) ≤ 7 * r.length
  | [], _ => by simp [PyData.leavesShortAll, PyData.showableAll, PyData.weightAll]
  | a :: r, h => by
    obtain ⟨h1, h2, h3⟩ := sm_ints (r := r) fun t ht => h t (List.mem_cons_of_mem _ ht)
    obtain ⟨s1, s2⟩ := h a (by simp)
    obtain ⟨g1, g2, g5⟩ := short_int s1 s2
    refine ⟨?_, ?_, ?_⟩
    · simp only [List.map_cons, PyData.leavesShortAll, PyData.leavesShort, h1, Bool.and_true, decide_eq_true_eq]
      exact g1
    · simp only [List.map_cons, PyData.showableAll, PyData.showable, h2, Bool.and_true, decide_eq_true_eq]
      exact g2
    · simp only [List.map_cons, PyData.weightAll, List.length_cons]
      omega
theorem sm_pairs : ∀ {r : List (Int × Int)}, (∀ t ∈ r, Sm t.1 ∧ Sm t.2) → PyData.leavesShortAll 8 (r.map dPair) = true ∧ PyData.showableAll (r.map dPair) = true ∧ PyData.weightAll (r.map dPair) ≤ 16 * r.length
  | [], _ => by simp [PyData.leavesShortAll, PyData.showableAll, PyData.weightAll]
  | a :: r, h => by
    obtain ⟨h1, h2, h3⟩ := sm_pairs (r := r) fun t ht => h t (List.mem_cons_of_mem _ ht)
    obtain ⟨s1, s2⟩ := h a (by simp)
    obtain ⟨g1, g2, g5⟩ := short_int s1.1 s1.2
    obtain ⟨g3, g4, g6⟩ := short_int s2.1 s2.2
    refine ⟨?_, ?_, ?_⟩
    · simp only [List.map_cons, dPair, PyData.leavesShortAll, PyData.leavesShort, h1, Bool.and_true, decide_eq_true_eq, Bool.and_eq_true]
      exact ⟨g1, g3⟩
    · simp only [List.map_cons, dPair, PyData.showableAll, PyData.showable, h2, Bool.and_true, decide_eq_true_eq, Bool.and_eq_true]
      exact ⟨g2, g4⟩
    · have e : PyData.weight (dPair a) = PyData.weight (.int a.1) + 1 + (PyData.weight (.int a.2) + 1 + 0) := by
        simp only [dPair, PyData.weight, PyData.weightAll]
      simp only [List.map_cons, PyData.weightAll, List.length_cons]
      omega
/-- what repr of a list of small ints asks -/
theorem show_ints {r : List Int} (hs : ∀ t ∈ r, Sm t) (hz : r.length ≤ 30000) : (dInts r).showable = true ∧ (dInts r).shown.length ≤ sizeLine ∧ (dInts r).depth ≤ 60 := by
  obtain ⟨h1, h2, h3⟩ := sm_ints hs
  refine ⟨?_, ?_, ?_⟩
  · simp only [dInts, PyData.showable, h2]
  · refine PyData.shown_fits (B := 8) (by omega) (by omega) ?_ ?_
    · simp only [dInts, PyData.leavesShort, h1]
    · simp only [dInts, PyData.weight]
      omega
  · have := dep_dInts r
    omega
/-- what repr of a list of pairs of small ints asks -/
theorem show_pairs {r : List (Int × Int)} (hs : ∀ t ∈ r, Sm t.1 ∧ Sm t.2) (hz : r.length ≤ 30000) : (dPairs r).showable = true ∧ (dPairs r).shown.length ≤ sizeLine ∧ (dPairs r).depth ≤ 60 := by
  obtain ⟨h1, h2, h3⟩ := sm_pairs hs
  refine ⟨?_, ?_, ?_⟩
  · simp only [dPairs, PyData.showable, h2]
  · refine PyData.shown_fits (B := 8) (by omega) (by omega) ?_ ?_
    · simp only [dPairs, PyData.leavesShort, h1]
    · simp only [dPairs, PyData.weight]
      omega
  · have := dep_dPairs r
    omega
/-! ### lines grouped -/
theorem asc_tail : ∀ {p : Int × Int} {r : List (Int × Int)}, ascB ltPr (p :: r) = true → (∀ q ∈ r, ltPr p q = true) ∧ ascB ltPr r = true
  | p, [], _ => ⟨fun q hq => (by cases hq), rfl⟩
  | p, q :: r, h => by
    simp only [ascB, Bool.and_eq_true] at h
    obtain ⟨h1, h2⟩ := asc_tail (p := q) (r := r) h.2
    refine ⟨fun z hz => ?_, h.2⟩
    rcases List.mem_cons.mp hz with rfl | hz
    · exact h.1
    · have a := ltPr_iff.mp h.1
      have b := ltPr_iff.mp (h1 z hz)
      refine ltPr_iff.mpr ?_
      omega
/-- rising lines, those of the first k sources -/
def upTo (ls : List (Int × Int)) (k : Int) : List (Int × Int) := ls.filter fun l => decide (l.1 < k)
theorem upTo_step : ∀ {ls : List (Int × Int)} (k : Int), ascB ltPr ls = true → upTo ls (k + 1) = upTo ls k ++ (rowOf ls k).map fun t => (k, t)
  | [], k, _ => rfl
  | p :: r, k, h => by
    obtain ⟨h1, h2⟩ := asc_tail h
    have ih := upTo_step (ls := r) k h2
    unfold upTo rowOf at ih ⊢
    by_cases a : p.1 < k
    · rw [List.filter_cons_of_pos (p := fun l : Int × Int => decide (l.1 < k + 1)) (by simp; omega), List.filter_cons_of_pos (p := fun l : Int × Int => decide (l.1 < k)) (by simpa using a),
        List.filter_cons_of_neg (p := fun l : Int × Int => l.1 == k) (by simp; omega), ih]
      rfl
    · have e0 : r.filter (fun l => decide (l.1 < k)) = [] := by
        refine List.filter_eq_nil_iff.mpr fun q hq => ?_
        have := ltPr_iff.mp (h1 q hq)
        simp
        omega
      rw [e0, List.nil_append] at ih
      rw [List.filter_cons_of_neg (p := fun l : Int × Int => decide (l.1 < k)) (by simpa using a), e0, List.nil_append]
      by_cases b : p.1 = k
      · rw [List.filter_cons_of_pos (p := fun l : Int × Int => decide (l.1 < k + 1)) (by simp; omega), List.filter_cons_of_pos (p := fun l : Int × Int => l.1 == k) (by simpa using b), ih, List.map_cons, List.map_cons]
        rw [← b]
      · rw [List.filter_cons_of_neg (p := fun l : Int × Int => decide (l.1 < k + 1)) (by simp; omega), List.filter_cons_of_neg (p := fun l : Int × Int => l.1 == k) (by simpa using b), ih]
theorem upTo_none {ls : List (Int × Int)} {k : Int} (h : ∀ l ∈ ls, k ≤ l.1) : upTo ls k = [] :=
  List.filter_eq_nil_iff.mpr fun l hl => by
    have := h l hl
    simp
    omega
theorem upTo_all {ls : List (Int × Int)} {k : Int} (h : ∀ l ∈ ls, l.1 < k) : upTo ls k = ls :=
  List.filter_eq_self.mpr fun l hl => by
    have := h l hl
    simp
    omega
theorem asc_pushedAt {n : Int} {i : Nat} : ∀ {r : List Int}, ascB ltIn r = true → ascB ltPr (pushedAt n i r) = true
  | [], _ => rfl
  | [x], _ => rfl
  | x :: y :: r, h => by
    simp only [ascB, Bool.and_eq_true, ltIn, decide_eq_true_eq] at h
    have ih := asc_pushedAt (n := n) (i := i) (r := y :: r) h.2
    unfold pushedAt at ih ⊢
    simp only [List.map_cons, ascB, Bool.and_eq_true] at ih ⊢
    exact ⟨ltPr_iff.mpr (.inr ⟨rfl, h.1⟩), ih⟩
theorem asc_pushed {n m : Int} : ∀ {rs : List (List Int)} {i : Nat}, (∀ r ∈ rs, (∀ t ∈ r, 0 ≤ t ∧ t < m) ∧ ascB ltIn r = true) → ascB ltPr (pushedFrom n i rs) = true
  | [], _, _ => rfl
  | r :: rs, i, h => by
    simp only [pushedFrom]
    refine asc_app (asc_pushedAt (h r (by simp)).2) (asc_pushed fun z hz => h z (List.mem_cons_of_mem _ hz)) ?_
    intro x hx y hy
    obtain ⟨t, _, rfl⟩ := List.mem_map.mp hx
    have := pushed_ok (fun z hz => (h z (List.mem_cons_of_mem _ hz)).1) y hy
    refine ltPr_iff.mpr (.inl ?_)
    simp only
    omega
theorem Wb.Ok.lines_asc {u : Wb} (h : u.Ok) : ascB ltPr u.lines = true := by
  refine asc_app h.asc (asc_pushed fun r hr => (h.ns r hr).2) ?_
  intro x hx y hy
  have a := h.ps x hx
  have b := pushed_ok (fun r hr => (h.ns r hr).2.1) y hy
  refine ltPr_iff.mpr (.inl ?_)
  omega
theorem Wb.Ok.sm {u : Wb} (h : u.Ok) : ∀ l ∈ u.lines, Sm l.1 ∧ Sm l.2 := by
  intro l hl
  have a := h.line l hl
  have b := h.hi
  have c := h.few
  refine ⟨⟨a.1.1, by omega⟩, ⟨a.2.1, by omega⟩⟩
theorem Wb.Ok.sm_row {u : Wb} (h : u.Ok) (s : Int) : ∀ t ∈ rowOf u.lines s, Sm t := by
  intro t ht
  obtain ⟨l, hl, rfl⟩ := List.mem_map.mp ht
  exact (h.sm l (List.mem_filter.mp hl).1).2
theorem Wb.Ok.sm_srcs {u : Wb} (h : u.Ok) (s : Int) : ∀ t ∈ srcsOf u.lines s, Sm t := by
  intro t ht
  obtain ⟨l, hl, rfl⟩ := List.mem_map.mp ht
  exact (h.sm l (List.mem_filter.mp hl).1).1
theorem srcs_len (ls : List (Int × Int)) (s : Int) : (srcsOf ls s).length ≤ ls.length := by
  unfold srcsOf
  rw [List.length_map]
  exact List.length_filter_le _ _
/-! ### sorted -/
/-- the two ints of a pair that is known -/
def keyOf (H : Hp) : V → Int × Int
  | .ref t => match H t with
    | some (.tup [.int a, .int b]) => (a, b)
    | _ => (0, 0)
  | _ => (0, 0)
theorem keyOf_at {H : Hp} {t : Addr} {p : Int × Int} (h : H t = some (.tup [.int p.1, .int p.2])) : keyOf H (.ref t) = p := by
  unfold keyOf
  simp only [h]
theorem keys_of {K : PySem.W.Frag} {H : Hp} : ∀ {L : List (Int × Int)} {xs : List V}, DaAll K H (L.map dPair) xs → (∀ x ∈ xs, ∃ t, x = V.ref t ∧ H t = some (.tup [.int (keyOf H x).1, .int (keyOf H x).2])) ∧ xs.map (keyOf H) = L
  | [], xs, h => by
    obtain rfl : xs = [] := h
    exact ⟨fun x hx => (by cases hx), rfl⟩
  | p :: L, xs, h => by
    obtain ⟨x, xs, rfl, ⟨a, ys, rfl, hS, z1, r1, rfl, e1, z2, r2, rfl, e2, rfl⟩, h2⟩ := h
    obtain rfl := e1
    obtain rfl := e2
    obtain ⟨g1, g2⟩ := keys_of h2
    have e := keyOf_at hS
    refine ⟨fun x hx => ?_, by rw [List.map_cons, e, g2]⟩
    rcases List.mem_cons.mp hx with rfl | hx
    · exact ⟨a, rfl, by rw [e]; exact hS⟩
    · exact g1 x hx
theorem srtd_of {k : V → Int × Int} : ∀ {xs : List V}, ascB ltPr (xs.map k) = true → SrtO.Srtd (ltP k) xs
  | [], _ => List.Pairwise.nil
  | x :: xs, h => by
    obtain ⟨h1, h2⟩ := asc_tail (p := k x) (r := xs.map k) h
    refine List.Pairwise.cons (fun y hy => ?_) (srtd_of h2)
    have a := ltPr_iff.mp (h1 (k y) (List.mem_map.mpr ⟨y, hy, rfl⟩))
    refine SrtO.lexB_no.mpr ?_
    omega
/-- sorted of what is sorted -/
theorem sorted_same {K : PySem.W.Frag} {H : Hp} {a : Addr} {xs : List V} {L : List (Int × Int)} {Q : VK} (hS : SqL K H a xs) (hA : DaAll K H (L.map dPair) xs) (ha : ascB ltPr L = true)
    (q : ∀ p, H p = none → Q (.ref p) (upd H p (.lst xs))) : rSortedPO K [.ref a] H Q := by
  obtain ⟨h1, h2⟩ := keys_of hA
  refine ⟨a, xs, keyOf H, rfl, hS, h1, fun ys p s1 s2 hp => ?_⟩
  have s3 : SrtO.Srtd (ltP (keyOf H)) xs := srtd_of (by rw [h2]; exact ha)
  rw [SrtO.stb_uniq (ltP_swo (keyOf H)) s1 s3 s2]
  exact q p hp
/-- pairs outlast what is done to a list -/
theorem pairs_wr {K : PySem.W.Frag} {H : Hp} {D : Addr} {ys : List V} {o : HO} (hD : H D = some (.lst ys)) : ∀ {L : List (Int × Int)} {acc : List V}, DaAll K H (L.map dPair) acc → DaAll K (upd H D o) (L.map dPair) acc
  | [], _, h => h
  | p :: L, acc, h => by
    obtain ⟨x, xs, rfl, ⟨a, zs, rfl, hS, z1, r1, rfl, e1, z2, r2, rfl, e2, rfl⟩, h2⟩ := h
    obtain rfl := e1
    obtain rfl := e2
    refine ⟨_, _, rfl, dPair_of ?_, pairs_wr hD h2⟩
    rw [upd_ne (fun e => by rw [e, hD] at hS; cases hS)]
    exact hS
end Nw
/-! How long data is when shown: by the number of its nodes and the longest leaf. -/
namespace Nw
open PySem PySem.Spec PyProof.Rows L2
mutual
/-- each leaf's text has at most B signs -/
def lf (B : Nat) : PyData → Bool
  | .none | .bool _ => true
  | .int i => decide ((PyData.shown (.int i)).length ≤ B)
  | .str x => decide ((PyData.shown (.str x)).length ≤ B)
  | .list xs | .tuple xs => lfAll B xs
  | .dict kvs => lfKv B kvs
def lfAll (B : Nat) : List PyData → Bool
  | [] => true
  | x :: xs => lf B x && lfAll B xs
def lfKv (B : Nat) : List (PyData × PyData) → Bool
  | [] => true
  | (k, v) :: r => lf B k && lf B v && lfKv B r
end
mutual
def nodes : PyData → Nat
  | .none | .bool _ | .int _ | .str _ => 1
  | .list xs | .tuple xs => 1 + nodesAll xs
  | .dict kvs => 1 + nodesKv kvs
def nodesAll : List PyData → Nat
  | [] => 0
  | x :: xs => nodes x + nodesAll xs
def nodesKv : List (PyData × PyData) → Nat
  | [] => 0
  | (k, v) :: r => nodes k + nodes v + nodesKv r
end
mutual
theorem len_lf (B : Nat) (hB : 8 ≤ B) : ∀ d : PyData, lf B d = true → d.shown.length + 4 ≤ (B + 4) * nodes d
  | .none, _ => by
    have e : (PyData.shown .none).length = 4 := rfl
    simp only [nodes]
    omega
  | .bool b, _ => by
    have e : (PyData.shown (.bool b)).length ≤ 5 := by cases b <;> decide
    simp only [nodes]
    omega
  | .int i, h => by
    have e : (PyData.shown (.int i)).length ≤ B := by simpa only [lf, decide_eq_true_eq] using h
    simp only [nodes]
    omega
  | .str x, h => by
    have e : (PyData.shown (.str x)).length ≤ B := by simpa only [lf, decide_eq_true_eq] using h
    simp only [nodes]
    omega
  | .list xs, h => by
    have h1 := len_lfAll B hB xs (by simpa only [lf] using h)
    have h2 := listText_len_le (PyData.shownAll xs)
    have h3 := PyData.shownAll_length xs
    simp only [PyData.shown, nodes]
    rw [Nat.mul_add]
    omega
  | .tuple xs, h => by
    have h1 := len_lfAll B hB xs (by simpa only [lf] using h)
    have h2 := tupleText_len_le (PyData.shownAll xs)
    have h3 := PyData.shownAll_length xs
    simp only [PyData.shown, nodes]
    rw [Nat.mul_add]
    omega
  | .dict kvs, h => by
    have h1 := len_lfKv B hB kvs (by simpa only [lf] using h)
    have h2 := dictText_len_le (PyData.shownKv kvs)
    have h3 := PyData.shownKv_length kvs
    simp only [PyData.shown, nodes]
    rw [Nat.mul_add]
    omega
theorem len_lfAll (B : Nat) (hB : 8 ≤ B) : ∀ xs : List PyData, lfAll B xs = true → ((PyData.shownAll xs).map (·.length)).sum + 4 * xs.length ≤ (B + 4) * nodesAll xs
  | [], _ => by
    simp only [PyData.shownAll, nodesAll, List.map_nil, List.sum_nil, List.length_nil]
    omega
  | x :: xs, h => by
    have h' : lf B x = true ∧ lfAll B xs = true := by simpa only [lfAll, Bool.and_eq_true] using h
    have h1 := len_lf B hB x h'.1
    have h2 := len_lfAll B hB xs h'.2
    have h3 := Nat.mul_add (B + 4) (nodes x) (nodesAll xs)
    simp only [PyData.shownAll, nodesAll, List.map_cons, List.sum_cons, List.length_cons]
    omega
theorem len_lfKv (B : Nat) (hB : 8 ≤ B) : ∀ kvs : List (PyData × PyData), lfKv B kvs = true → ((PyData.shownKv kvs).map (·.length)).sum + 2 * kvs.length ≤ (B + 4) * nodesKv kvs
  | [], _ => by
    simp only [PyData.shownKv, nodesKv, List.map_nil, List.sum_nil, List.length_nil]
    omega
  | (k, v) :: r, h => by
    have h' : (lf B k = true ∧ lf B v = true) ∧ lfKv B r = true := by simpa only [lfKv, Bool.and_eq_true] using h
    have h1 := len_lf B hB k h'.1.1
    have h2 := len_lf B hB v h'.1.2
    have h3 := len_lfKv B hB r h'.2
    have e2 : (k.shown ++ ": " ++ v.shown).length = k.shown.length + 2 + v.shown.length := by
      rw [strLen_append, strLen_append]
      rfl
    have h5 := Nat.mul_add (B + 4) (nodes k + nodes v) (nodesKv r)
    have h6 := Nat.mul_add (B + 4) (nodes k) (nodes v)
    simp only [PyData.shownKv, nodesKv, List.map_cons, List.sum_cons, List.length_cons]
    rw [e2]
    omega
end
theorem fits_lf {B n : Nat} (hB : 8 ≤ B) {d : PyData} (h : lf B d = true) (hn : nodes d ≤ n) (hz : (B + 4) * n ≤ 16000000) : d.shown.length ≤ sizeLine := by
  have h1 := len_lf B hB d h
  have h2 := Nat.mul_le_mul_left (B + 4) hn
  rw [sizeLine_eq]
  omega
theorem lf_int {i : Int} {k : Nat} (hk : 0 < k) (h : i.natAbs < 10 ^ k) : lf (k + 1) (.int i) = true := by
  simp only [lf, decide_eq_true_eq]
  have e := int_text_length_le10 hk h
  show (Str.ofString (toString i)).length ≤ k + 1
  rw [PySem.ofString_length]
  exact e
theorem lfAll_of {B : Nat} : ∀ {xs : List PyData}, (∀ x ∈ xs, lf B x = true) → lfAll B xs = true
  | [], _ => rfl
  | x :: xs, h => by
    simp only [lfAll, h x (by simp), lfAll_of fun y hy => h y (List.mem_cons_of_mem _ hy), Bool.and_self]
theorem showAll_of : ∀ {xs : List PyData}, (∀ x ∈ xs, x.showable = true) → PyData.showableAll xs = true
  | [], _ => rfl
  | x :: xs, h => by
    simp only [PyData.showableAll, h x (by simp), showAll_of fun y hy => h y (List.mem_cons_of_mem _ hy), Bool.and_self]
theorem nodesAll_of {n : Nat} : ∀ {xs : List PyData}, (∀ x ∈ xs, nodes x ≤ n) → nodesAll xs ≤ n * xs.length
  | [], _ => by simp [nodesAll]
  | x :: xs, h => by
    have h1 := h x (by simp)
    have h2 := nodesAll_of fun y hy => h y (List.mem_cons_of_mem _ hy)
    simp only [nodesAll, List.length_cons, Nat.mul_succ]
    omega
theorem depthAll_of {n : Nat} : ∀ {xs : List PyData}, (∀ x ∈ xs, x.depth ≤ n) → PyData.depthAll xs ≤ n
  | [], _ => by simp [PyData.depthAll]
  | x :: xs, h => by
    have h1 := h x (by simp)
    have h2 := depthAll_of fun y hy => h y (List.mem_cons_of_mem _ hy)
    simp only [PyData.depthAll]
    omega
/-- what repr asks: shown in a few leaves -/
structure Sh (B n k : Nat) (d : PyData) : Prop where
  s : d.showable = true
  l : lf B d = true
  n : nodes d ≤ n
  k : d.depth ≤ k
theorem Sh.fit {B n k : Nat} {d : PyData} (h : Sh B n k d) (hB : 8 ≤ B) (hz : (B + 4) * n ≤ 16000000) : d.shown.length ≤ sizeLine := fits_lf hB h.l h.n hz
theorem Sh.list {B n k m : Nat} {xs : List PyData} (h : ∀ x ∈ xs, Sh B n k x) (hm : xs.length ≤ m) : Sh B (1 + n * m) (k + 1) (.list xs) := by
  refine ⟨?_, ?_, ?_, ?_⟩
  · simp only [PyData.showable, showAll_of fun x hx => (h x hx).s]
  · simp only [lf, lfAll_of fun x hx => (h x hx).l]
  · have h1 := nodesAll_of fun x hx => (h x hx).n
    have h2 := Nat.mul_le_mul_left n hm
    simp only [nodes]
    omega
  · have h1 := depthAll_of fun x hx => (h x hx).k
    simp only [PyData.depth]
    omega
theorem Sh.tuple {B n k m : Nat} {xs : List PyData} (h : ∀ x ∈ xs, Sh B n k x) (hm : xs.length ≤ m) : Sh B (1 + n * m) (k + 1) (.tuple xs) := by
  refine ⟨?_, ?_, ?_, ?_⟩
  · simp only [PyData.showable, showAll_of fun x hx => (h x hx).s]
  · simp only [lf, lfAll_of fun x hx => (h x hx).l]
  · have h1 := nodesAll_of fun x hx => (h x hx).n
    have h2 := Nat.mul_le_mul_left n hm
    simp only [nodes]
    omega
  · have h1 := depthAll_of fun x hx => (h x hx).k
    simp only [PyData.depth]
    omega
theorem Sh.mono {B C n m k j : Nat} {d : PyData} (h : Sh B n k d) (hn : n ≤ m) (hk : k ≤ j) : Sh B m j d := ⟨h.s, h.l, Nat.le_trans h.n hn, Nat.le_trans h.k hk⟩
theorem Sh.int {i : Int} {k : Nat} (hk : 0 < k) (h2 : i.natAbs < 2 ^ 1920) (h : i.natAbs < 10 ^ k) : Sh (k + 1) 1 0 (.int i) := by
  refine ⟨?_, lf_int hk h, by simp only [nodes]; omega, by simp only [PyData.depth]; omega⟩
  simp only [PyData.showable, decide_eq_true_eq]
  by_cases hne : i.natAbs = 0
  · rw [hne]
    decide
  · exact (Nat.log2_lt hne).mpr h2
end Nw
/-! Webs turned and renumbered. -/
namespace Nw
open PySem PySem.Spec PyProof.Rows L2
section
variable {X : Cx}
theorem mt_indexK (K : PySem.W.Frag) (hK : X.K = K := by rfl) : MtR X "list.index" (rIndex K) := by
  subst hK
  exact mt_index
theorem bmK (K : PySem.W.Frag) {T : String} {r : V → List V → Hp → VK → Prop} {to : TE} {t : TA} {e : Expr} (h : PE X e (tBM X.K T r to t)) (hK : X.K = K := by rfl) : PE X e (tBM K T r to t) := by
  subst hK
  exact h
theorem pe_dgetK {k : Nat} {o i : Expr} {td ty : TE} {pos : Pos} (hr : Room k X.A) (ho : PE X o td) (hi : PE X i ty) (hs : NoSl i) : PE X (.Subscript o i pos) (tDGet td ty) :=
  pe_dget (by have := hr.un; omega) ho hi hs
end
/-- what a dict comprehension's reading asks -/
theorem dc_by {J : It} {g : TG} {tt : TT} {tk tv : TE} {vs : List Nat} {σ : L2.St} {D : Addr} {H1 : Hp} {Qd : Hp → Prop}
    (n : Nat) (Pv : Nat → Hp → Prop) (h0 : Pv 0 (upd H1 D (.dK [])))
    (hgo : ∀ i H, i < n → Pv i H → J.go i H) (hst : ∀ H, Pv n H → J.stop n H)
    (hs : ∀ i H x H', i < n → Pv i H → J.yld i H x H' → g x (wipe σ vs) H' fun σ2 H2 => wipe σ2 vs = wipe σ vs ∧ tt σ2 H2 fun b H3 =>
      if b = true then tk σ2 H3 fun y H4 => tv σ2 H4 fun z H5 => ∃ kvs k, y = kV k ∧ H5 D = some (.dK kvs) ∧ kvs.length < sizeLine ∧ Pv (i + 1) (upd H5 D (.dK (putK kvs k z))) else Pv (i + 1) H3)
    (hd : ∀ H, Pv n H → Qd H) :
    ∃ W : Nat → Nat → Hp → Prop, (∃ m, W 0 m (upd H1 D (.dK []))) ∧ ∀ i m H, W i m H →
      (J.stop i H ∧ Qd H) ∨ (J.go i H ∧ ∃ Nx : Hp → Prop, (∀ H', Nx H' → ∃ m', m' < m ∧ W (i + 1) m' H') ∧ ∀ x H', J.yld i H x H' → g x (wipe σ vs) H' fun σ2 H2 => wipe σ2 vs = wipe σ vs ∧ tt σ2 H2 fun b H3 =>
        if b = true then tk σ2 H3 fun y H4 => tv σ2 H4 fun z H5 => ∃ kvs k, y = kV k ∧ H5 D = some (.dK kvs) ∧ kvs.length < sizeLine ∧ Nx (upd H5 D (.dK (putK kvs k z))) else Nx H3) := by
  refine ⟨fun i m H => m = n - i ∧ i ≤ n ∧ Pv i H, ⟨n, by omega, Nat.zero_le _, h0⟩, ?_⟩
  rintro i m H ⟨rfl, hi, p⟩
  by_cases hlt : i < n
  · refine .inr ⟨hgo i H hlt p, Pv (i + 1), fun H' p' => ⟨n - (i + 1), by omega, rfl, hlt, p'⟩, ?_⟩
    intro x H' y
    exact hs i H x H' hlt p y
  · have e : i = n := by omega
    subst e
    exact .inl ⟨hst H p, hd H p⟩
/-! ### lists told by their members -/
theorem pw_ext {α : Type} {lt : α → α → Bool} (irr : ∀ x, lt x x = false) (asym : ∀ x y, lt x y = true → lt y x = false) :
    ∀ {a b : List α}, a.Pairwise (fun x y => lt x y = true) → b.Pairwise (fun x y => lt x y = true) → (∀ x, x ∈ a ↔ x ∈ b) → a = b
  | [], [], _, _, _ => rfl
  | [], y :: b, _, _, h => by
    have := (h y).mpr (by simp)
    cases this
  | x :: a, [], _, _, h => by
    have := (h x).mp (by simp)
    cases this
  | x :: a, y :: b, ha, hb, h => by
    obtain ⟨a1, a2⟩ := List.pairwise_cons.mp ha
    obtain ⟨b1, b2⟩ := List.pairwise_cons.mp hb
    have e : x = y := by
      rcases List.mem_cons.mp ((h x).mp (by simp)) with e | hx
      · exact e
      rcases List.mem_cons.mp ((h y).mpr (by simp)) with e | hy
      · exact e.symm
      have z1 := b1 x hx
      have z2 := a1 y hy
      rw [asym _ _ z1] at z2
      cases z2
    subst e
    have nx : ∀ {l : List α}, (∀ z ∈ l, lt x z = true) → x ∉ l := fun hl hx => by
      have := hl x hx
      rw [irr] at this
      cases this
    rw [pw_ext irr asym a2 b2 fun z => ?_]
    constructor
    · intro hz
      rcases List.mem_cons.mp ((h z).mp (List.mem_cons_of_mem _ hz)) with e | hz'
      · subst e
        exact absurd hz (nx a1)
      · exact hz'
    · intro hz
      rcases List.mem_cons.mp ((h z).mpr (List.mem_cons_of_mem _ hz)) with e | hz'
      · subst e
        exact absurd hz (nx b1)
      · exact hz'
theorem ltPr_no {p q : Int × Int} (h : ¬ (p.1 < q.1 ∨ (p.1 = q.1 ∧ p.2 < q.2))) : ltPr p q = false := by
  cases e : ltPr p q with
  | false => rfl
  | true => exact absurd (ltPr_iff.mp e) h
theorem pw_asc : ∀ {l : List (Int × Int)}, ascB ltPr l = true → l.Pairwise fun x y => ltPr x y = true
  | [], _ => List.Pairwise.nil
  | x :: l, h => by
    obtain ⟨h1, h2⟩ := asc_tail h
    exact List.Pairwise.cons h1 (pw_asc h2)
theorem asc_pw {α : Type} {lt : α → α → Bool} : ∀ {l : List α}, l.Pairwise (fun x y => lt x y = true) → ascB lt l = true
  | [], _ => rfl
  | [x], _ => rfl
  | x :: y :: l, h => by
    obtain ⟨h1, h2⟩ := List.pairwise_cons.mp h
    show (lt x y && ascB lt (y :: l)) = true
    rw [h1 y (by simp), asc_pw h2]
    rfl
theorem ascI_tail : ∀ {p : Int} {r : List Int}, ascB ltIn (p :: r) = true → (∀ q ∈ r, ltIn p q = true) ∧ ascB ltIn r = true
  | p, [], _ => ⟨fun q hq => (by cases hq), rfl⟩
  | p, q :: r, h => by
    simp only [ascB, Bool.and_eq_true] at h
    obtain ⟨h1, h2⟩ := ascI_tail (p := q) (r := r) h.2
    refine ⟨fun z hz => ?_, h.2⟩
    rcases List.mem_cons.mp hz with rfl | hz
    · exact h.1
    · have a := of_decide_eq_true h.1
      have b := of_decide_eq_true (h1 z hz)
      exact decide_eq_true (by omega)
theorem pwI_asc : ∀ {l : List Int}, ascB ltIn l = true → l.Pairwise fun x y => ltIn x y = true
  | [], _ => List.Pairwise.nil
  | x :: l, h => by
    obtain ⟨h1, h2⟩ := ascI_tail h
    exact List.Pairwise.cons h1 (pwI_asc h2)
theorem asc_ext {a b : List (Int × Int)} (ha : ascB ltPr a = true) (hb : ascB ltPr b = true) (h : ∀ x, x ∈ a ↔ x ∈ b) : a = b :=
  pw_ext (fun x => ltPr_no (by omega)) (fun x y e => ltPr_no (by have := ltPr_iff.mp e; omega)) (pw_asc ha) (pw_asc hb) h
theorem ltIn_no {p q : Int} (h : ¬ p < q) : ltIn p q = false := by
  unfold ltIn
  exact decide_eq_false h
theorem ltIn_yes {p q : Int} (h : ltIn p q = true) : p < q := by
  unfold ltIn at h
  exact of_decide_eq_true h
theorem ascI_ext {a b : List Int} (ha : ascB ltIn a = true) (hb : ascB ltIn b = true) (h : ∀ x, x ∈ a ↔ x ∈ b) : a = b :=
  pw_ext (fun x => ltIn_no (by omega)) (fun x y e => ltIn_no (by have := ltIn_yes e; omega)) (pwI_asc ha) (pwI_asc hb) h
theorem nodup_asc {l : List (Int × Int)} (h : ascB ltPr l = true) : l.Nodup :=
  (pw_asc h).imp fun {a b} e n => by
    subst n
    have := ltPr_iff.mp e
    omega
theorem nodup_ascI {l : List Int} (h : ascB ltIn l = true) : l.Nodup :=
  (pwI_asc h).imp fun {a b} e n => by
    subst n
    have := of_decide_eq_true e
    omega
/-- sorted ints that are apart -/
theorem asc_sortedI {l m : List Int} (hp : m.Perm l) (hs : m.Pairwise (· ≤ ·)) (hn : l.Nodup) : ascB ltIn m = true := by
  refine asc_pw ?_
  have hm : m.Nodup := hp.nodup_iff.mpr hn
  have := hs.and hm
  exact this.imp fun {a b} h => decide_eq_true (by have := h.1; have := h.2; omega)
/-- sorted pairs that are apart -/
theorem sortedP {K : PySem.W.Frag} {H : Hp} {L : List (Int × Int)} {xs ys : List V} (hA : DaAll K H (L.map dPair) xs) (hn : L.Nodup)
    (s1 : SrtO.Srtd (ltP (keyOf H)) ys) (s2 : SrtO.Stb (ltP (keyOf H)) ys xs) : ∃ M : List (Int × Int), DaAll K H (M.map dPair) ys ∧ ascB ltPr M = true ∧ (∀ p, p ∈ M ↔ p ∈ L) ∧ M.length = L.length := by
  obtain ⟨k1, k2⟩ := keys_of hA
  have hp : (ys.map (keyOf H)).Perm L := by
    rw [← k2]
    exact s2.perm.map _
  refine ⟨ys.map (keyOf H), ?_, ?_, fun p => hp.mem_iff, hp.length_eq⟩
  · have hy : ∀ x ∈ ys, ∃ t, x = V.ref t ∧ H t = some (.tup [.int (keyOf H x).1, .int (keyOf H x).2]) := fun x hx => k1 x (s2.perm.mem_iff.mp hx)
    clear s1 s2 hp
    induction ys with
    | nil => rfl
    | cons y ys ih =>
      obtain ⟨t, rfl, ht⟩ := hy y (by simp)
      exact ⟨_, _, rfl, dPair_of ht, ih fun x hx => hy x (List.mem_cons_of_mem _ hx)⟩
  · have hm : (ys.map (keyOf H)).Nodup := hp.nodup_iff.mpr hn
    have hs : (ys.map (keyOf H)).Pairwise fun x y => SrtO.lexB y x = false := List.pairwise_map.mpr s1
    refine asc_pw ((hs.and hm).imp fun {a b} h => ltPr_iff.mpr ?_)
    have h1 := SrtO.lexB_no.mp h.1
    have h2 : ¬ (a.1 = b.1 ∧ a.2 = b.2) := fun e => h.2 (Prod.ext e.1 e.2)
    omega
/-! ### orders -/
abbrev iota (n : Int) : List Int := (List.range n.toNat).map fun i : Nat => (i : Int)
abbrev IsOrd (n : Int) (o : List Int) : Prop := o.Perm (iota n)
theorem mem_iota {n x : Int} : x ∈ iota n ↔ 0 ≤ x ∧ x < n := by
  constructor
  · intro h
    obtain ⟨i, hi, rfl⟩ := List.mem_map.mp h
    have := List.mem_range.mp hi
    omega
  · rintro ⟨h1, h2⟩
    exact List.mem_map.mpr ⟨x.toNat, List.mem_range.mpr (by omega), by omega⟩
theorem asc_iota_aux : ∀ n : Nat, ((List.range n).map fun i : Nat => (i : Int)).Pairwise fun x y => ltIn x y = true := fun n =>
  List.pairwise_map.mpr (List.pairwise_lt_range.imp fun {a b} h => decide_eq_true (by omega))
theorem asc_iota (n : Int) : ascB ltIn (iota n) = true := asc_pw (asc_iota_aux _)
theorem nodup_iota (n : Int) : (iota n).Nodup := nodup_ascI (asc_iota n)
theorem IsOrd.mem {n : Int} {o : List Int} (h : IsOrd n o) {x : Int} : x ∈ o ↔ 0 ≤ x ∧ x < n := h.mem_iff.trans mem_iota
theorem IsOrd.len {n : Int} {o : List Int} (h : IsOrd n o) : o.length = n.toNat := by
  rw [h.length_eq, List.length_map, List.length_range]
theorem IsOrd.nd {n : Int} {o : List Int} (h : IsOrd n o) : o.Nodup := h.nodup_iff.mpr (nodup_iota n)
/-- the place of a quantity in an order -/
def pl (o : List Int) (q : Int) : Int := (o.idxOf q : Int)
theorem pl_at {o : List Int} (h : o.Nodup) {i : Nat} {q : Int} (e : o[i]? = some q) : pl o q = (i : Int) := by
  obtain ⟨hi, rfl⟩ := List.getElem?_eq_some_iff.mp e
  unfold pl
  rw [h.idxOf_getElem i hi]
theorem pl_get {n : Int} {o : List Int} (h : IsOrd n o) {q : Int} (hq : 0 ≤ q ∧ q < n) : ∃ j : Nat, o[j]? = some q ∧ pl o q = (j : Int) ∧ (j : Int) < n := by
  have hm := h.mem.mpr hq
  have hl := List.idxOf_lt_length_iff.mpr hm
  refine ⟨o.idxOf q, ?_, rfl, ?_⟩
  · rw [List.getElem?_eq_getElem hl, List.getElem_idxOf]
  · have := h.len
    omega
theorem pl_lt {n : Int} {o : List Int} (h : IsOrd n o) {q : Int} (hq : 0 ≤ q ∧ q < n) : 0 ≤ pl o q ∧ pl o q < n := by
  obtain ⟨j, _, e, l⟩ := pl_get h hq
  omega
theorem pl_inj {n : Int} {o : List Int} (h : IsOrd n o) {a b : Int} (ha : 0 ≤ a ∧ a < n) (hb : 0 ≤ b ∧ b < n) (e : pl o a = pl o b) : a = b := by
  obtain ⟨j, g1, e1, _⟩ := pl_get h ha
  obtain ⟨k, g2, e2, _⟩ := pl_get h hb
  have : j = k := by omega
  subst this
  rw [g1] at g2
  exact Option.some.inj g2
theorem iota_at {n : Int} {i : Nat} (h : (i : Int) < n) : (iota n)[i]? = some (i : Int) := by
  rw [List.getElem?_map, List.getElem?_range (by omega)]
  rfl
theorem list_ext_at {α : Type} {a b : List α} (hl : a.length = b.length) (h : ∀ (i : Nat) (x : α), b[i]? = some x → a[i]? = some x) : a = b := by
  refine List.ext_getElem? fun i => ?_
  cases e : b[i]? with
  | some x => exact h i x e
  | none =>
    have := List.getElem?_eq_none_iff.mp e
    exact List.getElem?_eq_none_iff.mpr (by omega)
theorem IsOrd.back {n : Int} {o : List Int} (h : IsOrd n o) : IsOrd n ((iota n).map (pl o)) := by
  have e : o.map (pl o) = iota n := by
    refine list_ext_at (by rw [List.length_map, h.len, List.length_map, List.length_range]) fun i x hx => ?_
    have hi : (i : Int) < n := by
      obtain ⟨hi, _⟩ := List.getElem?_eq_some_iff.mp hx
      rw [List.length_map, List.length_range] at hi
      omega
    rw [iota_at hi] at hx
    obtain rfl := (Option.some.inj hx)
    have hl : i < o.length := by rw [h.len]; omega
    have := List.getElem?_eq_getElem hl
    rw [List.getElem?_map, this, Option.map_some, pl_at h.nd this]
  have p := h.map (pl o)
  rw [e] at p
  exact p.symm
theorem pl_back {n : Int} {o : List Int} (h : IsOrd n o) {q : Int} (hq : 0 ≤ q ∧ q < n) : pl ((iota n).map (pl o)) (pl o q) = q := by
  have e : ((iota n).map (pl o))[q.toNat]? = some (pl o q) := by
    rw [List.getElem?_map, iota_at (by omega), Option.map_some, Int.toNat_of_nonneg hq.1]
  rw [pl_at h.back.nd e, Int.toNat_of_nonneg hq.1]
theorem IsOrd.both {n : Int} {o s : List Int} (h : IsOrd n o) (g : IsOrd n s) : IsOrd n (s.map fun x => o.getD x.toNat 0) := by
  have e : (iota n).map (fun x => o.getD x.toNat 0) = o := by
    refine list_ext_at (by rw [List.length_map, h.len, List.length_map, List.length_range]) fun i x hx => ?_
    have hi : (i : Int) < n := by
      obtain ⟨hi, _⟩ := List.getElem?_eq_some_iff.mp hx
      rw [h.len] at hi
      omega
    rw [List.getElem?_map, iota_at hi, Option.map_some, Int.toNat_natCast, List.getD_eq_getElem?_getD, hx]
    rfl
  have p := g.map fun x => o.getD x.toNat 0
  rw [e] at p
  exact p.trans h
theorem pl_both {n : Int} {o s : List Int} (h : IsOrd n o) (g : IsOrd n s) {q : Int} (hq : 0 ≤ q ∧ q < n) : pl (s.map fun x => o.getD x.toNat 0) q = pl s (pl o q) := by
  obtain ⟨j, g1, e1, l1⟩ := pl_get h hq
  obtain ⟨k, g2, e2, l2⟩ := pl_get g (q := pl o q) (by omega)
  rw [e2]
  refine pl_at (h.both g).nd ?_
  rw [List.getElem?_map, g2, Option.map_some, e1, Int.toNat_natCast, List.getD_eq_getElem?_getD, g1]
  rfl
/-! ### webs renumbered -/
abbrev RowRen (f : Int → Int) (r s : List Int) : Prop := ∀ t, t ∈ s ↔ ∃ q ∈ r, t = f q
structure Ren (f : Int → Int) (u w : Wb) : Prop where
  n : w.n = u.n
  ps : ∀ p, p ∈ w.ps ↔ ∃ q ∈ u.ps, p = (f q.1, f q.2)
  len : w.ns.length = u.ns.length
  ns : ∀ (k : Nat) (r s : List Int), u.ns[k]? = some r → w.ns[k]? = some s → RowRen f r s
theorem Ren.uniq {f : Int → Int} {u w v : Wb} (h : Ren f u w) (g : Ren f u v) (hw : w.Ok) (hv : v.Ok) : w = v := by
  have e1 : w.n = v.n := h.n.trans g.n.symm
  have e2 : w.ps = v.ps := asc_ext hw.asc hv.asc fun x => (h.ps x).trans (g.ps x).symm
  have e3 : w.ns = v.ns := by
    refine list_ext_at (h.len.trans g.len.symm) fun i x hx => ?_
    have hi : i < u.ns.length := by
      obtain ⟨hi, _⟩ := List.getElem?_eq_some_iff.mp hx
      have := g.len
      omega
    have hy := List.getElem?_eq_getElem (l := w.ns) (i := i) (by have := h.len; omega)
    have hr := List.getElem?_eq_getElem hi
    rw [hy]
    refine congrArg some (ascI_ext (hw.ns _ (List.mem_of_getElem? hy)).2.2 (hv.ns _ (List.mem_of_getElem? hx)).2.2 fun t => ?_)
    exact (h.ns i _ _ hr hy t).trans (g.ns i _ _ hr hx t).symm
  obtain ⟨a, b, c⟩ := w
  obtain ⟨d, e, f⟩ := v
  simp only at e1 e2 e3
  rw [e1, e2, e3]
theorem Ren.comp {f g h : Int → Int} {u v w : Wb} (a : Ren f u v) (b : Ren g v w) (hu : u.Ok) (e : ∀ q, 0 ≤ q ∧ q < u.n → h q = g (f q)) : Ren h u w := by
  refine ⟨b.n.trans a.n, fun p => ?_, b.len.trans a.len, fun k r s hr hs t => ?_⟩
  · rw [b.ps]
    constructor
    · rintro ⟨q, hq, rfl⟩
      obtain ⟨z, hz, rfl⟩ := (a.ps q).mp hq
      have := hu.ps z hz
      exact ⟨z, hz, by rw [e _ this.1, e _ this.2]⟩
    · rintro ⟨z, hz, rfl⟩
      have := hu.ps z hz
      exact ⟨(f z.1, f z.2), (a.ps _).mpr ⟨z, hz, rfl⟩, by rw [e _ this.1, e _ this.2]⟩
  · have hk : k < v.ns.length := by
      obtain ⟨hi, _⟩ := List.getElem?_eq_some_iff.mp hs
      have := b.len
      omega
    have hm := List.getElem?_eq_getElem hk
    rw [b.ns k _ s hm hs]
    constructor
    · rintro ⟨q, hq, rfl⟩
      obtain ⟨z, hz, rfl⟩ := (a.ns k r _ hr hm q).mp hq
      exact ⟨z, hz, by rw [e _ ((hu.ns r (List.mem_of_getElem? hr)).2.1 z hz)]⟩
    · rintro ⟨z, hz, rfl⟩
      exact ⟨f z, (a.ns k r _ hr hm _).mpr ⟨z, hz, rfl⟩, by rw [e _ ((hu.ns r (List.mem_of_getElem? hr)).2.1 z hz)]⟩
theorem Ren.refl {h : Int → Int} {u : Wb} (hu : u.Ok) (e : ∀ q, 0 ≤ q ∧ q < u.n → h q = q) : Ren h u u := by
  refine ⟨rfl, fun p => ?_, rfl, fun k r s hr hs t => ?_⟩
  · constructor
    · intro hp
      have := hu.ps p hp
      exact ⟨p, hp, by rw [e _ this.1, e _ this.2]⟩
    · rintro ⟨z, hz, rfl⟩
      have := hu.ps z hz
      rw [e _ this.1, e _ this.2]
      exact hz
  · rw [hr] at hs
    cases hs
    have b := (hu.ns r (List.mem_of_getElem? hr)).2.1
    constructor
    · intro ht
      exact ⟨t, ht, by rw [e _ (b t ht)]⟩
    · rintro ⟨z, hz, rfl⟩
      rw [e _ (b z hz)]
      exact hz
theorem Ren.ok {n : Int} {o : List Int} {u w : Wb} (h : Ren (pl o) u w) (hu : u.Ok) (ho : IsOrd u.n o) (ha : ascB ltPr w.ps = true) (hr : ∀ r ∈ w.ns, ascB ltIn r = true) : w.Ok := by
  refine ⟨by rw [h.n]; exact hu.lo, by rw [h.n]; exact hu.hi, fun p hp => ?_, ha, by rw [h.len]; exact hu.few, fun r hr' => ?_⟩
  · obtain ⟨q, hq, rfl⟩ := (h.ps p).mp hp
    have := hu.ps q hq
    rw [h.n]
    exact ⟨pl_lt ho this.1, pl_lt ho this.2⟩
  · obtain ⟨k, hk⟩ := List.mem_iff_getElem?.mp hr'
    have hk2 : k < u.ns.length := by
      obtain ⟨hi, _⟩ := List.getElem?_eq_some_iff.mp hk
      have := h.len
      omega
    have hm := List.getElem?_eq_getElem hk2
    have hR := h.ns k _ r hm hk
    obtain ⟨z1, z2, z3⟩ := hu.ns _ (List.mem_of_getElem? hm)
    refine ⟨?_, fun t ht => ?_, hr r hr'⟩
    · intro e
      subst e
      cases hc : u.ns[k] with
      | nil => exact z1 hc
      | cons x l =>
        have := (hR (pl o x)).mpr ⟨x, by rw [hc]; simp, rfl⟩
        cases this
    · obtain ⟨q, hq, rfl⟩ := (hR t).mp ht
      rw [h.n]
      exact pl_lt ho (z2 q hq)
structure Trn (u w : Wb) : Prop where
  n : w.n = u.n
  ps : ∀ p, p ∈ w.ps ↔ (p.2, p.1) ∈ u.ps
  ns : w.ns = u.ns
theorem Trn.uniq {u w v : Wb} (h : Trn u w) (g : Trn u v) (hw : ascB ltPr w.ps = true) (hv : ascB ltPr v.ps = true) : w = v := by
  have e1 : w.n = v.n := h.n.trans g.n.symm
  have e2 : w.ps = v.ps := asc_ext hw hv fun x => (h.ps x).trans (g.ps x).symm
  have e3 : w.ns = v.ns := h.ns.trans g.ns.symm
  obtain ⟨a, b, c⟩ := w
  obtain ⟨d, e, f⟩ := v
  simp only at e1 e2 e3
  rw [e1, e2, e3]
theorem Trn.back {u w v : Wb} (h : Trn u w) (g : Trn w v) (hu : ascB ltPr u.ps = true) (hv : ascB ltPr v.ps = true) : v = u := by
  have e1 : v.n = u.n := g.n.trans h.n
  have e2 : v.ps = u.ps := asc_ext hv hu fun x => (g.ps x).trans (h.ps _)
  have e3 : v.ns = u.ns := g.ns.trans h.ns
  obtain ⟨a, b, c⟩ := v
  obtain ⟨d, e, f⟩ := u
  simp only at e1 e2 e3
  rw [e1, e2, e3]
theorem Trn.ok {u w : Wb} (h : Trn u w) (hu : u.Ok) (ha : ascB ltPr w.ps = true) : w.Ok := by
  refine ⟨by rw [h.n]; exact hu.lo, by rw [h.n]; exact hu.hi, fun p hp => ?_, ha, by rw [h.ns]; exact hu.few, ?_⟩
  · have := hu.ps _ ((h.ps p).mp hp)
    rw [h.n]
    exact ⟨this.2, this.1⟩
  · rw [h.ns, h.n]
    exact hu.ns
/-! ### whole webs shown -/
theorem sm_rows : ∀ {rs : List (List Int)}, (∀ r ∈ rs, (∀ t ∈ r, Sm t) ∧ r.length ≤ 20) → PyData.leavesShortAll 8 (rs.map dInts) = true ∧ PyData.showableAll (rs.map dInts) = true ∧ PyData.weightAll (rs.map dInts) ≤ 200 * rs.length
  | [], _ => by simp [PyData.leavesShortAll, PyData.showableAll, PyData.weightAll]
  | a :: r, h => by
    obtain ⟨h1, h2, h3⟩ := sm_rows (rs := r) fun t ht => h t (List.mem_cons_of_mem _ ht)
    obtain ⟨s1, s2⟩ := h a (by simp)
    obtain ⟨g1, g2, g3⟩ := sm_ints s1
    refine ⟨?_, ?_, ?_⟩
    · simp only [List.map_cons, dInts, PyData.leavesShortAll, PyData.leavesShort, g1, Bool.true_and]
      exact h1
    · simp only [List.map_cons, dInts, PyData.showableAll, PyData.showable, g2, Bool.true_and]
      exact h2
    · have e : PyData.weight (dInts a) = PyData.weightAll (a.map PyData.int) := by
        simp only [dInts, PyData.weight]
      simp only [List.map_cons, PyData.weightAll, List.length_cons]
      omega
theorem show_web {u : Wb} (hu : u.Ok) : u.d.showable = true ∧ u.d.shown.length ≤ sizeLine ∧ u.d.depth ≤ 60 := by
  have b1 := hu.lo
  have b2 := hu.hi
  have b3 := hu.few
  have b4 := hu.len
  obtain ⟨p1, p2, p3⟩ := sm_pairs (r := u.ps) fun t ht => by
    have := hu.ps t ht
    exact ⟨⟨this.1.1, by omega⟩, ⟨this.2.1, by omega⟩⟩
  obtain ⟨r1, r2, r3⟩ := sm_rows (rs := u.ns) fun r hr => ⟨fun t ht => by
    have := (hu.ns r hr).2.1 t ht
    exact ⟨this.1, by omega⟩, hu.row hr⟩
  obtain ⟨g1, g2, g3⟩ := short_int (i := u.n) (by omega) (by omega)
  refine ⟨?_, ?_, ?_⟩
  · simp only [Wb.d, dPairs, dRows, PyData.showable, PyData.showableAll, p2, r2, Bool.and_true, decide_eq_true_eq]
    exact g2
  · refine PyData.shown_fits (B := 8) (by omega) (by omega) ?_ ?_
    · simp only [Wb.d, dPairs, dRows, PyData.leavesShort, PyData.leavesShortAll, p1, r1, Bool.and_true, decide_eq_true_eq]
      exact g1
    · have e : u.d.weight = PyData.weight (.int u.n) + 1 + (PyData.weightAll (u.ps.map dPair) + 1 + (PyData.weightAll (u.ns.map dInts) + 1 + 0)) := by
        simp only [Wb.d, dPairs, dRows, PyData.weight, PyData.weightAll]
      omega
  · have := dep_web u
    omega
/-! ### new webs -/
/-- new rows -/
structure NewR (H H' : Hp) (ns : List (List Int)) (L : Addr) (bs : List Addr) : Prop where
  ex : Ex H H'
  new : H L = none
  at_ : H' L = some (.lst (bs.map V.ref))
  len : bs.length = ns.length
  row : ∀ (k : Nat) (b : Addr), bs[k]? = some b → (H b = none ∧ b ≠ L) ∧ ∃ r, ns[k]? = some r ∧ H' b = some (.lst (r.map V.int))
  nd : bs.Nodup
theorem rows_of {K : PySem.W.Frag} {H' : Hp} : ∀ {ns : List (List Int)} {bs : List Addr}, bs.length = ns.length → (∀ (k : Nat) (b : Addr), bs[k]? = some b → ∃ r, ns[k]? = some r ∧ H' b = some (.lst (r.map V.int)) ∧ r.length ≤ 100000) →
    DaAll K H' (ns.map dInts) (bs.map V.ref)
  | [], [], _, _ => rfl
  | [], _ :: _, h, _ => by simp at h
  | _ :: _, [], h, _ => by simp at h
  | r :: ns, b :: bs, h, g => by
    obtain ⟨r', e, h1, h2⟩ := g 0 b rfl
    obtain rfl : r = r' := by simpa using e
    exact ⟨_, _, rfl, dInts_of h1 h2, rows_of (by simpa using h) fun k b' hb => g (k + 1) b' (by simpa using hb)⟩
/-- a new web -/
structure NewW (K : PySem.W.Frag) (H H' : Hp) (w : Wb) (T L1 L2 : Addr) (xs : List V) (bs : List Addr) : Prop where
  ex : Ex H H'
  tup : H' T = some (.tup [.int w.n, .ref L1, .ref L2])
  new : H L1 = none
  at_ : H' L1 = some (.lst xs)
  ps : DaAll K H' (w.ps.map dPair) xs
  new2 : H L2 = none
  at2 : H' L2 = some (.lst (bs.map V.ref))
  len : bs.length = w.ns.length
  row : ∀ (k : Nat) (b : Addr), bs[k]? = some b → (H b = none ∧ b ≠ L2 ∧ b ≠ L1) ∧ ∃ r, w.ns[k]? = some r ∧ H' b = some (.lst (r.map V.int))
  nd : bs.Nodup
  ne : L1 ≠ L2
theorem pairs_rm {K : PySem.W.Frag} {H : Hp} {D : Addr} {ys : List V} (hD : H D = some (.lst ys)) : ∀ {L : List (Int × Int)} {acc : List V}, DaAll K H (L.map dPair) acc → DaAll K (rm H D) (L.map dPair) acc
  | [], _, h => h
  | p :: L, acc, h => by
    obtain ⟨x, xs, rfl, ⟨a, zs, rfl, hS, z1, r1, rfl, e1, z2, r2, rfl, e2, rfl⟩, h2⟩ := h
    obtain rfl := e1
    obtain rfl := e2
    refine ⟨_, _, rfl, dPair_of ?_, pairs_rm hD h2⟩
    rw [rm_ne (fun e => by rw [e, hD] at hS; cases hS)]
    exact hS
theorem NewW.da {K : PySem.W.Frag} {H H' : Hp} {w : Wb} {T L1 L2 : Addr} {xs : List V} {bs : List Addr} (h : NewW K H H' w T L1 L2 xs bs) (hw : w.Ok) : Da K H' w.d (.ref T) := by
  have l1 := hw.len
  have l2 := hw.few
  refine ⟨T, _, rfl, h.tup, _, _, rfl, rfl, _, _, rfl, ⟨L1, xs, rfl, h.at_, h.ps, by rw [List.length_map]; omega⟩, _, _, rfl, ⟨L2, _, rfl, h.at2, ?_, by rw [List.length_map]; omega⟩, rfl⟩
  refine rows_of h.len fun k b hb => ?_
  obtain ⟨_, r, e, g⟩ := h.row k b hb
  have := hw.row (List.mem_of_getElem? e)
  exact ⟨r, e, g, by omega⟩
/-- a new web has nothing to do with an old list -/
theorem NewW.off {K : PySem.W.Frag} {H H' : Hp} {w : Wb} {T L1 L2 p : Addr} {xs zs : List V} {bs : List Addr} (h : NewW K H H' w T L1 L2 xs bs) (hw : w.Ok) (hp : H p = some (.lst zs)) : Da K (rm H' p) w.d (.ref T) := by
  have hp' := h.ex _ _ hp
  have l1 := hw.len
  have l2 := hw.few
  refine ⟨T, _, rfl, ?_, _, _, rfl, rfl, _, _, rfl, ⟨L1, xs, rfl, ?_, pairs_rm hp' h.ps, by rw [List.length_map]; omega⟩, _, _, rfl, ⟨L2, bs.map V.ref, rfl, ?_, ?_, by rw [List.length_map]; omega⟩, rfl⟩
  · rw [rm_ne (fun e => by have := h.tup; rw [e, hp'] at this; cases this)]
    exact h.tup
  · rw [rm_ne (fun e => by have := h.new; rw [e, hp] at this; cases this)]
    exact h.at_
  · rw [rm_ne (fun e => by have := h.new2; rw [e, hp] at this; cases this)]
    exact h.at2
  · refine rows_of h.len fun k b hb => ?_
    obtain ⟨n, r, e, g⟩ := h.row k b hb
    have := hw.row (List.mem_of_getElem? e)
    refine ⟨r, e, ?_, by omega⟩
    rw [rm_ne (fun e => by have := n.1; rw [e, hp] at this; cases this)]
    exact g
theorem NewR.nil {H : Hp} {D : Addr} (hD : H D = none) : NewR H (upd H D (.lst [])) [] D [] :=
  ⟨Ex.nw hD, hD, upd_same, rfl, fun k b hb => by simp at hb, List.nodup_nil⟩
theorem NewR.snoc {H H1 H2 : Hp} {D l : Addr} {ss : List (List Int)} {s : List Int} {bs : List Addr} (h : NewR H H1 ss D bs) (e : Ex H1 H2) (hl : H1 l = none) (h2 : H2 l = some (.lst (s.map V.int))) :
    NewR H (upd H2 D (.lst (bs.map V.ref ++ [.ref l]))) (ss ++ [s]) D (bs ++ [l]) := by
  have lD : l ≠ D := fun x => by
    have := h.at_
    rw [← x, hl] at this
    cases this
  refine ⟨(h.ex.tr e).wr h.new, h.new, ?_, ?_, ?_, ?_⟩
  · rw [upd_same, List.map_append]
    rfl
  · rw [List.length_append, List.length_append, h.len]
    rfl
  · intro k b hb
    by_cases hk : k < bs.length
    · rw [List.getElem?_append_left hk] at hb
      obtain ⟨n1, r', n2, n3⟩ := h.row k b hb
      refine ⟨n1, r', ?_, ?_⟩
      · rw [List.getElem?_append_left (by rw [← h.len]; exact hk)]
        exact n2
      · rw [upd_ne n1.2]
        exact e _ _ n3
    · have hk' : k = bs.length := by
        obtain ⟨z, _⟩ := List.getElem?_eq_some_iff.mp hb
        rw [List.length_append, List.length_singleton] at z
        omega
      subst hk'
      rw [List.getElem?_concat_length] at hb
      cases hb
      refine ⟨⟨h.ex.fr hl, lD⟩, s, ?_, by rw [upd_ne lD]; exact h2⟩
      rw [h.len, List.getElem?_concat_length]
  · refine nodup_snoc h.nd fun hm => ?_
    obtain ⟨k, hk⟩ := List.mem_iff_getElem?.mp hm
    obtain ⟨_, r', _, h3⟩ := h.row k l hk
    rw [h3] at hl
    cases hl
theorem putK_len (kvs : List (Key × V)) (k : Key) (v : V) : (putK kvs k v).length ≤ kvs.length + 1 := by
  unfold putK
  split
  · rw [List.length_map]
    omega
  · rw [List.length_append, List.length_singleton]
    omega
/-- a dict of the places, as far as it is made -/
def PlTo (o : List Int) (i : Nat) (kvs : List (Key × V)) : Prop := kvs.length ≤ i ∧ ∀ (j : Nat) (q : Int), j < i → o[j]? = some q → valV kvs (.inl q) = some (.int (j : Int))
theorem PlTo.step {o : List Int} (hn : o.Nodup) {i : Nat} {kvs : List (Key × V)} (h : PlTo o i kvs) {q : Int} (hq : o[i]? = some q) : PlTo o (i + 1) (putK kvs (.inl q) (.int (i : Int))) := by
  refine ⟨Nat.le_trans (putK_len _ _ _) (by have := h.1; omega), fun j z hj hz => ?_⟩
  rw [valV_put]
  by_cases e : j = i
  · subst e
    rw [hq] at hz
    cases hz
    rw [if_pos rfl]
  · have ne : z ≠ q := nodup_at hn hz hq e
    rw [if_neg (fun x => ne (Sum.inl.inj x))]
    exact h.2 j z (by omega) hz
theorem PlTo.get {n : Int} {o : List Int} (ho : IsOrd n o) {kvs : List (Key × V)} (h : PlTo o o.length kvs) {q : Int} (hq : 0 ≤ q ∧ q < n) : valV kvs (.inl q) = some (.int (pl o q)) := by
  obtain ⟨j, g, e, l⟩ := pl_get ho hq
  rw [e]
  refine h.2 j q ?_ g
  obtain ⟨z, _⟩ := List.getElem?_eq_some_iff.mp g
  exact z
/-- the pairs of a web by the places -/
theorem ren_nodup {o : List Int} {u : Wb} (hu : u.Ok) (ho : IsOrd u.n o) : (u.ps.map fun q => (pl o q.1, pl o q.2)).Nodup := by
  refine (List.pairwise_map).mpr ?_
  have h := nodup_asc hu.asc
  have h2 : u.ps.Pairwise fun a b => a ∈ u.ps ∧ b ∈ u.ps ∧ a ≠ b := by
    refine List.Pairwise.imp_of_mem (fun {a b} ha hb n => ⟨ha, hb, n⟩) h
  refine h2.imp fun {a b} n e => n.2.2 ?_
  have ha := hu.ps a n.1
  have hb := hu.ps b n.2.1
  simp only [Prod.mk.injEq] at e
  exact Prod.ext (pl_inj ho ha.1 hb.1 e.1) (pl_inj ho ha.2 hb.2 e.2)
theorem row_nodup {n : Int} {o : List Int} {r : List Int} (hr : ∀ t ∈ r, 0 ≤ t ∧ t < n) (ha : ascB ltIn r = true) (ho : IsOrd n o) : (r.map (pl o)).Nodup := by
  refine (List.pairwise_map).mpr ?_
  have h2 : r.Pairwise fun a b => a ∈ r ∧ b ∈ r ∧ a ≠ b := List.Pairwise.imp_of_mem (fun {a b} ha hb n => ⟨ha, hb, n⟩) (nodup_ascI ha)
  exact h2.imp fun {a b} n e => n.2.2 (pl_inj ho (hr a n.1) (hr b n.2.1) e)
theorem row_ren {n : Int} {o : List Int} {r s : List Int} (hr : ∀ t ∈ r, 0 ≤ t ∧ t < n) (ha : ascB ltIn r = true) (ho : IsOrd n o) (hp : s.Perm (r.map (pl o))) (hw : s.Pairwise (· ≤ ·)) : ascB ltIn s = true ∧ RowRen (pl o) r s ∧ s.length = r.length := by
  refine ⟨asc_sortedI hp hw (row_nodup hr ha ho), fun t => hp.mem_iff.trans ?_, by rw [hp.length_eq, List.length_map]⟩
  rw [List.mem_map]
  constructor
  · rintro ⟨q, hq, rfl⟩
    exact ⟨q, hq, rfl⟩
  · rintro ⟨q, hq, rfl⟩
    exact ⟨q, hq, rfl⟩
theorem ren_of {o : List Int} {u : Wb} {M : List (Int × Int)} {ss : List (List Int)} (hM : ∀ p, p ∈ M ↔ p ∈ u.ps.map fun q => (pl o q.1, pl o q.2)) (hl : ss.length = u.ns.length)
    (hs : ∀ (k : Nat) (s : List Int), ss[k]? = some s → ∃ r, u.ns[k]? = some r ∧ RowRen (pl o) r s) : Ren (pl o) u ⟨u.n, M, ss⟩ := by
  refine ⟨rfl, fun p => ?_, hl, fun k r s hr hs' => ?_⟩
  · show p ∈ M ↔ _
    rw [hM, List.mem_map]
    constructor
    · rintro ⟨q, hq, rfl⟩
      exact ⟨q, hq, rfl⟩
    · rintro ⟨q, hq, rfl⟩
      exact ⟨q, hq, rfl⟩
  · obtain ⟨r', e, g⟩ := hs k s hs'
    rw [hr] at e
    cases e
    exact g
theorem pop_perm {α : Type} : ∀ {l : List α} {k : Nat} {x : α}, l[k]? = some x → (x :: l.eraseIdx k).Perm l
  | [], _, _, h => by simp at h
  | a :: l, 0, x, h => by
    obtain rfl : a = x := by simpa using h
    exact List.Perm.refl _
  | a :: l, k + 1, x, h => by
    have ih := pop_perm (l := l) (k := k) (x := x) (by simpa using h)
    rw [List.eraseIdx_cons_succ]
    exact (List.Perm.swap a x _).trans (ih.cons a)
theorem map_pop {α β : Type} (f : α → β) : ∀ (l : List α) (k : Nat), (l.map f).eraseIdx k = (l.eraseIdx k).map f
  | [], _ => rfl
  | a :: l, 0 => rfl
  | a :: l, k + 1 => by
    rw [List.map_cons, List.eraseIdx_cons_succ, List.eraseIdx_cons_succ, List.map_cons, map_pop f l k]
end Nw
/-! Fillings: what the looks at them answer; lines with numbers, steps, rows of states. -/
namespace Nw
open PySem PySem.Spec PyProof.Rows L2
/-! ### an item of a list, set anew -/
def rGetL (K : PySem.W.Frag) : V → V → Hp → VK → Prop := fun o i H Q => ∃ p xs k v, o = .ref p ∧ i = .int k ∧ 0 ≤ k ∧ SqL K H p xs ∧ xs[k.toNat]? = some v ∧ Q v H
theorem get_list {X : Cx} (K : PySem.W.Frag) (hK : X.K = K := by rfl) : PGet X (rGetL K) := by
  subst hK
  intro pins s σ H o i ov iv Q I ro ri h
  obtain ⟨p, xs, k, v, rfl, rfl, h0, hq, he, q⟩ := h
  cases ro
  obtain ⟨t, rfl⟩ := ri
  obtain ⟨its, r, pl, hz⟩ := I.list hq
  obtain ⟨u, ew, rw'⟩ := r.get he
  have hl := r.length
  have hn := line63
  have hk : k.toNat < xs.length := (List.getElem?_eq_some_iff.mp he).1
  exact wpAny_getItem_list pl.isList h0 (by omega) (by simpa using ew) ⟨v, H, I, rw', q⟩
/-! ### lines with numbers -/
abbrev NL := (Int × Int) × Int
def dNum (l : NL) : PyData := .tuple [.int l.1.1, .int l.1.2, .int l.2]
def stp (vals acc : List Int) (l : NL) : List Int := acc.set l.1.2.toNat (acc.getD l.1.2.toNat 0 + l.2 * vals.getD l.1.1.toNat 0)
def mvs (vals : List Int) (ls : List NL) (acc : List Int) : List Int := ls.foldl (stp vals) acc
theorem mvs_snoc (vals : List Int) (ls : List NL) (acc : List Int) (l : NL) : mvs vals (ls ++ [l]) acc = stp vals (mvs vals ls acc) l := by
  unfold mvs
  rw [List.foldl_append]
  rfl
theorem mvs_app (vals : List Int) (ls ms : List NL) (acc : List Int) : mvs vals (ls ++ ms) acc = mvs vals ms (mvs vals ls acc) := by
  unfold mvs
  rw [List.foldl_append]
theorem mvs_len (vals : List Int) : ∀ (ls : List NL) (acc : List Int), (mvs vals ls acc).length = acc.length
  | [], _ => rfl
  | l :: ls, acc => by
    show (mvs vals ls (stp vals acc l)).length = acc.length
    rw [mvs_len vals ls]
    unfold stp
    rw [List.length_set]
def mv (n : Nat) (ls : List NL) (vals : List Int) : List Int := mvs vals ls (List.replicate n 0)
theorem mv_len {n : Nat} {ls : List NL} {vals : List Int} : (mv n ls vals).length = n := by
  unfold mv
  rw [mvs_len, List.length_replicate]
def Bd (M x : Int) : Prop := -M ≤ x ∧ x ≤ M
theorem Bd.mono {M N x : Int} (h : Bd M x) (l : M ≤ N) : Bd N x := ⟨by have := h.1; omega, by have := h.2; omega⟩
theorem bd_mul {M a b : Int} (ha : Bd 1000000 a) (hb : Bd M b) (hM : 0 ≤ M) : Bd (1000000 * M) (a * b) := by
  have h1 : a.natAbs ≤ 1000000 := by have := ha.1; have := ha.2; omega
  have h2 : b.natAbs ≤ M.toNat := by have := hb.1; have := hb.2; omega
  have h3 := Nat.mul_le_mul h1 h2
  rw [← Int.natAbs_mul] at h3
  have e : ((1000000 * M.toNat : Nat) : Int) = 1000000 * M := by omega
  unfold Bd
  omega
theorem mvs_bd {vals : List Int} {M : Int} (hM : 0 ≤ M) (hv : ∀ v ∈ vals, Bd M v) : ∀ (ls : List NL) (acc : List Int) (A : Int), 0 ≤ A → (∀ l ∈ ls, Bd 1000000 l.2) → (∀ a ∈ acc, Bd A a) →
    ∀ a ∈ mvs vals ls acc, Bd (A + ls.length * (1000000 * M)) a
  | [], acc, A, hA, _, ha => fun a h => (ha a h).mono (by simp only [List.length_nil]; omega)
  | l :: ls, acc, A, hA, hl, ha => by
    have key : ∀ a ∈ stp vals acc l, Bd (A + 1000000 * M) a := by
      intro a h
      unfold stp at h
      rcases List.mem_or_eq_of_mem_set h with h | rfl
      · exact (ha a h).mono (by omega)
      · have h1 : Bd A (acc.getD l.1.2.toNat 0) := by
          rw [List.getD_eq_getElem?_getD]
          cases e : acc[l.1.2.toNat]? with
          | none => exact ⟨by simp only [Option.getD_none]; omega, by simp only [Option.getD_none]; omega⟩
          | some x => exact ha x (List.mem_of_getElem? e)
        have h2 : Bd M (vals.getD l.1.1.toNat 0) := by
          rw [List.getD_eq_getElem?_getD]
          cases e : vals[l.1.1.toNat]? with
          | none => exact ⟨by simp only [Option.getD_none]; omega, by simp only [Option.getD_none]; omega⟩
          | some x => exact hv x (List.mem_of_getElem? e)
        have h3 := bd_mul (hl l (by simp)) h2 hM
        have := h1.1
        have := h1.2
        have := h3.1
        have := h3.2
        unfold Bd
        omega
    have ih := mvs_bd hM hv ls (stp vals acc l) (A + 1000000 * M) (by omega) (fun x hx => hl x (List.mem_cons_of_mem _ hx)) key
    intro a h
    refine (ih a h).mono ?_
    rw [List.length_cons]
    have e : ((ls.length + 1 : Nat) : Int) * (1000000 * M) = ls.length * (1000000 * M) + 1000000 * M := by
      rw [Int.natCast_add, Int.add_mul]
      omega
    omega
/-! ### fillings -/
structure Fl where
  xs : List Int
  ss : List (List Int)
  deriving DecidableEq
def Fl.d (f : Fl) : PyData := .tuple [dInts f.xs, dRows f.ss]
def NumOk (x : Int) : Prop := x ≠ 0 ∧ Bd 1000000 x
structure Fl.Ok (u : Wb) (f : Fl) : Prop where
  len : f.xs.length = u.ps.length
  num : ∀ x ∈ f.xs, NumOk x
  rows : f.ss.map List.length = u.ns.map List.length
  rnum : ∀ r ∈ f.ss, ∀ x ∈ r, NumOk x
theorem Fl.Ok.slen {u : Wb} {f : Fl} (h : f.Ok u) : f.ss.length = u.ns.length := by
  have e := congrArg List.length h.rows
  rw [List.length_map, List.length_map] at e
  exact e
theorem Fl.Ok.rlen {u : Wb} {f : Fl} (h : f.Ok u) {k : Nat} {r s : List Int} (hr : f.ss[k]? = some r) (hs : u.ns[k]? = some s) : r.length = s.length := by
  have e := congrArg (fun l => l[k]?) h.rows
  simp only [List.getElem?_map, hr, hs, Option.map_some] at e
  exact Option.some.inj e
/-- what the looks answer -/
def intsB : PyData → Int → Bool
  | .list ds, m => decide ((ds.length : Int) = m) && ds.all isInt
  | _, _ => false
def rowsB : PyData → Int → Bool
  | .list ds, m => decide (ds.length ≤ 60) && ds.all fun d => intsB d m
  | _, _ => false
def noB : PyData → Bool
  | .int i => decide (i ≠ 0) && decide ((if i < 0 then -i else i) ≤ 1000000)
  | _ => false
def lineB : PyData → Int → Bool
  | .list ds, m => intsB (.list ds) m && ds.all noB
  | _, _ => false
def fillB (u : Wb) : PyData → Bool
  | .tuple [a, .list rs] => lineB a u.ps.length && (decide (rs.length = u.ns.length) && (rs.zip u.ns).all fun p => lineB p.1 p.2.length)
  | _ => false
theorem intsB_of {r : List Int} {m : Int} (h : (r.length : Int) = m) : intsB (dInts r) m = true := by
  unfold dInts intsB
  simp only [List.length_map, h, decide_true, Bool.true_and, List.all_map, List.all_eq_true]
  intro x _
  rfl
theorem rowsB_of {rs : List (List Int)} {m : Int} (h : ∀ r ∈ rs, (r.length : Int) = m) (h2 : rs.length ≤ 60) : rowsB (dRows rs) m = true := by
  unfold dRows rowsB
  simp only [List.length_map, h2, decide_true, Bool.true_and, List.all_map, List.all_eq_true]
  intro x hx
  exact intsB_of (h x hx)
theorem lineB_of {r : List Int} {m : Int} (h : (r.length : Int) = m) (h2 : ∀ x ∈ r, NumOk x) : lineB (dInts r) m = true := by
  have h3 := intsB_of h
  unfold dInts at h3 ⊢
  unfold lineB
  simp only [h3, Bool.true_and, List.all_map, List.all_eq_true]
  intro x hx
  have h4 := h2 x hx
  have h5 := h4.2.1
  have h6 := h4.2.2
  simp only [Function.comp, noB, decide_eq_true h4.1, Bool.true_and, decide_eq_true_eq]
  split <;> omega
theorem zip_all {α β : Type} {p : α × β → Bool} {as : List α} {bs : List β} (h : ∀ (k : Nat) (a : α) (b : β), as[k]? = some a → bs[k]? = some b → p (a, b) = true) : (as.zip bs).all p = true := by
  rw [List.all_eq_true]
  rintro ⟨a, b⟩ hx
  obtain ⟨k, hk⟩ := List.mem_iff_getElem?.mp hx
  rw [List.getElem?_zip_eq_some] at hk
  exact h k a b hk.1 hk.2
theorem Fl.Ok.fill {u : Wb} {f : Fl} (h : f.Ok u) : fillB u f.d = true := by
  have h1 := lineB_of (m := u.ps.length) (by rw [h.len]) h.num
  unfold Fl.d dRows fillB
  simp only [h1, List.length_map, h.slen, decide_true, Bool.true_and]
  refine zip_all fun k a b ha hb => ?_
  obtain ⟨r, hr, rfl⟩ := map_at ha
  exact lineB_of (by rw [h.rlen hr hb]) (h.rnum r (List.mem_of_getElem? hr))
/-- a filling as it stands -/
theorem Fl.at {K : PySem.W.Frag} {H : Hp} {f : Fl} {v : V} (h : Da K H f.d v) : ∃ t x1 x2, v = .ref t ∧ SqT K H t [x1, x2] ∧ Da K H (dInts f.xs) x1 ∧ Da K H (dRows f.ss) x2 := by
  obtain ⟨t, xs, rfl, hS, x1, r1, rfl, g1, x2, r2, rfl, g2, rfl⟩ := h
  exact ⟨t, x1, x2, rfl, .inl (.inl hS), g1, g2⟩
/-! ### the numbered lines -/
def Fl.nums (f : Fl) : List Int := f.xs ++ f.ss.flatten
def nl (u : Wb) (f : Fl) : List NL := u.lines.zip f.nums
def blkAt (n : Int) (i : Nat) (r s : List Int) : List NL := (pushedAt n i r).zip s
def nlFrom (n : Int) : Nat → List (List Int) → List (List Int) → List NL
  | i, r :: rs, s :: ss => blkAt n i r s ++ nlFrom n (i + 1) rs ss
  | _, _, _ => []
theorem zip_pushed (n : Int) : ∀ (rs ss : List (List Int)) (i : Nat), ss.map List.length = rs.map List.length → (pushedFrom n i rs).zip ss.flatten = nlFrom n i rs ss
  | [], ss, i, _ => by simp [pushedFrom, nlFrom]
  | r :: rs, [], i, h => by simp at h
  | r :: rs, s :: ss, i, h => by
    simp only [List.map_cons, List.cons.injEq] at h
    simp only [pushedFrom, nlFrom, List.flatten_cons]
    rw [List.zip_append (by simp only [pushedAt, List.length_map]; exact h.1.symm), zip_pushed n rs ss (i + 1) h.2]
    rfl
theorem Fl.Ok.nl {u : Wb} {f : Fl} (h : f.Ok u) : nl u f = u.ps.zip f.xs ++ nlFrom u.n 0 u.ns f.ss := by
  unfold Nw.nl Wb.lines Fl.nums
  rw [List.zip_append h.len.symm, zip_pushed u.n u.ns f.ss 0 h.rows]
theorem nlFrom_take (n : Int) : ∀ (rs ss : List (List Int)) (i k : Nat) (r s : List Int), rs[k]? = some r → ss[k]? = some s →
    nlFrom n i (rs.take (k + 1)) ss = nlFrom n i (rs.take k) ss ++ blkAt n (i + k) r s
  | [], _, _, _, _, _, h, _ => by simp at h
  | _ :: _, [], _, _, _, _, _, h => by simp at h
  | a :: rs, b :: ss, i, 0, r, s, h, g => by
    obtain rfl : a = r := by simpa using h
    obtain rfl : b = s := by simpa using g
    simp [nlFrom]
  | a :: rs, b :: ss, i, k + 1, r, s, h, g => by
    have ih := nlFrom_take n rs ss (i + 1) k r s (by simpa using h) (by simpa using g)
    simp only [List.take_succ_cons, nlFrom]
    rw [ih, List.append_assoc, show i + 1 + k = i + (k + 1) by omega]
theorem nums_len {f : Fl} : f.nums.length = f.xs.length + (f.ss.map List.length).sum := by
  unfold Fl.nums
  rw [List.length_append, List.length_flatten]
theorem pushed_sum (n : Int) : ∀ (rs : List (List Int)) (i : Nat), (pushedFrom n i rs).length = (rs.map List.length).sum
  | [], _ => rfl
  | r :: rs, i => by
    simp only [pushedFrom, List.length_append, pushedAt, List.length_map, List.map_cons, List.sum_cons, pushed_sum n rs (i + 1)]
theorem Fl.Ok.nlen {u : Wb} {f : Fl} (h : f.Ok u) : f.nums.length = u.lines.length := by
  rw [nums_len, h.rows, h.len]
  unfold Wb.lines
  rw [List.length_append, pushed_sum]
theorem Fl.Ok.bd {u : Wb} {f : Fl} (h : f.Ok u) : ∀ x ∈ f.nums, NumOk x := by
  intro x hx
  rcases List.mem_append.mp hx with hx | hx
  · exact h.num x hx
  · obtain ⟨r, hr, hx⟩ := List.mem_flatten.mp hx
    exact h.rnum r hr x hx
theorem Fl.Ok.line {u : Wb} {f : Fl} (h : f.Ok u) (hu : u.Ok) : ∀ l ∈ Nw.nl u f, ((0 ≤ l.1.1 ∧ l.1.1 < u.n + (u.ns.length : Int)) ∧ (0 ≤ l.1.2 ∧ l.1.2 < u.n)) ∧ Bd 1000000 l.2 := by
  rintro ⟨a, b⟩ hl
  have h1 := List.of_mem_zip hl
  exact ⟨hu.line a h1.1, (h.bd b h1.2).2⟩
theorem Fl.Ok.nl_len {u : Wb} {f : Fl} (h : f.Ok u) (hu : u.Ok) : (Nw.nl u f).length ≤ 1500 := by
  unfold Nw.nl
  rw [List.length_zip]
  have := hu.lines_len
  omega
/-! ### rows of states -/
def rn (n : Nat) (ls : List NL) (st : List Int) (rows : List (List Int)) : List (List Int) := rows.foldl (fun acc g => acc ++ [mv n ls (acc.getLastD [] ++ g)]) [st]
theorem rn_snoc (n : Nat) (ls : List NL) (st : List Int) (rows : List (List Int)) (g : List Int) : rn n ls st (rows ++ [g]) = rn n ls st rows ++ [mv n ls ((rn n ls st rows).getLastD [] ++ g)] := by
  unfold rn
  rw [List.foldl_append]
  rfl
theorem rn_len (n : Nat) (ls : List NL) (st : List Int) (rows : List (List Int)) : ∀ k, k ≤ rows.length → (rn n ls st (rows.take k)).length = k + 1
  | 0, _ => by simp [rn]
  | k + 1, h => by
    have hk : k < rows.length := h
    rw [take_snoc (List.getElem?_eq_getElem hk), rn_snoc, List.length_append, rn_len n ls st rows k (by omega)]
    rfl
theorem getLastD_mem {α : Type} : ∀ {l : List α} {d : α}, l ≠ [] → l.getLastD d ∈ l
  | [], _, h => (h rfl).elim
  | [a], _, _ => by simp [List.getLastD]
  | a :: b :: s, d, _ => by
    rw [List.getLastD_cons]
    exact List.mem_cons_of_mem _ (getLastD_mem (l := b :: s) (by simp))
/-- how great the numbers of states grow -/
theorem rn_bd {n : Nat} {ls : List NL} {st : List Int} {rows : List (List Int)} {M : Int} (hM : 0 ≤ M) (hst : ∀ x ∈ st, Bd M x) (hr : ∀ r ∈ rows, ∀ x ∈ r, Bd M x) (hl : ∀ l ∈ ls, Bd 1000000 l.2) (hz : ls.length ≤ 1500) :
    ∀ k, k ≤ rows.length → ∀ s ∈ rn n ls st (rows.take k), ∀ x ∈ s, Bd (M * 1500000000 ^ k) x
  | 0, _, s, hs, x, hx => by
    obtain rfl : s = st := by simpa [rn] using hs
    simpa using hst x hx
  | k + 1, h, s, hs, x, hx => by
    have hk : k < rows.length := h
    have p1 : (1 : Int) ≤ 1500000000 ^ k := by
      have := Int.pow_pos (n := 1500000000) (m := k) (by decide)
      omega
    have p2 : M ≤ M * 1500000000 ^ k := by
      have := Int.mul_le_mul_of_nonneg_left p1 hM
      omega
    have p3 : M * 1500000000 ^ (k + 1) = 1500000000 * (M * 1500000000 ^ k) := by
      rw [Int.pow_succ, ← Int.mul_assoc, Int.mul_comm]
    have p4 : 0 ≤ M * 1500000000 ^ k := by omega
    have ih := rn_bd (n := n) hM hst hr hl hz k (by omega)
    rw [take_snoc (List.getElem?_eq_getElem hk), rn_snoc] at hs
    rw [p3]
    rcases List.mem_append.mp hs with hs | hs
    · exact (ih s hs x hx).mono (by omega)
    · obtain rfl := List.mem_singleton.mp hs
      have h1 := mvs_bd (vals := (rn n ls st (rows.take k)).getLastD [] ++ rows[k]) (M := M * 1500000000 ^ k) p4 (by
        intro v hv
        rcases List.mem_append.mp hv with hv | hv
        · refine ih _ (getLastD_mem ?_) v hv
          intro e
          have := rn_len n ls st rows k (by omega)
          rw [e] at this
          simp at this
        · exact (hr _ (List.getElem_mem hk) v hv).mono p2) ls (List.replicate n 0) 0 (by decide) hl (by
        intro a ha
        obtain ⟨_, rfl⟩ := List.mem_replicate.mp ha
        exact ⟨by decide, by decide⟩)
      refine (h1 x hx).mono ?_
      have h2 : (ls.length : Int) * (1000000 * (M * 1500000000 ^ k)) ≤ 1500 * (1000000 * (M * 1500000000 ^ k)) := Int.mul_le_mul_of_nonneg_right (by omega) (by omega)
      omega
theorem ixN_int {n : Nat} {k : Int} (h0 : 0 ≤ k) (h : k < n) : ixN n k = some k.toNat := by
  unfold ixN
  rw [if_pos h0, if_pos h]
theorem rep_int (m : Nat) : (List.replicate m [V.int 0]).flatten = (List.replicate m (0 : Int)).map V.int := by
  induction m with
  | zero => rfl
  | succ m ih =>
    rw [List.replicate_succ, List.flatten_cons, ih]
    rfl
theorem last_row {α : Type} : ∀ {ns : List α} {n : Nat} {r d : α}, ns[n]? = some r → ns.length = n + 1 → ns.getLastD d = r
  | [], _, _, _, h, _ => by simp at h
  | [a], 0, r, d, h, _ => by simpa [List.getLastD] using h
  | [a], n + 1, r, d, h, g => by simp at h
  | a :: b :: s, 0, r, d, h, g => by simp at g
  | a :: b :: s, n + 1, r, d, h, g => by
    rw [List.getLastD_cons]
    exact last_row (ns := b :: s) (n := n) (by simpa using h) (by simpa using g)
theorem stp_at {vals acc : List Int} {l : NL} {x y : Int} (hx : acc[l.1.2.toNat]? = some x) (hy : vals[l.1.1.toNat]? = some y) : (acc.map V.int).set l.1.2.toNat (V.int (x + l.2 * y)) = (stp vals acc l).map V.int := by
  unfold stp
  rw [List.getD_eq_getElem?_getD, hx, List.getD_eq_getElem?_getD, hy, List.map_set]
  rfl
theorem flat_take {α : Type} {ss : List (List α)} {i : Nat} {r : List α} (h : ss[i]? = some r) : (ss.take (i + 1)).flatten = (ss.take i).flatten ++ r := by
  rw [take_snoc h, List.flatten_append]
  simp
theorem flat_len {α : Type} {ss : List (List α)} {i : Nat} : ((ss.take i).flatten).length ≤ ss.flatten.length := by
  have h : ss.flatten = (ss.take i).flatten ++ (ss.drop i).flatten := by rw [← List.flatten_append, List.take_append_drop]
  rw [h, List.length_append]
  omega
theorem row_len_flat {α : Type} {ss : List (List α)} {r : List α} (h : r ∈ ss) : r.length ≤ ss.flatten.length := by
  obtain ⟨i, hi⟩ := List.mem_iff_getElem?.mp h
  have h1 := flat_len (ss := ss) (i := i + 1)
  rw [flat_take hi, List.length_append] at h1
  omega
theorem dNum_of {K : PySem.W.Frag} {H : Hp} {l : NL} {a : Addr} (h : H a = some (.tup [.int l.1.1, .int l.1.2, .int l.2])) : Da K H (dNum l) (.ref a) :=
  ⟨a, _, rfl, h, _, _, rfl, rfl, _, _, rfl, rfl, _, _, rfl, rfl, rfl⟩
theorem nums_at {K : PySem.W.Frag} {H : Hp} {ls : List NL} {xs : List V} {i : Nat} {x : V} (h : DaAll K H (ls.map dNum) xs) (hx : xs[i]? = some x) :
    ∃ l, ls[i]? = some l ∧ ∃ a, x = .ref a ∧ SqT K H a [.int l.1.1, .int l.1.2, .int l.2] := by
  obtain ⟨d, hd, hdx⟩ := h.at' hx
  obtain ⟨p, hp, rfl⟩ := map_at hd
  obtain ⟨a, ys, rfl, hS, z1, r1, rfl, e1, z2, r2, rfl, e2, z3, r3, rfl, e3, rfl⟩ := hdx
  obtain rfl := e1
  obtain rfl := e2
  obtain rfl := e3
  exact ⟨p, hp, a, rfl, .inl (.inl hS)⟩
end Nw
/-! Fillings, states and rows of states shown. -/
namespace Nw
open PySem PySem.Spec PyProof.Rows L2
theorem rn_rows {n : Nat} {ls : List NL} {st : List Int} {rows : List (List Int)} (h : st.length = n) : ∀ k, k ≤ rows.length → ∀ z ∈ rn n ls st (rows.take k), z.length = n
  | 0, _, z, hz => by
    obtain rfl : z = st := by simpa [rn] using hz
    exact h
  | k + 1, hk, z, hz => by
    rw [take_snoc (List.getElem?_eq_getElem (show k < rows.length from hk)), rn_snoc] at hz
    rcases List.mem_append.mp hz with hz | hz
    · exact rn_rows h k (by omega) z hz
    · obtain rfl := List.mem_singleton.mp hz
      exact mv_len
theorem NewR.da {K : PySem.W.Frag} {H H' : Hp} {ns : List (List Int)} {L : Addr} {bs : List Addr} (h : NewR H H' ns L bs) (h1 : ∀ r ∈ ns, r.length ≤ 100000) (h2 : ns.length ≤ 100000) : Da K H' (dRows ns) (.ref L) := by
  refine ⟨L, _, rfl, h.at_, rows_of h.len fun k b hb => ?_, by rw [List.length_map]; exact h2⟩
  obtain ⟨_, r, e, g⟩ := h.row k b hb
  exact ⟨r, e, g, h1 r (List.mem_of_getElem? e)⟩
theorem lay_fl (f : Fl) : f.d.canLay0 = true := by simp [Fl.d, PyData.canLay0, PyData.canLayAll0, lay_dInts, lay_dRows]
theorem Sh.ints {r : List Int} {k m : Nat} (hk : 0 < k) (h2 : ∀ x ∈ r, x.natAbs < 2 ^ 1920) (h : ∀ x ∈ r, x.natAbs < 10 ^ k) (hm : r.length ≤ m) : Sh (k + 1) (1 + m) 1 (dInts r) := by
  have e : Sh (k + 1) (1 + 1 * m) (0 + 1) (dInts r) := Sh.list (fun x hx => by
    obtain ⟨y, hy, rfl⟩ := List.mem_map.mp hx
    exact Sh.int hk (h2 y hy) (h y hy)) (by rw [List.length_map]; exact hm)
  exact ⟨e.s, e.l, by have := e.n; omega, e.k⟩
theorem Sh.rows {rs : List (List Int)} {k m j : Nat} (hk : 0 < k) (h2 : ∀ r ∈ rs, ∀ x ∈ r, x.natAbs < 2 ^ 1920) (h : ∀ r ∈ rs, ∀ x ∈ r, x.natAbs < 10 ^ k) (hm : ∀ r ∈ rs, r.length ≤ m) (hj : rs.length ≤ j) :
    Sh (k + 1) (1 + (1 + m) * j) 2 (dRows rs) := Sh.list (fun x hx => by
  obtain ⟨y, hy, rfl⟩ := List.mem_map.mp hx
  exact Sh.ints hk (h2 y hy) (h y hy) (hm y hy)) (by rw [List.length_map]; exact hj)
theorem p1920 : (2 : Nat) ^ 1920 < 10 ^ 580 := by decide +kernel
theorem p40_1920 : (10 : Nat) ^ 40 < 2 ^ 1920 := by decide +kernel
theorem p40 : (10 : Nat) ^ 40 = 10000000000000000000000000000000000000000 := by decide +kernel
theorem small40 {x : Int} (h : x.natAbs < 10000000000000000000000000000000000000000) : x.natAbs < 2 ^ 1920 ∧ x.natAbs < 10 ^ 40 := by
  have h1 : x.natAbs < 10 ^ 40 := by
    rw [p40]
    exact h
  exact ⟨Nat.lt_trans h1 p40_1920, h1⟩
theorem sm_40 {x : Int} (h : Sm x) : x.natAbs < 10000000000000000000000000000000000000000 := by
  have := h.1
  have := h.2
  omega
theorem Sh.pair {p : Int × Int} (h1 : Sm p.1) (h2 : Sm p.2) : Sh 41 3 1 (dPair p) := by
  have e : Sh 41 (1 + 1 * 2) (0 + 1) (dPair p) := Sh.tuple (fun x hx => by
    rcases List.mem_cons.mp hx with rfl | hx
    · exact Sh.int (k := 40) (by decide) (small40 (sm_40 h1)).1 (small40 (sm_40 h1)).2
    · obtain rfl := List.mem_singleton.mp hx
      exact Sh.int (k := 40) (by decide) (small40 (sm_40 h2)).1 (small40 (sm_40 h2)).2) (Nat.le_refl 2)
  exact e
theorem Sh.wide {B n k m j : Nat} {d : PyData} (h : Sh B n k d) (hn : n ≤ m) (hk : k ≤ j) : Sh B m j d := ⟨h.s, h.l, Nat.le_trans h.n hn, Nat.le_trans h.k hk⟩
theorem Wb.Ok.sh {u : Wb} (hu : u.Ok) : Sh 41 12000 3 u.d := by
  have b1 := hu.lo
  have b2 := hu.hi
  have e : Sh 41 (1 + 3901 * 3) (2 + 1) u.d := Sh.tuple (fun x hx => by
    rcases List.mem_cons.mp hx with rfl | hx
    · exact (Sh.int (k := 40) (by decide) (small40 (by omega)).1 (small40 (by omega)).2).wide (by decide) (by decide)
    rcases List.mem_cons.mp hx with rfl | hx
    · have e : Sh 41 (1 + 3 * 1300) (1 + 1) (dPairs u.ps) := Sh.list (fun x hx => by
        obtain ⟨y, hy, rfl⟩ := List.mem_map.mp hx
        have := hu.ps y hy
        exact Sh.pair ⟨this.1.1, by omega⟩ ⟨this.2.1, by omega⟩) (by rw [List.length_map]; exact hu.len)
      exact e
    · obtain rfl := List.mem_singleton.mp hx
      have hs : ∀ r ∈ u.ns, ∀ x ∈ r, x.natAbs < 10000000000000000000000000000000000000000 := by
        intro r hr x hx
        have := (hu.ns r hr).2.1 x hx
        omega
      exact (Sh.rows (k := 40) (m := 20) (j := 8) (by decide) (fun r hr x hx => (small40 (hs r hr x hx)).1) (fun r hr x hx => (small40 (hs r hr x hx)).2) (fun r hr => hu.row hr) hu.few).wide (by decide) (by decide)) (Nat.le_refl 3)
  exact e.wide (by decide) (by decide)
theorem Fl.Ok.sh {u : Wb} {f : Fl} (hu : u.Ok) (h : f.Ok u) : Sh 41 12000 3 f.d := by
  have b1 := hu.len
  have b2 := hu.few
  have hn : ∀ x : Int, NumOk x → x.natAbs < 10000000000000000000000000000000000000000 := by
    intro x hx
    have := hx.2.1
    have := hx.2.2
    omega
  have e : Sh 41 (1 + 1301 * 2) (2 + 1) f.d := Sh.tuple (fun x hx => by
    rcases List.mem_cons.mp hx with rfl | hx
    · exact (Sh.ints (k := 40) (m := 1300) (by decide) (fun x hx => (small40 (hn x (h.num x hx))).1) (fun x hx => (small40 (hn x (h.num x hx))).2) (by rw [h.len]; exact b1)).wide (by decide) (by decide)
    · obtain rfl := List.mem_singleton.mp hx
      refine (Sh.rows (k := 40) (m := 20) (j := 8) (by decide) (fun r hr x hx => (small40 (hn x (h.rnum r hr x hx))).1) (fun r hr x hx => (small40 (hn x (h.rnum r hr x hx))).2) (fun r hr => ?_) (by rw [h.slen]; exact b2)).wide (by decide) (by decide)
      obtain ⟨k, hk⟩ := List.mem_iff_getElem?.mp hr
      have hk2 : k < u.ns.length := by
        rw [← h.slen]
        exact (List.getElem?_eq_some_iff.mp hk).1
      rw [h.rlen hk (List.getElem?_eq_getElem hk2)]
      exact hu.row (List.getElem_mem hk2)) (Nat.le_refl 2)
  exact e.wide (by decide) (by decide)
/-- what repr asks of data that stands -/
theorem repr_of {K : PySem.W.Frag} {H : Hp} {d : PyData} {v : V} {B n k : Nat} (hd : Da K H d v) (hn : d.hasDict = false) (h : Sh B n k d) (hB : 8 ≤ B) (hz : (B + 4) * n ≤ 16000000) (hk : k ≤ 60) :
    Dp K H v d ∧ d.showable = true ∧ d.shown.length ≤ sizeLine ∧ d.depth ≤ 60 := ⟨hd.dp _ _ hn, h.s, h.fit hB hz, Nat.le_trans h.k hk⟩
theorem bd_abs {M x : Int} {N : Nat} (h : Bd M x) (hM : M.toNat < N) (h0 : 0 ≤ M) : x.natAbs < N := by
  have := h.1
  have := h.2
  omega
theorem pow1500 {w : Int} {k : Nat} (h0 : 0 ≤ w) {n : Nat} (hk : k ≤ n) : w * 1500000000 ^ k ≤ w * 1500000000 ^ n := by
  refine Int.mul_le_mul_of_nonneg_left ?_ h0
  have h1 : (1500000000 : Nat) ^ k ≤ 1500000000 ^ n := Nat.pow_le_pow_right (by decide) hk
  have h2 := Int.ofNat_le.mpr h1
  rw [Int.natCast_pow, Int.natCast_pow] at h2
  exact h2
end Nw
namespace Nw
open PySem PySem.Spec PyProof.Rows L2
theorem rn_pre {n : Nat} {ls : List NL} {st : List Int} {rows : List (List Int)} {k i : Nat} (hi : i ≤ k) : ∀ j, k ≤ j → j ≤ rows.length → (rn n ls st (rows.take j))[i]? = (rn n ls st (rows.take k))[i]?
  | 0, h, _ => by
    obtain rfl : k = 0 := by omega
    rfl
  | j + 1, h, hj => by
    by_cases e : k = j + 1
    · rw [e]
    · rw [take_snoc (List.getElem?_eq_getElem (show j < rows.length from hj)), rn_snoc, List.getElem?_append_left, rn_pre hi j (by omega) (by omega)]
      rw [rn_len n ls st rows j (by omega)]
      omega
theorem rn_one {n : Nat} {ls : List NL} {st r : List Int} {rows : List (List Int)} (h : rows[0]? = some r) : (rn n ls st rows)[1]? = some (mv n ls (st ++ r)) := by
  have hl : 0 < rows.length := (List.getElem?_eq_some_iff.mp h).1
  have e := rn_pre (n := n) (ls := ls) (st := st) (rows := rows) (k := 1) (i := 1) (by decide) rows.length (by omega) (by omega)
  rw [List.take_length] at e
  rw [e, show rows.take 1 = rows.take (0 + 1) from rfl, take_snoc h]
  rfl
theorem p6 : (10 : Int) ^ Int.toNat 6 = 1000000 := by decide +kernel
theorem p29 : (10 : Int) ^ Int.toNat 29 = 100000000000000000000000000000 := by decide +kernel
end Nw
/-! repr of data with dicts: sys.modules has to be told apart, which the top knows. -/
namespace Nw
open PySem PySem.Spec PyProof.Rows L2
abbrev SysAt (base : Heap) : Prop := ∃ mm, base.Ns sysModules mm
section
variable {X : Cx} {pins : List (Addr × Obj)} {σ : L2.St} {H : Hp} {s : Shared}
theorem sys_no_list (I : Inv X pins σ H s) (SM : SysAt X.base) {a : Addr} {o : Obj} {vs : Array Value} {n : Nat} (h : s.heap.get? a = some o) (hd : o.data = .seq vs n) : a ≠ sysModules := by
  rintro rfl
  obtain ⟨mm, o2, es, ep, e, d, _⟩ := SM
  have h2 := I.bk _ _ e
  rw [h] at h2
  cases h2
  rw [hd] at d
  cases d
theorem reads_keys : ∀ {kd : List PyData} {kvs : List (Key × V)} {vs : List (Key × Value)} {es : List DictEntry} {h : Heap} {P : Program} {w : World}, (kvs.map fun kv => keyD kv.1) = kd → KV kvs vs → Pairs (mixKind P w) es vs →
    ReadsAll h (es.map (·.key)) kd [] ∧ Vals (kvs.map (·.2)) (es.map (·.val))
  | [], [], _, _, _, _, _, _, .nil, .nil => ⟨.nil, .nil⟩
  | [], _ :: _, _, _, _, _, _, hk, _, _ => by simp at hk
  | _ :: _, [], _, _, _, _, _, hk, _, _ => by simp at hk
  | k :: kd, (k', v') :: kvs, _, _, h, P, w, hk, .cons (a := _) (b := q) ⟨e1, r1⟩ t, .cons (e := en) hk2 hv t2 => by
    simp only [List.map_cons, List.cons.injEq] at hk
    obtain ⟨rfl, hk3⟩ := hk
    obtain ⟨ih1, ih2⟩ := reads_keys (h := h) (P := P) (w := w) hk3 t t2
    simp only at e1 r1
    subst e1
    have hkey : Reads h en.key (keyD q.1) [] := by
      rcases keyIs_shape (show keyIs q.1 en.key = true from hk2) with ⟨i, t, e, e'⟩ | ⟨x, t, e, e'⟩
      · rw [e', e]
        exact .int i t
      · rw [e', e]
        exact .str x t
    simp only [List.map_cons]
    rw [hv]
    exact ⟨.cons (as := []) (bs := []) hkey ih1, .cons r1 ih2⟩
mutual
theorem Da.reads (I : Inv X pins σ H s) (SM : SysAt X.base) : ∀ (d : PyData) (v : V) (u : Value), Da X.K H d v → RelV v u → ∃ as, Reads s.heap u d as ∧ sysModules ∉ as
  | .none, _, _, h, r => by
    obtain rfl := h
    cases r
    exact ⟨_, .none, by simp⟩
  | .bool b, _, _, h, r => by
    obtain rfl := h
    cases r
    exact ⟨_, .bool b, by simp⟩
  | .int i, _, _, h, r => by
    obtain rfl := h
    obtain ⟨t, rfl⟩ := r
    exact ⟨_, .int i t, by simp⟩
  | .str x, _, _, h, r => by
    obtain rfl := h
    obtain ⟨t, rfl⟩ := r
    exact ⟨_, .str x t, by simp⟩
  | .list ds, _, _, h, r => by
    obtain ⟨a, xs, rfl, hs, ha, _⟩ := h
    cases r
    obtain ⟨its, rv, ⟨o, n, ho, hc, _, hd⟩, _⟩ := I.list (.inl (.inl hs))
    obtain ⟨as, hr, hn⟩ := Da.readsAll I SM ds _ its ha rv
    refine ⟨_, Reads.list ho hc hd hr, fun hm => ?_⟩
    rcases List.mem_cons.mp hm with e | hm
    · exact sys_no_list I SM ho hd e.symm
    · exact hn hm
  | .tuple ds, _, _, h, r => by
    obtain ⟨a, xs, rfl, hs, ha⟩ := h
    cases r
    obtain ⟨its, rv, ⟨o, ho, hc, n, hd⟩, _⟩ := I.tuple (.inl (.inl hs))
    obtain ⟨as, hr, hn⟩ := Da.readsAll I SM ds _ its ha rv
    exact ⟨_, Reads.tuple ho hc hd hr, hn⟩
  | .dict kd, _, _, h, r => by
    obtain ⟨a, kvs, rfl, hs, hk, hv⟩ := h
    cases r
    obtain ⟨_, lo, vs, rk, o, es, ep, h1, h2, h3, _, h5, _⟩ := dk_of I.hok hs
    obtain ⟨g1, g2⟩ := reads_keys (h := s.heap) hk rk h5
    obtain ⟨as, g3, g4⟩ := Da.readsKv I SM kd _ _ hv g2
    refine ⟨_, Reads.dict h1 h2.1 h3 g1 g3, fun hm => ?_⟩
    rcases List.mem_cons.mp hm with hm | hm
    · rw [← hm] at lo
      simp at lo
    · exact g4 hm
theorem Da.readsAll (I : Inv X pins σ H s) (SM : SysAt X.base) : ∀ (ds : List PyData) (vs : List V) (us : List Value), DaAll X.K H ds vs → Vals vs us → ∃ as, ReadsAll s.heap us ds as ∧ sysModules ∉ as
  | [], _, _, h, r => by
    obtain rfl := h
    cases r
    exact ⟨_, .nil, by simp⟩
  | d :: ds, _, _, h, r => by
    obtain ⟨x, xs, rfl, h1, h2⟩ := h
    cases r with
    | cons r1 r2 =>
      obtain ⟨as, q1, n1⟩ := Da.reads I SM d _ _ h1 r1
      obtain ⟨bs, q2, n2⟩ := Da.readsAll I SM ds _ _ h2 r2
      refine ⟨_, .cons q1 q2, fun hm => ?_⟩
      rcases List.mem_append.mp hm with hm | hm
      · exact n1 hm
      · exact n2 hm
theorem Da.readsKv (I : Inv X pins σ H s) (SM : SysAt X.base) : ∀ (ds : List (PyData × PyData)) (vs : List V) (us : List Value), DaKv X.K H ds vs → Vals vs us → ∃ as, ReadsAll s.heap us (ds.map (·.2)) as ∧ sysModules ∉ as
  | [], _, _, h, r => by
    obtain rfl := h
    cases r
    exact ⟨_, .nil, by simp⟩
  | (_, d) :: ds, _, _, h, r => by
    obtain ⟨x, xs, rfl, h1, h2⟩ := h
    cases r with
    | cons r1 r2 =>
      obtain ⟨as, q1, n1⟩ := Da.reads I SM d _ _ h1 r1
      obtain ⟨bs, q2, n2⟩ := Da.readsKv I SM ds _ _ h2 r2
      refine ⟨_, .cons q1 q2, fun hm => ?_⟩
      rcases List.mem_append.mp hm with hm | hm
      · exact n1 hm
      · exact n2 hm
end
end
/-- repr(x), x any data -/
def rReprS (K : PySem.W.Frag) : List V → Hp → VK → Prop := fun xs H Q =>
  ∃ x d, xs = [x] ∧ Da K H d x ∧ d.showable = true ∧ d.shown.length ≤ sizeLine ∧ d.depth ≤ 60 ∧ Q (.str d.shown) H
section
variable {X : Cx}
theorem call_reprS (K : PySem.W.Frag) {k : Nat} (hq : Quiet X.A) (hr : Room k X.A) (SM : SysAt X.base) (hK : X.K = K := by rfl) : CallR X (.builtin "repr") (rReprS K) := by
  subst hK
  intro pins s σ H xs us Q I r h
  obtain ⟨x, d, rfl, hd, hs, hz, hdp, q⟩ := h
  obtain ⟨u, rfl, rx⟩ := Vals.one r
  obtain ⟨as, rd, hn⟩ := Da.reads I SM d x u hd rx
  have hu : X.A.units + 200 < cLine := by have := hr.un; omega
  have fin : ∀ h' u' tk, (∀ b o, s.heap.get? b = some o → h'.get? b = some o) →
      EP X pins σ Q (.str d.shown u') { s with heap := h', toks := tk } :=
    fun h' u' tk hk => ⟨.str d.shown, H, I.kept hk, ⟨_, rfl⟩, q⟩
  cases d with
  | none =>
    obtain rfl := hd
    obtain rfl : u = Value.none := rx
    exact PySem.P.repr_of_none (fin s.heap _ _ fun _ _ e => e)
  | bool b =>
    obtain rfl := hd
    obtain rfl : u = Value.bool b := rx
    exact PySem.P.repr_of_bool (fin s.heap _ _ fun _ _ e => e)
  | int i =>
    obtain rfl := hd
    obtain ⟨t, rfl⟩ := rx
    exact PySem.P.repr_of_int (by simpa only [PyData.showable, decide_eq_true_eq] using hs) (fin s.heap _ _ fun _ _ e => e)
  | str z =>
    obtain rfl := hd
    obtain ⟨t, rfl⟩ := rx
    exact PySem.P.repr_of_str (fin s.heap _ _ fun _ _ e => e) (by simpa only [PyData.shown] using hz)
  | list ds =>
    obtain ⟨a, xs, rfl, _⟩ := hd
    cases rx
    exact repr_of_reads' rd hs (fun _ => hn) hq (by omega) (fun _ _ e => e) fin hz
  | tuple ds =>
    obtain ⟨a, xs, rfl, _⟩ := hd
    cases rx
    exact repr_of_reads' rd hs (fun _ => hn) hq (by omega) (fun _ _ e => e) fin hz
  | dict kd =>
    obtain ⟨a, xs, rfl, _⟩ := hd
    cases rx
    exact repr_of_reads' rd hs (fun _ => hn) hq (by omega) (fun _ _ e => e) fin hz
end
section
variable {P : Program} {w : World} {K : PySem.W.Frag}
theorem law_callS {mg mb : Str → Option Value} {CX : CXT} {k : Nat} {fa a : Addr} {fd : FuncData} {x : Str} {sp : Sp}
    {s1 : Shared} {vs : List Value} {ns : List Int}
    (KX : K.In s1.heap) (hns : s1.heap.Ns mainGlobals mg) (hb : s1.heap.Ns builtinsNs mb)
    (hbb : ∀ x : Str, x ≠ "__name__" → mb x = bootBuiltins x) (hlim : s1.heap.NoLimit) (hg : s1.gens = #[])
    (ha : s1.heap.get? a = some { cls := .type "list", data := .seq vs.toArray }) (hi : IntsAre vs ns)
    (hl : ns.length ≤ sizeLine) (hr : Room k callerA)
    (hsys : ∃ mm, s1.heap.Ns sysModules mm)
    (F : ∀ base : Heap, K.In base → base.Ns mainGlobals mg → SysAt base → FnG P w K mg base CX k fa fd [x] sp)
    (hbind : ∀ (s : Shared) (u : Value), BindsTo s fd ⟨[u], []⟩ [(x, u)])
    (hsp : ∀ H : Hp, Only H → SqL K H a (ns.map V.int) → sp [.ref a] H (fun v _ => v = .bl true) fun _ _ _ => False)
    (hCX : ∀ H e s', CX [] H s1 (fun _ _ _ => False) e s' → False) :
    codeAny (model P w) callerA (.call (.ref fa) ⟨[.ref a], []⟩)
      (fun r s' => r = .ok (.ret (.bool true)) ∧ OldK s1.heap s'.heap ∧ s'.os = s1.os ∧ AllBare s'.gens) s1 := by
  have rv := vals_ints hi
  have lenV := hi.length
  have core : ∀ H : Hp, Only H → SqL K H a (ns.map V.int) → HOk P w H s1.heap →
      (∀ b, H b ≠ none → b = a) → (H a ≠ none → K.lookup a = none) →
      codeAny (model P w) callerA (.call (.ref fa) ⟨[.ref a], []⟩)
        (fun r s' => r = .ok (.ret (.bool true)) ∧ OldK s1.heap s'.heap ∧ s'.os = s1.os ∧ AllBare s'.gens) s1 := by
    intro H hO hS hok hA hK
    have fromH : ∀ {b : Addr} {o : Obj}, s1.heap.get? b = some o → H b = none →
        (hidT s1.heap H).get? b = some o := fun e n => hidT_get e n
    have free : ∀ {b : Addr} {o : Obj} {es : Array DictEntry} {ep : Nat},
        s1.heap.get? b = some o → o.data = .dict es ep → H b = none := by
      intro b o es ep e d
      cases q : H b with
      | none => rfl
      | some u =>
        have e' : b = a := hA b (by rw [q]; exact fun z => nomatch z)
        subst e'
        rw [ha] at e
        cases e
        exact nomatch d
    have nsK : ∀ {b : Addr} {m : Str → Option Value}, s1.heap.Ns b m → (hidT s1.heap H).Ns b m := by
      rintro b m ⟨o, es, ep, e, d, r⟩
      exact ⟨o, es, ep, fromH e (free e d), d, r⟩
    have hKb : K.In (hidT s1.heap H) := by
      intro b o e
      refine fromH (KX b o e) ?_
      cases q : H b with
      | none => rfl
      | some u =>
        have e' : b = a := hA b (by rw [q]; exact fun z => nomatch z)
        subst e'
        rw [hK (by rw [q]; exact fun z => nomatch z)] at e
        cases e
    have hM : Mod K mg (hidT s1.heap H) := by
      obtain ⟨mc, h1, h2⟩ := hlim
      exact ⟨hKb, nsK hns, ⟨mb, nsK hb, hbb⟩, ⟨mc, nsK h1, h2⟩⟩
    have e0 : Env0 P w K mg (hidT s1.heap H) callerA [] s1 H :=
      ⟨rfl, hM, fun b o e => of_hidT e, Nat.le_of_eq (hidT_size _ _), trivial,
        fun b hb => (List.not_mem_nil hb).elim, hok, .of_eq hg⟩
    refine codeAny_mono ((F _ hKb (nsK hns) (by obtain ⟨mm, hm⟩ := hsys; exact ⟨mm, nsK hm⟩)).run callerA [] s1 H ⟨[.ref a], []⟩ [.ref a] [.ref a] _ _ hr rfl e0
      (hbind s1 (.ref a)) (.cons rfl .nil) (hsp H hO hS)) ?_
    intro r s' h
    cases r with
    | error e => exact (hCX H e s' h).elim
    | ok fl =>
      cases fl with
      | next => exact (show False from h).elim
      | brk => exact (show False from h).elim
      | cont => exact (show False from h).elim
      | ret u =>
        obtain ⟨v, H', os, bare, un, hok', r', q⟩ := h
        have q' : v = .bl true := q
        subst q'
        obtain rfl : u = Value.bool true := r'
        refine ⟨rfl, OldK.of_keep ?_, os, bare⟩
        intro b o e
        cases q : H b with
        | none => exact un.keep b o e q (fun z => (List.not_mem_nil z).elim) (fun z => (List.not_mem_nil z).elim)
        | some u =>
          rcases hO b with z | ⟨ob, xs, z⟩
          · rw [q] at z
            cases z
          · obtain ⟨e1, _⟩ := hok b _ z
            obtain ⟨e2, _⟩ := hok' b _ (un.frzs b ob _ z)
            rw [e] at e1
            cases e1
            exact e2
  cases hk : K.lookup a with
  | some o =>
    have e := KX a o hk
    rw [ha] at e
    cases e
    exact core (fun _ => none) (fun _ => .inl rfl)
      (.inr ⟨_, vs.toArray, _, hk, rfl, rfl, rfl, by rw [List.size_toArray, lenV]; exact hl, by simpa using rv⟩)
      (fun b u z => nomatch z) (fun b z => (z rfl).elim) (fun z => (z rfl).elim)
  | none =>
    refine core (fun b => if b = a then some (.frz { cls := .type "list", data := .seq vs.toArray } (.lst (ns.map V.int))) else none)
      ?_ (.inl (.inr ⟨{ cls := .type "list", data := .seq vs.toArray }, if_pos rfl⟩)) ?_ ?_ (fun _ => hk)
    · intro b
      by_cases hb : b = a
      · exact .inr ⟨_, _, if_pos hb⟩
      · exact .inl (if_neg hb)
    · intro b u z
      by_cases hb : b = a
      · have z' := (if_pos hb).symm.trans z
        cases z'
        subst hb
        exact ⟨ha, by rw [List.length_map]; exact hl, vs, _, rv, ha⟩
      · have z' := (if_neg hb).symm.trans z
        cases z'
    · intro b z
      by_cases hb : b = a
      · exact hb
      · exact (z (if_neg hb)).elim
end

theorem walkS {l : PySem.W.OpenLaw} {n k : Nat} {q : Program} {loose : List Str} {XP : (Str → Option Value) → Heap → Prop}
    {YP : World → Heap → Prop} {d : DefRec} {K : Params → PySem.W.Frag} {CX : World → CXT} {sp : World → Sp} {x : Str}
    (hi : PyProof.Rows.importsNone q = true) (hn : l.most = some n) (hn2 : n ≤ sizeLine) (hdf : d.params.defaults = []) (hr : Room k callerA)
    (hY : ∀ (w : World) (h : Heap), YP w h → (K w.params).In h)
    (F : ∀ (w : World) (mg : Str → Option Value) (fa : Addr) (h : Heap), (K w.params).In h → h.Ns mainGlobals mg →
      mg d.name = some (.ref fa) → ∃ fd : FuncData, (∀ (s : Shared) (u : Value), BindsTo s fd ⟨[u], []⟩ [(x, u)]) ∧
        ∀ base : Heap, (K w.params).In base → base.Ns mainGlobals mg → SysAt base →
          FnG l.prog w (K w.params) mg base (CX w) k fa fd [x] (sp w))
    (hsp : ∀ (w : World) (H : Hp) (a : Addr) (ns : List Int), ns.length ≤ n → Only H →
      SqL (K w.params) H a (ns.map V.int) → sp w [.ref a] H (fun v _ => v = .bl true) fun _ _ _ => False)
    (hCX : ∀ (w : World) (H : Hp) (s : Shared) (e : Value) (s' : Shared), CX w [] H s (fun _ _ _ => False) e s' → False) :
    PySem.W.WalkO q loose XP YP l.row.toRowW d [] (fun f vs => PySem.call f vs) := by
  refine Att.attach_call hn hdf ?_
  intro w s0 s1 mg mb fa o pm cd doc a vs ns G Y ho hd hcd hmg hobj hints hlen hg
  obtain ⟨fd, hb, hF⟩ := F w mg fa _ (hY w _ Y) G.T.g hmg
  exact law_callS (hY w _ Y) G.T.g G.T.b G.T.builtins G.T.nolimit hg hobj hints (Nat.le_trans hlen hn2) hr (by obtain ⟨mm, hm, _⟩ := (G.T.seer hi).mods; exact ⟨mm, hm⟩) hF hb
    (fun H hO hS => hsp w H a ns hlen hO hS) (fun H e s' => hCX w H s1 e s')

end Nw
/-! Any data of bounded size: put together, cut, looked up. -/
namespace Nw
open PySem PySem.Spec PyProof.Rows L2
def rTupQ (K : PySem.W.Frag) : List V → Hp → VK → Prop := fun xs H Q => ∃ p ys, xs = [.ref p] ∧ ((SqL K H p ys ∧ ∀ l, H l = none → Q (.ref l) (upd H l (.tup ys))) ∨ (SqT K H p ys ∧ Q (.ref p) H))
theorem call_tupleK {X : Cx} (K : PySem.W.Frag) (hK : X.K = K := by rfl) : CallR X (.type "tuple") (rTupQ K) := by
  subst hK
  exact call_tuple_of
def shB (n k : Nat) (d : PyData) : Bool := d.showable && (lf 41 d && (decide (nodes d ≤ n) && decide (d.depth ≤ k)))
theorem shB_sh {n k : Nat} {d : PyData} (h : shB n k d = true) : Sh 41 n k d := by
  simp only [shB, Bool.and_eq_true, decide_eq_true_eq] at h
  exact ⟨h.1, h.2.1, h.2.2.1, h.2.2.2⟩
theorem sh_all {n k : Nat} {ds : List PyData} (h : ds.all (shB n k) = true) : ∀ x ∈ ds, Sh 41 n k x := fun x hx => shB_sh (List.all_eq_true.mp h x hx)
section
variable {K : PySem.W.Frag} {H H' : Hp} {n k m j : Nat}
/-- some data of so many nodes, so deep -/
def Gd (K : PySem.W.Frag) (H : Hp) (n k : Nat) (v : V) : Prop := ∃ d, Da K H d v ∧ Sh 41 n k d
def GdAll (K : PySem.W.Frag) (H : Hp) (n k : Nat) (vs : List V) : Prop := ∃ ds, DaAll K H ds vs ∧ ∀ x ∈ ds, Sh 41 n k x
theorem Gd.up {v : V} (h : Gd K H n k v) (e : Ex H H') : Gd K H' n k v := by
  obtain ⟨d, h1, h2⟩ := h
  exact ⟨d, h1.up e, h2⟩
theorem GdAll.up {vs : List V} (h : GdAll K H n k vs) (e : Ex H H') : GdAll K H' n k vs := by
  obtain ⟨d, h1, h2⟩ := h
  exact ⟨d, h1.up e, h2⟩
theorem Gd.wide {v : V} (h : Gd K H n k v) (hn : n ≤ m) (hk : k ≤ j) : Gd K H m j v := by
  obtain ⟨d, h1, h2⟩ := h
  exact ⟨d, h1, h2.wide hn hk⟩
theorem GdAll.wide {vs : List V} (h : GdAll K H n k vs) (hn : n ≤ m) (hk : k ≤ j) : GdAll K H m j vs := by
  obtain ⟨d, h1, h2⟩ := h
  exact ⟨d, h1, fun x hx => (h2 x hx).wide hn hk⟩
theorem GdAll.nil : GdAll K H n k [] := ⟨[], rfl, fun x hx => by cases hx⟩
theorem GdAll.cons {v : V} {vs : List V} (h : Gd K H n k v) (t : GdAll K H n k vs) : GdAll K H n k (v :: vs) := by
  obtain ⟨d, h1, h2⟩ := h
  obtain ⟨ds, t1, t2⟩ := t
  refine ⟨d :: ds, ⟨_, _, rfl, h1, t1⟩, fun x hx => ?_⟩
  rcases List.mem_cons.mp hx with rfl | hx
  · exact h2
  · exact t2 x hx
theorem GdAll.at {vs : List V} {i : Nat} {x : V} (h : GdAll K H n k vs) (hx : vs[i]? = some x) : Gd K H n k x := by
  obtain ⟨ds, h1, h2⟩ := h
  obtain ⟨d, hd, hdx⟩ := h1.at' hx
  exact ⟨d, hdx, h2 d (List.mem_of_getElem? hd)⟩
theorem GdAll.app {vs ws : List V} (h : GdAll K H n k vs) (g : GdAll K H n k ws) : GdAll K H n k (vs ++ ws) := by
  obtain ⟨ds, h1, h2⟩ := h
  obtain ⟨es, g1, g2⟩ := g
  refine ⟨ds ++ es, h1.app g1, fun x hx => ?_⟩
  rcases List.mem_append.mp hx with hx | hx
  · exact h2 x hx
  · exact g2 x hx
theorem DaAll.of_mem : ∀ {ds : List PyData} {vs ws : List V}, DaAll K H ds vs → (∀ x ∈ ws, x ∈ vs) → ∃ es, DaAll K H es ws ∧ ∀ e ∈ es, e ∈ ds
  | ds, vs, [], _, _ => ⟨[], rfl, fun e he => by cases he⟩
  | ds, vs, w :: ws, h, hm => by
    obtain ⟨es, h1, h2⟩ := DaAll.of_mem h (ws := ws) fun x hx => hm x (List.mem_cons_of_mem _ hx)
    obtain ⟨d, hd, hdw⟩ := h.mem w (hm w (by simp))
    refine ⟨d :: es, ⟨_, _, rfl, hdw, h1⟩, fun e he => ?_⟩
    rcases List.mem_cons.mp he with rfl | he
    · exact hd
    · exact h2 e he
theorem GdAll.sub {vs ws : List V} (h : GdAll K H n k vs) (hm : ∀ x ∈ ws, x ∈ vs) : GdAll K H n k ws := by
  obtain ⟨ds, h1, h2⟩ := h
  obtain ⟨es, g1, g2⟩ := DaAll.of_mem h1 hm
  exact ⟨es, g1, fun x hx => h2 x (g2 x hx)⟩
theorem GdAll.cut {vs : List V} {lo hi : Option Int} (h : GdAll K H n k vs) : GdAll K H n k (cutV vs lo hi) := h.sub fun x hx => List.mem_of_mem_drop (List.mem_of_mem_take hx)
theorem GdAll.rev {vs : List V} (h : GdAll K H n k vs) : GdAll K H n k vs.reverse := h.sub fun x hx => List.mem_reverse.mp hx
theorem Gd.list {a : Addr} {vs : List V} (h : H a = some (.lst vs)) (g : GdAll K H n k vs) (hl : vs.length ≤ m) (hm : m ≤ 100000) : Gd K H (1 + n * m) (k + 1) (.ref a) := by
  obtain ⟨ds, h1, h2⟩ := g
  have e := h1.len
  exact ⟨.list ds, ⟨a, vs, rfl, h, h1, by omega⟩, Sh.list h2 (by omega)⟩
theorem Gd.tup {a : Addr} {vs : List V} (h : H a = some (.tup vs)) (g : GdAll K H n k vs) (hl : vs.length ≤ m) : Gd K H (1 + n * m) (k + 1) (.ref a) := by
  obtain ⟨ds, h1, h2⟩ := g
  have e := h1.len
  exact ⟨.tuple ds, ⟨a, vs, rfl, h, h1⟩, Sh.tuple h2 (by omega)⟩
theorem Gd.non : Gd K H (n + 1) k .non := ⟨.none, rfl, ⟨rfl, rfl, by simp only [nodes]; omega, by simp only [PyData.depth]; omega⟩⟩
theorem Gd.bl {b : Bool} : Gd K H (n + 1) k (.bl b) := ⟨.bool b, rfl, ⟨rfl, rfl, by simp only [nodes]; omega, by simp only [PyData.depth]; omega⟩⟩
theorem Gd.int {i : Int} (h : i.natAbs < 10000000000000000000000000000000000000000) : Gd K H (n + 1) k (.int i) :=
  ⟨.int i, rfl, (Sh.int (k := 40) (by decide) (small40 h).1 (small40 h).2).wide (by omega) (by omega)⟩
theorem Gd.str {x : Str} (h : (PyData.shown (.str x)).length ≤ 41) : Gd K H (n + 1) k (.str x) :=
  ⟨.str x, rfl, ⟨rfl, by simpa only [lf, decide_eq_true_eq] using h, by simp only [nodes]; omega, by simp only [PyData.depth]; omega⟩⟩
theorem Gd.dict0 {a : Addr} (h : H a = some (.dK [])) : Gd K H (n + 1) (k + 1) (.ref a) :=
  ⟨.dict [], ⟨a, [], rfl, h, rfl, rfl⟩, ⟨rfl, rfl, by simp only [nodes, nodesKv]; omega, by simp only [PyData.depth, PyData.depthKv]; omega⟩⟩
/-- a dict of one text and one value -/
theorem Gd.dict1 {a : Addr} {x : Str} {v : V} (h : H a = some (.dK [(Sum.inr x, v)])) (hx : (PyData.shown (.str x)).length ≤ 41) (g : Gd K H n k v) : Gd K H (n + 2) (k + 1) (.ref a) := by
  obtain ⟨d, h1, h2⟩ := g
  refine ⟨.dict [(.str x, d)], ⟨a, _, rfl, h, rfl, _, _, rfl, h1, rfl⟩, ⟨?_, ?_, ?_, ?_⟩⟩
  · have := h2.s
    simp only [PyData.showable, PyData.showableKv, this, Bool.and_true]
  · have := h2.l
    simp only [lf, lfKv, this, Bool.and_true, Bool.and_eq_true, decide_eq_true_eq]
    exact hx
  · have := h2.n
    simp only [nodes, nodesKv]
    omega
  · have := h2.k
    simp only [PyData.depth, PyData.depthKv]
    omega
theorem Gd.of {d : PyData} {v : V} (h : Da K H d v) (hs : Sh 41 n k d) : Gd K H n k v := ⟨d, h, hs⟩
end
end Nw
/-! What pairs lead to; rooms. -/
namespace Nw
open PySem PySem.Spec PyProof.Rows L2
inductive Rch (ps : List (Int × Int)) : Int → Int → Prop
  | here (a : Int) : Rch ps a a
  | step {a b c : Int} : (a, b) ∈ ps → Rch ps b c → Rch ps a c
theorem Rch.trans {ps : List (Int × Int)} {a b c : Int} (h : Rch ps a b) (g : Rch ps b c) : Rch ps a c := by
  induction h with
  | here => exact g
  | step e _ ih => exact .step e (ih g)
theorem Rch.snoc {ps : List (Int × Int)} {a b c : Int} (h : Rch ps a b) (g : (b, c) ∈ ps) : Rch ps a c := h.trans (.step g (.here c))
theorem Rch.inn {ps : List (Int × Int)} {n a b : Int} (hp : ∀ p ∈ ps, (0 ≤ p.1 ∧ p.1 < n) ∧ (0 ≤ p.2 ∧ p.2 < n)) (h : Rch ps a b) (ha : 0 ≤ a ∧ a < n) : 0 ≤ b ∧ b < n := by
  induction h with
  | here => exact ha
  | step e _ ih => exact ih (hp _ e).2
theorem Rch.inn' {ps : List (Int × Int)} {n a b : Int} (hp : ∀ p ∈ ps, (0 ≤ p.1 ∧ p.1 < n) ∧ (0 ≤ p.2 ∧ p.2 < n)) (h : Rch ps a b) (hb : 0 ≤ b ∧ b < n) : 0 ≤ a ∧ a < n := by
  cases h with
  | here => exact hb
  | step e _ => exact (hp _ e).1
theorem Rch.closed {ps : List (Int × Int)} {P : Int → Prop} (hc : ∀ a b, P a → (a, b) ∈ ps → P b) {a c : Int} (h : Rch ps a c) : P a → P c := by
  induction h with
  | here => exact fun h => h
  | step e _ ih => exact fun h => ih (hc _ _ h e)
/-- by at most k pairs -/
def RchN (ps : List (Int × Int)) : Nat → Int → Int → Prop
  | 0, a, c => a = c
  | k + 1, a, c => a = c ∨ ∃ b, (a, b) ∈ ps ∧ RchN ps k b c
theorem RchN.rch {ps : List (Int × Int)} : ∀ {k : Nat} {a c : Int}, RchN ps k a c → Rch ps a c
  | 0, a, _, h => by
    cases h
    exact .here a
  | k + 1, a, c, h => by
    rcases h with rfl | ⟨b, e, h⟩
    · exact .here a
    · exact .step e h.rch
theorem RchN.more {ps : List (Int × Int)} : ∀ {k : Nat} {a c : Int}, RchN ps k a c → RchN ps (k + 1) a c
  | 0, _, _, h => .inl h
  | k + 1, _, _, h => by
    rcases h with h | ⟨b, e, h⟩
    · exact .inl h
    · exact .inr ⟨b, e, h.more⟩
theorem RchN.le {ps : List (Int × Int)} {k m : Nat} {a c : Int} (h : RchN ps k a c) (l : k ≤ m) : RchN ps m a c := by
  induction m with
  | zero =>
    obtain rfl : k = 0 := by omega
    exact h
  | succ m ih =>
    by_cases e : k = m + 1
    · rw [← e]
      exact h
    · exact (ih (by omega)).more
theorem filter_grow {α : Type} {p q : α → Bool} (h : ∀ x, p x = true → q x = true) : ∀ {l : List α}, (l.filter p).length ≤ (l.filter q).length
  | [] => Nat.le_refl _
  | x :: l => by
    have ih := filter_grow (p := p) (q := q) h (l := l)
    rw [List.filter_cons, List.filter_cons]
    by_cases hp : p x = true
    · rw [if_pos hp, if_pos (h x hp)]
      exact Nat.succ_le_succ ih
    · rw [if_neg hp]
      split
      · rw [List.length_cons]
        omega
      · exact ih
theorem filter_more {α : Type} {p q : α → Bool} (h : ∀ x, p x = true → q x = true) : ∀ {l : List α} {y : α}, y ∈ l → q y = true → p y = false → (l.filter p).length < (l.filter q).length
  | [], _, hy, _, _ => by cases hy
  | x :: l, y, hy, hq, hp => by
    rw [List.filter_cons, List.filter_cons]
    rcases List.mem_cons.mp hy with rfl | hy
    · rw [if_pos hq, if_neg (by rw [hp]; decide), List.length_cons]
      have := filter_grow h (l := l)
      omega
    · have ih := filter_more h hy hq hp
      by_cases hx : p x = true
      · rw [if_pos hx, if_pos (h x hx), List.length_cons, List.length_cons]
        omega
      · rw [if_neg hx]
        split
        · rw [List.length_cons]
          omega
        · exact ih
section
open Classical
noncomputable def cntR (ps : List (Int × Int)) (n : Int) (c : Int) (k : Nat) : Nat := ((iota n).filter fun a => decide (RchN ps k a c)).length
theorem cntR_le (ps : List (Int × Int)) (n c : Int) (k : Nat) : cntR ps n c k ≤ n.toNat := by
  unfold cntR
  refine Nat.le_trans (List.length_filter_le _ _) ?_
  rw [List.length_map, List.length_range]
  exact Nat.le_refl _
/-- n pairs are enough -/
theorem Rch.few {ps : List (Int × Int)} {n : Int} (hp : ∀ p ∈ ps, (0 ≤ p.1 ∧ p.1 < n) ∧ (0 ≤ p.2 ∧ p.2 < n)) {a c : Int} (h : Rch ps a c) (hc : 0 ≤ c ∧ c < n) : RchN ps n.toNat a c := by
  have key : ∀ k, (∃ j, j ≤ k ∧ ∀ b, RchN ps (j + 1) b c → RchN ps j b c) ∨ k + 2 ≤ cntR ps n c (k + 1) := by
    intro k
    induction k with
    | zero =>
      by_cases st : ∀ b, RchN ps 1 b c → RchN ps 0 b c
      · exact .inl ⟨0, Nat.le_refl _, st⟩
      · obtain ⟨b, hb⟩ := Classical.not_forall.mp st
        obtain ⟨hb1, hb0⟩ := Classical.not_imp.mp hb
        refine .inr ?_
        have h1 : 1 ≤ cntR ps n c 0 := by
          unfold cntR
          refine List.length_pos_iff.mpr fun e => ?_
          have : c ∈ (iota n).filter fun a => decide (RchN ps 0 a c) := List.mem_filter.mpr ⟨mem_iota.mpr hc, decide_eq_true rfl⟩
          rw [e] at this
          cases this
        have hin := hb1.rch.inn' hp hc
        show 0 + 2 ≤ cntR ps n c 1
        have h2 : cntR ps n c 0 < cntR ps n c 1 := filter_more (fun x hx => decide_eq_true (of_decide_eq_true hx : RchN ps 0 x c).more) (mem_iota.mpr hin) (decide_eq_true hb1) (decide_eq_false hb0)
        omega
    | succ k ih =>
      rcases ih with ⟨j, hj, st⟩ | ih
      · exact .inl ⟨j, by omega, st⟩
      · by_cases st : ∀ b, RchN ps (k + 2) b c → RchN ps (k + 1) b c
        · exact .inl ⟨k + 1, Nat.le_refl _, st⟩
        · obtain ⟨b, hb⟩ := Classical.not_forall.mp st
          obtain ⟨hb1, hb0⟩ := Classical.not_imp.mp hb
          refine .inr ?_
          have hin := hb1.rch.inn' hp hc
          show k + 1 + 2 ≤ cntR ps n c (k + 2)
          have h2 : cntR ps n c (k + 1) < cntR ps n c (k + 2) := filter_more (fun x hx => decide_eq_true (of_decide_eq_true hx : RchN ps (k + 1) x c).more) (mem_iota.mpr hin) (decide_eq_true hb1) (decide_eq_false hb0)
          omega
  rcases key n.toNat with ⟨j, hj, st⟩ | h2
  · refine RchN.le (k := j) ?_ hj
    clear hj
    induction h with
    | here c =>
      cases j with
      | zero => exact rfl
      | succ j => exact .inl rfl
    | step e g ih => exact st _ (.inr ⟨_, e, ih hc key st⟩)
  · have := cntR_le ps n c (n.toNat + 1)
    omega
/-! ### rooms -/
def Mu (ps : List (Int × Int)) (a b : Int) : Prop := Rch ps a b ∧ Rch ps b a
noncomputable def roomOf (ps : List (Int × Int)) (n a : Int) : List Int := (iota n).filter fun b => decide (Mu ps a b)
theorem mem_room {ps : List (Int × Int)} {n a b : Int} : b ∈ roomOf ps n a ↔ (0 ≤ b ∧ b < n) ∧ Mu ps a b := by
  unfold roomOf
  rw [List.mem_filter, mem_iota, decide_eq_true_eq]
theorem asc_filter {l : List Int} {p : Int → Bool} (h : ascB ltIn l = true) : ascB ltIn (l.filter p) = true := asc_pw ((pwI_asc h).filter p)
theorem asc_room {ps : List (Int × Int)} {n a : Int} : ascB ltIn (roomOf ps n a) = true := asc_filter (asc_iota n)
theorem room_len {ps : List (Int × Int)} {n a : Int} : (roomOf ps n a).length ≤ n.toNat := by
  unfold roomOf
  refine Nat.le_trans (List.length_filter_le _ _) ?_
  rw [List.length_map, List.length_range]
  exact Nat.le_refl _
theorem room_self {ps : List (Int × Int)} {n a : Int} (h : 0 ≤ a ∧ a < n) : a ∈ roomOf ps n a := mem_room.mpr ⟨h, .here a, .here a⟩
/-- a room stands at its least quantity -/
noncomputable def isHead (ps : List (Int × Int)) (n a : Int) : Bool := decide ((roomOf ps n a).head? = some a)
noncomputable def roomsTo (ps : List (Int × Int)) (n : Int) (k : Nat) : List (List Int) := (((iota n).take k).filter (isHead ps n)).map (roomOf ps n)
noncomputable def roomsOf (ps : List (Int × Int)) (n : Int) : List (List Int) := roomsTo ps n n.toNat
theorem roomsTo_step {ps : List (Int × Int)} {n : Int} {k : Nat} (hk : (k : Int) < n) : roomsTo ps n (k + 1) = if isHead ps n (k : Int) = true then roomsTo ps n k ++ [roomOf ps n (k : Int)] else roomsTo ps n k := by
  unfold roomsTo
  rw [take_snoc (iota_at hk), List.filter_append, List.map_append, List.filter_cons, List.filter_nil]
  by_cases h : isHead ps n (k : Int) = true
  · rw [if_pos h, if_pos h]
    rfl
  · rw [if_neg h, if_neg h]
    simp
theorem mem_rooms {ps : List (Int × Int)} {n : Int} {k : Nat} {r : List Int} (h : r ∈ roomsTo ps n k) : ∃ a, (0 ≤ a ∧ a < n) ∧ r = roomOf ps n a := by
  obtain ⟨a, ha, rfl⟩ := List.mem_map.mp h
  exact ⟨a, mem_iota.mp (List.mem_of_mem_take (List.mem_filter.mp ha).1), rfl⟩
theorem roomsTo_len {ps : List (Int × Int)} {n : Int} {k : Nat} : (roomsTo ps n k).length ≤ k := by
  unfold roomsTo
  rw [List.length_map]
  refine Nat.le_trans (List.length_filter_le _ _) ?_
  rw [List.length_take]
  omega
theorem Mu.symm {ps : List (Int × Int)} {a b : Int} (h : Mu ps a b) : Mu ps b a := ⟨h.2, h.1⟩
theorem Mu.trans {ps : List (Int × Int)} {a b c : Int} (h : Mu ps a b) (g : Mu ps b c) : Mu ps a c := ⟨h.1.trans g.1, g.2.trans h.2⟩
/-- those into which no pair leads -/
def isFirst (ps : List (Int × Int)) (r : List Int) : Bool := (ps.filter fun p => r.contains p.2 && !r.contains p.1).isEmpty
noncomputable def firstOf (ps : List (Int × Int)) (n : Int) : List (List Int) := (roomsOf ps n).filter (isFirst ps)
def inOne (rs : List (List Int)) (s t : Int) : Bool := rs.any fun r => r.contains s && r.contains t
theorem one_room {ps : List (Int × Int)} {n s t : Int} {r : List Int} (hr : r ∈ roomsOf ps n) (ht : t ∈ r) : inOne (roomsOf ps n) s t = r.contains s := by
  rw [Bool.eq_iff_iff]
  unfold inOne
  rw [List.any_eq_true, List.contains_iff_mem]
  constructor
  · rintro ⟨r', hr', h⟩
    rw [Bool.and_eq_true, List.contains_iff_mem, List.contains_iff_mem] at h
    obtain ⟨a, ha, rfl⟩ := mem_rooms hr
    obtain ⟨b, hb, rfl⟩ := mem_rooms hr'
    have h1 := mem_room.mp ht
    have h2 := mem_room.mp h.1
    have h3 := mem_room.mp h.2
    exact mem_room.mpr ⟨h2.1, (h1.2.trans h3.2.symm).trans h2.2⟩
  · intro h
    exact ⟨r, hr, by rw [Bool.and_eq_true, List.contains_iff_mem, List.contains_iff_mem]; exact ⟨h, ht⟩⟩
theorem first_eq {ps : List (Int × Int)} {n : Int} {r : List Int} (hr : r ∈ roomsOf ps n) : isFirst ps r = !(r.any fun q => ((ps.filter fun p => !inOne (roomsOf ps n) p.1 p.2).map (·.2)).contains q) := by
  rw [Bool.eq_iff_iff, Bool.not_eq_true', ← Bool.not_eq_true, List.any_eq_true]
  unfold isFirst
  rw [List.isEmpty_iff, List.filter_eq_nil_iff]
  constructor
  · rintro h ⟨q, hq, hc⟩
    rw [List.contains_iff_mem] at hc
    obtain ⟨p, hp, rfl⟩ := List.mem_map.mp hc
    obtain ⟨hp1, hp2⟩ := List.mem_filter.mp hp
    rw [one_room hr hq] at hp2
    refine h p hp1 ?_
    rw [Bool.and_eq_true, List.contains_iff_mem]
    exact ⟨hq, hp2⟩
  · intro h p hp hc
    rw [Bool.and_eq_true, List.contains_iff_mem] at hc
    refine h ⟨p.2, hc.1, ?_⟩
    rw [List.contains_iff_mem]
    refine List.mem_map.mpr ⟨p, List.mem_filter.mpr ⟨hp, ?_⟩, rfl⟩
    rw [one_room hr hc.1]
    exact hc.2
theorem room_head {ps : List (Int × Int)} {n a m : Int} (hm : m ∈ roomOf ps n a) (hl : ∀ y ∈ roomOf ps n a, m ≤ y) : (roomOf ps n a).head? = some m := by
  have ha := asc_room (ps := ps) (n := n) (a := a)
  generalize roomOf ps n a = r at hm hl ha
  cases r with
  | nil => cases hm
  | cons x r =>
    obtain ⟨h1, _⟩ := ascI_tail ha
    rcases List.mem_cons.mp hm with rfl | hm
    · rfl
    · have h2 := ltIn_yes (h1 m hm)
      have h3 := hl x (by simp)
      omega
end
end Nw
/-! Rules for bits, dicts and sets of tuples as they are wanted here. -/
namespace Nw
open PySem PySem.Spec PyProof.Rows L2
section
variable {X : Cx}
theorem op_orB : OpR X (binaryOp .BitOr) (fun x y H Q => ∃ n m : Nat, x = .int (n : Int) ∧ y = .int (m : Int) ∧ Q (.int ((n ||| m : Nat) : Int)) H) := by
  intro pins s σ H x y v u Q I rx ry h
  obtain ⟨n, m, rfl, rfl, q⟩ := h
  refine op_or pins s σ H _ _ v u Q I rx ry ⟨_, _, rfl, rfl, ?_⟩
  show Q (.int (Builtin.bitOr (n : Int) (m : Int))) H
  rw [bitOr_nn (Int.natCast_nonneg _) (Int.natCast_nonneg _)]
  exact q
theorem ps_dputK {k : Nat} {o i value : Expr} {td ty tv : TE} {pos pos' : Pos} (hr : Room k X.A) (ho : PE X o td) (hi : PE X i ty) (hv : PE X value tv) (hs : swapsWith value (some (.Subscript o i pos')) pos.line X.env = pure false) :
    PS X (.Assign [.Subscript o i pos'] value pos) (sDPut td ty tv) := ps_dput (by have := hr.un; omega) ho hi hv hs
theorem pe_dIn {k : Nat} {o i : Expr} {td ty : TE} {pos : Pos} (hr : Room k X.A) (hi : PE X i ty) (ho : PE X o td) (hm : behindInMarks .In o = false := by rfl) : PE X (.Compare i [.In] [o] pos) (tDIn ty td) := pe_cmp (pc_din (by have := hr.un; omega) hi ho) hm
theorem pt_dIn {k : Nat} {o i : Expr} {td ty : TE} {pos : Pos} (hr : Room k X.A) (hi : PE X i ty) (ho : PE X o td) (hm : behindInMarks .In o = false := by rfl) : PT X (.Compare i [.In] [o] pos) (tB (tDIn ty td)) := pt_cmp (pc_din (by have := hr.un; omega) hi ho) hm
theorem pt_dNotIn {k : Nat} {o i : Expr} {td ty : TE} {pos : Pos} (hr : Room k X.A) (hi : PE X i ty) (ho : PE X o td) (hm : behindInMarks .NotIn o = false := by rfl) : PT X (.Compare i [.NotIn] [o] pos) (tB (tDNotIn ty td)) := pt_cmp (pc_dnotin (by have := hr.un; omega) hi ho) hm
end
/-- a dict that holds some ints -/
def visK (vis : List Int) : List (Key × V) := vis.map fun x => (Sum.inl x, V.bl true)
theorem visK_get {vis : List Int} {x : Int} : (valV (visK vis) (Sum.inl x)).isSome = vis.contains x := by
  unfold valV visK
  induction vis with
  | nil => rfl
  | cons y r ih =>
    rw [List.map_cons, List.find?_cons]
    by_cases h : y = x
    · subst h
      simp
    · have h1 : decide ((Sum.inl y : Key) = Sum.inl x) = false := decide_eq_false (fun e => h (Sum.inl.inj e))
      simp only [h1]
      rw [ih]
      have h2 : ¬ x = y := fun e => h e.symm
      simp [h2]
theorem visK_put {vis : List Int} {x : Int} (h : x ∉ vis) : putK (visK vis) (Sum.inl x) (V.bl true) = visK (vis ++ [x]) := by
  unfold putK visK
  rw [if_neg, List.map_append]
  · rfl
  · rw [Bool.not_eq_true, List.any_eq_false]
    intro kv hkv
    obtain ⟨y, hy, rfl⟩ := List.mem_map.mp hkv
    rw [decide_eq_true_eq]
    intro e
    exact h (Sum.inl.inj e ▸ hy)
end Nw
/-! What leads to what, by bits. -/
namespace Nw
open PySem PySem.Spec PyProof.Rows L2
theorem RchN.refl (ps : List (Int × Int)) (a : Int) : ∀ k, RchN ps k a a
  | 0 => rfl
  | _ + 1 => .inl rfl
def bitA (ms : List Nat) (a j : Nat) : Bool := (ms.getD a 0).testBit j
theorem bitA_set {ms : List Nat} {a b j m : Nat} (h : a < ms.length) : bitA (ms.set a m) b j = if a = b then m.testBit j else bitA ms b j := by
  unfold bitA
  rw [List.getD_eq_getElem?_getD, List.getElem?_set]
  by_cases e : a = b
  · subst e
    rw [if_pos rfl, if_pos rfl, if_pos h]
    rfl
  · rw [if_neg e, if_neg e, List.getD_eq_getElem?_getD]
structure Lead (ps : List (Int × Int)) (n k : Nat) (ms : List Nat) : Prop where
  len : ms.length = n
  snd : ∀ a j : Nat, a < n → bitA ms a j = true → Rch ps (a : Int) (j : Int)
  cmp : ∀ a j : Nat, a < n → RchN ps k (a : Int) (j : Int) → bitA ms a j = true
theorem Lead.zero (ps : List (Int × Int)) (n : Nat) : Lead ps n 0 ((List.range n).map fun a => 2 ^ a) := by
  have h : ∀ a j : Nat, a < n → bitA ((List.range n).map fun a => 2 ^ a) a j = decide (a = j) := fun a j ha => by
    unfold bitA
    rw [List.getD_eq_getElem?_getD, List.getElem?_map, List.getElem?_range ha]
    exact Nat.testBit_two_pow
  refine ⟨by rw [List.length_map, List.length_range], fun a j ha hb => ?_, fun a j ha hr => ?_⟩
  · rw [h a j ha, decide_eq_true_eq] at hb
    rw [hb]
    exact .here _
  · rw [h a j ha, decide_eq_true_eq]
    have : (a : Int) = (j : Int) := hr
    omega
structure LeadI (ps : List (Int × Int)) (n k i : Nat) (ms : List Nat) : Prop extends Lead ps n k ms where
  done : ∀ (l : Nat) (p : Int × Int), l < i → ps[l]? = some p → ∀ j : Nat, RchN ps k p.2 (j : Int) → bitA ms p.1.toNat j = true
theorem LeadI.zero {ps : List (Int × Int)} {n k : Nat} {ms : List Nat} (h : Lead ps n k ms) : LeadI ps n k 0 ms := ⟨h, fun l p hl => by omega⟩
theorem LeadI.step {ps : List (Int × Int)} {n k i : Nat} {ms : List Nat} (h : LeadI ps n k i ms) {p : Int × Int} (hp : ps[i]? = some p) (hr : (0 ≤ p.1 ∧ p.1 < (n : Int)) ∧ (0 ≤ p.2 ∧ p.2 < (n : Int))) :
    LeadI ps n k (i + 1) (ms.set p.1.toNat (ms.getD p.1.toNat 0 ||| ms.getD p.2.toNat 0)) := by
  have hl : p.1.toNat < ms.length := by
    rw [h.len]
    omega
  have e1 : ((p.1.toNat : Nat) : Int) = p.1 := Int.toNat_of_nonneg hr.1.1
  have e2 : ((p.2.toNat : Nat) : Int) = p.2 := Int.toNat_of_nonneg hr.2.1
  have grow : ∀ a j : Nat, bitA ms a j = true → bitA (ms.set p.1.toNat (ms.getD p.1.toNat 0 ||| ms.getD p.2.toNat 0)) a j = true := by
    intro a j hb
    rw [bitA_set hl]
    by_cases e : p.1.toNat = a
    · rw [if_pos e, Nat.testBit_or, Bool.or_eq_true]
      refine .inl ?_
      rw [e]
      exact hb
    · rw [if_neg e]
      exact hb
  refine ⟨⟨by rw [List.length_set, h.len], fun a j ha hb => ?_, fun a j ha hc => grow a j (h.cmp a j ha hc)⟩, fun l q hl' hq j hc => ?_⟩
  · rw [bitA_set hl] at hb
    by_cases e : p.1.toNat = a
    · rw [if_pos e, Nat.testBit_or, Bool.or_eq_true] at hb
      rcases hb with hb | hb
      · exact h.snd a j ha (by rw [e] at hb; exact hb)
      · have h2 := h.snd p.2.toNat j (by omega) hb
        rw [e2] at h2
        have : (a : Int) = p.1 := by omega
        rw [this]
        exact .step (List.mem_of_getElem? hp) h2
    · rw [if_neg e] at hb
      exact h.snd a j ha hb
  · by_cases e : l = i
    · subst e
      rw [hp] at hq
      cases hq
      rw [bitA_set hl, if_pos rfl, Nat.testBit_or, Bool.or_eq_true]
      refine .inr (h.cmp p.2.toNat j (by omega) ?_)
      rw [e2]
      exact hc
    · exact grow _ _ (h.done l q (by omega) hq j hc)
theorem LeadI.fin {ps : List (Int × Int)} {n k : Nat} {ms : List Nat} (h : LeadI ps n k ps.length ms) : Lead ps n (k + 1) ms := by
  refine ⟨h.len, h.snd, fun a j ha hc => ?_⟩
  rcases hc with e | ⟨b, e, hc⟩
  · refine h.cmp a j ha ?_
    rw [e]
    exact RchN.refl _ _ _
  · obtain ⟨l, hl⟩ := List.getElem?_of_mem e
    obtain ⟨hl', _⟩ := List.getElem?_eq_some_iff.mp hl
    have := h.done l _ hl' hl j hc
    rw [Int.toNat_natCast] at this
    exact this
theorem Lead.all {ps : List (Int × Int)} {n : Nat} {ms : List Nat} (hp : ∀ p ∈ ps, (0 ≤ p.1 ∧ p.1 < (n : Int)) ∧ (0 ≤ p.2 ∧ p.2 < (n : Int))) (h : Lead ps n n ms) {a j : Nat} (ha : a < n) (hj : j < n) :
    bitA ms a j = true ↔ Rch ps (a : Int) (j : Int) := by
  refine ⟨h.snd a j ha, fun r => h.cmp a j ha ?_⟩
  have := Rch.few hp r ⟨by omega, by omega⟩
  rw [Int.toNat_natCast] at this
  exact this
end Nw
/-! Sets of pairs, sorted. -/
namespace Nw
open PySem PySem.Spec PyProof.Rows L2
section
variable {X : Cx}
theorem cr_setOfTK (K : PySem.W.Frag) (P : Program) (w : World) (hc : X.calm = true) (hu : X.A.units + 64 < cLine) (hK : X.K = K := by rfl) (hP : X.prog = P := by rfl) (hw : X.w = w := by rfl) : CallR X (.type "set") (rSetOfT K P w) := by
  subst hK hP hw
  exact cr_setOfT hc hu
theorem cr_sortedTK (K : PySem.W.Frag) (P : Program) (w : World) (hc : X.calm = true) (hK : X.K = K := by rfl) (hP : X.prog = P := by rfl) (hw : X.w = w := by rfl) : CallR X (.builtin "sorted") (rSortedT K P w) := by
  subst hK hP hw
  exact cr_sortedT hc
end
def toP : List Int → Int × Int
  | [x, y] => (x, y)
  | _ => (0, 0)
theorem asc_codes {L : List (Addr × List Int)} (hL : ∀ q ∈ L, ∃ x y : Int, q.2 = [x, y] ∧ (0 ≤ x ∧ x < 64) ∧ (0 ≤ y ∧ y < 64)) (nd : (L.map (·.2)).Nodup) (hp : L.Pairwise fun q r => TS.code 64 q.2 ≤ TS.code 64 r.2) :
    ascB ltPr (L.map fun q => toP q.2) = true := by
  refine asc_pw (List.pairwise_map.mpr ?_)
  have h1 := (List.pairwise_map.mp nd).and hp
  refine h1.imp_of_mem fun {q r} hq hr h => ?_
  obtain ⟨x, y, e, hx, hy⟩ := hL q hq
  obtain ⟨x', y', e', hx', hy'⟩ := hL r hr
  obtain ⟨h2, h3⟩ := h
  rw [e, e'] at h2 h3 ⊢
  rw [code_pair, code_pair] at h3
  have h4 : ¬ (x = x' ∧ y = y') := fun ⟨a, b⟩ => h2 (by rw [a, b])
  show ltPr (x, y) (x', y') = true
  refine ltPr_iff.mpr ?_
  show x < x' ∨ (x = x' ∧ y < y')
  omega
/-- the one before, or the last -/
theorem atI_prev {r : List Int} {j : Nat} (h : j < r.length) : ∃ a ∈ r, atI (r.map V.int) (0 + (j : Int) - 1) = some (.int a) := by
  cases j with
  | zero =>
    rcases List.eq_nil_or_concat r with rfl | ⟨l, x, rfl⟩
    · simp at h
    · refine ⟨x, by simp, ?_⟩
      rw [List.concat_eq_append, List.map_append]
      exact atI_last _ _
  | succ j =>
    have h1 := List.getElem?_eq_getElem (show j < r.length by omega)
    refine ⟨r[j], List.getElem_mem _, ?_⟩
    refine atI_int (by omega) ?_
    rw [show (0 + ((j + 1 : Nat) : Int) - 1).toNat = j by omega, List.getElem?_map, h1]
    rfl
theorem cutV_map {o : List Int} {lo hi : Option Int} : cutV (o.map V.int) lo hi = ((o.drop (HT.sIx o.length 0 lo)).take (HT.sIx o.length o.length hi - HT.sIx o.length 0 lo)).map V.int := by
  unfold cutV
  rw [List.length_map, List.map_take, List.map_drop]
end Nw
/-! sorted of a dict whose keys are ints. -/
namespace Nw
open PySem PySem.Spec PyProof.Rows L2
/-- what sorted asks of such a dict -/
def rSortedD : List V → Hp → VK → Prop := fun vs H Q => ∃ (a : Addr) (kvs : List (Key × V)) (is : List Int), vs = [V.ref a] ∧ H a = some (.dK kvs) ∧ kvs.map (·.1) = is.map Sum.inl ∧
  ∀ (js : List Int) (p : Addr), js.Perm is → js.Pairwise (· ≤ ·) → H p = none → Q (.ref p) (upd H p (.lst (js.map V.int)))
theorem ints_by : ∀ {us : List Value} {is : List Int}, us.length = is.length → (∀ (j : Nat) (u : Value) (i : Int), us[j]? = some u → is[j]? = some i → ∃ t, u = Value.int i t) → IntsAre us is
  | [], [], _, _ => .nil
  | [], _ :: _, h, _ => by simp at h
  | _ :: _, [], h, _ => by simp at h
  | u :: us, i :: is, h, f => by
    obtain ⟨t, rfl⟩ := f 0 u i rfl rfl
    exact .cons i t (ints_by (by simpa using h) fun j v k h1 h2 => f (j + 1) v k (by simpa using h1) (by simpa using h2))
section
variable {X : Cx}
theorem cr_sortedDK (hc : X.calm = true) : CallR X (.builtin "sorted") rSortedD := by
  intro pins s σ H vs us Q I r h
  obtain ⟨a, kvs, is, rfl, ha, hv, q⟩ := h
  rw [Vals.ref1 r]
  obtain ⟨hz, lo, es, rk, hd⟩ := (show ObjOk X.prog X.w H s.heap a (.dK kvs) from I.hok a _ ha)
  obtain ⟨ep, hat⟩ := hd.dictAt
  have hl : kvs.length = es.length := Paired.length rk
  have hkeys : es.map (·.1) = is.map Sum.inl := (KV.keys rk).symm.trans hv
  have hil : is.length = es.length := by
    have e := congrArg List.length hkeys
    rw [List.length_map, List.length_map] at e
    exact e.symm
  apply Calls.call_function_entry (kind_sorted) (plain_sorted) (entry_sorted) (args_sorted1 _)
  unfold Builtin.«sorted»
  apply wpAny_bind (m := checkCount "sorted" 1 1 _)
  apply wpAny_pure
  apply wpAny_bind
  refine PySem.W.kdu_collect (PySem.W.kdl_dict (knd := mixKind X.prog X.w) (kvs := es) (ep := ep) lo) (I.ok.hd hc) hat (by rw [← hl]; exact hz) (fun h1 tk acc hk hacc => ?_)
  have hlen : acc.toList.length = is.length := by
    rw [Array.length_toList, hacc.1, hil]
  have hi : IntsAre acc.toList is := ints_by hlen (fun j u i e1 e2 => by
    obtain ⟨k, x, hx, hkk⟩ := hacc.2 j u (by rw [← Array.getElem?_toList]; exact e1)
    have e3 : (es.map (·.1))[j]? = some k := by
      rw [List.getElem?_map, hx]
      rfl
    rw [hkeys, List.getElem?_map, e2] at e3
    cases e3
    exact Value.isInt_shape (k := i) (v := u) hkk)
  have hz1 : acc.toList.length ≤ sizeLine := by
    rw [hlen, hil, ← hl]
    exact hz
  apply wpAny_bind
  refine wpAny_newList ?_ hz1
  have hob : (h1.push (seqObj "list" acc.toList.toArray 0)).get? h1.objs.size = some (seqObj "list" acc.toList.toArray 0) := Heap.get?_push_size _ rfl
  apply wpAny_bind
  apply wpAny_holding
  refine wpAny_call_entry (slot_list_sort) ⟨_, hob, rfl⟩ (entry_list_sort) (SrtO.list_sort_ord SrtO.swo_int hob hz1 (fun h2 => SrtO.ints_sortable hi h2) (fun out o1 o2 => ⟨_, rfl, ?_⟩)) (args_list_sort _)
  obtain ⟨k1, k2, k3⟩ := SrtO.ints_out hi o1 o2
  obtain ⟨ec, hec⟩ := sortedHeap_at (vs := acc.toList) (out := out.toArray) hob
  have hll : ((out.map SrtO.iv).map V.int).length ≤ sizeLine := by
    rw [List.length_map, k2.length_eq, ← hlen]
    exact hz1
  have keep : ∀ b u, s.heap.get? b = some u → (sortedHeap (h1.push (seqObj "list" acc.toList.toArray 0)) h1.objs.size acc.toList out.toArray).get? b = some u := by
    intro b u e
    have e1 := hk b u e
    have hlt := Heap.lt_size e1
    rw [sortedHeap_old (Nat.ne_of_lt hlt) (by rw [size_push']; exact Nat.lt_succ_of_lt hlt)]
    exact Heap.get?_push_of_some _ e1
  have hno : s.heap.get? h1.objs.size = none := by
    cases e : s.heap.get? h1.objs.size with
    | none => rfl
    | some u =>
      exact absurd (Heap.lt_size (hk _ _ e)) (Nat.lt_irrefl _)
  apply wpAny_pure
  exact ⟨_, rfl, .ref _, upd H h1.objs.size (.lst ((out.map SrtO.iv).map V.int)), I.laidN (t' := tk) keep hno (I.hok.gone hno) ⟨hll, out, ec, vals_of_ints k1, hec⟩, rfl, q _ _ k2 k3 (I.hok.gone hno)⟩
end
end Nw
/-! Tables of sets, of any size that is a power of two: each slot is met; what is laid is found again. -/
namespace Nw
open PySem PySem.Spec PyProof.Rows L2

/-! ### i -> 5 i + 1 goes through all of 2 ^ k -/
/-- 1 + 5 + 25 + .. -/
def geo : Nat → Nat
  | 0 => 0
  | n + 1 => 5 * geo n + 1
theorem geo_pow : ∀ n, 5 ^ n = 4 * geo n + 1
  | 0 => rfl
  | n + 1 => by
    have h := geo_pow n
    show 5 ^ (n + 1) = 4 * (5 * geo n + 1) + 1
    rw [Nat.pow_succ, h]
    omega
theorem geo_add (a : Nat) : ∀ d, geo (d + a) = 5 ^ a * geo d + geo a
  | 0 => by
    rw [Nat.zero_add]
    show geo a = 5 ^ a * 0 + geo a
    omega
  | d + 1 => by
    have h := geo_add a d
    have e : d + 1 + a = (d + a) + 1 := by omega
    rw [e]
    show 5 * geo (d + a) + 1 = 5 ^ a * (5 * geo d + 1) + geo a
    have k := geo_pow a
    rw [h]
    generalize 5 ^ a = x at k ⊢
    grind
theorem geo_par : ∀ d, geo d % 2 = d % 2
  | 0 => rfl
  | d + 1 => by
    have h := geo_par d
    show (5 * geo d + 1) % 2 = (d + 1) % 2
    omega
theorem dvd_odd {k a b : Nat} (h : 2 ^ k ∣ a * b) (hb : b % 2 = 1) : 2 ^ k ∣ a := by
  have c : Nat.Coprime (2 ^ k) b := by
    refine Nat.Coprime.pow_left k ?_
    rw [Nat.coprime_iff_gcd_eq_one] at *
    have e : Nat.gcd 2 b = Nat.gcd (b % 2) 2 := Nat.gcd_rec 2 b
    rw [e, hb]
    rfl
  exact c.dvd_of_dvd_mul_right h
theorem geo_dvd : ∀ k d, 2 ^ k ∣ geo d → 2 ^ k ∣ d
  | 0, d, _ => by
    rw [Nat.pow_zero]
    exact Nat.one_dvd d
  | k + 1, d, h => by
    have h2 : 2 ∣ geo d := Nat.dvd_trans ⟨2 ^ k, by rw [Nat.pow_succ, Nat.mul_comm]⟩ h
    have hp := geo_par d
    obtain ⟨e, rfl⟩ : ∃ e, d = e + e := ⟨d / 2, by omega⟩
    have h3 : geo (e + e) = 2 * (geo e * (2 * geo e + 1)) := by
      rw [geo_add e e, geo_pow e, Nat.add_mul, Nat.one_mul, Nat.mul_add, Nat.mul_one, Nat.mul_assoc 4, ← Nat.mul_assoc (geo e) 2, Nat.mul_comm (geo e) 2, Nat.mul_assoc 2]
      omega
    rw [h3, Nat.pow_succ, Nat.mul_comm (2 ^ k) 2] at h
    have h4 : 2 ^ k ∣ geo e * (2 * geo e + 1) := Nat.dvd_of_mul_dvd_mul_left (by decide) h
    obtain ⟨q, hq⟩ := geo_dvd k e (dvd_odd h4 (by omega))
    refine ⟨q, ?_⟩
    rw [Nat.pow_succ, Nat.mul_right_comm, ← hq]
    omega
/-- a mask of k bits -/
def Pw (m : Nat) : Prop := ∃ k, m + 1 = 2 ^ k ∧ 3 ≤ k
theorem Pw.odd {m : Nat} (h : Pw m) : m % 2 = 1 := by
  obtain ⟨k, e, hk⟩ := h
  obtain ⟨j, rfl⟩ : ∃ j, k = j + 1 := ⟨k - 1, by omega⟩
  rw [Nat.pow_succ] at e
  omega
theorem lcgI_form {m i : Nat} (hi : i ≤ m) : ∀ n, lcgI m i n = (5 ^ n * i + geo n) % (m + 1)
  | 0 => by
    show i = (5 ^ 0 * i + 0) % (m + 1)
    rw [Nat.pow_zero, Nat.one_mul, Nat.add_zero, Nat.mod_eq_of_lt (by omega)]
  | n + 1 => by
    show (lcgI m i n * 5 + 1) % (m + 1) = (5 ^ (n + 1) * i + (5 * geo n + 1)) % (m + 1)
    rw [lcgI_form hi n, Nat.add_mod, Nat.mul_mod, Nat.mod_mod, ← Nat.mul_mod, ← Nat.add_mod]
    congr 1
    rw [Nat.pow_succ, Nat.add_mul, Nat.mul_right_comm]
    omega
theorem lcgI_inj {m i a d : Nat} (hm : Pw m) (hi : i ≤ m) (h0 : 0 < d) (hd : d ≤ m) : lcgI m i a ≠ lcgI m i (d + a) := by
  obtain ⟨k, e, _⟩ := hm
  intro h
  rw [lcgI_form hi, lcgI_form hi] at h
  have h5 : 5 ^ (d + a) * i + geo (d + a) = (5 ^ a * i + geo a) + 5 ^ a * (geo d * (4 * i + 1)) := by
    have k1 := geo_pow d
    rw [geo_add, Nat.pow_add]
    generalize 5 ^ a = x
    generalize 5 ^ d = y at k1 ⊢
    grind
  rw [h5] at h
  have h6 : (m + 1) ∣ 5 ^ a * (geo d * (4 * i + 1)) := by
    have z := Nat.sub_mod_eq_zero_of_mod_eq h.symm
    rw [Nat.add_sub_cancel_left] at z
    exact Nat.dvd_of_mod_eq_zero z
  rw [e, Nat.mul_comm] at h6
  have h7 : (5 ^ a) % 2 = 1 := by
    have := geo_pow a
    omega
  have h8 := Nat.le_of_dvd h0 (geo_dvd k d (dvd_odd (dvd_odd h6 h7) (by omega)))
  omega
theorem lcgI_le {m i : Nat} (hi : i ≤ m) (n : Nat) : lcgI m i n ≤ m := by
  rw [lcgI_form hi]
  exact Nat.le_of_lt_succ (Nat.mod_lt _ (Nat.succ_pos _))
/-- each is met within a round -/
theorem lcgI_meets {m i j : Nat} (hm : Pw m) (hi : i ≤ m) (hj : j ≤ m) : ∃ n, n ≤ m ∧ lcgI m i n = j := by
  refine Classical.byContradiction fun no => ?_
  have nd : (j :: (List.range (m + 1)).map (lcgI m i)).Nodup := by
    refine List.nodup_cons.mpr ⟨fun hx => ?_, ?_⟩
    · obtain ⟨n, hn, e⟩ := List.mem_map.mp hx
      exact no ⟨n, Nat.le_of_lt_succ (List.mem_range.mp hn), e⟩
    · rw [List.nodup_iff_pairwise_ne, List.pairwise_map]
      refine List.Pairwise.imp_of_mem (fun {a b} ha hb hab => ?_) List.pairwise_lt_range
      have hb' := List.mem_range.mp hb
      have hab' : a < b := hab
      have e : b = (b - a) + a := by omega
      rw [e]
      exact lcgI_inj hm hi (by omega) (by omega)
  have z := nat_nodup_len _ (List.range (m + 1)) nd fun x hx => by
    rcases List.mem_cons.mp hx with e | hx
    · exact List.mem_range.mpr (by omega)
    · obtain ⟨n, _, e⟩ := List.mem_map.mp hx
      have := lcgI_le hi n
      exact List.mem_range.mpr (by omega)
  rw [List.length_cons, List.length_map, List.length_range] at z
  omega
/-- a run begins at each slot, early enough -/
theorem runs_all {m : Nat} (hm : Pw m) (h : Int) {j : Nat} (hj : j ≤ m) : ∃ n, n ≤ m + 12 ∧ runI m (SetTable.bits h) n = j := by
  obtain ⟨k, hk, e⟩ := lcgI_meets hm (runI_le m (SetTable.bits h) 12) hj
  exact ⟨12 + k, by omega, by rw [runI_tail (bits_lt h)]; exact e⟩
/-- each slot is met on the way of a hash -/
theorem way_all {m : Nat} (hm : Pw m) (h : Int) {j : Nat} (hj : j ≤ m) : ∃ k, k < 10 * SetTable.turns m ∧ way m h k = j := by
  obtain ⟨n, hn, e⟩ := runs_all hm h hj
  obtain ⟨k, hk, e2⟩ := run_nth m (SetTable.bits h) n
  refine ⟨k, by unfold SetTable.turns; omega, ?_⟩
  show (nth m (runAt m (SetTable.bits h % (m + 1)) (SetTable.bits h)) k).j = j
  rw [e2]
  exact e
/-- and none outside -/
theorem way_in (m : Nat) (h : Int) (k : Nat) : way m h k ≤ m := by
  have hi : SetTable.bits h % (m + 1) ≤ m := Nat.le_of_lt_succ (Nat.mod_lt _ (Nat.succ_pos _))
  have q := nth_in (m := m) k (runAt m (SetTable.bits h % (m + 1)) (SetTable.bits h)) (by
    have r := runEnd_bd hi
    show SetTable.bits h % (m + 1) + (SetTable.runEnd m (SetTable.bits h % (m + 1)) - SetTable.bits h % (m + 1)) ≤ m
    omega)
  exact Nat.le_trans (Nat.le_add_right _ _) q

/-! ### a table from whose slots the hashes are found again -/
/-- before its slot a hash meets taken slots only -/
def Trl (m : Nat) (js : List Nat) (q : Nat × Int) : Prop := ∃ k, way m q.2 k = q.1 ∧ ∀ c, c < k → way m q.2 c ∈ js
theorem Trl.more {m : Nat} {js js' : List Nat} {q : Nat × Int} (h : Trl m js q) (s : ∀ x ∈ js, x ∈ js') : Trl m js' q := by
  obtain ⟨k, e, z⟩ := h
  exact ⟨k, e, fun c hc => s _ (z c hc)⟩
structure Laid (t : SetTable) (hs : List Int) : Prop where
  ris : Ris t.place.toList
  dm : t.dummies = #[]
  len : t.place.toList.length = hs.length
  pw : Pw t.mask
  rd : ∀ q ∈ t.place.toList.zip hs, Trl t.mask t.place.toList q
/-- the first free slot on the way of a hash -/
theorem Laid.first {t : SetTable} {hs : List Int} (T : Laid t hs) (hl : hs.length ≤ t.mask) (h : Int) :
    ∃ K, K < 10 * SetTable.turns t.mask ∧ way t.mask h K ∉ t.place.toList ∧ ∀ c, c < K → way t.mask h c ∈ t.place.toList := by
  have hlen := T.len
  obtain ⟨j, hj, hn⟩ := st_missing t.place.toList (t.mask + 1) (by omega)
  obtain ⟨k, hk, e⟩ := way_all T.pw h (Nat.le_of_lt_succ hj)
  obtain ⟨K, h1, h2, h3⟩ := st_least (p := fun k => way t.mask h k ∉ t.place.toList) k (fun z => hn (e ▸ z))
  exact ⟨K, Nat.lt_of_le_of_lt h1 hk, h2, fun c hc => Classical.byContradiction fun z => h3 c hc z⟩
/-- what has the hash stands before it -/
theorem Laid.ahead {t : SetTable} {hs : List Int} (T : Laid t hs) {h : Int} {K i j : Nat} (hK : way t.mask h K ∉ t.place.toList) (hi : hs[i]? = some h) (hj : t.place.toList[i]? = some j) : ∃ c, c < K ∧ way t.mask h c = j := by
  obtain ⟨k, e, z⟩ := T.rd (j, h) (List.mem_of_getElem? (i := i) (by rw [List.getElem?_zip_eq_some]; exact ⟨hj, hi⟩))
  refine ⟨k, ?_, e⟩
  rcases Nat.lt_trichotomy k K with c | c | c
  · exact c
  · exact absurd (by rw [← c]; show way t.mask h k ∈ _; rw [show way t.mask h k = j from e]; exact List.mem_of_getElem? hj) hK
  · exact absurd (z K c) hK
theorem zip_put {α β : Type} {xs : List α} {ys : List β} (e : xs.length = ys.length) (p : Nat) (x : α) (y : β) {q : α × β} (h : q ∈ (xs.take p ++ x :: xs.drop p).zip (ys.take p ++ y :: ys.drop p)) : q = (x, y) ∨ q ∈ xs.zip ys := by
  have e1 : (xs.take p).length = (ys.take p).length := by rw [List.length_take, List.length_take, e]
  have e2 : xs.zip ys = (xs.take p).zip (ys.take p) ++ (xs.drop p).zip (ys.drop p) := by
    rw [← List.zip_append e1, List.take_append_drop, List.take_append_drop]
  rw [List.zip_append e1, List.zip_cons_cons] at h
  rw [e2]
  rcases List.mem_append.mp h with h | h
  · exact .inr (List.mem_append_left _ h)
  · rcases List.mem_cons.mp h with h | h
    · exact .inl h
    · exact .inr (List.mem_append_right _ h)
/-- one put in at its first free slot -/
theorem Laid.put {t : SetTable} {hs : List Int} (T : Laid t hs) {h : Int} {K : Nat} (hK : way t.mask h K ∉ t.place.toList) (hb : ∀ c, c < K → way t.mask h c ∈ t.place.toList) {j p : Nat} (ej : way t.mask h K = j) (ep : SetTable.below t.place j = p) :
    Laid (t.put j).1 (hs.take p ++ h :: hs.drop p) ∧ (t.put j).1.fill = hs.length + 1 := by
  have hsz := T.len
  have e := put_place t j
  rw [ep] at e
  have hpl : p ≤ t.place.toList.length := by
    have := (below_cut T.ris j).1
    rw [Array.length_toList]
    omega
  have hl : (t.put j).1.place.toList.length = hs.length + 1 := by
    rw [e, len_ins _ hpl, hsz]
  have up : ∀ x ∈ t.place.toList, x ∈ (t.put j).1.place.toList := fun x hx => by
    rw [e]
    exact mem_ins.2 (.inr hx)
  have hne : t.place[SetTable.below t.place j]? ≠ some j := fun z => hK (by
    rw [ej]
    exact List.mem_of_getElem? (by rw [Array.getElem?_toList]; exact z))
  refine ⟨⟨ris_insert T.ris hne, put_dm T.dm j, by rw [hl, len_ins _ (by omega)], T.pw, fun q hq => ?_⟩, ?_⟩
  · show Trl t.mask (t.put j).1.place.toList q
    rw [e] at hq
    rcases zip_put hsz p j h hq with z | z
    · rw [z]
      exact ⟨K, ej, fun c hc => up _ (hb c hc)⟩
    · exact (T.rd q z).more up
  · show (t.put j).1.place.size + (t.put j).1.dummies.size = hs.length + 1
    rw [put_dm T.dm j, ← Array.length_toList, hl]
    rfl

/-! ### a table laid anew -/
/-- who sits where, told by the slots in the order of coming -/
structure Seats (m : Nat) (js : List Nat) (hs : List Int) (ow : Array (Option Nat)) : Prop where
  sz : ow.size = m + 1
  len : js.length = hs.length
  own : ∀ j k, j ≤ m → (oAt ow j = some k ↔ js[k]? = some j)
  rd : ∀ q ∈ js.zip hs, Trl m js q
theorem Seats.start (m : Nat) : Seats m [] [] (Array.replicate (m + 1) none) := by
  refine ⟨by simp, rfl, fun j k hj => ?_, fun q hq => by simp at hq⟩
  rw [oAt_init hj]
  simp
theorem Seats.free {m : Nat} {js : List Nat} {hs : List Int} {ow : Array (Option Nat)} (W : Seats m js hs ow) {j : Nat} (hj : j ≤ m) : oAt ow j = none ↔ j ∉ js := by
  constructor
  · intro h hm
    obtain ⟨k, hk⟩ := List.mem_iff_getElem?.mp hm
    rw [(W.own j k hj).2 hk] at h
    cases h
  · intro h
    cases e : oAt ow j with
    | none => rfl
    | some k => exact absurd (List.mem_of_getElem? ((W.own j k hj).1 e)) h
/-- the next hash finds a seat -/
theorem Seats.next {m : Nat} (hm : Pw m) {js : List Nat} {hs : List Int} {ow : Array (Option Nat)} (W : Seats m js hs ow) (hl : hs.length ≤ m) (h : Int) :
    ∃ j, SetTable.layClean.free m ow (SetTable.turns m) (SetTable.bits h % (m + 1)) (SetTable.bits h) = some j ∧ Seats m (js ++ [j]) (hs ++ [h]) (ow.setIfInBounds j (some hs.length)) := by
  have hlen := W.len
  obtain ⟨j0, h0, n0⟩ := st_missing js (m + 1) (by omega)
  have h0 := Nat.le_of_lt_succ h0
  obtain ⟨n, hn, e⟩ := runs_all hm h h0
  have ew : way m h (off m (SetTable.bits h % (m + 1)) (SetTable.bits h) n) = j0 := by
    show (nth m (runAt m (SetTable.bits h % (m + 1)) (SetTable.bits h)) _).j = j0
    rw [nth_off, itL_run]
    exact e
  obtain ⟨K, k1, k2, k3⟩ := st_least (p := fun k => way m h k ∉ js) _ (fun z => n0 (ew ▸ z))
  have hK := way_in m h K
  have fK : oAt ow (way m h K) = none := (W.free hK).2 k2
  refine ⟨way m h K, free_spec m ow (SetTable.turns m) n _ _ K (by unfold SetTable.turns; omega) k1 (fun c hc => ?_) ?_, ?_⟩
  · have z : way m h c ∈ js := Classical.byContradiction fun z => k3 c hc z
    show (oAt ow (way m h c)).isNone = false
    cases y : oAt ow (way m h c) with
    | none => exact absurd z ((W.free (way_in m h c)).1 y)
    | some _ => rfl
  · show (oAt ow (way m h K)).isNone = true
    rw [fK]
    rfl
  · generalize ej : way m h K = j at hK fK k2 ⊢
    have gl : (js ++ [j])[js.length]? = some j := by
      rw [List.getElem?_append_right (Nat.le_refl _), Nat.sub_self]
      rfl
    refine ⟨by rw [Array.size_setIfInBounds]; exact W.sz, by rw [List.length_append, List.length_append, hlen]; rfl, fun j' k hj' => ?_, fun q hq => ?_⟩
    · by_cases c : j' = j
      · rw [c, oAt_set_self _ (by rw [W.sz]; omega)]
        constructor
        · intro z
          rw [← Option.some.inj z, ← hlen]
          exact gl
        · intro z
          rcases Nat.lt_trichotomy k js.length with y | y | y
          · rw [List.getElem?_append_left y] at z
            exact absurd (List.mem_of_getElem? z) k2
          · rw [y, hlen]
          · rw [List.getElem?_eq_none (by rw [List.length_append]; simp; omega)] at z
            cases z
      · rw [oAt_set_ne _ c, W.own j' k hj']
        rcases Nat.lt_trichotomy k js.length with y | y | y
        · rw [List.getElem?_append_left y]
        · rw [y, gl, List.getElem?_eq_none (Nat.le_refl _)]
          exact ⟨fun z => (nomatch z), fun z => absurd (Option.some.inj z).symm c⟩
        · rw [List.getElem?_eq_none (Nat.le_of_lt y), List.getElem?_eq_none (by rw [List.length_append]; simp; omega)]
    · rw [List.zip_append hlen] at hq
      rcases List.mem_append.mp hq with z | z
      · exact (W.rd q z).more fun x hx => List.mem_append_left _ hx
      · have z' : q = (j, h) := by simpa using z
        rw [z']
        exact ⟨K, ej, fun c hc => List.mem_append_left _ (Classical.byContradiction fun y => k3 c hc y)⟩
theorem seats_fold {m : Nat} (hm : Pw m) : ∀ (more js : List Nat) (todo hs : List Int) (ow : Array (Option Nat)), Seats m js hs ow → hs.length + todo.length ≤ m →
    ∃ js' ow', todo.foldl (stepF m) (some (ow, hs.length)) = some (ow', (hs ++ todo).length) ∧ Seats m js' (hs ++ todo) ow' := by
  intro more js todo
  induction todo generalizing js with
  | nil =>
    intro hs ow W _
    exact ⟨js, ow, by rw [List.append_nil]; rfl, by rw [List.append_nil]; exact W⟩
  | cons h todo ih =>
    intro hs ow W hl
    rw [List.length_cons] at hl
    obtain ⟨j, e, W'⟩ := W.next hm (by omega) h
    obtain ⟨js', ow', f, W2⟩ := ih _ (hs ++ [h]) _ W' (by rw [List.length_append, List.length_singleton]; omega)
    rw [List.length_append (as := hs), List.length_singleton, List.append_assoc, List.singleton_append] at f
    rw [List.append_assoc, List.singleton_append] at W2
    refine ⟨js', ow', ?_, W2⟩
    rw [List.foldl_cons, stepF_some e]
    exact f
/-- the table laid anew, and in which order the old entries come now -/
theorem relaid_laid (t : SetTable) {hs : Array Int} {wanted M : Nat} (hw : SetTable.sizeAbove wanted - 1 = M) (hM : Pw M) (hn : hs.size ≤ M) :
    ∃ t' order, t.relaid hs wanted = some (t', order) ∧ order.toList.Perm (List.range hs.size) ∧ Laid t' (order.toList.map fun i => hs.getD i 0) ∧ t'.mask = M ∧ t'.led = t.led ∧ t'.plain = t.plain := by
  obtain ⟨js, ow, f, W⟩ := seats_fold hM [] [] hs.toList [] _ (Seats.start M) (by rw [Array.length_toList]; show 0 + hs.size ≤ M; omega)
  rw [List.nil_append] at f W
  have hr : t.relaid hs wanted = some (tabOf t M ow, ((liveOf M ow).map (·.2)).toArray) := by
    have f' : hs.toList.foldl (stepF M) (some (Array.replicate (M + 1) none, 0)) = some (ow, hs.toList.length) := f
    rw [relaid_eq, hw, layClean_eq, f']
    rfl
  have hlive : ∀ {j k : Nat}, (j, k) ∈ liveOf M ow ↔ j ≤ M ∧ js[k]? = some j := fun {j k} => by
    rw [mem_live W.sz]
    exact ⟨fun z => ⟨z.1, (W.own j k z.1).1 z.2⟩, fun z => ⟨z.1, (W.own j k z.1).2 z.2⟩⟩
  have hin : ∀ {j : Nat}, j ∈ js → j ≤ M := fun {j} hj => by
    obtain ⟨k, hk⟩ := List.mem_iff_getElem?.mp hj
    have hkl : k < (js.zip hs.toList).length := by
      rw [List.length_zip, ← W.len, Nat.min_self]
      exact (List.getElem?_eq_some_iff.mp hk).1
    obtain ⟨c, e, _⟩ := W.rd _ (List.getElem_mem hkl)
    have e2 : js[k]? = some ((js.zip hs.toList)[k].1) := by
      rw [List.getElem_zip]
      exact List.getElem?_eq_getElem _
    rw [hk] at e2
    rw [Option.some.inj e2, ← e]
    exact way_in ..
  have ris : Ris ((liveOf M ow).map (·.1)) := (ris_live (fun j => ow.getD j none) (List.range (M + 1)) List.pairwise_lt_range).1
  have lt1 : (liveOf M ow).Pairwise fun p q => p.1 < q.1 := List.pairwise_map.mp ris
  have ndk : ((liveOf M ow).map (·.2)).Nodup := by
    rw [List.nodup_iff_pairwise_ne, List.pairwise_map]
    refine lt1.imp_of_mem fun {p q} hp hq hlt e => ?_
    have a := (hlive.1 hp).2
    have b := (hlive.1 hq).2
    rw [e, b] at a
    exact absurd hlt (by rw [Option.some.inj a]; exact Nat.lt_irrefl _)
  have hlen := W.len
  refine ⟨_, _, hr, ?_, ⟨ris, rfl, ?_, hM, fun q hq => ?_⟩, rfl, rfl, rfl⟩
  · show ((liveOf M ow).map (·.2)).Perm (List.range hs.size)
    refine (List.perm_ext_iff_of_nodup ndk List.nodup_range).mpr fun k => ?_
    rw [List.mem_range, List.mem_map]
    constructor
    · rintro ⟨⟨j, k'⟩, hp, rfl⟩
      have := (List.getElem?_eq_some_iff.mp (hlive.1 hp).2).1
      rw [hlen, Array.length_toList] at this
      exact this
    · intro hk
      have hkl : k < js.length := by
        rw [hlen, Array.length_toList]
        exact hk
      exact ⟨(js[k], k), hlive.2 ⟨hin (List.getElem_mem hkl), List.getElem?_eq_getElem hkl⟩, rfl⟩
  · show ((liveOf M ow).map (·.1)).length = (((liveOf M ow).map (·.2)).map fun i => hs.getD i 0).length
    simp
  · show Trl M ((liveOf M ow).map (·.1)) q
    have hq' : q ∈ ((liveOf M ow).map (·.1)).zip (((liveOf M ow).map (·.2)).map fun i => hs.getD i 0) := hq
    rw [List.map_map, List.zip_map', List.mem_map] at hq'
    obtain ⟨⟨j, k⟩, hp, rfl⟩ := hq'
    obtain ⟨a, b⟩ := hlive.1 hp
    have hkl : k < hs.toList.length := by
      rw [← hlen]
      exact (List.getElem?_eq_some_iff.mp b).1
    have eh : hs.getD k 0 = hs.toList[k] := by
      rw [Array.getD_eq_getD_getElem?, ← Array.getElem?_toList, List.getElem?_eq_getElem hkl]
      rfl
    show Trl M ((liveOf M ow).map (·.1)) (j, hs.getD k 0)
    rw [eh]
    refine (W.rd (j, hs.toList[k]) (List.mem_of_getElem? (i := k) (by rw [List.getElem?_zip_eq_some]; exact ⟨b, List.getElem?_eq_getElem hkl⟩))).more fun x hx => ?_
    obtain ⟨k2, hk2⟩ := List.mem_iff_getElem?.mp hx
    exact List.mem_map.mpr ⟨(x, k2), hlive.2 ⟨hin hx, hk2⟩, rfl⟩
/-! ### the sizes -/
theorem above_go (n : Nat) : ∀ (f size k : Nat), size = 2 ^ k → 3 ≤ k → n < size * 2 ^ f → (size = 8 ∨ size ≤ 2 * n) →
    ∃ k', 3 ≤ k' ∧ SetTable.sizeAbove.go n f size = 2 ^ k' ∧ n < SetTable.sizeAbove.go n f size ∧ (SetTable.sizeAbove.go n f size = 8 ∨ SetTable.sizeAbove.go n f size ≤ 2 * n)
  | 0, size, k, e, hk, hn, hb => ⟨k, hk, e, by rw [Nat.pow_zero, Nat.mul_one] at hn; exact hn, hb⟩
  | f + 1, size, k, e, hk, hn, hb => by
    show ∃ k', 3 ≤ k' ∧ (if size ≤ n then SetTable.sizeAbove.go n f (size * 2) else size) = 2 ^ k' ∧ n < (if size ≤ n then SetTable.sizeAbove.go n f (size * 2) else size) ∧ ((if size ≤ n then SetTable.sizeAbove.go n f (size * 2) else size) = 8 ∨ (if size ≤ n then SetTable.sizeAbove.go n f (size * 2) else size) ≤ 2 * n)
    by_cases c : size ≤ n
    · rw [if_pos c]
      exact above_go n f (size * 2) (k + 1) (by rw [e, Nat.pow_succ]) (by omega) (by rw [Nat.mul_assoc, ← Nat.pow_succ']; exact hn) (.inr (by omega))
    · rw [if_neg c]
      exact ⟨k, hk, e, by omega, hb⟩
theorem above {n : Nat} (h1 : 4 ≤ n) (h2 : n ≤ 1000000) : Pw (SetTable.sizeAbove n - 1) ∧ n < SetTable.sizeAbove n ∧ SetTable.sizeAbove n ≤ 2 * n := by
  obtain ⟨k, hk, e, hn, hb⟩ := above_go n 64 8 3 (by decide) (Nat.le_refl _) (by omega) (.inl rfl)
  have hn' : n < SetTable.sizeAbove n := hn
  refine ⟨⟨k, ?_, hk⟩, hn', ?_⟩
  · have e' : SetTable.sizeAbove n = 2 ^ k := e
    omega
  · have hb' : SetTable.sizeAbove n = 8 ∨ SetTable.sizeAbove n ≤ 2 * n := hb
    omega
end Nw
/-! Sets of up to a thousand tuples of ints. -/
namespace Nw
open PySem PySem.Spec PyProof.Rows L2

/-- where the way of a hash begins -/
def st0 (m : Nat) (h : Int) : SetTable.Probe := runAt m (SetTable.bits h % (m + 1)) (SetTable.bits h)
theorem nth_clean (m : Nat) : ∀ (n : Nat) (p : SetTable.Probe), p.dummy = none → (nth m p n).dummy = none
  | 0, _, h => h
  | n + 1, p, h => nth_clean m n (adv m p) (by
    unfold adv
    split
    · exact h
    · exact h)
/-- what a search is told that goes on from the c-th step -/
theorem Laid.probe {t : SetTable} {hs : List Int} (T : Laid t hs) {h : Int} {K : Nat} (hKf : K < 10 * SetTable.turns t.mask) (hK : way t.mask h K ∉ t.place.toList) (hKb : ∀ c, c < K → way t.mask h c ∈ t.place.toList)
    {c : Nat} (hc : c ≤ K) (hashAt : Nat → Int) (hat : ∀ (i : Nat) g, hs[i]? = some g → hashAt i = g) :
    (∃ q i : Nat, c ≤ q ∧ q < K ∧ t.place.toList[i]? = some (way t.mask h q) ∧ hs[i]? = some h ∧ (∀ q' i' : Nat, c ≤ q' → q' < q → t.place.toList[i']? = some (way t.mask h q') → hs[i']? ≠ some h) ∧
      t.probe hashAt h (nth t.mask (st0 t.mask h) c) = some (.candidate (way t.mask h q) i (nth t.mask (st0 t.mask h) (q + 1)))) ∨
    ((∀ q' i' : Nat, c ≤ q' → q' < K → t.place.toList[i']? = some (way t.mask h q') → hs[i']? ≠ some h) ∧ t.probe hashAt h (nth t.mask (st0 t.mask h) c) = some (.empty (way t.mask h K) none)) := by
  have sh : ∀ d, nth t.mask (nth t.mask (st0 t.mask h) c) d = nth t.mask (st0 t.mask h) (c + d) := fun d => (nth_add t.mask c _ d).symm
  have sj : ∀ d, (nth t.mask (nth t.mask (st0 t.mask h) c) d).j = way t.mask h (c + d) := fun d => congrArg SetTable.Probe.j (sh d)
  have eK : c + (K - c) = K := by omega
  have hash_of : ∀ {i j : Nat}, t.place.toList[i]? = some j → ∃ g, hs[i]? = some g ∧ hashAt i = g := fun {i j} hi => by
    have hl : i < hs.length := by
      rw [← T.len]
      exact (List.getElem?_eq_some_iff.mp hi).1
    exact ⟨hs[i], List.getElem?_eq_getElem hl, hat _ _ (List.getElem?_eq_getElem hl)⟩
  rcases go_spec t T.ris T.dm hashAt h (10 * SetTable.turns t.mask) (K - c) (nth t.mask (st0 t.mask h) c) (nth_clean _ _ _ rfl) (by omega)
    (fun d hd => by rw [sj]; exact hKb _ (by omega)) (by rw [sj, eK]; exact hK) with ⟨d, i, hd, hi, hh, hno, e⟩ | ⟨hno, e⟩
  · rw [sj] at hi
    refine .inl ⟨c + d, i, by omega, by omega, hi, ?_, fun q' i' h1 h2 h3 h4 => ?_, ?_⟩
    · obtain ⟨g, g1, g2⟩ := hash_of hi
      rw [g1, ← g2, hh]
    · exact hno (q' - c) i' (by omega) (by rw [sj, show c + (q' - c) = q' by omega]; exact h3) (hat _ _ h4)
    · rw [sj, sh] at e
      exact e
  · refine .inr ⟨fun q' i' h1 h2 h3 h4 => ?_, ?_⟩
    · exact hno (q' - c) i' (by omega) (by rw [sj, show c + (q' - c) = q' by omega]; exact h3) (hat _ _ h4)
    · rw [sj, eK] at e
      exact e

/-- the set at a holds the tuples L -/
structure TupSet (P : Program) (w : World) (h : Heap) (a : Addr) (L : List (Addr × List Int)) (es : Array (Int × Value)) (ep : Nat) (t : SetTable) : Prop where
  ob : ∃ o, h.get? a = some o ∧ o.ExactSet ∧ o.data = .set es ep t
  rows : es.toList = rowsOf P w L
  tab : Laid t (L.map fun p => thash P w p.2)
  nd : (L.map (·.2)).Nodup
  tup : ∀ p ∈ L, IsT P w h p.2 p.1
  plain : t.plain = true
  led : w.params.followText "set-order" = true ∨ t.led = true
  room : L.length * 5 < t.mask * 3
  big : t.mask ≤ 8191
theorem rows_len {P : Program} {w : World} {L : List (Addr × List Int)} {es : Array (Int × Value)} (h : es.toList = rowsOf P w L) : es.size = L.length := by
  rw [← Array.length_toList, h]
  exact List.length_map _
section
variable {P : Program} {w : World} {A : Around} {E : Value → Shared → Prop} {s : Shared} {a : Addr} {L : List (Addr × List Int)} {es : Array (Int × Value)} {ep : Nat} {t : SetTable}
theorem fits_of {hs : List Int} (T : Laid t hs) (hn : es.size = hs.length) (hl : hs.length ≤ t.mask) : t.fits es.size = true := by
  have h := T.len
  rw [Array.length_toList] at h
  unfold SetTable.fits SetTable.fill
  rw [T.dm, Bool.and_eq_true, beq_iff_eq, decide_eq_true_eq]
  show t.place.size = es.size ∧ t.place.size + 0 ≤ t.mask
  omega
theorem TupSet.fits (R : TupSet P w s.heap a L es ep t) : t.fits es.size = true := by
  have h := R.room
  exact fits_of R.tab (by rw [rows_len R.rows, List.length_map]) (by rw [List.length_map]; omega)
theorem TupSet.entry (R : TupSet P w s.heap a L es ep t) {i : Nat} {p : Addr × List Int} (h : L[i]? = some p) : es[i]? = some (thash P w p.2, Value.ref p.1) := by
  rw [← Array.getElem?_toList, R.rows]
  unfold rowsOf
  rw [List.getElem?_map, h]
  rfl
theorem TupSet.whole (R : TupSet P w s.heap a L es ep t) : ¬ t.gaveWay = true := by
  unfold SetTable.gaveWay
  rw [R.tab.pw.odd]
  decide
/-- the search for a tuple, from the c-th step on: no equal one was passed -/
theorem TupSet.search (R : TupSet P w s.heap a L es ep t) {x : Addr} {k : List Int} (hx : IsT P w s.heap k x) (hu : A.units < cLine) {K : Nat} (hKf : K < 10 * SetTable.turns t.mask)
    (hK : way t.mask (thash P w k) K ∉ t.place.toList) (hKb : ∀ c, c < K → way t.mask (thash P w k) c ∈ t.place.toList) {Q : SetFound → Shared → Prop}
    (hin : k ∈ L.map (·.2) → Q (.there none) s) (hout : k ∉ L.map (·.2) → Q (.free (way t.mask (thash P w k) K) false) s) :
    ∀ (f c : Nat) (stand : Option SetTable.Probe), stand.getD (t.probeStart (thash P w k)) = nth t.mask (st0 t.mask (thash P w k)) c → c ≤ K → K - c < f →
      (∀ (q i : Nat) p, q < c → t.place.toList[i]? = some (way t.mask (thash P w k) q) → L[i]? = some p → p.2 ≠ k) →
      wpAny (model P w) A (setSearchFrom a (.ref x) (thash P w k) true f stand) Q E s := by
  obtain ⟨o, ho, hex, hd⟩ := R.ob
  intro f
  induction f with
  | zero =>
    intro c stand _ _ hf
    exact absurd hf (Nat.not_lt_zero _)
  | succ f ih =>
    intro c stand hst hc hf hpast
    have hat : ∀ (i : Nat) g, (L.map fun p => thash P w p.2)[i]? = some g → (fun i => (es[i]?.map (·.1)).getD 0) i = g := fun i g hg => by
      rw [List.getElem?_map] at hg
      obtain ⟨p, hp, e⟩ := Option.map_eq_some_iff.mp hg
      show (es[i]?.map (·.1)).getD 0 = g
      rw [R.entry hp, ← e]
      rfl
    have row_of : ∀ {i j : Nat}, t.place.toList[i]? = some j → ∃ p, L[i]? = some p := fun {i j} hi => by
      have hl : i < L.length := by
        have h1 := (List.getElem?_eq_some_iff.mp hi).1
        have h2 := R.tab.len
        rw [List.length_map] at h2
        omega
      exact ⟨_, List.getElem?_eq_getElem hl⟩
    rw [setSearchFrom_succ]
    refine wpAny_bind (wpAny_setState_of ho hd R.fits ?_)
    dsimp only
    refine wp_if_neg R.whole ?_
    try refine wpAny_bind (wpAny_pure ?_)
    rw [hst]
    rcases R.tab.probe hKf hK hKb hc _ hat with ⟨q, i, c1, c2, hi, hh, hno, e⟩ | ⟨hno, e⟩
    · rw [e]
      dsimp only
      obtain ⟨p, hp⟩ := row_of hi
      have hmem := List.mem_of_getElem? hp
      have sl : t.slot (way t.mask (thash P w k) q) = .live i := slot_live R.tab.ris hi
      have rest : wpAny (model P w) A (searchRest a (.ref x) (thash P w k) true f es t (way t.mask (thash P w k) q) i (nth t.mask (st0 t.mask (thash P w k)) (q + 1))) Q E s := by
        unfold searchRest
        rw [R.entry hp]
        dsimp only
        refine wpAny_bind (wpAny_holding (wpAny_eqBool_tuple hu (R.tup p hmem) hx ?_))
        refine wpAny_bind (wpAny_setState_of ho hd R.fits ?_)
        dsimp only
        by_cases same : p.2 = k
        · exact wp_if_pos (by simp [same]) (wpAny_pure (hin (List.mem_map.mpr ⟨p, hmem, same⟩)))
        · refine wp_if_neg (by simp [same]) ?_
          try refine wpAny_bind (wpAny_pure ?_)
          rw [sameMem]
          dsimp only
          simp only [if_true, sl, R.entry hp]
          refine wpAny_bind (wpAny_isSame_ref_self (wpAny_bind (wpAny_pure ?_)))
          simp only [if_true]
          refine wp_if_neg (by simp [same]) (ih (q + 1) _ rfl (by omega) (by omega) fun q' i' p' h1 h2 h3 => ?_)
          rcases Nat.lt_or_ge q' c with y | y
          · exact hpast q' i' p' y h2 h3
          · rcases Nat.lt_or_ge q' q with z | z
            · refine fun e2 => hno q' i' y z h2 ?_
              rw [List.getElem?_map, h3, ← e2]
              rfl
            · have eq : q' = q := by omega
              rw [eq] at h2
              have sl2 := slot_live R.tab.ris h2
              rw [sl] at sl2
              injection sl2 with sl2
              rw [← sl2, hp] at h3
              rw [← Option.some.inj h3]
              exact same
      by_cases hl : t.led = true
      · refine wp_if_neg (by simp [hl]) ?_
        try refine wpAny_bind (wpAny_pure ?_)
        exact rest
      · refine wp_if_pos (by simp [hl]) ?_
        refine wpAny_bind (seen_tup hx (fun y hy => ?_) ?_)
        · obtain ⟨e, he, ee⟩ := List.mem_map.mp hy
          have he1 : e ∈ es.toList := by
            have z : e ∈ es ∧ e.1 = thash P w k := by simpa using he
            simpa using z.1
          rw [R.rows] at he1
          obtain ⟨p2, hp2, e2⟩ := List.mem_map.mp he1
          exact ⟨p2.2, p2.1, by rw [← ee, ← e2], R.tup p2 hp2⟩
        · refine wp_if_neg (by decide) ?_
          try refine wpAny_bind (wpAny_pure ?_)
          exact rest
    · rw [e]
      dsimp only
      refine wpAny_pure (hout fun hm => ?_)
      obtain ⟨p, hp, e2⟩ := List.mem_map.mp hm
      obtain ⟨i, hi⟩ := List.mem_iff_getElem?.mp hp
      have hil : i < t.place.toList.length := by
        have h1 := (List.getElem?_eq_some_iff.mp hi).1
        have h2 := R.tab.len
        rw [List.length_map] at h2
        omega
      have hh : (L.map fun p => thash P w p.2)[i]? = some (thash P w k) := by
        rw [List.getElem?_map, hi, ← e2]
        rfl
      obtain ⟨q, q1, q2⟩ := R.tab.ahead hK hh (List.getElem?_eq_getElem hil)
      have q3 : t.place.toList[i]? = some (way t.mask (thash P w k) q) := by rw [q2]; exact List.getElem?_eq_getElem hil
      rcases Nat.lt_or_ge q c with y | y
      · exact hpast q i p y q3 hi e2
      · exact hno q i y q1 q3 hh
/-- the search as adding asks for it -/
theorem TupSet.find (R : TupSet P w s.heap a L es ep t) {x : Addr} {k : List Int} (hx : IsT P w s.heap k x) (hu : A.units < cLine) {Q : SetFound → Shared → Prop} (hin : k ∈ L.map (·.2) → Q (.there none) s)
    (hout : ∀ K, k ∉ L.map (·.2) → way t.mask (thash P w k) K ∉ t.place.toList → (∀ c, c < K → way t.mask (thash P w k) c ∈ t.place.toList) → Q (.free (way t.mask (thash P w k) K) false) s) :
    wpAny (model P w) A (setSearch a (.ref x) (thash P w k) true) Q E s := by
  have h1 := R.room
  have h2 := R.big
  obtain ⟨K, hKf, hK, hKb⟩ := R.tab.first (by rw [List.length_map]; omega) (thash P w k)
  have hf : 10 * SetTable.turns t.mask ≤ 100000 := by
    unfold SetTable.turns
    omega
  exact R.search hx hu hKf hK hKb hin (fun no => hout K no hK hKb) 100000 0 none rfl (Nat.zero_le _) (by omega) fun q i p hq => absurd hq (Nat.not_lt_zero _)
/-- the table is laid anew -/
theorem relay_tups {o : Obj} (ho : s.heap.get? a = some o) (hex : o.ExactSet) (hd : o.data = .set es ep t) (rows : es.toList = rowsOf P w L) (T : Laid t (L.map fun p => thash P w p.2)) (hfl : L.length ≤ t.mask)
    (nd : (L.map (·.2)).Nodup) (tup : ∀ p ∈ L, IsT P w s.heap p.2 p.1) (pl : t.plain = true) (ld : w.params.followText "set-order" = true ∨ t.led = true) (h1 : 1 ≤ L.length) (hN : L.length ≤ 1000) {Q : Unit → Shared → Prop}
    (hQ : ∀ h' L' es' ep' t', Heap.SameBut a s.heap h' → TupSet P w h' a L' es' ep' t' → L'.Perm L → Q () { s with heap := h' }) : wpAny (model P w) A (setRelay a (SetTable.grown L.length)) Q E s := by
  have eg : SetTable.grown L.length = L.length * 4 := if_neg (by omega)
  rw [eg]
  obtain ⟨a1, a2, a3⟩ := above (n := L.length * 4) (by omega) (by omega)
  have hes := rows_len rows
  obtain ⟨t', order, e, hp, T', em, el, epl⟩ := relaid_laid t (hs := es.map (·.1)) (wanted := L.length * 4) rfl a1 (by rw [Array.size_map, hes]; omega)
  rw [Array.size_map, hes] at hp
  obtain ⟨L2, r1, r2, r3⟩ := order_rows L es order rows hp
  rw [← r3] at T'
  have hs2 := rows_len r1
  have hl2 := r2.length_eq
  rw [setRelay_eq]
  refine wpAny_bind (wpAny_setState_of ho hd (fits_of T (by rw [hes, List.length_map]) (by rw [List.length_map]; exact hfl)) ?_)
  dsimp only
  refine wp_if_neg (by rw [sizeLine_eq]; omega) ?_
  try refine wpAny_bind (wpAny_pure ?_)
  rw [e]
  dsimp only
  refine wpAny_bind (wp_if_neg (by rw [hs2, hl2, hes]; simp) ?_)
  try refine wpAny_bind (wpAny_pure ?_)
  refine wpAny_pure ?_
  dsimp only
  refine wpAny_storeSet_of ho hd ?_ (by rw [hs2, hl2, sizeLine_eq]; omega)
  have sb : Heap.SameBut a s.heap (s.heap.update a (Obj.putSet (order.filterMap (es[·]?)) t')) := Heap.SameBut.update ..
  exact hQ _ L2 _ (ep + 1) t' sb
    ⟨⟨_, store_at ho hd, ⟨hex.1, hex.2.1, hex.2.2⟩, rfl⟩, r1, T', (r2.map (·.2)).nodup_iff.mpr nd, fun p hp => isT_same (tup p (r2.mem_iff.mp hp)) ho hd sb, epl.trans pl, by rw [el]; exact ld, by rw [hl2, em]; omega, by rw [em]; omega⟩ r2
/-- one tuple is added -/
theorem TupSet.add (R : TupSet P w s.heap a L es ep t) {x : Addr} {k : List Int} (hx : IsT P w s.heap k x) (hu : A.units < cLine) (hN : L.length + 1 ≤ 1000) {Q : Bool → Shared → Prop}
    (hQ : ∀ b h' L' es' ep' t', Heap.SameBut a s.heap h' → TupSet P w h' a L' es' ep' t' → (k ∈ L.map (·.2) ∧ L' = L ∨ k ∉ L.map (·.2) ∧ L'.Perm ((x, k) :: L)) → Q b { s with heap := h' }) :
    wpAny (model P w) A (setAddHashed a (.ref x) (thash P w k)) Q E s := by
  obtain ⟨o, ho, hex, hd⟩ := R.ob
  have hsl := rows_len R.rows
  have hroom := R.room
  unfold setAddHashed
  refine wpAny_holding ?_
  rw [show (100000 : Nat) = 99999 + 1 from rfl, setAddHashedIn_succ]
  refine wpAny_bind (wpAny_setState_of ho hd R.fits ?_)
  dsimp only
  refine wp_if_neg (by simp [byScan, Value.scannable]) ?_
  try refine wpAny_bind (wpAny_pure ?_)
  refine wpAny_bind (R.find hx hu (fun hm => ?_) fun K hm hK hb => ?_)
  · dsimp only
    exact wpAny_pure (hQ false s.heap L es ep t (Heap.SameBut.refl a s.heap) R (.inl ⟨hm, rfl⟩))
  · dsimp only
    refine wpAny_bind (wpAny_setState_of ho hd R.fits ?_)
    dsimp only
    generalize ej : way t.mask (thash P w k) K = j at hK
    obtain ⟨T1, hfill⟩ := R.tab.put (by rw [ej]; exact hK) hb ej rfl
    have e2 : (t.put j).2 = SetTable.below t.place j := rfl
    have em : (t.put j).1.mask = t.mask := rfl
    have el : (t.put j).1.led = t.led := rfl
    have epl : (t.put j).1.plain = true := R.plain
    generalize t.put j = pt at T1 hfill e2 em el epl ⊢
    obtain ⟨t1, p⟩ := pt
    dsimp only at T1 hfill e2 em el epl ⊢
    subst e2
    generalize SetTable.below t.place j = p at T1 ⊢
    first
      | (refine wpAny_bind ?_; refine wp_if_pos epl ?_; refine hashBy_tup hx ?_)
      | refine wp_if_pos epl (wpAny_bind (hashBy_tup hx ?_))
    simp only [if_true]
    have r1 : (SetTable.insertAt es p (thash P w k, Value.ref x)).toList = rowsOf P w (L.take p ++ (x, k) :: L.drop p) := by
      rw [SetTable.toList_insertAt, rows_put, R.rows]
    have pm := put_perm L p (x, k)
    have T2 : Laid t1 ((L.take p ++ (x, k) :: L.drop p).map fun p => thash P w p.2) := by
      rw [List.map_append, List.map_cons, List.map_take, List.map_drop]
      exact T1
    generalize SetTable.insertAt es p (thash P w k, Value.ref x) = es1 at r1 ⊢
    generalize L.take p ++ (x, k) :: L.drop p = L1 at pm T2 r1
    have hl1 : L1.length = L.length + 1 := pm.length_eq
    have hes1 := rows_len r1
    refine wpAny_bind (wpAny_storeSet_of ho hd ?_ (by rw [hes1, hl1, sizeLine_eq]; omega))
    have sb : Heap.SameBut a s.heap (s.heap.update a (Obj.putSet es1 t1)) := Heap.SameBut.update ..
    have ho1 := store_at (es' := es1) (t' := t1) ho hd
    generalize s.heap.update a (Obj.putSet es1 t1) = h1 at sb ho1 ⊢
    have nd1 : (L1.map (·.2)).Nodup := by
      refine (pm.map (·.2)).nodup_iff.mpr ?_
      rw [List.map_cons]
      exact List.nodup_cons.mpr ⟨hm, R.nd⟩
    have tup1 : ∀ p ∈ L1, IsT P w h1 p.2 p.1 := fun p hp => by
      rcases List.mem_cons.mp (pm.mem_iff.mp hp) with e | hp
      · rw [e]
        exact isT_same hx ho hd sb
      · exact isT_same (R.tup p hp) ho hd sb
    have ld1 : w.params.followText "set-order" = true ∨ t1.led = true := by
      rw [el]
      exact R.led
    rw [List.length_map] at hfill
    by_cases hf : t1.tooFull = true
    · first
        | (refine wpAny_bind ?_; refine wp_if_pos (by simp [hf]) ?_)
        | (refine wp_if_pos (by simp [hf]) ?_; refine wpAny_bind ?_)
      rw [hsl, ← hl1]
      exact relay_tups (s := { s with heap := h1 }) ho1 ⟨hex.1, hex.2.1, hex.2.2⟩ rfl r1 T2 (by rw [hl1, em]; omega) nd1 tup1 epl ld1 (by omega) (by omega) fun h2 L2 es2 ep2 t2 sb2 R2 pm2 =>
        wpAny_pure (hQ true h2 L2 es2 ep2 t2 (sb.trans sb2) R2 (.inr ⟨hm, pm2.trans pm⟩))
    · first
        | refine wp_if_neg (by simp [hf]) ?_
        | (refine wpAny_bind ?_; refine wp_if_neg (by simp [hf]) ?_; refine wpAny_pure ?_)
      have hroom1 : L1.length * 5 < t1.mask * 3 := by
        unfold SetTable.tooFull at hf
        rw [decide_eq_true_eq, hfill] at hf
        omega
      exact wpAny_pure (hQ true h1 L1 es1 (ep + 1) t1 sb ⟨⟨_, ho1, ⟨hex.1, hex.2.1, hex.2.2⟩, rfl⟩, r1, T2, nd1, tup1, epl, ld1, hroom1, by rw [em]; exact R.big⟩ (.inr ⟨hm, pm⟩))
end
end Nw
/-! set(xs), xs a list of up to a thousand tuples of ints, some perhaps the same. -/
namespace Nw
open PySem PySem.Spec PyProof.Rows L2
/-- the set at S has got the first i of the tuples ks; all that was there is there -/
def Stage (P : Program) (w : World) (h0 : Heap) (S : Addr) (ks : List (Addr × List Int)) (i : Nat) (h : Heap) : Prop :=
  (∀ b o, h0.get? b = some o → h.get? b = some o) ∧ ∃ L es ep t, TupSet P w h S L es ep t ∧ Got ks i L
section
variable {P : Program} {w : World} {A : Around} {E : Value → Shared → Prop} {s : Shared}
theorem Stage.carry {h0 h h' : Heap} {S : Addr} {ks : List (Addr × List Int)} {i : Nat} (g : Stage P w h0 S ks i h) (hk : ∀ p ∈ ks, IsT P w h0 p.2 p.1) (hS : ∀ o, h.get? S = some o → h'.get? S = some o) (h0' : ∀ b o, h0.get? b = some o → h'.get? b = some o) : Stage P w h0 S ks i h' := by
  obtain ⟨_, L, es, ep, t, R, got⟩ := g
  obtain ⟨o, ho, r⟩ := R.ob
  exact ⟨h0', L, es, ep, t, ⟨⟨o, hS o ho, r⟩, R.rows, R.tab, R.nd, fun p hp => isT_keep (hk p (List.mem_of_mem_take (got.sub p hp))) h0', R.plain, R.led, R.room, R.big⟩, got⟩
/-- the next tuple is added -/
theorem Stage.add {h0 : Heap} {S : Addr} {ks : List (Addr × List Int)} {i : Nat} (g : Stage P w h0 S ks i s.heap) (hS0 : h0.get? S = none) (hk : ∀ p ∈ ks, IsT P w h0 p.2 p.1) (hN : ks.length ≤ 1000) (hu : A.units < cLine)
    {p : Addr × List Int} (hp : ks[i]? = some p) {Q : Bool → Shared → Prop}
    (hQ : ∀ b h' tk, s.toks ≤ tk → Heap.SameBut S s.heap h' → Stage P w h0 S ks (i + 1) h' → Q b { s with heap := h', toks := tk }) : wpAny (model P w) A (setAdd S (.ref p.1)) Q E s := by
  obtain ⟨keep, L, es, ep, t, R, got⟩ := g
  have hx : IsT P w s.heap p.2 p.1 := isT_keep (hk p (List.mem_of_getElem? hp)) keep
  have hi := (List.getElem?_eq_some_iff.mp hp).1
  have hl := got.len
  unfold setAdd
  refine wpAny_holding (wpAny_bind (wpAny_pyHash_tuple hu hx ?_))
  refine TupSet.add (s := { s with toks := s.toks + (p.2.length + 1) }) R hx hu (by omega) fun b h' L' es' ep' t' sb R' c => hQ b h' _ (Nat.le_add_right _ _) sb ⟨fun b o e => (sb.2 b (fun z => by rw [z, hS0] at e; cases e)).trans (keep b o e), L', es', ep', t', R', ?_⟩
  rcases c with ⟨c1, c2⟩ | ⟨c1, c2⟩
  · rw [c2]
    exact got.same hp c1
  · exact got.more hp c2
/-- set.update's loop -/
theorem tups_loop {I : Addr} {fp wr : List Addr} {G : Array GenState → Array GenState → Prop} {n : Nat} {Pv : Nat → Value → Prop} {St : Nat → Shared → Prop} {R : Result → Shared → Prop}
    (W : WalksS P w A.in1 I fp wr G n Pv St) {S : Addr} (hSf : S ∉ fp) {ks : List (Addr × List Int)} (hn : n = ks.length) (hN : ks.length ≤ 1000) (hval : ∀ i v, Pv i v → ∃ p, ks[i]? = some p ∧ v = .ref p.1)
    {h0 : Heap} (hk : ∀ p ∈ ks, IsT P w h0 p.2 p.1) (hS0 : h0.get? S = none) (hw0 : ∀ b ∈ wr, h0.get? b = none) (hu : A.in1.units < cLine) :
    ∀ (r i : Nat) (s : Shared), i + r = n → St i s → Stage P w h0 S ks i s.heap → (∀ s', Moved (S :: wr) G s s' → Stage P w h0 S ks n s'.heap → R (.ok (.ret .none)) s') →
      codeAny (model P w) A (.builtin "set.update.loop" ⟨[.ref S, .ref I], []⟩) R s := by
  have hSw : S ∉ wr := fun h => hSf (W.sub _ h)
  have after : ∀ {i : Nat} {s s' : Shared}, Stage P w h0 S ks i s.heap → Moved wr G s s' → Stage P w h0 S ks i s'.heap := fun g m =>
    g.carry hk (fun o e => m.heap S o hSw e) fun b o e => m.heap b o (fun hb => by rw [hw0 b hb] at e; cases e) (g.1 b o e)
  intro r
  induction r with
  | zero =>
    intro i s hi hst g hR
    have e : i = n := hi
    subst e
    refine codeAny_builtin F.entry_set_update_loop ?_
    rw [Around.under_plainId F.plain_set_update_loop _]
    show wpAny _ A.in1 (pyNext (.ref I) >>= _) _ _ s
    refine wpAny_bind (W.done s _ _ hst fun s' hm => ?_)
    show wpAny _ A.in1 (ret Value.none) _ _ s'
    exact wpAny_pure (hR s' (hm.mono fun b hb => List.mem_cons_of_mem _ hb) (after g hm))
  | succ r ih =>
    intro i s hi hst g hR
    have hlt : i < n := by omega
    refine codeAny_builtin F.entry_set_update_loop ?_
    rw [Around.under_plainId F.plain_set_update_loop _]
    show wpAny _ A.in1 (pyNext (.ref I) >>= _) _ _ s
    refine wpAny_bind (W.item i s _ _ hlt hst fun v s' hP hst' hm => ?_)
    obtain ⟨p, hp, rfl⟩ := hval i v hP
    show wpAny _ A.in1 (holding [Value.ref p.1] (setAdd S (.ref p.1)) >>= _) _ _ s'
    refine wpAny_bind (wpAny_holding ((after g hm).add hS0 hk hN hu hp fun b h' tk htk sb g' => wpAny_pure ⟨plainId_quiet F.plain_set_update_loop _, ih (i + 1) _ (by omega) (W.frame _ s' _ _ hst' htk fun b hb o e => ?_) g' fun s'' hm'' g'' => hR s'' (Moved.trans W.gtrans ((hm.mono fun b hb => List.mem_cons_of_mem _ hb).then_heap htk fun b o hb e => ?_) hm'') g''⟩))
    · exact (sb.2 b (fun z : b = S => hSf (z ▸ hb))).trans e
    · exact (sb.2 b (fun z : b = S => hb (by rw [z]; exact List.mem_cons_self))).trans e
theorem tupSet_new {h : Heap} {a : Addr} (ho : h.get? a = some { cls := .type "set", dict := none, data := .set #[] 0 (.fresh 0 0 (!w.params.followText "set-order")) }) : TupSet P w h a [] #[] 0 (.fresh 0 0 (!w.params.followText "set-order")) where
  ob := ⟨_, ho, ⟨rfl, rfl, rfl⟩, rfl⟩
  rows := rfl
  tab := ⟨List.Pairwise.nil, rfl, rfl, ⟨3, rfl, Nat.le_refl _⟩, fun q hq => nomatch hq⟩
  nd := List.nodup_nil
  tup := fun p hp => nomatch hp
  plain := rfl
  led := by
    show _ ∨ (!w.params.followText "set-order") = true
    cases w.params.followText "set-order"
    · exact .inr rfl
    · exact .inl rfl
  room := (by decide : 0 * 5 < 7 * 3)
  big := (by decide : 7 ≤ 8191)
set_option maxRecDepth 100000 in
set_option maxHeartbeats 8000000 in
/-- set(xs) -/
theorem set_of_tups {l : Addr} {items : Array Value} (ks : List (Addr × List Int)) {Q : Value → Shared → Prop} (hh : A.handled = none) (hl : s.heap.IsList l items) (hit : items.toList = ks.map fun p => Value.ref p.1)
    (hk : ∀ p ∈ ks, IsT P w s.heap p.2 p.1) (hN : ks.length ≤ 1000) (hu : A.units + 3 < cLine)
    (h : ∀ (h' : Heap) (tk : Nat), Stage P w s.heap s.heap.objs.size ks ks.length h' → Q (.ref s.heap.objs.size) { s with heap := h', toks := tk }) :
    wpAny (model P w) A (call (.type "set") [.ref l]) Q E s := by
  have hisz : items.size = ks.length := by
    rw [← Array.length_toList, hit]
    exact List.length_map _
  have gone : ∀ b, s.heap.objs.size ≤ b → s.heap.get? b = none := fun b hb => by
    cases q : s.heap.get? b with
    | none => rfl
    | some o => exact absurd (Nat.lt_of_lt_of_le (Heap.lt_size q) hb) (Nat.lt_irrefl _)
  have hlS : l < s.heap.objs.size := by
    obtain ⟨ol, hol, _⟩ := hl
    exact Heap.lt_size hol
  obtain ⟨c, tl, hmro⟩ := F.called_set.mro
  have hmade := F.called_set.made
  have hsub := F.called_set.sub
  refine wpAny_call (codeAny_of_tree ?_)
  show wpAny _ _ (callAny (.type "set") _) _ _ _
  refine wpAny_pure ⟨Code.quiet_builtin _ (by decide +kernel), codeAny_builtin F.entry_type_call ?_⟩
  rw [Around.under_plain (weight_type_call_type "set" [.ref l] []) rfl]
  have h1 := F.called_set.notType
  have h2 := F.called_set.canCreate
  have hct := F.typeCall_set_1 (.ref l)
  repeat (any_goals (first | assumption | wp_step))
  refine codeAny_mono (code_set_led1 (.ref l) (E := E) (Q₁ := fun obj s₁ => obj = .ref s.heap.objs.size ∧ s₁ = { s with heap := s.heap.push ({ cls := .type "set", dict := none, data := .set #[] 0 (.fresh 0 0 (!w.params.followText "set-order")) } : Obj) }) ⟨rfl, rfl⟩) fun r s₁ hr => ?_
  cases r with
  | error e => exact hr
  | ok fl =>
    cases fl with
    | ret obj =>
      obtain ⟨rfl, rfl⟩ := hr
      have hS : (s.heap.push ({ cls := .type "set", dict := none, data := .set #[] 0 (.fresh 0 0 (!w.params.followText "set-order")) } : Obj)).get? s.heap.objs.size = some ({ cls := .type "set", dict := none, data := .set #[] 0 (.fresh 0 0 (!w.params.followText "set-order")) } : Obj) := Heap.get?_push_size _ rfl
      have hT : Shared.TypeIs { s with heap := s.heap.push ({ cls := .type "set", dict := none, data := .set #[] 0 (.fresh 0 0 (!w.params.followText "set-order")) } : Obj) } (.ref s.heap.objs.size) "set" := ⟨_, hS, rfl⟩
      have hli := F.called_set.init.lookup
      have hbi := F.called_set.init.bind (.ref s.heap.objs.size)
      repeat (any_goals (first | assumption | wp_step))
      refine codeAny_mono (codeAny_call_builtin (R := wants (fun r s₂ => r = .none ∧ ∃ h' tk, s₂ = { s with heap := h', toks := tk } ∧ Stage P w s.heap s.heap.objs.size ks ks.length h') E) F.called_set.init.plain F.entry_set_init (check_set_init_1 hT ?_)) fun r₂ s₂ hr₂ => ?_
      · obtain ⟨⟨ocls, odict, odata, oslots⟩, hol, hcl, nl, hdl⟩ := hl
        simp only at hcl hdl
        subst hcl
        subst hdl
        have hol' : (s.heap.push ({ cls := .type "set", dict := none, data := .set #[] 0 (.fresh 0 0 (!w.params.followText "set-order")) } : Obj)).get? l = some { cls := .type "list", dict := odict, data := .seq items nl, slots := oslots } := Heap.get?_push_of_some _ hol
        have hl1 : (s.heap.push ({ cls := .type "set", dict := none, data := .set #[] 0 (.fresh 0 0 (!w.params.followText "set-order")) } : Obj)).IsList l items := ⟨_, hol', rfl, nl, rfl⟩
        have hsls := F.sub_list_set
        have hslf := F.sub_list_frozenset
        have hne : (Value.type "list" == Value.type "dict") = false := by decide
        unfold Builtin.«set.__init__» noKeywords Builtin.Frozenset.updateFrom
        generalize hPI : pyIter = PI
        wp_walk
        subst hPI
        refine wpAny_pyIter_list hl1 ?_
        refine wpAny_bind (wpAny_runValue ?_)
        have hz1 : (s.heap.push ({ cls := .type "set", dict := none, data := .set #[] 0 (.fresh 0 0 (!w.params.followText "set-order")) } : Obj)).objs.size = s.heap.objs.size + 1 := Heap.size_push ..
        have hneI : l ≠ (s.heap.push ({ cls := .type "set", dict := none, data := .set #[] 0 (.fresh 0 0 (!w.params.followText "set-order")) } : Obj)).objs.size := by
          rw [hz1]
          exact Nat.ne_of_lt (Nat.lt_succ_of_lt hlS)
        have hSf : s.heap.objs.size ∉ [(s.heap.push ({ cls := .type "set", dict := none, data := .set #[] 0 (.fresh 0 0 (!w.params.followText "set-order")) } : Obj)).objs.size, l] := by
          rw [hz1]
          simp only [List.mem_cons, List.not_mem_nil, or_false, not_or]
          exact ⟨Nat.ne_of_lt (Nat.lt_succ_self _), Nat.ne_of_gt hlS⟩
        refine tups_loop ((Walks.list (show A.in1.in1.in1.handled = none by simp [hh]) _ l hneI items).toS) hSf hisz hN (fun i v hv => ?_) hk (gone _ (Nat.le_refl _)) (fun b hb => gone b (by
            rw [List.mem_singleton.mp hb, hz1]
            exact Nat.le_succ _)) hu items.size 0 _ (Nat.zero_add _)
          ⟨⟨_, Heap.get?_push_size _ rfl, rfl, rfl⟩, (hl1.push _)⟩ ?_ ?_
        · have q : items.toList[i]? = some v := by rw [Array.getElem?_toList]; exact hv
          rw [hit, List.getElem?_map] at q
          obtain ⟨p, hp, e⟩ := Option.map_eq_some_iff.mp q
          exact ⟨p, hp, e.symm⟩
        · exact ⟨fun b o e => Heap.get?_push_of_some _ (Heap.get?_push_of_some _ e), [], #[], 0, _, tupSet_new (Heap.get?_push_of_some _ hS), Got.zero ks⟩
        · intro s' hm g'
          obtain ⟨h', g2, d', tk', os'⟩ := s'
          have eg : g2 = s.gens := hm.gens
          have ed : d' = s.drawn := hm.drawn
          have eo : os' = s.os := hm.os
          subst eg
          subst ed
          subst eo
          show wpAny _ _ _ _ _ _
          refine wpAny_pure ?_
          show wpAny _ _ (ret Value.none) _ _ _
          rw [hisz] at g'
          exact wpAny_pure ⟨rfl, h', tk', rfl, g'⟩
      · cases r₂ with
        | error e => exact hr₂
        | ok fl₂ =>
          cases fl₂ with
          | ret r =>
            obtain ⟨rfl, h', tk, rfl, g'⟩ := hr₂
            repeat (any_goals (first | assumption | wp_step))
            exact h _ _ g'
          | _ => exact hr₂.elim
    | _ => exact hr.elim
end
end Nw
/-! The rules: set(xs) and sorted of it, xs a list of up to a thousand pairs. -/
namespace Nw
open PySem PySem.Spec PyProof.Rows L2
/-- the set at a, without the tuples themselves -/
structure SetW0 (P : Program) (w : World) (h : Heap) (a : Addr) (L : List (Addr × List Int)) : Prop where
  ex : ∃ (es : Array (Int × Value)) (ep : Nat) (t : SetTable), (∃ o, h.get? a = some o ∧ o.ExactSet ∧ o.data = .set es ep t) ∧ es.toList = rowsOf P w L ∧ Laid t (L.map fun p => thash P w p.2) ∧ (L.map (·.2)).Nodup ∧ t.plain = true ∧
    (w.params.followText "set-order" = true ∨ t.led = true) ∧ L.length * 5 < t.mask * 3 ∧ t.mask ≤ 8191 ∧ L.length ≤ 1000
def SetWO (P : Program) (w : World) (a : Addr) (L : List (Addr × List Int)) : HO := .ext fun h => SetW0 P w h a L
section
variable {P : Program} {w : World} {H : Hp} {h : Heap} {a : Addr} {L : List (Addr × List Int)} {es : Array (Int × Value)} {ep : Nat} {t : SetTable}
theorem TupSet.w0 (R : TupSet P w h a L es ep t) (hN : L.length ≤ 1000) : SetW0 P w h a L := ⟨es, ep, t, R.ob, R.rows, R.tab, R.nd, R.plain, R.led, R.room, R.big, hN⟩
theorem SetW0.full (R : SetW0 P w h a L) (ht : ∀ p ∈ L, IsT P w h p.2 p.1) : L.length ≤ 1000 ∧ ∃ es ep t, TupSet P w h a L es ep t := by
  obtain ⟨es, ep, t, h1, h2, h3, h4, h5, h6, h7, h8, h9⟩ := R.ex
  exact ⟨h9, es, ep, t, h1, h2, h3, h4, ht, h5, h6, h7, h8⟩
theorem setWO_new (R : SetW0 P w h a L) : ObjOk P w H h a (SetWO P w a L) := by
  have ⟨es, ep, t, ⟨o, ho, r⟩, q⟩ := R.ex
  refine ⟨R, ⟨o, ho⟩, fun h1 h2 p k => ?_⟩
  have ⟨es', ep', t', ⟨o', ho', r'⟩, q'⟩ := SetW0.ex p
  exact ⟨es', ep', t', ⟨o', k o' ho', r'⟩, q'⟩
end
def adrV : V → Addr
  | .ref a => a
  | _ => 0
/-- a pair as the tables know it -/
def rowV (H : Hp) (x : V) : Addr × List Int := (adrV x, [(keyOf H x).1, (keyOf H x).2])
/-- set(xs): the members are pairs of xs, one of each -/
def rSetW (K : PySem.W.Frag) (P : Program) (w : World) : List V → Hp → VK → Prop := fun us H Q => ∃ (l : Addr) (vs : List V) (ps : List (Int × Int)), us = [V.ref l] ∧ SqL K H l vs ∧ DaAll K H (ps.map dPair) vs ∧ ps.length ≤ 1000 ∧
  ∀ (a : Addr) (L : List (Addr × List Int)), H a = none → (∀ q ∈ L, ∃ p ∈ ps, q.2 = [p.1, p.2] ∧ H q.1 = some (.tup [.int p.1, .int p.2])) → (∀ p ∈ ps, [p.1, p.2] ∈ L.map (·.2)) → Q (.ref a) (upd H a (SetWO P w a L))
/-- sorted of such a set: ascending -/
def rSortedW (K : PySem.W.Frag) (P : Program) (w : World) : List V → Hp → VK → Prop := fun us H Q => ∃ (a : Addr) (L : List (Addr × List Int)), us = [V.ref a] ∧ H a = some (SetWO P w a L) ∧ (∀ q ∈ L, ∃ p : Int × Int, q.2 = [p.1, p.2] ∧ H q.1 = some (.tup [.int p.1, .int p.2])) ∧
  ∀ (L' : List (Addr × List Int)) (p : Addr), L'.Perm L → ascB ltPr (L'.map fun q => toP q.2) = true → H p = none → Q (.ref p) (upd H p (.lst (L'.map fun q => V.ref q.1)))
section
variable {X : Cx}
theorem cr_setW (hc : X.calm = true) (hu : X.A.units + 64 < cLine) : CallR X (.type "set") (rSetW X.K X.prog X.w) := by
  intro pins s σ H us rs Q I r h
  obtain ⟨l, vs, ps, rfl, hl, hA, hN, q⟩ := h
  rw [Vals.ref1 r]
  obtain ⟨its, rv, pl, hz⟩ := I.list hl
  obtain ⟨g1, g2⟩ := keys_of hA
  have e1 : vs = (vs.map (rowV H)).map fun p => V.ref p.1 := by
    rw [List.map_map]
    conv => lhs; rw [← List.map_id vs]
    refine List.map_congr_left fun x hx => ?_
    obtain ⟨t, e, _⟩ := g1 x hx
    rw [e]
    rfl
  have hlen : ps.length = vs.length := by rw [← g2, List.length_map]
  have hn : H s.heap.objs.size = none := I.hok.fresh (Nat.le_refl _)
  refine set_of_tups (P := X.prog) (w := X.w) (vs.map (rowV H)) (I.ok.hd hc) pl.isList ?_ (fun p hp => ?_) ?_ (by omega) fun h' tk g => ?_
  · rw [e1] at rv
    simpa using refs_of_vals rv
  · obtain ⟨x, hx, rfl⟩ := List.mem_map.mp hp
    obtain ⟨t, e, ht⟩ := g1 x hx
    rw [e] at ht ⊢
    exact I.isT (.inl (.inl ht))
  · rw [List.length_map, ← hlen]
    exact hN
  · obtain ⟨keep, L, es, ep, t, R, got⟩ := g
    have hl1 := got.len
    rw [List.length_map, ← hlen] at hl1
    refine ⟨.ref s.heap.objs.size, upd H s.heap.objs.size (SetWO X.prog X.w s.heap.objs.size L), I.laid (t' := tk) keep (Nat.le_refl _) (setWO_new (R.w0 (by omega))), rfl, q _ L hn (fun r hr => ?_) fun p hp => ?_⟩
    · obtain ⟨x, hx, e⟩ := List.mem_map.mp (List.mem_of_mem_take (got.sub r hr))
      obtain ⟨t, e2, ht⟩ := g1 x hx
      refine ⟨keyOf H x, by rw [← g2]; exact List.mem_map.mpr ⟨x, hx, rfl⟩, by rw [← e]; rfl, ?_⟩
      rw [← e]
      rw [e2] at ht ⊢
      exact ht
    · rw [← g2] at hp
      obtain ⟨x, hx, e⟩ := List.mem_map.mp hp
      rw [← e]
      exact got.all (rowV H x) (by rw [List.take_length]; exact List.mem_map.mpr ⟨x, hx, rfl⟩)
theorem cr_sortedW (hc : X.calm = true) : CallR X (.builtin "sorted") (rSortedW X.K X.prog X.w) := by
  intro pins s σ H us rs Q I r h
  obtain ⟨a, L, rfl, ha, hL, q⟩ := h
  rw [Vals.ref1 r]
  have isT : ∀ q ∈ L, IsT X.prog X.w s.heap q.2 q.1 := fun q hq => by
    obtain ⟨p, e, hp⟩ := hL q hq
    rw [e]
    exact I.isT (.inl (.inl hp))
  obtain ⟨hN, es, ep, t, R⟩ := SetW0.full (show SetW0 X.prog X.w s.heap a L from (I.hok a _ ha).1) isT
  have key : ∀ q ∈ L, rowV H (.ref q.1) = q := fun q hq => by
    obtain ⟨p, e, hp⟩ := hL q hq
    have ek := keyOf_at hp
    exact Prod.ext rfl (by show [(keyOf H (.ref q.1)).1, (keyOf H (.ref q.1)).2] = q.2; rw [ek, e])
  obtain ⟨o, ho, hex, hd⟩ := R.ob
  have hes := rows_len R.rows
  apply Calls.call_function_entry kind_sorted plain_sorted entry_sorted (args_sorted1 _)
  unfold Builtin.«sorted»
  refine wpAny_bind (m := checkCount "sorted" 1 1 _) (wpAny_pure ?_)
  refine wpAny_bind (collect_set (A := X.A.in1) (I.ok.hd hc) ⟨o, ho, hex.1, hd⟩ R.fits (by unfold scanBound; omega) R.tab.ris R.led fun s1 vs k1 hz g1 o1 pm => ?_)
  have ev : es.toList.map (·.2) = L.map fun q => Value.ref q.1 := by
    rw [R.rows]
    unfold rowsOf
    rw [List.map_map]
    rfl
  rw [ev] at pm
  have hvl : vs.length ≤ 1000 := by
    rw [pm.length_eq, List.length_map]
    exact hN
  refine wpAny_bind (wpAny_newList ?_ (by rw [sizeLine_eq]; omega))
  have hob : (s1.heap.push (seqObj "list" vs.toArray 0)).get? s1.heap.objs.size = some (seqObj "list" vs.toArray 0) := Heap.get?_push_size _ rfl
  have hp : ∀ v ∈ vs, Srt.IsPair (s1.heap.push (seqObj "list" vs.toArray 0)) v (keyOf H (backV v)).1 (keyOf H (backV v)).2 := fun v hv => by
    obtain ⟨q, hq, rfl⟩ := List.mem_map.mp (pm.mem_iff.mp hv)
    obtain ⟨p, e, hp⟩ := hL q hq
    have ek : keyOf H (backV (.ref q.1)) = p := keyOf_at hp
    rw [ek]
    obtain ⟨_, its2, r2, o2, ho2, hc2, n2, hd2⟩ := I.hok _ _ hp
    obtain ⟨u1, u2, rfl, ri, rj⟩ := vals2 r2
    obtain ⟨t1, rfl⟩ := ri
    obtain ⟨t2, rfl⟩ := rj
    exact ⟨q.1, o2, t1, t2, n2, rfl, Heap.get?_push_of_some _ (k1 _ _ ho2), hc2, hd2⟩
  refine wpAny_bind (wpAny_holding (wpAny_call_entry slot_list_sort ⟨_, hob, rfl⟩ entry_list_sort
    (SrtO.list_sort_ord (SrtO.swo_lex fun u => keyOf H (backV u)) hob (by rw [sizeLine_eq]; omega) (fun h2 => SrtO.pairs_sortableO (by omega) hp fun o e => ?_) fun out h1 h2 => ⟨_, rfl, ?_⟩) (args_list_sort _)))
  · have e' : some o = some (seqObj "list" vs.toArray 0) := e.symm.trans hob
    cases e'
    intro c
    exact absurd (Value.type.inj c) (by decide)
  · obtain ⟨c, hcell⟩ := sortedHeap_at (vs := vs) (out := out.toArray) hob
    have pout : (out.map fun u => rowV H (backV u)).Perm L := by
      have z := (h2.perm.trans pm).map fun u => rowV H (backV u)
      rw [List.map_map] at z
      have e : L.map ((fun u => rowV H (backV u)) ∘ fun q => Value.ref q.1) = L := by
        conv => rhs; rw [← List.map_id L]
        exact List.map_congr_left fun q hq => key q hq
      rw [e] at z
      exact z
    have href : ∀ u ∈ out, ∃ q ∈ L, u = Value.ref q.1 := fun u hu => by
      obtain ⟨q, hq, e⟩ := List.mem_map.mp (pm.mem_iff.mp (h2.perm.mem_iff.mp hu))
      exact ⟨q, hq, e.symm⟩
    have asc : ascB ltPr ((out.map fun u => rowV H (backV u)).map fun q => toP q.2) = true := by
      refine asc_pw ?_
      rw [List.map_map, List.pairwise_map]
      have nd : (out.map fun u => (rowV H (backV u)).2).Nodup := by
        have z := ((pout.map (·.2)).nodup_iff).mpr R.nd
        rw [List.map_map] at z
        exact z
      refine ((List.pairwise_map.mp nd).and h1).imp fun {u v} h => ?_
      obtain ⟨ne, le⟩ := h
      have le := SrtO.lexB_no.mp le
      refine ltPr_iff.mpr ?_
      show (keyOf H (backV u)).1 < (keyOf H (backV v)).1 ∨ ((keyOf H (backV u)).1 = (keyOf H (backV v)).1 ∧ (keyOf H (backV u)).2 < (keyOf H (backV v)).2)
      have ne' : ¬ ((keyOf H (backV u)).1 = (keyOf H (backV v)).1 ∧ (keyOf H (backV u)).2 = (keyOf H (backV v)).2) := fun ⟨x, y⟩ => ne (by
        show [(keyOf H (backV u)).1, (keyOf H (backV u)).2] = [(keyOf H (backV v)).1, (keyOf H (backV v)).2]
        rw [x, y])
      omega
    have eb : (out.map fun u => rowV H (backV u)).map (fun q => V.ref q.1) = out.map backV := by
      rw [List.map_map]
      refine List.map_congr_left fun u hu => ?_
      obtain ⟨q, hq, e⟩ := href u hu
      rw [e]
      rfl
    have keep : ∀ b u, s.heap.get? b = some u → (sortedHeap (s1.heap.push (seqObj "list" vs.toArray 0)) s1.heap.objs.size vs out.toArray).get? b = some u := fun b u e => by
      have e1 := k1 b u e
      have hlt := Heap.lt_size e1
      rw [sortedHeap_old (Nat.ne_of_lt hlt) (by rw [size_push']; exact Nat.lt_succ_of_lt hlt)]
      exact Heap.get?_push_of_some _ e1
    have hn : H s1.heap.objs.size = none := I.hok.fresh hz
    have hlen : ((out.map fun u => rowV H (backV u)).map fun q => V.ref q.1).length ≤ sizeLine := by
      rw [List.length_map, pout.length_eq, sizeLine_eq]
      omega
    have hv : Vals ((out.map fun u => rowV H (backV u)).map fun q => V.ref q.1) out := by
      rw [eb]
      exact vals_back fun u hu => by
        obtain ⟨q, _, e⟩ := href u hu
        exact ⟨_, e⟩
    exact wpAny_pure ⟨_, rfl, .ref _, upd H s1.heap.objs.size (.lst ((out.map fun u => rowV H (backV u)).map fun q => V.ref q.1)), I.call' (ch := []) o1 (Un.laid keep hz hn) (I.hok.laid keep hz ⟨hlen, out, c, hv, hcell⟩) (by rw [show _ = s.gens from g1]; exact I.bare) (fun _ z => nomatch z), rfl, q _ _ pout asc hn⟩
theorem cr_setWK (K : PySem.W.Frag) (P : Program) (w : World) (hc : X.calm = true) (hu : X.A.units + 64 < cLine) (hK : X.K = K := by rfl) (hP : X.prog = P := by rfl) (hw : X.w = w := by rfl) : CallR X (.type "set") (rSetW K P w) := by
  subst hK hP hw
  exact cr_setW hc hu
theorem cr_sortedWK (K : PySem.W.Frag) (P : Program) (w : World) (hc : X.calm = true) (hK : X.K = K := by rfl) (hP : X.prog = P := by rfl) (hw : X.w = w := by rfl) : CallR X (.builtin "sorted") (rSortedW K P w) := by
  subst hK hP hw
  exact cr_sortedW hc
end
/-- sorted(set(xs)) of pairs: the same pairs, ascending -/
theorem sorted_set_pairs {K : PySem.W.Frag} {P : Program} {w : World} {H : Hp} {ps : List (Int × Int)} {a : Addr} {L : List (Addr × List Int)} (ha : H a = none)
    (h1 : ∀ q ∈ L, ∃ p ∈ ps, q.2 = [p.1, p.2] ∧ H q.1 = some (.tup [.int p.1, .int p.2])) (h2 : ∀ p ∈ ps, [p.1, p.2] ∈ L.map (·.2)) :
    (∀ q ∈ L, ∃ p : Int × Int, q.2 = [p.1, p.2] ∧ upd H a (SetWO P w a L) q.1 = some (.tup [.int p.1, .int p.2])) ∧
    ∀ (L' : List (Addr × List Int)) (p : Addr) (o : HO), L'.Perm L → upd H a (SetWO P w a L) p = none → H p = none ∧ Ex H (upd (upd H a (SetWO P w a L)) p o) ∧
      DaAll K (upd (upd H a (SetWO P w a L)) p o) ((L'.map fun q => toP q.2).map dPair) (L'.map fun q => V.ref q.1) ∧ ∀ x, x ∈ (L'.map fun q => toP q.2) ↔ x ∈ ps := by
  have ex1 : Ex H (upd H a (SetWO P w a L)) := Ex.nw ha
  refine ⟨fun r hr => ?_, fun L' p o pm hp => ?_⟩
  · obtain ⟨z, _, e, ht⟩ := h1 r hr
    exact ⟨z, e, ex1 _ _ ht⟩
  · have ex2 : Ex H (upd (upd H a (SetWO P w a L)) p o) := ex1.tr (Ex.nw hp)
    have row : ∀ r ∈ L', ∃ z ∈ ps, r.2 = [z.1, z.2] ∧ H r.1 = some (.tup [.int z.1, .int z.2]) := fun r hr => h1 r (pm.mem_iff.mp hr)
    have key : ∀ M : List (Addr × List Int), (∀ r ∈ M, ∃ z ∈ ps, r.2 = [z.1, z.2] ∧ H r.1 = some (.tup [.int z.1, .int z.2])) → DaAll K (upd (upd H a (SetWO P w a L)) p o) ((M.map fun q => toP q.2).map dPair) (M.map fun q => V.ref q.1) := by
      intro M
      induction M with
      | nil => intro _; exact rfl
      | cons r M ih =>
        intro h
        obtain ⟨z, _, e, ht⟩ := h r List.mem_cons_self
        refine ⟨_, _, rfl, ?_, ih fun r' hr' => h r' (List.mem_cons_of_mem _ hr')⟩
        show Da K _ (dPair (toP r.2)) (.ref r.1)
        rw [e]
        exact dPair_of (p := z) (ex2 _ _ ht)
    refine ⟨?_, ex2, key L' row, fun x => ⟨fun hx => ?_, fun hx => ?_⟩⟩
    · cases e : H p with
      | none => rfl
      | some o' =>
        rw [ex1 _ _ e] at hp
        cases hp
    · obtain ⟨r, hr, rfl⟩ := List.mem_map.mp hx
      obtain ⟨z, hz, e, _⟩ := row r hr
      rw [e]
      exact hz
    · obtain ⟨r, hr, e⟩ := List.mem_map.mp (h2 x hx)
      refine List.mem_map.mpr ⟨r, pm.mem_iff.mpr hr, ?_⟩
      rw [e]
      rfl
end Nw
/-! set(xs) of a list of ints, its length, and sorted of it. -/
namespace Nw
open PySem PySem.Spec PyProof.Rows L2
abbrev bareSet (w : World) : Obj := ⟨.type "set", none, .set #[] 0 (.fresh 0 0 (!w.params.followText "set-order")), #[]⟩
section
variable {P : Program} {w : World} {A : Around} {E : Value → Shared → Prop} {s : Shared}
theorem set_of_ints {l : Addr} {xs : Array Value} (ks : List Int) {Q : Value → Shared → Prop} (ah : A.handled = none) (il : s.heap.IsList l xs) (ik : IntsAre xs.toList ks) (few : ks.length + 1 < scanBound)
    (q : ∀ (g : Heap) (k c : Nat), SetR w g s.heap.objs.size (fun j => decide (j ∈ ks)) c → (∀ b u, s.heap.get? b = some u → g.get? b = some u) → Q (.ref s.heap.objs.size) { s with heap := g, toks := k }) :
    wpAny (model P w) A (call (.type "set") [.ref l]) Q E s := by
  have sz : xs.size = ks.length := by have q := IntsAre.length ik; rwa [Array.length_toList] at q
  obtain ⟨c, tl, mro⟩ := PySem.F.called_set.mro
  have made := PySem.F.called_set.made; have sub := PySem.F.called_set.sub
  refine wpAny_call (codeAny_of_tree ?_); show wpAny _ _ (callAny (.type "set") _) _ _ _
  refine wpAny_pure ⟨Code.quiet_builtin _ (by decide +kernel), codeAny_builtin PySem.F.entry_type_call ?_⟩
  rw [Around.under_plain (weight_type_call_type "set" [.ref l] []) rfl]
  have t1 := PySem.F.called_set.notType; have t2 := PySem.F.called_set.canCreate; have t3 := PySem.F.typeCall_set_1 (.ref l)
  repeat (any_goals (first | assumption | wp_step))
  refine codeAny_mono (code_set_led1 (.ref l) (E := E) (Q₁ := fun ob z => ob = .ref s.heap.objs.size ∧ z = { s with heap := s.heap.push (bareSet w) }) ⟨rfl, rfl⟩) fun r z hr => ?_
  match r, hr with
  | .error _, hr => exact hr
  | .ok .next, hr => exact hr.elim
  | .ok .brk, hr => exact hr.elim
  | .ok .cont, hr => exact hr.elim
  | .ok (.ret ob), hr =>
    obtain ⟨rfl, rfl⟩ := hr
    have g0 : (s.heap.push (bareSet w)).get? s.heap.objs.size = some (bareSet w) := Heap.get?_push_size _ rfl
    have ty : Shared.TypeIs { s with heap := s.heap.push (bareSet w) } (.ref s.heap.objs.size) "set" := ⟨_, g0, rfl⟩
    have i1 := PySem.F.called_set.init.lookup; have i2 := PySem.F.called_set.init.bind (.ref s.heap.objs.size)
    repeat (any_goals (first | assumption | wp_step))
    refine codeAny_mono (codeAny_call_builtin (R := wants (fun r z => r = .none ∧ ∃ g k c, z = { s with heap := g, toks := k } ∧ SetR w g s.heap.objs.size (fun j => decide (j ∈ ks)) c ∧ (∀ b u, s.heap.get? b = some u → g.get? b = some u)) E)
      PySem.F.called_set.init.plain PySem.F.entry_set_init (check_set_init_1 ty ?_)) fun r z hr => ?_
    · obtain ⟨⟨oc, od, oe, osl⟩, ho, e1, n, e2⟩ := il
      simp only at e1 e2; subst e1; subst e2
      have lt : l < s.heap.objs.size := Heap.lt_size ho
      have h2 : (s.heap.push (bareSet w)).get? l = some ⟨.type "list", od, .seq xs n, osl⟩ := Heap.get?_push_of_some _ ho
      have sl := PySem.F.sub_list_set; have sf := PySem.F.sub_list_frozenset; have ne : (Value.type "list" == Value.type "dict") = false := by decide
      have il2 : (s.heap.push (bareSet w)).IsList l xs := ⟨_, h2, rfl, n, rfl⟩
      have s1 : (s.heap.push (bareSet w)).objs.size = s.heap.objs.size + 1 := Heap.size_push ..
      unfold Builtin.«set.__init__» noKeywords Builtin.Frozenset.updateFrom
      generalize hy : pyIter = Y
      wp_walk
      subst hy
      refine wpAny_pyIter_list il2 (wpAny_bind (wpAny_runValue ?_))
      have ah3 : A.in1.in1.in1.handled = none := by simp [ah]
      have nI : l ≠ (s.heap.push (bareSet w)).objs.size := fun z => absurd (z.trans s1) (Nat.ne_of_lt (Nat.lt_succ_of_lt lt))
      have nS : s.heap.objs.size ∉ [(s.heap.push (bareSet w)).objs.size, l] := fun z => by
        rw [s1] at z
        rcases List.mem_cons.mp z with z | z
        · exact absurd z (Nat.ne_of_lt (Nat.lt_succ_self _))
        · exact absurd (List.mem_singleton.mp z) (Nat.ne_of_gt lt)
      refine set_update_ints ((Walks.list ah3 _ l nI xs).toS) s.heap.objs.size nS ks sz few (fun i v hv => ?_) (xs.size - 0) 0 _ (by omega) (Nat.zero_le _) ⟨⟨_, Heap.get?_push_size _ rfl, rfl, rfl⟩, (il2.push _)⟩ ⟨0, Nat.le_refl 0, setR_new_at (Heap.get?_push_of_some _ g0)⟩ ?_
      · have hv' : xs[i]? = some v := hv
        have hi : i < ks.length := by rw [← sz]; exact (Array.getElem?_eq_some_iff.mp hv').1
        obtain ⟨t, e⟩ := IntsAre.int_at ik i v (by rw [Array.getElem?_toList]; exact hv')
        refine ⟨ks[i], t, List.getElem?_eq_getElem hi, ?_⟩
        rw [e, List.getD_eq_getElem?_getD, List.getElem?_eq_getElem hi]; rfl
      · intro z c hm _ hz
        obtain ⟨g, gs, dr, tk, os⟩ := z
        obtain rfl : gs = s.gens := hm.gens
        obtain rfl : dr = s.drawn := hm.drawn
        obtain rfl : os = s.os := hm.os
        show wpAny _ _ _ _ _ _
        refine wpAny_pure ?_; show wpAny _ _ (ret Value.none) _ _ _
        refine wpAny_pure ⟨rfl, g, tk, c, rfl, hz, fun b u e => ?_⟩
        have bl := Heap.lt_size e
        refine hm.heap b u ?_ (Heap.get?_push_of_some _ (Heap.get?_push_of_some _ e))
        intro z
        rcases List.mem_cons.mp z with z | z
        · exact absurd z (Nat.ne_of_lt bl)
        · exact absurd ((List.mem_singleton.mp z).trans s1) (Nat.ne_of_lt (Nat.lt_succ_of_lt bl))
    · match r, hr with
      | .error _, hr => exact hr
      | .ok .next, hr => exact hr.elim
      | .ok .brk, hr => exact hr.elim
      | .ok .cont, hr => exact hr.elim
      | .ok (.ret _), hr =>
        obtain ⟨rfl, g, k, c, rfl, hz, hk⟩ := hr
        repeat (any_goals (first | assumption | wp_step))
        exact q _ _ _ hz hk
end
/-- how many there are -/
def Cnt (S : Int → Bool) (n : Nat) : Prop := ∃ L : List Int, L.Nodup ∧ (∀ k, k ∈ L ↔ S k = true) ∧ L.length = n
theorem SetR.cnt {w : World} {h : Heap} {a : Addr} {S : Int → Bool} {n : Nat} (R : SetR w h a S n) : Cnt S n := by
  obtain ⟨o, es, ep, t, _, _, _, _, nd, hm, _, _, hn, _⟩ := R
  exact ⟨_, nd, fun k => (hm k).symm, by rw [List.length_map, Array.length_toList]; exact hn⟩
def rSetI (K : PySem.W.Frag) (w : World) : List V → Hp → VK → Prop := fun vs H Q => ∃ (l : Addr) (ks : List Int), vs = [.ref l] ∧ SqL K H l (ks.map V.int) ∧ ks.length ≤ 2000 ∧
  ∀ p n, H p = none → Cnt (fun j => decide (j ∈ ks)) n → Q (.ref p) (upd H p (SetO w p (fun j => decide (j ∈ ks)) n))
section
variable {X : Cx}
theorem cr_setI (hc : X.calm = true) : CallR X (.type "set") (rSetI X.K X.w) := by
  intro pins s σ H vs us Q I r h
  obtain ⟨l, ks, rfl, hl, hz, q⟩ := h
  rw [Vals.ref1 r]
  obtain ⟨its, rv, ⟨⟨cls, dd, data, sl⟩, n, e, hc0, _, hd⟩, _⟩ := I.list hl
  simp only at hc0 hd
  subst hc0; subst hd
  refine set_of_ints ks (I.ok.hd hc) ⟨_, e, rfl, n, rfl⟩ (by simpa using ints_of_vals rv) (by unfold scanBound; omega) fun g k c R hk => ?_
  have hn : H s.heap.objs.size = none := I.fresh
  have hno : s.heap.get? s.heap.objs.size = none := by
    cases e2 : s.heap.get? s.heap.objs.size with
    | none => rfl
    | some u => exact absurd (Heap.lt_size e2) (Nat.lt_irrefl _)
  exact ⟨.ref _, _, I.laidN (t' := k) hk hno hn (setO_new R), rfl, q _ _ hn (SetR.cnt R)⟩
end
end Nw
/-! Forcing, as numbers: what a source can force, what is left in the end, the rounds, the rows. -/
namespace Nw
open PySem PySem.Spec PyProof.Rows L2
def kindS (st : Bool) : Str := if st = true then "steady" else "still"
def aimB (u : Wb) (st : Bool) (s t : Int) : Bool := u.lines.contains (s, t) || (st && decide (s = t))
/-- the aims of a source -/
def aims (u : Wb) (st : Bool) (s : Int) : List Int := (iota u.n).filter (aimB u st s)
/-- a quantity that acts on itself, for the kind steady -/
def ownB (u : Wb) (st : Bool) (s : Int) : Bool := st && u.ps.contains (s, s)
/-- what a source can force while some are open -/
def fcd (u : Wb) (st : Bool) (l : List Int) (s : Int) : Option Int :=
  match (aims u st s).filter l.contains with
  | [x] => if ownB u st s = true ∧ x = s then none else some x
  | _ => none
abbrev srcN (u : Wb) : Nat := (u.n + (u.ns.length : Int)).toNat
theorem mem_rowOf {ls : List (Int × Int)} {s t : Int} : t ∈ rowOf ls s ↔ (s, t) ∈ ls := by
  unfold rowOf
  rw [List.mem_map]
  constructor
  · rintro ⟨⟨a, b⟩, h, rfl⟩
    obtain ⟨h1, h2⟩ := List.mem_filter.mp h
    obtain rfl : a = s := by simpa using h2
    exact h1
  · intro h
    exact ⟨(s, t), List.mem_filter.mpr ⟨h, by simp⟩, rfl⟩
theorem asc_rowOf {ls : List (Int × Int)} (h : ascB ltPr ls = true) (s : Int) : ascB ltIn (rowOf ls s) = true := by
  unfold rowOf
  refine asc_pw (List.pairwise_map.mpr ?_)
  refine ((pw_asc h).filter _).imp_of_mem fun {p q} hp hq hl => ?_
  have h1 := (List.mem_filter.mp hp).2
  have h2 := (List.mem_filter.mp hq).2
  have e1 : p.1 = s := by simpa using h1
  have e2 : q.1 = s := by simpa using h2
  have h3 := ltPr_iff.mp hl
  unfold ltIn
  rw [decide_eq_true_eq]
  omega
theorem mem_aims {u : Wb} {st : Bool} {s t : Int} : t ∈ aims u st s ↔ (0 ≤ t ∧ t < u.n) ∧ aimB u st s t = true := by
  unfold aims
  rw [List.mem_filter, mem_iota]
theorem asc_aims {u : Wb} {st : Bool} {s : Int} : ascB ltIn (aims u st s) = true := asc_filter (asc_iota _)
theorem nd_aims {u : Wb} {st : Bool} {s : Int} : (aims u st s).Nodup := nodup_ascI asc_aims
theorem aims_len {u : Wb} (hu : u.Ok) {st : Bool} {s : Int} : (aims u st s).length ≤ 20 := by
  have h := List.length_filter_le (aimB u st s) (iota u.n)
  rw [List.length_map, List.length_range] at h
  have := hu.hi
  unfold aims
  omega
/-- the rows as they stand are the aims of the kind still, and of a nudge -/
theorem aims_row {u : Wb} (hu : u.Ok) {st : Bool} {s : Int} (h : st = false ∨ u.n ≤ s ∨ s ∈ rowOf u.lines s) : rowOf u.lines s = aims u st s := by
  refine ascI_ext (asc_rowOf hu.lines_asc s) asc_aims fun t => ?_
  rw [mem_aims, mem_rowOf]
  unfold aimB
  rw [Bool.or_eq_true, List.contains_iff_mem, Bool.and_eq_true, decide_eq_true_eq]
  constructor
  · intro ht
    exact ⟨(hu.line _ ht).2, .inl ht⟩
  · rintro ⟨ht, h1 | ⟨h1, h2⟩⟩
    · exact h1
    · rcases h with h | h | h
      · rw [h] at h1
        cases h1
      · omega
      · rw [← h2]
        exact mem_rowOf.mp h
theorem aims_own {u : Wb} (hu : u.Ok) {s : Int} (hs : 0 ≤ s ∧ s < u.n) (h : s ∉ rowOf u.lines s) {m : List Int} (hp : m.Perm (rowOf u.lines s ++ [s])) (hw : m.Pairwise (· ≤ ·)) : m = aims u true s := by
  have nd : (rowOf u.lines s ++ [s]).Nodup := nodup_snoc (nodup_ascI (asc_rowOf hu.lines_asc s)) h
  refine ascI_ext (asc_sortedI hp hw nd) asc_aims fun t => ?_
  rw [mem_aims, hp.mem_iff, List.mem_append, List.mem_singleton, mem_rowOf]
  unfold aimB
  rw [Bool.or_eq_true, List.contains_iff_mem, Bool.and_eq_true, decide_eq_true_eq]
  constructor
  · rintro (ht | rfl)
    · exact ⟨(hu.line _ ht).2, .inl ht⟩
    · exact ⟨hs, .inr ⟨rfl, rfl⟩⟩
  · rintro ⟨ht, h1 | ⟨h1, h2⟩⟩
    · exact .inl h1
    · exact .inr h2.symm
theorem own_row {u : Wb} (hu : u.Ok) {s : Int} (hs : s < u.n) : u.ps.contains (s, s) = (rowOf u.lines s).contains s := by
  rw [row_low hu hs, Bool.eq_iff_iff, List.contains_iff_mem, List.contains_iff_mem, mem_rowOf]
theorem own_no {u : Wb} (hu : u.Ok) {st : Bool} {s : Int} (hs : u.n ≤ s) : ownB u st s = false := by
  unfold ownB
  have h : u.ps.contains (s, s) = false := by
    rw [Bool.eq_false_iff]
    intro h
    have := (hu.ps _ (List.contains_iff_mem.mp h)).1
    simp at this
    omega
  rw [h, Bool.and_false]
/-! ### one by one -/
theorem nd_two {α : Type} {l : List α} (nd : l.Nodup) {x : α} (h : ∀ y ∈ l, y = x) (hx : x ∈ l) : l = [x] := by
  match l, nd, h, hx with
  | [y], _, h, _ => rw [h y (by simp)]
  | y :: z :: r, nd, h, _ =>
    have h1 := h y (by simp)
    have h2 := h z (by simp)
    rw [h1, h2] at nd
    simp at nd
theorem fcd_some {u : Wb} {st : Bool} {l : List Int} {s x : Int} : fcd u st l s = some x ↔ (x ∈ aims u st s ∧ x ∈ l ∧ ∀ y, y ∈ aims u st s → y ∈ l → y = x) ∧ ¬ (ownB u st s = true ∧ x = s) := by
  have nd : ((aims u st s).filter l.contains).Nodup := nd_aims.filter _
  have mem : ∀ y, y ∈ (aims u st s).filter l.contains ↔ y ∈ aims u st s ∧ y ∈ l := fun y => by rw [List.mem_filter, List.contains_iff_mem]
  unfold fcd
  constructor
  · intro h
    match e : (aims u st s).filter l.contains, h with
    | [y], h =>
      simp only at h
      split at h
      · cases h
      · rename_i hn
        obtain rfl : y = x := Option.some.inj h
        have m1 : ∀ z, (z ∈ aims u st s ∧ z ∈ l) ↔ z = y := fun z => (mem z).symm.trans (by rw [e]; exact List.mem_singleton)
        refine ⟨⟨((m1 y).mpr rfl).1, ((m1 y).mpr rfl).2, fun z h1 h2 => (m1 z).mp ⟨h1, h2⟩⟩, hn⟩
  · rintro ⟨⟨h1, h2, h3⟩, hn⟩
    have e : (aims u st s).filter l.contains = [x] := nd_two nd (fun y hy => h3 y ((mem y).mp hy).1 ((mem y).mp hy).2) ((mem x).mpr ⟨h1, h2⟩)
    rw [e]
    simp only
    rw [if_neg hn]
abbrev InSrc (u : Wb) (s : Int) : Prop := 0 ≤ s ∧ s < u.n + (u.ns.length : Int)
/-- no source can force anything -/
def Stk (u : Wb) (st : Bool) (l : List Int) : Prop := ∀ s, InSrc u s → fcd u st l s = none
theorem fcd_sub {u : Wb} {st : Bool} {l F : List Int} {s x : Int} (h : fcd u st l s = some x) (sub : ∀ y ∈ F, y ∈ l) (hx : x ∈ F) : fcd u st F s = some x := by
  obtain ⟨⟨h1, h2, h3⟩, hn⟩ := fcd_some.mp h
  exact fcd_some.mpr ⟨⟨h1, hx, fun y hy hF => h3 y hy (sub y hF)⟩, hn⟩
theorem Stk.keep {u : Wb} {st : Bool} {l F : List Int} (hF : Stk u st F) (sub : ∀ y ∈ F, y ∈ l) {s x : Int} (hs : InSrc u s) (h : fcd u st l s = some x) : x ∉ F := fun hx => by
  have h1 := fcd_sub h sub hx
  rw [hF s hs] at h1
  cases h1
/-- what is left: as much as any that no source can force -/
structure Rest (u : Wb) (st : Bool) (l : List Int) : Prop where
  asc : ascB ltIn l = true
  inn : ∀ x ∈ l, 0 ≤ x ∧ x < u.n
  most : ∀ F : List Int, (∀ x ∈ F, 0 ≤ x ∧ x < u.n) → Stk u st F → ∀ x ∈ F, x ∈ l
theorem Rest.all {u : Wb} {st : Bool} : Rest u st (iota u.n) := ⟨asc_iota _, fun x hx => mem_iota.mp hx, fun F hF _ x hx => mem_iota.mpr (hF x hx)⟩
theorem Rest.len {u : Wb} (hu : u.Ok) {st : Bool} {l : List Int} (h : Rest u st l) : l.length ≤ 20 := by
  have h1 := asc_len l 0 h.inn h.asc
  have := hu.hi
  omega
theorem Rest.nd {u : Wb} {st : Bool} {l : List Int} (h : Rest u st l) : l.Nodup := nodup_ascI h.asc
theorem Rest.uniq {u : Wb} {st : Bool} {l m : List Int} (h : Rest u st l) (g : Rest u st m) (hl : Stk u st l) (hm : Stk u st m) : l = m :=
  ascI_ext h.asc g.asc fun x => ⟨fun hx => g.most l h.inn hl x hx, fun hx => h.most m g.inn hm x hx⟩
theorem Rest.minus {u : Wb} {st : Bool} {l : List Int} (h : Rest u st l) {p : Int → Bool} (hp : ∀ x ∈ l, p x = false → ∃ s, InSrc u s ∧ fcd u st l s = some x) : Rest u st (l.filter p) := by
  refine ⟨asc_filter h.asc, fun x hx => h.inn x (List.mem_filter.mp hx).1, fun F hF sF x hx => ?_⟩
  have hl := h.most F hF sF
  refine List.mem_filter.mpr ⟨hl x hx, ?_⟩
  cases e : p x with
  | true => rfl
  | false =>
    obtain ⟨s, hs, hf⟩ := hp x (hl x hx) e
    exact absurd hx (sF.keep hl hs hf)
theorem erase_filter {l : List Int} (nd : l.Nodup) (x : Int) : l.erase x = l.filter fun y => decide (y ≠ x) := by
  rw [nd.erase_eq_filter]
  refine List.filter_congr fun y _ => ?_
  by_cases h : y = x
  · subst h
    simp
  · simp [h]
theorem Rest.erase {u : Wb} {st : Bool} {l : List Int} (h : Rest u st l) {s x : Int} (hs : InSrc u s) (hf : fcd u st l s = some x) : Rest u st (l.erase x) := by
  rw [erase_filter h.nd]
  refine h.minus fun y _ hy => ⟨s, hs, ?_⟩
  have : y = x := by simpa using hy
  rw [this]
  exact hf
theorem stk_nil {u : Wb} {st : Bool} : Stk u st [] := fun s _ => by
  cases h : fcd u st [] s with
  | none => rfl
  | some x =>
    have := (fcd_some.mp h).1.2.1
    cases this
/-! ### who can force what -/
/-- the sources that can force one of those that are open, each with it -/
def able (u : Wb) (st : Bool) (l : List Int) : Nat → List (Int × Int)
  | 0 => []
  | i + 1 => match fcd u st l (i : Int) with
    | none => able u st l i
    | some q => able u st l i ++ [((i : Int), q)]
theorem mem_able {u : Wb} {st : Bool} {l : List Int} {s q : Int} : ∀ {i : Nat}, (s, q) ∈ able u st l i ↔ (0 ≤ s ∧ s < (i : Int)) ∧ fcd u st l s = some q
  | 0 => by
    unfold able
    simp
    omega
  | i + 1 => by
    have ih := mem_able (u := u) (st := st) (l := l) (s := s) (q := q) (i := i)
    unfold able
    by_cases e : s = (i : Int)
    · subst e
      cases h : fcd u st l (i : Int) with
      | none =>
        simp only
        rw [ih]
        simp [h]
      | some r =>
        simp only
        rw [List.mem_append, ih, List.mem_singleton, Prod.mk.injEq]
        simp [h]
        constructor
        · intro h1
          exact ⟨by omega, h1.symm⟩
        · intro h1
          exact h1.2.symm
    · cases h : fcd u st l (i : Int) with
      | none =>
        simp only
        rw [ih]
        constructor
        · rintro ⟨h1, h2⟩
          exact ⟨by omega, h2⟩
        · rintro ⟨h1, h2⟩
          exact ⟨by omega, h2⟩
      | some r =>
        simp only
        rw [List.mem_append, ih, List.mem_singleton, Prod.mk.injEq]
        constructor
        · rintro (⟨h1, h2⟩ | ⟨h1, _⟩)
          · exact ⟨by omega, h2⟩
          · exact absurd h1 e
        · rintro ⟨h1, h2⟩
          exact .inl ⟨by omega, h2⟩
theorem able_len {u : Wb} {st : Bool} {l : List Int} : ∀ {i : Nat}, (able u st l i).length ≤ i
  | 0 => Nat.le_refl _
  | i + 1 => by
    have ih := able_len (u := u) (st := st) (l := l) (i := i)
    unfold able
    split
    · omega
    · rw [List.length_append, List.length_singleton]
      omega
theorem src_cast (u : Wb) (hu : u.Ok) : ((srcN u : Nat) : Int) = u.n + (u.ns.length : Int) := by
  have := hu.lo
  unfold srcN
  omega
abbrev ableA (u : Wb) (st : Bool) (l : List Int) : List (Int × Int) := able u st l (srcN u)
theorem mem_ableA {u : Wb} (hu : u.Ok) {st : Bool} {l : List Int} {s q : Int} : (s, q) ∈ ableA u st l ↔ InSrc u s ∧ fcd u st l s = some q := by
  unfold ableA
  rw [mem_able, src_cast u hu]
theorem able_stk {u : Wb} (hu : u.Ok) {st : Bool} {l : List Int} : ableA u st l = [] ↔ Stk u st l := by
  constructor
  · intro h s hs
    cases e : fcd u st l s with
    | none => rfl
    | some q =>
      have := (mem_ableA hu).mpr ⟨hs, e⟩
      rw [h] at this
      cases this
  · intro h
    rw [List.eq_nil_iff_forall_not_mem]
    rintro ⟨s, q⟩ hm
    obtain ⟨h1, h2⟩ := (mem_ableA hu).mp hm
    rw [h s h1] at h2
    cases h2
/-- all that can be forced at once -/
def rnd (u : Wb) (st : Bool) (l : List Int) : List Int := (iota u.n).filter fun q => (ableA u st l).any fun p => p.2 == q
theorem mem_rnd {u : Wb} (hu : u.Ok) {st : Bool} {l : List Int} {q : Int} : q ∈ rnd u st l ↔ ∃ s, (s, q) ∈ ableA u st l := by
  unfold rnd
  rw [List.mem_filter, List.any_eq_true, mem_iota]
  constructor
  · rintro ⟨_, ⟨s, q'⟩, h, e⟩
    obtain rfl : q' = q := by simpa using e
    exact ⟨s, h⟩
  · rintro ⟨s, h⟩
    have h1 := (fcd_some.mp ((mem_ableA hu).mp h).2).1.1
    exact ⟨(mem_aims.mp h1).1, (s, q), h, by simp⟩
theorem asc_rnd {u : Wb} {st : Bool} {l : List Int} : ascB ltIn (rnd u st l) = true := asc_filter (asc_iota _)
theorem rnd_nil {u : Wb} (hu : u.Ok) {st : Bool} {l : List Int} : rnd u st l = [] ↔ ableA u st l = [] := by
  constructor
  · intro h
    rw [List.eq_nil_iff_forall_not_mem]
    rintro ⟨s, q⟩ hm
    have := (mem_rnd hu).mpr ⟨s, hm⟩
    rw [h] at this
    cases this
  · intro h
    rw [List.eq_nil_iff_forall_not_mem]
    intro q hq
    obtain ⟨s, hs⟩ := (mem_rnd hu).mp hq
    rw [h] at hs
    cases hs
theorem rnd_in {u : Wb} (hu : u.Ok) {st : Bool} {l : List Int} {q : Int} (h : q ∈ rnd u st l) : (0 ≤ q ∧ q < u.n) ∧ q ∈ l := by
  obtain ⟨s, hs⟩ := (mem_rnd hu).mp h
  have h1 := (fcd_some.mp ((mem_ableA hu).mp hs).2).1
  exact ⟨(mem_aims.mp h1.1).1, h1.2.1⟩
/-- without them -/
def less (u : Wb) (st : Bool) (l : List Int) : List Int := l.filter fun q => !(rnd u st l).contains q
theorem Rest.less {u : Wb} (hu : u.Ok) {st : Bool} {l : List Int} (h : Rest u st l) : Rest u st (less u st l) := by
  refine h.minus fun x _ hx => ?_
  have hx' : x ∈ rnd u st l := by simpa using hx
  obtain ⟨s, hs⟩ := (mem_rnd hu).mp hx'
  exact ⟨s, (mem_ableA hu).mp hs⟩
theorem less_lt {u : Wb} (hu : u.Ok) {st : Bool} {l : List Int} (h : rnd u st l ≠ []) : (less u st l).length < l.length := by
  obtain ⟨q, hq⟩ := List.exists_mem_of_ne_nil _ h
  have h1 := (rnd_in hu hq).2
  have := filter_more (p := fun q => !(rnd u st l).contains q) (q := fun _ => true) (fun _ _ => rfl) h1 rfl (by simpa using hq)
  rw [filter_true] at this
  exact this
/-- the rounds -/
inductive Rnds (u : Wb) (st : Bool) : List Int → List (List Int) → Prop
  | nil {l : List Int} : rnd u st l = [] → Rnds u st l []
  | cons {l : List Int} {ds : List (List Int)} : rnd u st l ≠ [] → Rnds u st (less u st l) ds → Rnds u st l (rnd u st l :: ds)
theorem Rnds.uniq {u : Wb} {st : Bool} {l : List Int} {ds es : List (List Int)} (h : Rnds u st l ds) (g : Rnds u st l es) : ds = es := by
  induction h generalizing es with
  | nil e =>
    cases g with
    | nil _ => rfl
    | cons e2 _ => exact absurd e e2
  | cons e _ ih =>
    cases g with
    | nil e2 => exact absurd e2 e
    | cons _ g => rw [ih g]
/-- the row with the least ones -/
def IsLeast (P : Int → Prop) (x : Int) : Prop := P x ∧ ∀ y, P y → x ≤ y
theorem IsLeast.uniq {P : Int → Prop} {x y : Int} (h : IsLeast P x) (g : IsLeast P y) : x = y := by
  have h1 := h.2 y g.1
  have h2 := g.2 x h.1
  omega
structure Pick (u : Wb) (st : Bool) (l : List Int) (s q : Int) : Prop where
  qq : IsLeast (fun (y : Int) => ∃ z : Int, (z, y) ∈ ableA u st l) q
  ss : IsLeast (fun (z : Int) => (z, q) ∈ ableA u st l) s
inductive LRow (u : Wb) (st : Bool) : List Int → List (Int × Int) → Prop
  | nil {l : List Int} : ableA u st l = [] → LRow u st l []
  | cons {l : List Int} {s q : Int} {row : List (Int × Int)} : Pick u st l s q → LRow u st (l.erase q) row → LRow u st l ((s, q) :: row)
theorem LRow.uniq {u : Wb} {st : Bool} {l : List Int} {a b : List (Int × Int)} (h : LRow u st l a) (g : LRow u st l b) : a = b := by
  induction h generalizing b with
  | nil e =>
    cases g with
    | nil _ => rfl
    | cons p _ =>
      have := p.ss.1
      rw [e] at this
      cases this
  | cons p _ ih =>
    cases g with
    | nil e =>
      have := p.ss.1
      rw [e] at this
      cases this
    | cons p2 g =>
      have e1 := p.qq.uniq p2.qq
      subst e1
      have e2 := p.ss.uniq p2.ss
      subst e2
      rw [ih g]
/-- any row: each can force its quantity while those ahead are forced -/
inductive VRow (u : Wb) (st : Bool) : List Int → List (Int × Int) → List Int → Prop
  | nil {l : List Int} : VRow u st l [] l
  | cons {l m : List Int} {s q : Int} {row : List (Int × Int)} : (s, q) ∈ ableA u st l → VRow u st (l.erase q) row m → VRow u st l ((s, q) :: row) m
theorem VRow.snoc {u : Wb} {st : Bool} {l m : List Int} {row : List (Int × Int)} (h : VRow u st l row m) {s q : Int} (g : (s, q) ∈ ableA u st m) : VRow u st l (row ++ [(s, q)]) (m.erase q) := by
  induction h with
  | nil => exact .cons g .nil
  | cons e _ ih => exact .cons e (ih g)
theorem VRow.rest {u : Wb} (hu : u.Ok) {st : Bool} {l m : List Int} {row : List (Int × Int)} (h : VRow u st l row m) (hl : Rest u st l) : Rest u st m := by
  induction h with
  | nil => exact hl
  | cons e _ ih =>
    obtain ⟨h1, h2⟩ := (mem_ableA hu).mp e
    exact ih (hl.erase h1 h2)
theorem LRow.vrow {u : Wb} {st : Bool} {l : List Int} {row : List (Int × Int)} (h : LRow u st l row) : ∃ m, VRow u st l row m ∧ ableA u st m = [] := by
  induction h with
  | nil e => exact ⟨_, .nil, e⟩
  | cons p _ ih =>
    obtain ⟨m, h1, h2⟩ := ih
    exact ⟨m, .cons p.ss.1 h1, h2⟩
/-- the pair that a datum is -/
def prOf : PyData → Option (Int × Int)
  | .tuple [.int a, .int b] => some (a, b)
  | _ => none
theorem prOf_some {d : PyData} {p : Int × Int} (h : prOf d = some p) : d = dPair p := by
  unfold prOf at h
  split at h
  · cases h
    rfl
  · cases h
theorem prOf_pair (p : Int × Int) : prOf (dPair p) = some p := rfl
theorem tupB_none {d : PyData} {m n : Int} (h : prOf d = none) : tupB d m n = false := by
  cases e : tupB d m n with
  | false => rfl
  | true =>
    obtain ⟨i, j, rfl, _⟩ := tupB_inv e
    cases h
theorem tupB_pair {p : Int × Int} {m n : Int} : tupB (dPair p) m n = (decide (0 ≤ p.1 ∧ p.1 < m) && decide (0 ≤ p.2 ∧ p.2 < n)) := by
  unfold dPair tupB numB
  simp [Bool.decide_and]
/-- whether any value is a forcing row -/
def frowD (u : Wb) (st : Bool) : List Int → List PyData → Bool
  | l, [] => l.isEmpty
  | l, d :: ds => match prOf d with
    | some p => (decide (InSrc u p.1) && (fcd u st l p.1 == some p.2)) && frowD u st (l.erase p.2) ds
    | none => false
def frowB (u : Wb) (st : Bool) : PyData → Bool
  | .list ds => frowD u st (iota u.n) ds
  | _ => false
theorem frow_of {u : Wb} (hu : u.Ok) {st : Bool} {l m : List Int} {row : List (Int × Int)} (h : VRow u st l row m) : frowD u st l (row.map dPair) = m.isEmpty := by
  induction h with
  | nil => rfl
  | cons e _ ih =>
    obtain ⟨h1, h2⟩ := (mem_ableA hu).mp e
    show ((decide _ && _) && frowD u st _ _) = _
    rw [ih, decide_eq_true h1, h2]
    simp
end Nw
/-! Rules of sets of ints and of dicts, by the written part's own name. -/
namespace Nw
open PySem PySem.Spec PyProof.Rows L2
section
variable {X : Cx}
theorem cr_setIK (K : PySem.W.Frag) (w : World) (hc : X.calm = true) (hK : X.K = K := by rfl) (hw : X.w = w := by rfl) : CallR X (.type "set") (rSetI K w) := by
  subst hK hw
  exact cr_setI hc
theorem cr_sortedSetK (w : World) (hc : X.calm = true) (hw : X.w = w := by rfl) : CallR X (.builtin "sorted") (rSortedSet w) := by
  subst hw
  exact cr_sortedSet hc
theorem pe_dget1K {k : Nat} {o e : Expr} {td ty : TE} {apos cpos : Pos} (hr : Room k X.A) (ho : PE X o td) (he : PE X e ty) (m : M1 X o "get" apos e cpos) : PE X (.Call (.Attribute o "get" apos) [e] [] cpos) (tDGet1 td ty) := pe_dget1 (by have := hr.un; omega) ho he m
end
theorem inV_int {q : Int} {r : List Int} : inV (.int q) (r.map V.int) = r.contains q := by
  rw [Bool.eq_iff_iff]
  unfold inV
  rw [List.any_map, List.any_eq_true, List.contains_iff_mem]
  constructor
  · rintro ⟨y, hy, h⟩
    have : y = q := by simpa [eqV] using h
    rw [← this]
    exact hy
  · intro h
    exact ⟨q, h, by simp [eqV]⟩
theorem in_int {q : Int} {r : List Int} : (if false = true then !inV (.int q) (r.map V.int) else inV (.int q) (r.map V.int)) = r.contains q := inV_int
theorem notin_int {q : Int} {r : List Int} : (if true = true then !inV (.int q) (r.map V.int) else inV (.int q) (r.map V.int)) = !r.contains q := congrArg not inV_int
theorem flat_ints {r : List Int} : (r.map V.int).all flatV = true := by
  rw [List.all_map, List.all_eq_true]
  intro x _
  rfl
/-- what sorted(set(xs)) gives: ascending, the same members -/
theorem sortedSet_of {ks ns : List Int} (h1 : ns.Pairwise (· < ·)) (h2 : ∀ k : Int, k ∈ ns ↔ decide (k ∈ ks) = true) : ascB ltIn ns = true ∧ ∀ k, k ∈ ns ↔ k ∈ ks :=
  ⟨asc_pw (h1.imp fun h => by unfold ltIn; rw [decide_eq_true_eq]; exact h), fun k => (h2 k).trans decide_eq_true_iff⟩
/-- the quantities that can be forced, each with the least source, in the sequence of the sources -/
def lsq (u : Wb) (st : Bool) (l : List Int) : Nat → List (Int × Int)
  | 0 => []
  | i + 1 => match fcd u st l (i : Int) with
    | none => lsq u st l i
    | some q => if (lsq u st l i).any (fun p => p.1 == q) = true then lsq u st l i else lsq u st l i ++ [(q, (i : Int))]
def kvI (ps : List (Int × Int)) : List (Key × V) := ps.map fun p => (Sum.inl p.1, V.int p.2)
theorem kvI_get : ∀ {ps : List (Int × Int)} {q : Int}, valV (kvI ps) (Sum.inl q) = (ps.find? fun p => p.1 == q).map fun p => V.int p.2
  | [], _ => rfl
  | p :: ps, q => by
    have ih := kvI_get (ps := ps) (q := q)
    unfold valV kvI at ih ⊢
    rw [List.map_cons, List.find?_cons, List.find?_cons]
    by_cases h : p.1 = q
    · subst h
      simp
    · have h1 : decide ((Sum.inl p.1 : Key) = Sum.inl q) = false := decide_eq_false fun e => h (Sum.inl.inj e)
      have h2 : (p.1 == q) = false := by simpa using h
      simp only [h1, h2]
      exact ih
theorem find_none {ps : List (Int × Int)} {q : Int} : (ps.find? fun p => p.1 == q) = none ↔ ps.any (fun p => p.1 == q) = false := by
  rw [List.find?_eq_none, List.any_eq_false]
theorem kvI_put {ps : List (Int × Int)} {q : Int} {s : Int} (h : ps.any (fun p => p.1 == q) = false) : putK (kvI ps) (Sum.inl q) (V.int s) = kvI (ps ++ [(q, s)]) := by
  unfold putK kvI
  rw [if_neg, List.map_append]
  · rfl
  · rw [Bool.not_eq_true, List.any_map, ← h]
    refine List.any_congr rfl fun p => ?_
    show decide ((Sum.inl p.1 : Key) = Sum.inl q) = (p.1 == q)
    by_cases e : p.1 = q
    · simp [e]
    · rw [decide_eq_false fun z => e (Sum.inl.inj z)]
      simp [e]
theorem kvI_keys (ps : List (Int × Int)) : (kvI ps).map (·.1) = (ps.map (·.1)).map Sum.inl := by
  unfold kvI
  rw [List.map_map, List.map_map]
  rfl
theorem lsq_keys {u : Wb} {st : Bool} {l : List Int} : ∀ {i : Nat}, ((lsq u st l i).map (·.1)).Nodup
  | 0 => List.nodup_nil
  | i + 1 => by
    have ih := lsq_keys (u := u) (st := st) (l := l) (i := i)
    unfold lsq
    split
    · exact ih
    · split
      · exact ih
      · rename_i q _ h
        rw [List.map_append]
        refine nodup_snoc ih fun hm => h ?_
        obtain ⟨p, hp, e⟩ := List.mem_map.mp hm
        exact List.any_eq_true.mpr ⟨p, hp, by simpa using e⟩
theorem lsq_len {u : Wb} {st : Bool} {l : List Int} : ∀ {i : Nat}, (lsq u st l i).length ≤ i
  | 0 => Nat.le_refl _
  | i + 1 => by
    have ih := lsq_len (u := u) (st := st) (l := l) (i := i)
    unfold lsq
    split
    · omega
    · split
      · omega
      · rw [List.length_append, List.length_singleton]
        omega
theorem mem_lsq {u : Wb} {st : Bool} {l : List Int} {q s : Int} : ∀ {i : Nat}, (q, s) ∈ lsq u st l i ↔ IsLeast (fun z => (z, q) ∈ able u st l i) s
  | 0 => by
    unfold lsq IsLeast able
    simp
  | i + 1 => by
    have ih := mem_lsq (u := u) (st := st) (l := l) (q := q) (s := s) (i := i)
    have low : ∀ z q, (z, q) ∈ able u st l i → z < (i : Int) := fun z q h => (mem_able.mp h).1.2
    have key : ∀ y, (lsq u st l i).any (fun p => p.1 == y) = true ↔ ∃ z, (z, y) ∈ able u st l i := fun y => by
      rw [List.any_eq_true]
      constructor
      · rintro ⟨⟨a, b⟩, h, e⟩
        obtain rfl : a = y := by simpa using e
        have h1 := (mem_lsq (u := u) (st := st) (l := l) (q := a) (s := b) (i := i)).mp h
        exact ⟨b, h1.1⟩
      · rintro ⟨z, hz⟩
        have : ∃ m, IsLeast (fun z => (z, y) ∈ able u st l i) m := by
          have h0 := (mem_able.mp hz).1
          have hex : ∃ k : Nat, ((k : Int), y) ∈ able u st l i := ⟨z.toNat, by rw [Int.toNat_of_nonneg h0.1]; exact hz⟩
          have hmin : ∃ k : Nat, ((k : Int), y) ∈ able u st l i ∧ ∀ j : Nat, j < k → ((j : Int), y) ∉ able u st l i := by
            obtain ⟨k, hk⟩ := hex
            induction k using Nat.strongRecOn with
            | ind k ihk =>
              by_cases hj : ∃ j : Nat, j < k ∧ ((j : Int), y) ∈ able u st l i
              · obtain ⟨j, h1, h2⟩ := hj
                exact ihk j h1 h2
              · exact ⟨k, hk, fun j hjk hm => hj ⟨j, hjk, hm⟩⟩
          obtain ⟨k, hk, hl⟩ := hmin
          refine ⟨k, hk, fun m hm => ?_⟩
          have h1 := (mem_able.mp hm).1
          by_cases hlt : m < (k : Int)
          · exact absurd (by rw [Int.toNat_of_nonneg h1.1]; exact hm) (hl m.toNat (by omega))
          · omega
        obtain ⟨m, hm⟩ := this
        exact ⟨(y, m), (mem_lsq (u := u) (st := st) (l := l) (q := y) (s := m) (i := i)).mpr hm, by simp⟩
    unfold lsq
    have e : able u st l (i + 1) = match fcd u st l (i : Int) with
      | none => able u st l i
      | some q => able u st l i ++ [((i : Int), q)] := rfl
    rw [e]
    cases hf : fcd u st l (i : Int) with
    | none => exact ih
    | some r =>
      simp only
      by_cases hk : (lsq u st l i).any (fun p => p.1 == r) = true
      · rw [if_pos hk, ih]
        obtain ⟨z0, hz0⟩ := (key r).mp hk
        have hlt := low _ _ hz0
        unfold IsLeast
        constructor
        · rintro ⟨h1, h2⟩
          refine ⟨List.mem_append.mpr (.inl h1), fun y hy => ?_⟩
          rcases List.mem_append.mp hy with hy | hy
          · exact h2 y hy
          · have e2 := List.mem_singleton.mp hy
            rw [Prod.mk.injEq] at e2
            have := low _ _ h1
            omega
        · rintro ⟨h1, h2⟩
          rcases List.mem_append.mp h1 with h1 | h1
          · exact ⟨h1, fun y hy => h2 y (List.mem_append.mpr (.inl hy))⟩
          · have e2 := List.mem_singleton.mp h1
            rw [Prod.mk.injEq] at e2
            have h3 := h2 z0 (List.mem_append.mpr (.inl (by rw [e2.2]; exact hz0)))
            omega
      · rw [if_neg hk, List.mem_append, ih, List.mem_singleton, Prod.mk.injEq]
        have hno : ∀ z, (z, r) ∉ able u st l i := fun z hz => hk ((key r).mpr ⟨z, hz⟩)
        unfold IsLeast
        constructor
        · rintro (⟨h1, h2⟩ | ⟨rfl, rfl⟩)
          · refine ⟨List.mem_append.mpr (.inl h1), fun y hy => ?_⟩
            rcases List.mem_append.mp hy with hy | hy
            · exact h2 y hy
            · have e2 := List.mem_singleton.mp hy
              rw [Prod.mk.injEq] at e2
              have := low _ _ h1
              omega
          · refine ⟨List.mem_append.mpr (.inr (by simp)), fun y hy => ?_⟩
            rcases List.mem_append.mp hy with hy | hy
            · exact absurd hy (hno y)
            · have e2 := List.mem_singleton.mp hy
              rw [Prod.mk.injEq] at e2
              omega
        · rintro ⟨h1, h2⟩
          rcases List.mem_append.mp h1 with h1 | h1
          · exact .inl ⟨h1, fun y hy => h2 y (List.mem_append.mpr (.inl hy))⟩
          · have e2 := List.mem_singleton.mp h1
            rw [Prod.mk.injEq] at e2
            exact .inr ⟨e2.2, e2.1⟩
/-- the same when all sources are gone through -/
theorem lsq_rnd {u : Wb} (hu : u.Ok) {st : Bool} {l : List Int} {q : Int} : q ∈ (lsq u st l (srcN u)).map (·.1) ↔ q ∈ rnd u st l := by
  rw [mem_rnd hu, List.mem_map]
  constructor
  · rintro ⟨⟨a, b⟩, h, rfl⟩
    exact ⟨b, (mem_lsq.mp h).1⟩
  · rintro ⟨s, hs⟩
    have h0 := (mem_able.mp hs).1
    have : ∃ m, IsLeast (fun z => (z, q) ∈ able u st l (srcN u)) m := by
      have hmin : ∀ k : Nat, ((k : Int), q) ∈ able u st l (srcN u) → ∃ k : Nat, ((k : Int), q) ∈ able u st l (srcN u) ∧ ∀ j : Nat, j < k → ((j : Int), q) ∉ able u st l (srcN u) := fun k => by
        induction k using Nat.strongRecOn with
        | ind k ihk =>
          intro hk
          by_cases hj : ∃ j : Nat, j < k ∧ ((j : Int), q) ∈ able u st l (srcN u)
          · obtain ⟨j, h1, h2⟩ := hj
            exact ihk j h1 h2
          · exact ⟨k, hk, fun j hjk hm => hj ⟨j, hjk, hm⟩⟩
      obtain ⟨k, hk, hl⟩ := hmin s.toNat (by rw [Int.toNat_of_nonneg h0.1]; exact hs)
      refine ⟨k, hk, fun m hm => ?_⟩
      have h1 := (mem_able.mp hm).1
      by_cases hlt : m < (k : Int)
      · exact absurd (by rw [Int.toNat_of_nonneg h1.1]; exact hm) (hl m.toNat (by omega))
      · omega
    obtain ⟨m, hm⟩ := this
    exact ⟨(q, m), mem_lsq.mpr hm, rfl⟩
theorem lsq_nil {u : Wb} (hu : u.Ok) {st : Bool} {l : List Int} : lsq u st l (srcN u) = [] ↔ ableA u st l = [] := by
  rw [← rnd_nil hu, List.eq_nil_iff_forall_not_mem, List.eq_nil_iff_forall_not_mem]
  constructor
  · intro h q hq
    obtain ⟨p, hp, _⟩ := List.mem_map.mp ((lsq_rnd hu).mpr hq)
    exact h p hp
  · intro h p hp
    exact h p.1 ((lsq_rnd hu).mp (List.mem_map.mpr ⟨p, hp, rfl⟩))
end Nw
/-! Any data of bounded size, whose lists all are of at most a thousand items. -/
namespace Nw
open PySem PySem.Spec PyProof.Rows L2
mutual
def slim : PyData → Bool
  | .list xs => decide (xs.length ≤ 1000) && slimAll xs
  | .tuple xs => slimAll xs
  | .dict kvs => slimKv kvs
  | _ => true
def slimAll : List PyData → Bool
  | [] => true
  | x :: xs => slim x && slimAll xs
def slimKv : List (PyData × PyData) → Bool
  | [] => true
  | (k, v) :: r => slim k && slim v && slimKv r
end
theorem slimAll_iff : ∀ {xs : List PyData}, slimAll xs = true ↔ ∀ x ∈ xs, slim x = true
  | [] => ⟨fun _ x hx => (nomatch hx), fun _ => rfl⟩
  | x :: xs => by
    simp only [slimAll, Bool.and_eq_true, slimAll_iff (xs := xs), List.mem_cons]
    exact ⟨fun ⟨a, b⟩ y hy => hy.elim (fun e => e ▸ a) (b y), fun h => ⟨h x (.inl rfl), fun y hy => h y (.inr hy)⟩⟩
theorem slim_list {xs : List PyData} (h : slim (.list xs) = true) : xs.length ≤ 1000 ∧ ∀ x ∈ xs, slim x = true := by
  simp only [slim, Bool.and_eq_true, decide_eq_true_eq] at h
  exact ⟨h.1, slimAll_iff.mp h.2⟩
theorem slim_tup {xs : List PyData} (h : slim (.tuple xs) = true) : ∀ x ∈ xs, slim x = true := slimAll_iff.mp h
theorem nodup_lenP {α : Type} [DecidableEq α] : ∀ {l m : List α}, l.Nodup → (∀ x ∈ l, x ∈ m) → l.length ≤ m.length
  | [], _, _, _ => Nat.zero_le _
  | x :: l, m, h, s => by
    obtain ⟨h1, h2⟩ := List.nodup_cons.mp h
    have hx := s x List.mem_cons_self
    have ih := nodup_lenP (m := m.erase x) h2 fun y hy => (List.mem_erase_of_ne (fun e : y = x => h1 (e ▸ hy))).2 (s y (List.mem_cons_of_mem _ hy))
    rw [List.length_erase_of_mem hx] at ih
    have := List.length_pos_of_mem hx
    rw [List.length_cons]
    omega
section
variable {K : PySem.W.Frag} {H H' : Hp} {n k m j : Nat}
def Gw (K : PySem.W.Frag) (H : Hp) (n k : Nat) (v : V) : Prop := ∃ d, Da K H d v ∧ Sh 41 n k d ∧ slim d = true
def GwAll (K : PySem.W.Frag) (H : Hp) (n k : Nat) (vs : List V) : Prop := ∃ ds, DaAll K H ds vs ∧ ∀ x ∈ ds, Sh 41 n k x ∧ slim x = true
theorem Gw.up {v : V} (h : Gw K H n k v) (e : Ex H H') : Gw K H' n k v := by
  obtain ⟨d, h1, h2⟩ := h
  exact ⟨d, h1.up e, h2⟩
theorem GwAll.up {vs : List V} (h : GwAll K H n k vs) (e : Ex H H') : GwAll K H' n k vs := by
  obtain ⟨d, h1, h2⟩ := h
  exact ⟨d, h1.up e, h2⟩
theorem Gw.wide {v : V} (h : Gw K H n k v) (hn : n ≤ m) (hk : k ≤ j) : Gw K H m j v := by
  obtain ⟨d, h1, h2, h3⟩ := h
  exact ⟨d, h1, h2.wide hn hk, h3⟩
theorem GwAll.wide {vs : List V} (h : GwAll K H n k vs) (hn : n ≤ m) (hk : k ≤ j) : GwAll K H m j vs := by
  obtain ⟨d, h1, h2⟩ := h
  exact ⟨d, h1, fun x hx => ⟨(h2 x hx).1.wide hn hk, (h2 x hx).2⟩⟩
theorem GwAll.nil : GwAll K H n k [] := ⟨[], rfl, fun x hx => by cases hx⟩
theorem GwAll.cons {v : V} {vs : List V} (h : Gw K H n k v) (t : GwAll K H n k vs) : GwAll K H n k (v :: vs) := by
  obtain ⟨d, h1, h2⟩ := h
  obtain ⟨ds, t1, t2⟩ := t
  exact ⟨d :: ds, ⟨_, _, rfl, h1, t1⟩, fun x hx => (List.mem_cons.mp hx).elim (fun e => e ▸ h2) (t2 x)⟩
theorem GwAll.at {vs : List V} {i : Nat} {x : V} (h : GwAll K H n k vs) (hx : vs[i]? = some x) : Gw K H n k x := by
  obtain ⟨ds, h1, h2⟩ := h
  obtain ⟨d, hd, hdx⟩ := h1.at' hx
  exact ⟨d, hdx, h2 d (List.mem_of_getElem? hd)⟩
theorem GwAll.app {vs ws : List V} (h : GwAll K H n k vs) (g : GwAll K H n k ws) : GwAll K H n k (vs ++ ws) := by
  obtain ⟨ds, h1, h2⟩ := h
  obtain ⟨es, g1, g2⟩ := g
  exact ⟨ds ++ es, h1.app g1, fun x hx => (List.mem_append.mp hx).elim (h2 x) (g2 x)⟩
theorem GwAll.sub {vs ws : List V} (h : GwAll K H n k vs) (hm : ∀ x ∈ ws, x ∈ vs) : GwAll K H n k ws := by
  obtain ⟨ds, h1, h2⟩ := h
  obtain ⟨es, g1, g2⟩ := DaAll.of_mem h1 hm
  exact ⟨es, g1, fun x hx => h2 x (g2 x hx)⟩
theorem GwAll.cut {vs : List V} {lo hi : Option Int} (h : GwAll K H n k vs) : GwAll K H n k (cutV vs lo hi) := h.sub fun x hx => List.mem_of_mem_drop (List.mem_of_mem_take hx)
theorem GwAll.rev {vs : List V} (h : GwAll K H n k vs) : GwAll K H n k vs.reverse := h.sub fun x hx => List.mem_reverse.mp hx
theorem Gw.list {a : Addr} {vs : List V} (h : H a = some (.lst vs)) (g : GwAll K H n k vs) (hl : vs.length ≤ m) (hm : m ≤ 1000) : Gw K H (1 + n * m) (k + 1) (.ref a) := by
  obtain ⟨ds, h1, h2⟩ := g
  have e := h1.len
  refine ⟨.list ds, ⟨a, vs, rfl, h, h1, by omega⟩, Sh.list (fun x hx => (h2 x hx).1) (by omega), ?_⟩
  simp only [slim, Bool.and_eq_true, decide_eq_true_eq]
  exact ⟨by omega, slimAll_iff.mpr fun x hx => (h2 x hx).2⟩
theorem Gw.tup {a : Addr} {vs : List V} (h : H a = some (.tup vs)) (g : GwAll K H n k vs) (hl : vs.length ≤ m) : Gw K H (1 + n * m) (k + 1) (.ref a) := by
  obtain ⟨ds, h1, h2⟩ := g
  have e := h1.len
  exact ⟨.tuple ds, ⟨a, vs, rfl, h, h1⟩, Sh.tuple (fun x hx => (h2 x hx).1) (by omega), slimAll_iff.mpr fun x hx => (h2 x hx).2⟩
theorem Gw.of {v : V} (h : Gd K H n k v) (f : ∀ d, Da K H d v → slim d = true) : Gw K H n k v := by
  obtain ⟨d, h1, h2⟩ := h
  exact ⟨d, h1, h2, f d h1⟩
theorem Gw.non : Gw K H (n + 1) k .non := ⟨.none, rfl, ⟨rfl, rfl, by simp only [nodes]; omega, by simp only [PyData.depth]; omega⟩, rfl⟩
theorem Gw.bl {b : Bool} : Gw K H (n + 1) k (.bl b) := ⟨.bool b, rfl, ⟨rfl, rfl, by simp only [nodes]; omega, by simp only [PyData.depth]; omega⟩, rfl⟩
theorem Gw.int {i : Int} (h : i.natAbs < 10000000000000000000000000000000000000000) : Gw K H (n + 1) k (.int i) :=
  ⟨.int i, rfl, (Sh.int (k := 40) (by decide) (small40 h).1 (small40 h).2).wide (by omega) (by omega), rfl⟩
theorem Gw.str {x : Str} (h : (PyData.shown (.str x)).length ≤ 41) : Gw K H (n + 1) k (.str x) :=
  ⟨.str x, rfl, ⟨rfl, by simpa only [lf, decide_eq_true_eq] using h, by simp only [nodes]; omega, by simp only [PyData.depth]; omega⟩, rfl⟩
theorem Gw.dict0 {a : Addr} (h : H a = some (.dK [])) : Gw K H (n + 1) (k + 1) (.ref a) :=
  ⟨.dict [], ⟨a, [], rfl, h, rfl, rfl⟩, ⟨rfl, rfl, by simp only [nodes, nodesKv]; omega, by simp only [PyData.depth, PyData.depthKv]; omega⟩, rfl⟩
/-- a dict of one int and one int -/
theorem Gw.dict1i {a : Addr} (h : H a = some (.dK [(Sum.inl 0, .int 0)])) : Gw K H (n + 3) (k + 1) (.ref a) := by
  have hs : Sh 41 3 1 (.dict [(.int 0, .int 0)]) := shB_sh (by decide +kernel)
  exact ⟨.dict [(.int 0, .int 0)], ⟨a, _, rfl, h, rfl, _, _, rfl, rfl, rfl⟩, hs.wide (by omega) (by omega), rfl⟩
theorem GwAll.rep {vs : List V} {j : Nat} (h : GwAll K H n k vs) : GwAll K H n k (List.replicate j vs).flatten := h.sub fun x hx => by
  obtain ⟨l, hl, hx⟩ := List.mem_flatten.mp hx
  rw [List.eq_of_mem_replicate hl] at hx
  exact hx
/-- a web's pairs are at most 400 -/
theorem pairs400 {u : Wb} (hu : u.Ok) : u.ps.length ≤ 400 := by
  have z := nodup_lenP (nodup_asc hu.asc) (m := (List.range 400).map fun i => (((i / 20 : Nat) : Int), ((i % 20 : Nat) : Int))) fun p hp => by
    obtain ⟨⟨a, b⟩, c, d⟩ := hu.ps p hp
    have hi := hu.hi
    refine List.mem_map.mpr ⟨p.1.toNat * 20 + p.2.toNat, List.mem_range.mpr (by omega), Prod.ext ?_ ?_⟩
    · show (((p.1.toNat * 20 + p.2.toNat) / 20 : Nat) : Int) = p.1
      omega
    · show (((p.1.toNat * 20 + p.2.toNat) % 20 : Nat) : Int) = p.2
      omega
  rw [List.length_map, List.length_range] at z
  exact z
end
end Nw
/-! How many apart there can be. -/
namespace Nw
open PySem PySem.Spec PyProof.Rows L2
theorem apart_le : ∀ (k : Nat) (l : List Int), l.Nodup → (∀ b ∈ l, 0 ≤ b ∧ b < (k : Int)) → l.length ≤ k
  | 0, l, _, h => by
    cases l with
    | nil => exact Nat.le_refl _
    | cons x r =>
      have := h x (by simp)
      omega
  | k + 1, l, nd, h => by
    have h1 := apart_le k (l.erase (k : Int)) (nd.erase _) fun b hb => by
      have h2 := h b (List.mem_of_mem_erase hb)
      have h3 : b ≠ (k : Int) := fun e => by
        rw [e] at hb
        exact (nd.mem_erase_iff.mp hb).1 rfl
      omega
    rw [List.length_erase] at h1
    split at h1
    · omega
    · omega
theorem apart_few {l : List Int} {n : Int} (nd : l.Nodup) (h : ∀ b ∈ l, 0 ≤ b ∧ b < n) : l.length ≤ n.toNat :=
  apart_le n.toNat l nd fun b hb => by
    have := h b hb
    omega
theorem Cnt.few {ks : List Int} {c : Nat} {n : Int} (h : Cnt (fun j => decide (j ∈ ks)) c) (hk : ∀ k ∈ ks, 0 ≤ k ∧ k < n) : c ≤ n.toNat := by
  obtain ⟨L, nd, hm, rfl⟩ := h
  exact apart_few nd fun b hb => hk b (of_decide_eq_true ((hm b).mp hb))
/-- as many as the list has that is told apart -/
theorem Cnt.of {ks ns : List Int} {c : Nat} (h : Cnt (fun j => decide (j ∈ ks)) c) (nd : ns.Nodup) (hk : ∀ k, k ∈ ns ↔ k ∈ ks) : c = ns.length := by
  obtain ⟨L, nl, hm, rfl⟩ := h
  have hp : L.Perm ns := by
    refine (List.perm_ext_iff_of_nodup nl nd).mpr fun a => ?_
    rw [hm, hk, decide_eq_true_iff]
  exact hp.length_eq
theorem any_pairs {ps : List (Int × Int)} {p : Int × Int} : ((ps.map dPair).any fun z => PyData.eqv z (dPair p)) = ps.contains p := by
  rw [Bool.eq_iff_iff, List.any_map, List.any_eq_true, List.contains_iff_mem]
  constructor
  · rintro ⟨q, hq, h⟩
    have h1 : decide (q = p) = true := by
      rw [← eqv_dPair]
      exact h
    rw [← of_decide_eq_true h1]
    exact hq
  · intro h
    refine ⟨p, h, ?_⟩
    show PyData.eqv (dPair p) (dPair p) = true
    rw [eqv_dPair]
    exact decide_eq_true rfl
end Nw
/-! What is known apart from some lists that may change. -/
namespace Nw
open PySem PySem.Spec PyProof.Rows L2
def mskL (H : Hp) (M : List Addr) : Hp := fun b => if b ∈ M then none else H b
theorem msk_at {H : Hp} {M : List Addr} {b : Addr} (h : b ∉ M) : mskL H M b = H b := if_neg h
theorem msk_no {H : Hp} {M : List Addr} {b : Addr} (h : b ∈ M) : mskL H M b = none := if_pos h
theorem msk_ex {H : Hp} {M : List Addr} : Ex (mskL H M) H := fun b o h => by
  unfold mskL at h
  split at h
  · cases h
  · exact h
theorem Ex.msk {H H' : Hp} {M : List Addr} (e : Ex H H') : Ex (mskL H M) (mskL H' M) := fun b o h => by
  by_cases n : b ∈ M
  · rw [msk_no n] at h
    cases h
  · rw [msk_at n] at h ⊢
    exact e b o h
/-- what was there before those lists -/
theorem msk_old {H H' : Hp} {M : List Addr} (hM : ∀ m ∈ M, H m = none) (e : Ex H H') : Ex H (mskL H' M) := fun b o h => by
  rw [msk_at fun hm => by
    rw [hM b hm] at h
    cases h]
  exact e b o h
/-- only those lists are changed -/
theorem msk_to {H H' : Hp} {M : List Addr} (h : ∀ b o, b ∉ M → H b = some o → H' b = some o) : Ex (mskL H M) H' := fun b o hb => by
  by_cases n : b ∈ M
  · rw [msk_no n] at hb
    cases hb
  · rw [msk_at n] at hb
    exact h b o n hb
theorem pairs_msk {K : PySem.W.Frag} {H : Hp} {M : List Addr} (hM : ∀ m ∈ M, ∃ ys, H m = some (.lst ys)) : ∀ {L : List (Int × Int)} {acc : List V}, DaAll K H (L.map dPair) acc → DaAll K (mskL H M) (L.map dPair) acc
  | [], _, h => h
  | p :: L, acc, h => by
    obtain ⟨x, xs, rfl, ⟨a, ys, rfl, hS, z1, r1, rfl, e1, z2, r2, rfl, e2, rfl⟩, h2⟩ := h
    obtain rfl := e1
    obtain rfl := e2
    refine ⟨_, _, rfl, dPair_of ?_, pairs_msk hM h2⟩
    rw [msk_at fun hm => by
      obtain ⟨zs, hz⟩ := hM a hm
      rw [hz] at hS
      cases hS]
    exact hS
theorem rows_msk {K : PySem.W.Frag} {H H1 H2 : Hp} {M : List Addr} {ns : List (List Int)} {L : Addr} {bs : List Addr} (h : NewR H H1 ns L bs) (e : Ex H1 H2) (hM : ∀ m ∈ M, ∃ o, H m = some o) (h1 : ∀ r ∈ ns, r.length ≤ 100000) (h2 : ns.length ≤ 100000) : Da K (mskL H2 M) (dRows ns) (.ref L) := by
  have off : ∀ b, H b = none → b ∉ M := fun b hb hm => by
    obtain ⟨o, ho⟩ := hM b hm
    rw [hb] at ho
    cases ho
  refine ⟨L, _, rfl, by rw [msk_at (off L h.new)]; exact e _ _ h.at_, rows_of h.len fun k b hb => ?_, by rw [List.length_map]; exact h2⟩
  obtain ⟨n1, r, n2, n3⟩ := h.row k b hb
  exact ⟨r, n2, by rw [msk_at (off b n1.1)]; exact e _ _ n3, h1 r (List.mem_of_getElem? n2)⟩
/-- a list of three -/
def dThree (a b c : PyData) : PyData := .list [a, b, c]
theorem three_of {K : PySem.W.Frag} {H : Hp} {a b c : PyData} {x y z : V} {T : Addr} (h : H T = some (.lst [x, y, z])) (ha : Da K H a x) (hb : Da K H b y) (hc : Da K H c z) : Da K H (dThree a b c) (.ref T) :=
  ⟨T, _, rfl, h, ⟨_, _, rfl, ha, _, _, rfl, hb, _, _, rfl, hc, rfl⟩, by show 3 ≤ 100000; decide⟩
theorem lay_three {a b c : PyData} (ha : a.canLay0 = true) (hb : b.canLay0 = true) (hc : c.canLay0 = true) : (dThree a b c).canLay0 = true := by simp [dThree, PyData.canLay0, PyData.canLayAll0, ha, hb, hc]
end Nw
namespace Nw
open PySem PySem.Spec PyProof.Rows L2
theorem Sh.none : Sh 41 1 0 .none := ⟨by simp only [PyData.showable], by simp only [lf], by simp only [nodes]; omega, by simp only [PyData.depth]; omega⟩
theorem Sh.three {B n k : Nat} {a b c : PyData} (ha : Sh B n k a) (hb : Sh B n k b) (hc : Sh B n k c) : Sh B (1 + n * 3) (k + 1) (dThree a b c) := Sh.list (fun x hx => by
  rcases List.mem_cons.mp hx with rfl | hx
  · exact ha
  rcases List.mem_cons.mp hx with rfl | hx
  · exact hb
  · obtain rfl := List.mem_singleton.mp hx
    exact hc) (by show 3 ≤ 3; decide)
theorem Sh.small {r : List Int} (h : ∀ x ∈ r, 0 ≤ x ∧ x < 64) (hl : r.length ≤ 20) : Sh 41 21 1 (dInts r) :=
  (Sh.ints (k := 40) (m := 20) (by decide) (fun x hx => (small40 (by have := h x hx; omega)).1) (fun x hx => (small40 (by have := h x hx; omega)).2) hl).wide (by decide) (by decide)
theorem Sh.smalls {rs : List (List Int)} (h : ∀ r ∈ rs, r.length ≤ 20 ∧ ∀ x ∈ r, 0 ≤ x ∧ x < 64) (hl : rs.length ≤ 20) : Sh 41 500 2 (dRows rs) := by
  have hs : ∀ r ∈ rs, ∀ x ∈ r, x.natAbs < 10000000000000000000000000000000000000000 := fun r hr x hx => by
    have := (h r hr).2 x hx
    omega
  exact (Sh.rows (k := 40) (m := 20) (j := 20) (by decide) (fun r hr x hx => (small40 (hs r hr x hx)).1) (fun r hr x hx => (small40 (hs r hr x hx)).2) (fun r hr => (h r hr).1) hl).wide (by decide) (by decide)
theorem Sh.pairs {ps : List (Int × Int)} {m : Nat} (h : ∀ p ∈ ps, Sm p.1 ∧ Sm p.2) (hl : ps.length ≤ m) : Sh 41 (1 + 3 * m) 2 (dPairs ps) := Sh.list (fun x hx => by
  obtain ⟨p, hp, rfl⟩ := List.mem_map.mp hx
  exact Sh.pair (h p hp).1 (h p hp).2) (by rw [List.length_map]; exact hl)
end Nw
/-! xs == [], whatever stands in the list. -/
namespace Nw
open PySem PySem.Spec PyProof.Rows L2
def rEqNil (K : PySem.W.Frag) : R2 := fun x y H Q => ∃ a b xs, x = .ref a ∧ y = .ref b ∧ SqL K H a xs ∧ SqL K H b [] ∧ Q (.bl xs.isEmpty) H
theorem op_eqNil {X : Cx} (K : PySem.W.Frag) {k : Nat} (hr : Room k X.A) (hK : X.K = K := by rfl) : OpR X (compareOp .Eq) (rEqNil K) := by
  subst hK
  intro pins s σ H x y v u Q I rx ry h
  obtain ⟨a, b, xs, rfl, rfl, ha, hb, q⟩ := h
  cases rx
  cases ry
  obtain ⟨its, r, p1, _⟩ := I.list ha
  obtain ⟨its2, r2, p2, _⟩ := I.list hb
  cases r2
  have hu : X.A.units < cLine := hr.units0
  obtain ⟨o1, n1, g1, c1, _, d1⟩ := p1
  obtain ⟨o2, n2, g2, c2, _, d2⟩ := p2
  have il : s.heap.IsList a its.toArray := ⟨o1, g1, c1, n1, d1⟩
  have ib : s.heap.IsList b #[] := ⟨o2, g2, c2, n2, d2⟩
  cases r with
  | nil =>
    exact PySem.SeqAt.eq_listAt (e := fun _ => true) il ib rfl hu (fun j h1 _ => by simp at h1) ⟨.bl true, H, I, rfl, q⟩
  | cons r1 rr =>
    exact PySem.SeqAt.eq_list_lengthsAt il ib (by simp) hu ⟨.bl false, H, I, rfl, q⟩
def rNeNil (K : PySem.W.Frag) : R2 := fun x y H Q => ∃ a b xs, x = .ref a ∧ y = .ref b ∧ SqL K H a xs ∧ SqL K H b [] ∧ Q (.bl (!xs.isEmpty)) H
theorem op_neNil {X : Cx} (K : PySem.W.Frag) {k : Nat} (hr : Room k X.A) (hK : X.K = K := by rfl) : OpR X (compareOp .NotEq) (rNeNil K) := by
  subst hK
  intro pins s σ H x y v u Q I rx ry h
  obtain ⟨a, b, xs, rfl, rfl, ha, hb, q⟩ := h
  cases rx
  cases ry
  obtain ⟨its, r, p1, _⟩ := I.list ha
  obtain ⟨its2, r2, p2, _⟩ := I.list hb
  cases r2
  have hu : X.A.units < cLine := hr.units0
  obtain ⟨o1, n1, g1, c1, _, d1⟩ := p1
  obtain ⟨o2, n2, g2, c2, _, d2⟩ := p2
  have il : s.heap.IsList a its.toArray := ⟨o1, g1, c1, n1, d1⟩
  have ib : s.heap.IsList b #[] := ⟨o2, g2, c2, n2, d2⟩
  cases r with
  | nil => exact PySem.SeqAt.RcNeAt.lists (e := fun _ => true) il ib rfl hu (fun j h1 _ => by simp at h1) _ _ _ _ ⟨.bl false, H, I, rfl, q⟩
  | cons r1 rr => exact PySem.SeqAt.RcNeAt.lists_lengths il ib (by simp) hu _ _ _ _ ⟨.bl true, H, I, rfl, q⟩
theorem srcN_le {u : Wb} (hu : u.Ok) : srcN u ≤ 28 := by
  have := hu.hi
  have := hu.few
  unfold srcN
  omega
theorem rgV_iota (n : Int) : rgV 0 n = (iota n).map V.int := by
  unfold rgV iota
  rw [List.map_map, show (n - 0) = n by omega]
  refine List.map_congr_left fun i _ => ?_
  show V.int (0 + (i : Int)) = V.int (i : Int)
  rw [Int.zero_add]
theorem ne_new {H : Hp} {a b : Addr} {o : HO} (h : H a = some o) (h' : H b = none) : a ≠ b := ne_of_none h h'
theorem erase_at : ∀ {l : List Int} {x : Int}, x ∈ l → ∃ j : Nat, l[j]? = some x ∧ (∀ m : Nat, m < j → l[m]? ≠ some x) ∧ l.eraseIdx j = l.erase x
  | [], _, h => by cases h
  | y :: l, x, h => by
    by_cases e : y = x
    · subst e
      refine ⟨0, rfl, fun m hm => by omega, ?_⟩
      simp
    · obtain ⟨j, h1, h2, h3⟩ := erase_at (l := l) (x := x) (by
        rcases List.mem_cons.mp h with h | h
        · exact absurd h.symm e
        · exact h)
      refine ⟨j + 1, h1, fun m hm => ?_, ?_⟩
      · cases m with
        | zero =>
          intro z
          exact e (Option.some.inj z)
        | succ m => exact h2 m (by omega)
      · rw [List.eraseIdx_cons_succ, h3, List.erase_cons_tail (by simpa using e)]
theorem isA_list {d : PyData} : isA "list" d = (match d with | .list _ => true | _ => false) := by
  cases d <;> first | rfl | decide +kernel
theorem rm_upd {H : Hp} {p D : Addr} {o : HO} (h : D ≠ p) : rm (upd H D o) p = upd (rm H p) D o := by
  funext b
  by_cases e : b = D
  · subst e
    rw [rm_ne h, upd_same, upd_same]
  · rw [upd_ne e]
    by_cases n : b = p
    · subst n
      rw [rm_at, rm_at]
    · rw [rm_ne n, rm_ne n, upd_ne e]
/-- pairs outlast what is done to another list, apart from the tap too -/
theorem pairs_wrm {K : PySem.W.Frag} {H : Hp} {p D : Addr} {ys : List V} {o : HO} {L : List (Int × Int)} {acc : List V} (hD : H D = some (.lst ys)) (n : D ≠ p) (h : DaAll K (rm H p) (L.map dPair) acc) : DaAll K (rm (upd H D o) p) (L.map dPair) acc := by
  rw [rm_upd n]
  exact pairs_wr (by rw [rm_ne n]; exact hD) h
end Nw
/-! Flat items of drawn values. -/
namespace Nw
open PySem PySem.Spec PyProof.Rows L2
def FlatV (v : V) : Prop := (∃ b, v = .bl b) ∨ ∃ i : Int, v = .int i ∧ 0 ≤ i ∧ i < 64
theorem flat_snoc {ys : List V} {v : V} (h : ∀ y ∈ ys, FlatV y) (hv : FlatV v) : ∀ y ∈ ys ++ [v], FlatV y := fun y hy => by
  rcases List.mem_append.mp hy with hy | hy
  · exact h y hy
  · rw [List.mem_singleton.mp hy]
    exact hv
theorem gd_flat {K : PySem.W.Frag} {H : Hp} : ∀ {ys : List V}, (∀ y ∈ ys, FlatV y) → GdAll K H 1 0 ys
  | [], _ => GdAll.nil
  | y :: ys, h => GdAll.cons (by
      rcases h y (by simp) with ⟨b, rfl⟩ | ⟨i, rfl, h1, h2⟩
      · exact Gd.bl
      · exact Gd.int (by omega)) (gd_flat fun z hz => h z (List.mem_cons_of_mem _ hz))
theorem gd_ints {K : PySem.W.Frag} {H : Hp} {l : List Int} (h : ∀ x ∈ l, 0 ≤ x ∧ x < 20) : GdAll K H 1 0 (l.map V.int) := gd_flat fun y hy => by
  obtain ⟨x, hx, rfl⟩ := List.mem_map.mp hy
  have := h x hx
  exact .inr ⟨x, rfl, by omega, by omega⟩
theorem small_strF : ∀ n : Fin 64, (PyData.shown (.str (toString (n.val : Int)))).length ≤ 41 ∧ ((n.val : Int)).natAbs.log2 < 1920 := by decide +kernel
theorem small_str {i : Int} (h0 : 0 ≤ i) (h1 : i < 64) : (PyData.shown (.str (toString i))).length ≤ 41 ∧ i.natAbs.log2 < 1920 := by
  have h := small_strF ⟨i.toNat, by omega⟩
  have e : ((i.toNat : Nat) : Int) = i := Int.toNat_of_nonneg h0
  rw [show ((⟨i.toNat, by omega⟩ : Fin 64).val : Int) = i from e] at h
  exact h
theorem gd_lists {K : PySem.W.Frag} {H : Hp} {n d m : Nat} (hm : m ≤ 100000) : ∀ {ys : List V}, (∀ y ∈ ys, ∃ b zs, y = V.ref b ∧ H b = some (.lst zs) ∧ zs.length ≤ m ∧ GdAll K H n d zs) → GdAll K H (1 + n * m) (d + 1) ys
  | [], _ => GdAll.nil
  | y :: ys, h => GdAll.cons (by
      obtain ⟨b, zs, rfl, h1, h2, h3⟩ := h y (by simp)
      exact Gd.list h1 h3 h2 hm) (gd_lists hm fun z hz => h z (List.mem_cons_of_mem _ hz))
end Nw
/-! Steps as sums: what comes to each quantity; sums of states; how great values become. -/
namespace Nw
open PySem PySem.Spec PyProof.Rows L2
/-- what comes to t -/
def inc (vals : List Int) (ls : List NL) (t : Nat) : Int := ((ls.filter fun l => l.1.2.toNat == t).map fun l => l.2 * vals.getD l.1.1.toNat 0).sum
theorem inc_nil (vals : List Int) (t : Nat) : inc vals [] t = 0 := rfl
theorem inc_cons (vals : List Int) (l : NL) (ls : List NL) (t : Nat) : inc vals (l :: ls) t = (if l.1.2.toNat = t then l.2 * vals.getD l.1.1.toNat 0 else 0) + inc vals ls t := by
  unfold inc
  rw [List.filter_cons]
  by_cases h : l.1.2.toNat = t
  · rw [if_pos (by simpa using h), if_pos h, List.map_cons, List.sum_cons]
  · rw [if_neg (by simpa using h), if_neg h, Int.zero_add]
theorem inc_app (vals : List Int) : ∀ (ls ms : List NL) (t : Nat), inc vals (ls ++ ms) t = inc vals ls t + inc vals ms t
  | [], ms, t => by rw [List.nil_append, inc_nil, Int.zero_add]
  | l :: ls, ms, t => by rw [List.cons_append, inc_cons, inc_cons, inc_app vals ls ms t, Int.add_assoc]
theorem getD_set {l : List Int} {i t : Nat} {x : Int} (ht : t < l.length) : (l.set i x).getD t 0 = if i = t then x else l.getD t 0 := by
  rw [List.getD_eq_getElem?_getD, List.getD_eq_getElem?_getD, List.getElem?_set]
  by_cases h : i = t
  · subst h
    rw [if_pos rfl, if_pos rfl, if_pos ht]
    rfl
  · rw [if_neg h, if_neg h]
theorem stp_len (vals acc : List Int) (l : NL) : (stp vals acc l).length = acc.length := by
  unfold stp
  rw [List.length_set]
theorem mvs_get (vals : List Int) : ∀ (ls : List NL) (acc : List Int) (t : Nat), t < acc.length → (mvs vals ls acc).getD t 0 = acc.getD t 0 + inc vals ls t
  | [], acc, t, _ => by
    rw [inc_nil, Int.add_zero]
    rfl
  | l :: ls, acc, t, h => by
    show (mvs vals ls (stp vals acc l)).getD t 0 = _
    rw [mvs_get vals ls (stp vals acc l) t (by rw [stp_len]; exact h), inc_cons]
    unfold stp
    rw [getD_set h]
    by_cases e : l.1.2.toNat = t
    · rw [if_pos e, if_pos e, e, Int.add_assoc]
    · rw [if_neg e, if_neg e, Int.zero_add]
theorem getD_rep (n i : Nat) : (List.replicate n (0 : Int)).getD i 0 = 0 := by
  rw [List.getD_eq_getElem?_getD, List.getElem?_replicate]
  by_cases h : i < n
  · rw [if_pos h]
    rfl
  · rw [if_neg h]
    rfl
theorem mv_get {n : Nat} {ls : List NL} {vals : List Int} {t : Nat} (h : t < n) : (mv n ls vals).getD t 0 = inc vals ls t := by
  unfold mv
  rw [mvs_get vals ls _ t (by rw [List.length_replicate]; exact h), getD_rep, Int.zero_add]
theorem getD_ge {l : List Int} {i : Nat} (h : l.length ≤ i) : l.getD i 0 = 0 := by
  rw [List.getD_eq_getElem?_getD, List.getElem?_eq_none h]
  rfl
theorem ext_getD {a b : List Int} (hl : a.length = b.length) (h : ∀ i, i < a.length → a.getD i 0 = b.getD i 0) : a = b := by
  refine List.ext_getElem hl fun i h1 h2 => ?_
  have := h i h1
  rw [List.getD_eq_getElem?_getD, List.getD_eq_getElem?_getD, List.getElem?_eq_getElem h1, List.getElem?_eq_getElem h2] at this
  exact this
theorem inc_congr {a b : List Int} {ls : List NL} {t : Nat} (h : ∀ l ∈ ls, a.getD l.1.1.toNat 0 = b.getD l.1.1.toNat 0) : inc a ls t = inc b ls t := by
  unfold inc
  congr 1
  refine List.map_congr_left fun l hl => ?_
  rw [h l (List.mem_filter.mp hl).1]
theorem inc_add {a b c : List Int} : ∀ {ls : List NL} {t : Nat}, (∀ i, c.getD i 0 = a.getD i 0 + b.getD i 0) → inc c ls t = inc a ls t + inc b ls t
  | [], t, _ => rfl
  | l :: ls, t, h => by
    rw [inc_cons, inc_cons, inc_cons, inc_add h]
    by_cases e : l.1.2.toNat = t
    · rw [if_pos e, if_pos e, if_pos e, h, Int.mul_add]
      omega
    · rw [if_neg e, if_neg e, if_neg e]
      omega
theorem inc_mul {a c : List Int} {k : Int} : ∀ {ls : List NL} {t : Nat}, (∀ i, c.getD i 0 = k * a.getD i 0) → inc c ls t = k * inc a ls t
  | [], t, _ => by rw [inc_nil, inc_nil, Int.mul_zero]
  | l :: ls, t, h => by
    rw [inc_cons, inc_cons, inc_mul h, Int.mul_add]
    by_cases e : l.1.2.toNat = t
    · rw [if_pos e, if_pos e, h, Int.mul_left_comm]
    · rw [if_neg e, if_neg e, Int.mul_zero]
/-- item by item -/
def addL (a b : List Int) : List Int := List.zipWith (· + ·) a b
theorem addL_len {a b : List Int} (h : a.length = b.length) : (addL a b).length = a.length := by
  unfold addL
  rw [List.length_zipWith, ← h, Nat.min_self]
theorem addL_get {a b : List Int} (h : a.length = b.length) (i : Nat) : (addL a b).getD i 0 = a.getD i 0 + b.getD i 0 := by
  by_cases hi : i < a.length
  · unfold addL
    rw [List.getD_eq_getElem?_getD, List.getD_eq_getElem?_getD, List.getD_eq_getElem?_getD, List.getElem?_zipWith, List.getElem?_eq_getElem hi, List.getElem?_eq_getElem (show i < b.length by omega)]
    rfl
  · rw [getD_ge (by rw [addL_len h]; omega), getD_ge (by omega), getD_ge (by omega)]
    rfl
theorem getD_app_rep (a : List Int) (n i : Nat) : (a ++ List.replicate n 0).getD i 0 = a.getD i 0 := by
  by_cases h : i < a.length
  · rw [List.getD_eq_getElem?_getD, List.getD_eq_getElem?_getD, List.getElem?_append_left h]
  · rw [getD_ge (l := a) (by omega), List.getD_eq_getElem?_getD, List.getElem?_append_right (by omega), ← List.getD_eq_getElem?_getD]
    exact getD_rep _ _
theorem abs_sum_le {M : Int} (hM : 0 ≤ M) : ∀ {xs : List Int}, (∀ x ∈ xs, Bd M x) → Bd ((xs.length : Int) * M) xs.sum
  | [], _ => by
    rw [List.length_nil, List.sum_nil]
    refine ⟨?_, ?_⟩ <;> omega
  | x :: xs, h => by
    have ih := abs_sum_le hM (xs := xs) fun y hy => h y (List.mem_cons_of_mem _ hy)
    have hx := h x List.mem_cons_self
    rw [List.length_cons, List.sum_cons, Int.natCast_add, Int.add_mul]
    obtain ⟨a, b⟩ := ih
    obtain ⟨c, d⟩ := hx
    have e : ((1 : Nat) : Int) * M = M := Int.one_mul M
    rw [e]
    exact ⟨by omega, by omega⟩
theorem bd_getD {l : List Int} {M : Int} (h : ∀ x ∈ l, Bd M x) (hM : 0 ≤ M) (i : Nat) : Bd M (l.getD i 0) := by
  by_cases hi : i < l.length
  · rw [List.getD_eq_getElem?_getD, List.getElem?_eq_getElem hi]
    exact h _ (List.getElem_mem hi)
  · rw [getD_ge (by omega)]
    exact ⟨by omega, hM⟩
/-- the lines of pairs that lead to t are at most 20 -/
theorem pairs_to {u : Wb} (hu : u.Ok) (xs : List Int) (t : Nat) : ((u.ps.zip xs).filter fun l => l.1.2.toNat == t).length ≤ 20 := by
  have hn : ((u.ps.filter fun p => p.2.toNat == t).map (·.1)).Nodup := by
    have h1 : u.ps.Nodup := nodup_asc hu.asc
    have h2 := (h1.filter fun p => p.2.toNat == t)
    rw [List.nodup_iff_pairwise_ne, List.pairwise_map]
    refine (List.nodup_iff_pairwise_ne.mp h2).imp_of_mem fun {p q} hp hq hne e => hne ?_
    obtain ⟨p1, p2⟩ := List.mem_filter.mp hp
    obtain ⟨q1, q2⟩ := List.mem_filter.mp hq
    have a := hu.ps p p1
    have b := hu.ps q q1
    have c : p.2.toNat = t := by simpa using p2
    have d : q.2.toNat = t := by simpa using q2
    exact Prod.ext e (by omega)
  have hle := apart_few (n := u.n) hn fun b hb => by
    obtain ⟨p, hp, rfl⟩ := List.mem_map.mp hb
    exact (hu.ps p (List.mem_filter.mp hp).1).1
  have h3 : ∀ (ps : List (Int × Int)) (xs : List Int), ((ps.zip xs).filter fun l => l.1.2.toNat == t).length ≤ (ps.filter fun p => p.2.toNat == t).length := by
    intro ps
    induction ps with
    | nil => intro xs; exact Nat.le_refl _
    | cons p ps ih =>
      intro xs
      cases xs with
      | nil => exact Nat.zero_le _
      | cons x xs =>
        rw [List.zip_cons_cons, List.filter_cons, List.filter_cons]
        have := ih xs
        by_cases h : p.2.toNat = t
        · rw [if_pos (by simpa using h), if_pos (by simpa using h), List.length_cons, List.length_cons]
          omega
        · rw [if_neg (by simpa using h), if_neg (by simpa using h)]
          exact this
  have := h3 u.ps xs
  rw [List.length_map] at hle
  have := hu.hi
  omega
theorem nlFrom_src {n : Int} : ∀ {i : Nat} {rs ss : List (List Int)} {l : NL}, l ∈ nlFrom n i rs ss → n ≤ l.1.1
  | i, [], ss, l, h => by
    cases ss <;> cases h
  | i, r :: rs, [], l, h => by cases h
  | i, r :: rs, s :: ss, l, h => by
    rcases List.mem_append.mp h with h | h
    · have h1 := (List.of_mem_zip (a := l.1) (b := l.2) h).1
      unfold pushedAt at h1
      obtain ⟨x, _, e⟩ := List.mem_map.mp h1
      rw [← e]
      show n ≤ n + (i : Int)
      omega
    · exact nlFrom_src h
/-- nothing is pushed: only pairs count -/
theorem inc_still {u : Wb} {f : Fl} (hu : u.Ok) (hok : f.Ok u) {st : List Int} (hl : (st.length : Int) = u.n) (m t : Nat) :
    inc (st ++ List.replicate m 0) (nl u f) t = inc st (u.ps.zip f.xs) t := by
  rw [hok.nl, inc_app]
  have h1 : inc (st ++ List.replicate m 0) (u.ps.zip f.xs) t = inc st (u.ps.zip f.xs) t := inc_congr fun l _ => getD_app_rep _ _ _
  have h2 : inc (st ++ List.replicate m 0) (nlFrom u.n 0 u.ns f.ss) t = 0 := by
    unfold inc
    have hz : ((nlFrom u.n 0 u.ns f.ss).filter fun l => l.1.2.toNat == t).map (fun l => l.2 * (st ++ List.replicate m 0).getD l.1.1.toNat 0) = ((nlFrom u.n 0 u.ns f.ss).filter fun l => l.1.2.toNat == t).map fun _ => 0 := by
      refine List.map_congr_left fun l hl' => ?_
      have := nlFrom_src (List.mem_filter.mp hl').1
      rw [getD_app_rep, getD_ge (by omega), Int.mul_zero]
    rw [hz]
    generalize (nlFrom u.n 0 u.ns f.ss).filter (fun l => l.1.2.toNat == t) = q
    induction q with
    | nil => rfl
    | cons a q ih =>
      rw [List.map_cons, List.sum_cons, ih]
      rfl
  rw [h1, h2, Int.add_zero]
theorem inc_bd {u : Wb} {f : Fl} (hu : u.Ok) (hok : f.Ok u) {st : List Int} {M : Int} (hM : 0 ≤ M) (h : ∀ x ∈ st, Bd M x) (t : Nat) : Bd (20000000 * M) (inc st (u.ps.zip f.xs) t) := by
  unfold inc
  have h1 := abs_sum_le (M := 1000000 * M) (by omega) (xs := ((u.ps.zip f.xs).filter fun l => l.1.2.toNat == t).map fun l => l.2 * st.getD l.1.1.toNat 0) fun x hx => by
    obtain ⟨l, hl, rfl⟩ := List.mem_map.mp hx
    have h3 := (hok.num l.2 (List.of_mem_zip (a := l.1) (b := l.2) (List.mem_filter.mp hl).1).2).2
    exact bd_mul h3 (bd_getD h hM _) hM
  rw [List.length_map] at h1
  have h2 := pairs_to hu f.xs t
  generalize ((u.ps.zip f.xs).filter fun l => l.1.2.toNat == t).length = k at h1 h2
  have h4 : (k : Int) * (1000000 * M) ≤ 20 * (1000000 * M) := Int.mul_le_mul_of_nonneg_right (by omega) (by omega)
  refine h1.mono ?_
  omega
/-! a web with a filling, as data -/
theorem dep_fl (f : Fl) : f.d.depth ≤ 3 := by
  have h1 := dep_dInts f.xs
  have h2 := dep_dRows f.ss
  simp [Fl.d, PyData.depth, PyData.depthAll]
  omega
theorem sh_fl (f : Fl) : SeqAt.shaped f.d = true := shaped_of (lay_fl f) (by have := dep_fl f; omega)
theorem Da.fl {K : PySem.W.Frag} {H : Hp} {f : Fl} {v : V} (h : Da K H f.d v) : Dp K H v f.d := h.dp _ _ (nd_of_lay (lay_fl f))
theorem eqv_fl (f g : Fl) : PyData.eqv f.d g.d = decide (f = g) := by
  unfold Fl.d
  cases f
  cases g
  simp only [PyData.eqv, PyData.eqvAll, eqv_dInts, eqv_dRows, Bool.and_true, Fl.mk.injEq]
  rw [Bool.eq_iff_iff, Bool.and_eq_true, decide_eq_true_eq, decide_eq_true_eq, decide_eq_true_eq]
def dWF (u : Wb) (f : Fl) : PyData := .tuple [u.d, f.d]
theorem lay_wf (u : Wb) (f : Fl) : (dWF u f).canLay0 = true := by simp [dWF, PyData.canLay0, PyData.canLayAll0, lay_web, lay_fl]
theorem sh_wf (u : Wb) (f : Fl) : SeqAt.shaped (dWF u f) = true := shaped_of (lay_wf u f) (by
  have h1 := dep_web u
  have h2 := dep_fl f
  simp [dWF, PyData.depth, PyData.depthAll]
  omega)
theorem eqv_wf (u w : Wb) (f g : Fl) : PyData.eqv (dWF u f) (dWF w g) = decide (u = w ∧ f = g) := by
  unfold dWF
  simp only [PyData.eqv, PyData.eqvAll, eqv_web, eqv_fl, Bool.and_true]
  rw [Bool.eq_iff_iff, Bool.and_eq_true, decide_eq_true_eq, decide_eq_true_eq, decide_eq_true_eq]
theorem Da.wf {K : PySem.W.Frag} {H : Hp} {u : Wb} {f : Fl} {v : V} (h : Da K H (dWF u f) v) : Dp K H v (dWF u f) := h.dp _ _ (nd_of_lay (lay_wf u f))
theorem wf_of {K : PySem.W.Frag} {H : Hp} {u : Wb} {f : Fl} {T : Addr} {y z : V} (h : H T = some (.tup [y, z])) (h1 : Da K H u.d y) (h2 : Da K H f.d z) : Da K H (dWF u f) (.ref T) :=
  ⟨T, _, rfl, h, _, _, rfl, h1, _, _, rfl, h2, rfl⟩
theorem addL_zip : ∀ {a b : List Int}, (a.zip b).map (fun z => z.1 + z.2) = addL a b
  | [], b => by cases b <;> rfl
  | x :: a, [] => rfl
  | x :: a, y :: b => by
    show (x + y) :: (a.zip b).map (fun z => z.1 + z.2) = (x + y) :: addL a b
    rw [addL_zip]
end Nw
namespace K36
open PySem PySem.Spec PyProof.Rows L2 Nw
def topS (i : Nat) : Stmt := PySem.Challenge.pw_nudgewebs_k36_shown_step_by_step.main.body.getD i (.Pass ⟨0, 0, 0, 0⟩)
structure Txt (K : PySem.W.Frag) (mg : Str → Option Value) : Prop where
  b_isinstance : mg "isinstance" = none
  b_len : mg "len" = none
  b_all : mg "all" = none
  b_sum : mg "sum" = none
  b_repr : mg "repr" = none
  b_abs : mg "abs" = none
  b_max : mg "max" = none
  b_min : mg "min" = none
  b_sorted : mg "sorted" = none
  b_int : mg "int" = none
  b_bool : mg "bool" = none
  b_list : mg "list" = none
  b_tuple : mg "tuple" = none
  b_set : mg "set" = none
  b_range : mg "range" = none
  b_enumerate : mg "enumerate" = none
  b_zip : mg "zip" = none
  c_MOST_QUANTITIES : ∃ t, mg "MOST_QUANTITIES" = some (.int 20 t)
  c_MOST_NUDGES : ∃ t, mg "MOST_NUDGES" = some (.int 8 t)
  c_MOST_ROWS : ∃ t, mg "MOST_ROWS" = some (.int 60 t)
  c_GREATEST_NUMBER : ∃ t, mg "GREATEST_NUMBER" = some (.int 1000000 t)
/-! is_integer: slots 0 value -/
abbrev s_is_integer : Stmt := topS 11
abbrev N_is_integer : List Str := ["value"]
abbrev P_is_integer : List Str := ["value"]
theorem sc_is_integer : FnScope N_is_integer P_is_integer (defScope s_is_integer) := ⟨rfl, rfl, rfl, by decide +kernel, rfl, by decide +kernel, by decide +kernel⟩
def sp_is_integer (K : PySem.W.Frag) : Sp := fun vs H Q _ => ∃ v d, vs = [v] ∧ Da K H d v ∧ Q (.bl (isInt d)) H
section
variable {P : Program} {w : World} {K : PySem.W.Frag} {mg : Str → Option Value} {base : Heap}
theorem ok_is_integer {f : Addr} {fd : FuncData} (T : Txt K mg) (F : Fun K "is_integer" "is_integer" s_is_integer f fd) :
    FnG P w K mg base CX0 1 f fd P_is_integer (sp_is_integer K) := by
  refine okG0 F sc_is_integer (fun vs H Q E h => ?_) (fun cdv A outer s H vs Q E hr hq h => ?_)
  · obtain ⟨v, d, rfl, _⟩ := h
    rfl
  · obtain ⟨v, d, rfl, hd, q⟩ := h
    refine ⟨_, (pss_one (ps_ret (pe_and (pe_callB (call_isiK K) (by rfl) T.b_isinstance bt_isinstance (pa_cons (pv 0) (pa_cons (pe_bty T.b_int bt_int) pa_nil))) (pe_one (pe_not (pe_callB (call_isiK K) (by rfl) T.b_isinstance bt_isinstance (pa_cons (pv 0) (pa_cons (pe_bty T.b_bool bt_bool) pa_nil)))))))), ?_⟩
    refine ⟨_, rfl, _, _, _, _, _, rfl, .ty _, hd.ty, isa_int d, _, rfl, ?_⟩
    rw [← isInt_eq] at q
    refine ite2 (fun h1 => ?_) (fun h1 => ?_)
    · refine ⟨_, rfl, _, _, _, _, _, rfl, .ty _, hd.ty, isa_bool d, _, rfl, ?_⟩
      rw [h1, Bool.true_and] at q
      exact q
    · rw [Bool.not_eq_true] at h1
      rw [h1, Bool.false_and] at q
      exact q
end

/-! is_number_below: slots 0 value, 1 limit -/
abbrev s_is_number_below : Stmt := topS 12
abbrev N_is_number_below : List Str := ["value", "limit"]
abbrev P_is_number_below : List Str := ["value", "limit"]
theorem sc_is_number_below : FnScope N_is_number_below P_is_number_below (defScope s_is_number_below) := ⟨rfl, rfl, rfl, by decide +kernel, rfl, by decide +kernel, by decide +kernel⟩
def sp_is_number_below (K : PySem.W.Frag) : Sp := fun vs H Q _ => ∃ v d m, vs = [v, .int m] ∧ Da K H d v ∧ Q (.bl (numB d m)) H
section
variable {P : Program} {w : World} {K : PySem.W.Frag} {mg : Str → Option Value} {base : Heap}
theorem ok_is_number_below {f : Addr} {fd : FuncData} (T : Txt K mg) (F : Fun K "is_number_below" "is_number_below" s_is_number_below f fd)
    (D_is_integer : DefOk P w K mg base CX0 1 "is_integer" P_is_integer (sp_is_integer K)) :
    FnG P w K mg base CX0 2 f fd P_is_number_below (sp_is_number_below K) := by
  refine okG0 F sc_is_number_below (fun vs H Q E h => ?_) (fun cdv A outer s H vs Q E hr hq h => ?_)
  · obtain ⟨v, d, m, rfl, _⟩ := h
    rfl
  · obtain ⟨v, d, m, rfl, hd, q⟩ := h
    refine ⟨_, (pss_one (ps_ret (pe_and (pe_callD D_is_integer (hr.mono (by decide)) hq pass0 (pa_cons (pv 0) pa_nil)) (pe_one (pe_chain op_le op_lt pe_int (pv 0) (pv 1)))))), ?_⟩
    refine ⟨_, rfl, _, _, rfl, hd, _, rfl, ?_⟩
    cases d with
    | int i =>
      obtain rfl := hd
      refine ⟨_, rfl, _, _, rfl, rfl, _, rfl, ?_⟩
      refine ite2 (fun h1 => ?_) (fun h1 => ?_)
      · refine ⟨_, rfl, _, _, rfl, rfl, ?_⟩
        simp only [numB, h1, Bool.true_and] at q
        exact q
      · rw [Bool.not_eq_true] at h1
        simp only [numB, h1, Bool.false_and] at q
        exact q
    | _ => exact q
end

/-! is_tuple_below: slots 0 value, 1 first_limit, 2 second_limit -/
abbrev s_is_tuple_below : Stmt := topS 13
abbrev N_is_tuple_below : List Str := ["value", "first_limit", "second_limit"]
abbrev P_is_tuple_below : List Str := ["value", "first_limit", "second_limit"]
theorem sc_is_tuple_below : FnScope N_is_tuple_below P_is_tuple_below (defScope s_is_tuple_below) := ⟨rfl, rfl, rfl, by decide +kernel, rfl, by decide +kernel, by decide +kernel⟩
def sp_is_tuple_below (K : PySem.W.Frag) : Sp := fun vs H Q _ => ∃ v d m n, vs = [v, .int m, .int n] ∧ Da K H d v ∧ Q (.bl (tupB d m n)) H
section
variable {P : Program} {w : World} {K : PySem.W.Frag} {mg : Str → Option Value} {base : Heap}
theorem ok_is_tuple_below {f : Addr} {fd : FuncData} (T : Txt K mg) (F : Fun K "is_tuple_below" "is_tuple_below" s_is_tuple_below f fd)
    (D_is_number_below : DefOk P w K mg base CX0 2 "is_number_below" P_is_number_below (sp_is_number_below K)) :
    FnG P w K mg base CX0 3 f fd P_is_tuple_below (sp_is_tuple_below K) := by
  refine okG0 F sc_is_tuple_below (fun vs H Q E h => ?_) (fun cdv A outer s H vs Q E hr hq h => ?_)
  · obtain ⟨v, d, m, n, rfl, _⟩ := h
    rfl
  · obtain ⟨v, d, m, n, rfl, hd, q⟩ := h
    refine ⟨_, (pss_cons (ps_if (PW.pt (pw_or (pt_not (pt_val (pe_callB (call_isiK K) (by rfl) T.b_isinstance bt_isinstance (pa_cons (pv 0) (pa_cons (pe_bty T.b_tuple bt_tuple) pa_nil))))) (pw_or1 (pt_cmpR op_ne (pe_callB (call_lenK K) (by rfl) T.b_len bt_len (pa_cons (pv 0) pa_nil)) pe_int (nomark _))))) (pss_one (ps_ret pe_bl)) pss_nil)
      (pss_one (ps_ret (pe_and (pe_callD D_is_number_below (hr.mono (by decide)) hq pass0 (pa_cons (pe_ix (ix_seqK K) (pv 0) pe_int (fun _ _ => rfl)) (pa_cons (pv 1) pa_nil))) (pe_one (pe_callD D_is_number_below (hr.mono (by decide)) hq pass0 (pa_cons (pe_ix (ix_seqK K) (pv 0) pe_int (fun _ _ => rfl)) (pa_cons (pv 2) pa_nil)))))))), ?_⟩
    refine ⟨_, rfl, _, _, _, _, _, rfl, .ty _, hd.ty, isa_tuple d, _, rfl, ?_⟩
    cases d with
    | tuple ds =>
      obtain ⟨a, xs, rfl, hS0, hA⟩ := hd
      have hS : SqT K _ a xs := .inl (.inl hS0)
      have hl := hA.len
      refine ⟨_, rfl, a, _, rfl, .inr hS, rfl, _, rfl, ?_⟩
      refine ite2 (fun h1 => ?_) (fun h1 => ?_)
      · have e : tupB (.tuple ds) m n = false := by
          unfold tupB
          split
          · rename_i heq
            cases heq
            rw [← hl] at h1
            simp at h1
          · rfl
        rw [e] at q
        exact q
      · have h2 : ds.length = 2 := by
          simp at h1
          omega
        obtain ⟨d1, d2, rfl⟩ : ∃ d1 d2, ds = [d1, d2] := by
          match ds, h2 with
          | [d1, d2], _ => exact ⟨d1, d2, rfl⟩
        obtain ⟨x1, r1, rfl, g1, x2, r2, rfl, g2, rfl⟩ := hA
        refine ⟨_, rfl, .inr (.inl ⟨a, _, 0, x1, rfl, rfl, hS, rfl, _, rfl, _, _, _, rfl, g1, _, rfl, ?_⟩)⟩
        refine ite2 (fun h3 => ?_) (fun h3 => ?_)
        · refine ⟨_, rfl, .inr (.inl ⟨a, _, 1, x2, rfl, rfl, hS, rfl, _, rfl, _, _, _, rfl, g2, ?_⟩)⟩
          simp only [tupB, h3, Bool.true_and] at q
          exact q
        · rw [Bool.not_eq_true] at h3
          simp only [tupB, h3, Bool.false_and] at q
          exact q
    | _ => exact q
end

/-! are_below: slots 0 value, 1 limit, 2 one -/
abbrev s_are_below : Stmt := topS 14
abbrev N_are_below : List Str := ["value", "limit", "one"]
abbrev P_are_below : List Str := ["value", "limit"]
theorem sc_are_below : FnScope N_are_below P_are_below (defScope s_are_below) := ⟨rfl, rfl, rfl, by decide +kernel, rfl, by decide +kernel, by decide +kernel⟩
def sp_are_below (K : PySem.W.Frag) : Sp := fun vs H Q _ => ∃ v d m, vs = [v, .int m] ∧ Da K H d v ∧ ∀ H', Ex H H' → Q (.bl (listB d m)) H'
section
variable {P : Program} {w : World} {K : PySem.W.Frag} {mg : Str → Option Value} {base : Heap}
theorem ok_are_below {f : Addr} {fd : FuncData} (T : Txt K mg) (F : Fun K "are_below" "are_below" s_are_below f fd)
    (D_is_number_below : DefOk P w K mg base CX0 2 "is_number_below" P_is_number_below (sp_is_number_below K)) :
    FnG P w K mg base CX0 3 f fd P_are_below (sp_are_below K) := by
  refine okG0 F sc_are_below (fun vs H Q E h => ?_) (fun cdv A outer s H vs Q E hr hq h => ?_)
  · obtain ⟨v, d, m, rfl, _⟩ := h
    rfl
  · obtain ⟨v, d, m, rfl, hd, q⟩ := h
    refine ⟨_, (pss_one (ps_ret (pe_and (pe_callB (call_isiK K) (by rfl) T.b_isinstance bt_isinstance (pa_cons (pv 0) (pa_cons (pe_bty T.b_list bt_list) pa_nil))) (pe_one (pe_callB (cr_allK K rfl) (by rfl) T.b_all bt_all (pa_cons (pe_lc (own := [("one", 2)]) rfl sc_are_below.nd (pi_listK K (pv 0)) (blkOk_by (N := N_are_below) (sc := defScope s_are_below) (by decide +kernel)) (fun _ _ _ _ _ => (pg_name (i := 2) sc_are_below.nd rfl (by first | exact .inl rfl | exact .inr rfl))) (fun _ _ _ _ _ => pts_nil) (fun _ _ _ _ _ => (pe_callD D_is_number_below (hr.mono (by decide)) hq pass0 (pa_cons (pv 2) (pa_cons (pv 1) pa_nil))))) pa_nil)))))), ?_⟩
    refine ⟨_, rfl, _, _, _, _, _, rfl, .ty _, hd.ty, isa_list d, _, rfl, ?_⟩
    cases d with
    | list ds =>
      obtain ⟨a, xs, rfl, hS0, hA, hz⟩ := hd
      have hS : SqL K _ a xs := .inl (.inl hS0)
      have hl := hA.len
      refine ⟨_, rfl, a, rfl, ⟨_, hS⟩, fun D hD => ?_⟩
      refine lc_ev xs.length (fun _ => true) (fun i y _ => y = .bl (numB (ds.getD i .none) m)) (by omega) hD (fun _ _ _ _ _ h => h)
        (fun i H' hi e => itl_go hS e hi) (fun H' e => itl_stop hS e) ?_ ?_
      · intro i H' x H'' hi e _ y Q' N' hQ _
        obtain ⟨rfl, hx⟩ := itl_yld y hS e
        obtain ⟨d, hd, hx'⟩ := hA.at' hx
        refine ⟨rfl, _, rfl, _, rfl, _, _, _, rfl, hx'.up e, ?_⟩
        refine hQ rfl _ _ Ex.rfl ?_
        rw [List.getD_eq_getElem?_getD, hd]
        rfl
      · intro ys H' e hy gv
        refine ⟨D, (List.range xs.length).map fun i => numB (ds.getD i .none) m, rfl, .inl (.inl ?_), ?_⟩
        · rw [hy, gv.all, given_bl]
        · rw [← hl, all_range_get (fun d => numB d m) .none ds]
          exact q _ e
    | _ => exact q _ Ex.rfl
end

/-! are_ascending: slots 0 values, 1 one, 2 following -/
abbrev s_are_ascending : Stmt := topS 15
abbrev N_are_ascending : List Str := ["values", "one", "following"]
abbrev P_are_ascending : List Str := ["values"]
theorem sc_are_ascending : FnScope N_are_ascending P_are_ascending (defScope s_are_ascending) := ⟨rfl, rfl, rfl, by decide +kernel, rfl, by decide +kernel, by decide +kernel⟩
def sp_are_ascending (K : PySem.W.Frag) : Sp := fun vs H Q _ => ∃ v, vs = [v] ∧
  ((∃ ns : List Int, Da K H (.list (ns.map PyData.int)) v ∧ ∀ H', Ex H H' → Q (.bl (ascB ltIn ns)) H') ∨
   (∃ ps : List (Int × Int), Da K H (.list (ps.map dPair)) v ∧ ∀ H', Ex H H' → Q (.bl (ascB ltPr ps)) H'))
section
variable {P : Program} {w : World} {K : PySem.W.Frag} {mg : Str → Option Value} {base : Heap}
theorem ok_are_ascending {f : Addr} {fd : FuncData} (T : Txt K mg) (F : Fun K "are_ascending" "are_ascending" s_are_ascending f fd) :
    FnG P w K mg base CX0 1 f fd P_are_ascending (sp_are_ascending K) := by
  refine okG0 F sc_are_ascending (fun vs H Q E h => ?_) (fun cdv A outer s H vs Q E hr hq h => ?_)
  · obtain ⟨v, rfl, _⟩ := h
    rfl
  · obtain ⟨v, rfl, h⟩ := h
    refine ⟨_, (pss_one (ps_ret (pe_callB (cr_allK K rfl) (by rfl) T.b_all bt_all (pa_cons (pe_lc (own := [("one", 1), ("following", 2)]) rfl sc_are_ascending.nd (pi_zip (by rfl) T.b_zip (pa_cons (pv 0) (pa_cons (pe_slice (sl_listK K) (pv 0) (po_some pe_int) po_none) pa_nil))) (blkOk_by (N := N_are_ascending) (sc := defScope s_are_ascending) (by decide +kernel)) (fun _ _ _ _ _ => (pg_tupK (n := 2) K rfl (pgs_cons (pg_name (i := 1) sc_are_ascending.nd rfl (by first | exact .inl rfl | exact .inr rfl)) (pgs_cons (pg_name (i := 2) sc_are_ascending.nd rfl (by first | exact .inl rfl | exact .inr rfl)) pgs_nil)))) (fun _ _ _ _ _ => pts_nil) (fun _ _ _ _ _ => (pe_cmpR (op_ltA K hr.units0) (pv 1) (pv 2) (nomark _)))) pa_nil)))), ?_⟩
    rcases h with ⟨ns, ⟨a, xs, rfl, hS0, hA, hz⟩, q⟩ | ⟨ps, ⟨a, xs, rfl, hS0, hA, hz⟩, q⟩
    · obtain rfl := DaAll.ints.mp hA
      have hS : SqL K _ a (ns.map V.int) := .inl (.inl hS0)
      rw [List.length_map] at hz
      refine ⟨_, rfl, .ref a, rfl, 1, rfl, a, _, rfl, hS, fun p hp => ?_⟩
      have hS' := (Ex.nw (o := .lst (cutV (ns.map V.int) (some 1) none)) hp).l hS
      have hC : SqL K (upd H p (.lst (cutV (ns.map V.int) (some 1) none))) p ((ns.map V.int).drop 1) := .inl (.inl (by rw [upd_same, cut1]))
      refine ⟨a, p, _, _, rfl, hS', hC, fun D hD => ?_⟩
      refine lc_ev (min (ns.map V.int).length ((ns.map V.int).drop 1).length) (fun _ => true) (fun i y _ => y = .bl (ascAt ltIn ns i)) (by rw [List.length_map]; omega) hD
        (fun _ _ _ _ _ h => h) (fun i H' hi e => itz_go hS' hC e hi) (fun H' e => itz_stop hS' hC e) ?_ ?_
      · rintro i H' x H'' hi e _ ⟨T', x1, x2, rfl, hT, rfl, h1, h2⟩ Q' N' hQ _
        obtain ⟨n1, g1, rfl⟩ := map_at (h1 _ (e.l hS'))
        obtain ⟨n2, g2, rfl⟩ := map_at (drop1_at (h2 _ (e.l hC)))
        refine ⟨T', _, rfl, .inl (.inl upd_same), rfl, _, _, rfl, _, _, rfl, rfl, rfl, _, rfl, _, rfl, .inl ⟨_, _, rfl, rfl, hQ rfl _ _ (Ex.nw hT) ?_⟩⟩
        show V.bl (decide (n1 < n2)) = V.bl (ascAt ltIn ns i)
        simp only [ascAt, g1, g2, ltIn]
      · intro ys H' e hy gv
        refine ⟨D, (List.range (min (ns.map V.int).length ((ns.map V.int).drop 1).length)).map fun i => ascAt ltIn ns i, rfl, .inl (.inl ?_), ?_⟩
        · rw [hy, gv.all, given_bl]
        · rw [min_drop1, List.length_map, ascB_range]
          exact q _ ((Ex.nw hp).tr e)
    · have hS : SqL K _ a xs := .inl (.inl hS0)
      have hl : ps.length = xs.length := by
        have := hA.len
        rw [List.length_map] at this
        exact this
      rw [List.length_map] at hz
      refine ⟨_, rfl, .ref a, rfl, 1, rfl, a, _, rfl, hS, fun p hp => ?_⟩
      have e0 : Ex H (upd H p (.lst (cutV xs (some 1) none))) := Ex.nw hp
      have hS' := e0.l hS
      have hC : SqL K (upd H p (.lst (cutV xs (some 1) none))) p (xs.drop 1) := .inl (.inl (by rw [upd_same, cut1]))
      refine ⟨a, p, _, _, rfl, hS', hC, fun D hD => ?_⟩
      refine lc_ev (min xs.length (xs.drop 1).length) (fun _ => true) (fun i y _ => y = .bl (ascAt ltPr ps i)) (by omega) hD
        (fun _ _ _ _ _ h => h) (fun i H' hi e => itz_go hS' hC e hi) (fun H' e => itz_stop hS' hC e) ?_ ?_
      · rintro i H' x H'' hi e _ ⟨T', x1, x2, rfl, hT, rfl, h1, h2⟩ Q' N' hQ _
        obtain ⟨p1, g1, a1, rfl, t1⟩ := pairs_at hA (h1 _ (e.l hS'))
        obtain ⟨p2, g2, a2, rfl, t2⟩ := pairs_at hA (drop1_at (h2 _ (e.l hC)))
        have e3 := (e0.tr e).tr (Ex.nw (o := .tup [.ref a1, .ref a2]) hT)
        refine ⟨T', _, rfl, .inl (.inl upd_same), rfl, _, _, rfl, _, _, rfl, rfl, rfl, _, rfl, _, rfl,
          .inr ⟨a1, a2, [p1.1, p1.2], [p2.1, p2.2], rfl, rfl, e3.t t1, e3.t t2, hQ rfl _ _ (Ex.nw hT) ?_⟩⟩
        show V.bl (HT.lexLt [p1.1, p1.2] [p2.1, p2.2]) = V.bl (ascAt ltPr ps i)
        simp only [ascAt, g1, g2, ltPr]
      · intro ys H' e hy gv
        refine ⟨D, (List.range (min xs.length (xs.drop 1).length)).map fun i => ascAt ltPr ps i, rfl, .inl (.inl ?_), ?_⟩
        · rw [hy, gv.all, given_bl]
        · rw [min_drop1, ← hl, ascB_range]
          exact q _ ((Ex.nw hp).tr e)
end

/-! are_ascending_tuples: slots 0 value, 1 first_limit, 2 second_limit, 3 one -/
abbrev s_are_ascending_tuples : Stmt := topS 16
abbrev N_are_ascending_tuples : List Str := ["value", "first_limit", "second_limit", "one"]
abbrev P_are_ascending_tuples : List Str := ["value", "first_limit", "second_limit"]
theorem sc_are_ascending_tuples : FnScope N_are_ascending_tuples P_are_ascending_tuples (defScope s_are_ascending_tuples) := ⟨rfl, rfl, rfl, by decide +kernel, rfl, by decide +kernel, by decide +kernel⟩
def sp_are_ascending_tuples (K : PySem.W.Frag) : Sp := fun vs H Q _ => ∃ v d m n, vs = [v, .int m, .int n] ∧ Da K H d v ∧ ∀ H', Ex H H' → Q (.bl (tuplesB d m n)) H'
section
variable {P : Program} {w : World} {K : PySem.W.Frag} {mg : Str → Option Value} {base : Heap}
theorem ok_are_ascending_tuples {f : Addr} {fd : FuncData} (T : Txt K mg) (F : Fun K "are_ascending_tuples" "are_ascending_tuples" s_are_ascending_tuples f fd)
    (D_is_tuple_below : DefOk P w K mg base CX0 3 "is_tuple_below" P_is_tuple_below (sp_is_tuple_below K))
    (D_are_ascending : DefOk P w K mg base CX0 1 "are_ascending" P_are_ascending (sp_are_ascending K)) :
    FnG P w K mg base CX0 4 f fd P_are_ascending_tuples (sp_are_ascending_tuples K) := by
  refine okG0 F sc_are_ascending_tuples (fun vs H Q E h => ?_) (fun cdv A outer s H vs Q E hr hq h => ?_)
  · obtain ⟨v, d, m, n, rfl, _⟩ := h
    rfl
  · obtain ⟨v, d, m, n, rfl, hd, q⟩ := h
    refine ⟨_, (pss_cons (ps_if (pt_not (pt_val (pe_callB (call_isiK K) (by rfl) T.b_isinstance bt_isinstance (pa_cons (pv 0) (pa_cons (pe_bty T.b_list bt_list) pa_nil))))) (pss_one (ps_ret pe_bl)) pss_nil)
      (pss_cons (ps_if (pt_not (pt_val (pe_callB (cr_allK K rfl) (by rfl) T.b_all bt_all (pa_cons (pe_lc (own := [("one", 3)]) rfl sc_are_ascending_tuples.nd (pi_listK K (pv 0)) (blkOk_by (N := N_are_ascending_tuples) (sc := defScope s_are_ascending_tuples) (by decide +kernel)) (fun _ _ _ _ _ => (pg_name (i := 3) sc_are_ascending_tuples.nd rfl (by first | exact .inl rfl | exact .inr rfl))) (fun _ _ _ _ _ => pts_nil) (fun _ _ _ _ _ => (pe_callD D_is_tuple_below (hr.mono (by decide)) hq pass0 (pa_cons (pv 3) (pa_cons (pv 1) (pa_cons (pv 2) pa_nil)))))) pa_nil)))) (pss_one (ps_ret pe_bl)) pss_nil)
      (pss_one (ps_ret (pe_callD D_are_ascending (hr.mono (by decide)) hq pass0 (pa_cons (pv 0) pa_nil)))))), ?_⟩
    refine ⟨_, rfl, _, _, _, _, _, rfl, .ty _, hd.ty, isa_list d, _, rfl, ?_⟩
    cases d with
    | list ds =>
      have hd0 := hd
      obtain ⟨a, xs, rfl, hS0, hA, hz⟩ := hd
      have hS : SqL K _ a xs := .inl (.inl hS0)
      have hl := hA.len
      refine ⟨_, rfl, a, rfl, ⟨_, hS⟩, fun D hD => ?_⟩
      refine lc_ev xs.length (fun _ => true) (fun i y _ => y = .bl (tupB (ds.getD i .none) m n)) (by omega) hD (fun _ _ _ _ _ h => h)
        (fun i H' hi e => itl_go hS e hi) (fun H' e => itl_stop hS e) ?_ ?_
      · intro i H' x H'' hi e _ y Q' N' hQ _
        obtain ⟨rfl, hx⟩ := itl_yld y hS e
        obtain ⟨d, hd, hx'⟩ := hA.at' hx
        refine ⟨rfl, _, rfl, _, rfl, _, rfl, _, _, _, _, rfl, hx'.up e, ?_⟩
        refine hQ rfl _ _ Ex.rfl ?_
        rw [List.getD_eq_getElem?_getD, hd]
        rfl
      · intro ys H' e hy gv
        refine ⟨D, (List.range xs.length).map fun i => tupB (ds.getD i .none) m n, rfl, .inl (.inl ?_), _, rfl, ?_⟩
        · rw [hy, gv.all, given_bl]
        · rw [← hl, all_range_get (fun d => tupB d m n) .none ds]
          refine ite2 (fun h1 => ?_) (fun h1 => ?_)
          · rw [Bool.not_eq_true'] at h1
            have e2 : tuplesB (.list ds) m n = false := by simp only [tuplesB, h1, Bool.false_and]
            rw [e2] at q
            exact q _ e
          · rw [Bool.not_eq_true', Bool.not_eq_false] at h1
            obtain ⟨ps, rfl, _⟩ := pairs_of_all h1
            refine ⟨_, rfl, _, rfl, .inr ⟨ps, hd0.up e, fun H2 e2 => ?_⟩⟩
            have e3 : tuplesB (.list (ps.map dPair)) m n = ascB ltPr ps := by simp only [tuplesB, h1, Bool.true_and, pairsOf_map]
            rw [e3] at q
            exact q _ (e.tr e2)
    | _ => exact q _ Ex.rfl
end

/-! are_targets: slots 0 value, 1 count -/
abbrev s_are_targets : Stmt := topS 17
abbrev N_are_targets : List Str := ["value", "count"]
abbrev P_are_targets : List Str := ["value", "count"]
theorem sc_are_targets : FnScope N_are_targets P_are_targets (defScope s_are_targets) := ⟨rfl, rfl, rfl, by decide +kernel, rfl, by decide +kernel, by decide +kernel⟩
def sp_are_targets (K : PySem.W.Frag) : Sp := fun vs H Q _ => ∃ v d m, vs = [v, .int m] ∧ Da K H d v ∧ ∀ H', Ex H H' → Q (.bl (targetsB d m)) H'
section
variable {P : Program} {w : World} {K : PySem.W.Frag} {mg : Str → Option Value} {base : Heap}
theorem ok_are_targets {f : Addr} {fd : FuncData} (T : Txt K mg) (F : Fun K "are_targets" "are_targets" s_are_targets f fd)
    (D_are_below : DefOk P w K mg base CX0 3 "are_below" P_are_below (sp_are_below K))
    (D_are_ascending : DefOk P w K mg base CX0 1 "are_ascending" P_are_ascending (sp_are_ascending K)) :
    FnG P w K mg base CX0 4 f fd P_are_targets (sp_are_targets K) := by
  refine okG0 F sc_are_targets (fun vs H Q E h => ?_) (fun cdv A outer s H vs Q E hr hq h => ?_)
  · obtain ⟨v, d, m, rfl, _⟩ := h
    rfl
  · obtain ⟨v, d, m, rfl, hd, q⟩ := h
    refine ⟨_, (pss_one (ps_ret (pe_and (pe_callD D_are_below (hr.mono (by decide)) hq pass0 (pa_cons (pv 0) (pa_cons (pv 1) pa_nil))) (pe_and (pe_cmpR op_gt (pe_callB (call_lenK K) (by rfl) T.b_len bt_len (pa_cons (pv 0) pa_nil)) pe_int (nomark _)) (pe_one (pe_callD D_are_ascending (hr.mono (by decide)) hq pass0 (pa_cons (pv 0) pa_nil))))))), ?_⟩
    refine ⟨_, rfl, _, rfl, _, _, _, rfl, hd, fun H1 e1 => ⟨_, rfl, ?_⟩⟩
    refine ite2 (fun h1 => ?_) (fun h1 => ?_)
    · cases d with
      | list ds =>
        obtain ⟨ns, rfl, _⟩ := ints_of_all (show (ds.all fun d => numB d m) = true from h1)
        have hd1 := hd.up e1
        obtain ⟨a, xs, rfl, hS0, hA, hz⟩ := hd1
        have hS : SqL K _ a xs := .inl (.inl hS0)
        have hl := hA.len
        refine ⟨_, rfl, a, _, rfl, .inl hS, _, _, rfl, rfl, _, rfl, ?_⟩
        refine ite2 (fun h2 => ?_) (fun h2 => ?_)
        · refine ⟨_, rfl, _, rfl, .inl ⟨ns, hd.up e1, fun H2 e2 => ?_⟩⟩
          have e3 : targetsB (.list (ns.map PyData.int)) m = ascB ltIn ns := by
            have h3 : ((ns.map PyData.int).all fun d => numB d m) = true := h1
            have h4 : decide (0 < (ns.map PyData.int).length) = true := by
              rw [hl]
              simpa using h2
            simp only [targetsB, h3, h4, Bool.true_and, intsOf_map]
          rw [e3] at q
          exact q _ (e1.tr e2)
        · have e3 : targetsB (.list (ns.map PyData.int)) m = false := by
            have h4 : decide (0 < (ns.map PyData.int).length) = false := by
              rw [hl]
              simpa using h2
            simp only [targetsB, h4, Bool.false_and, Bool.and_false]
          rw [e3] at q
          exact q _ e1
      | _ => exact (Bool.noConfusion h1 : False).elim
    · rw [Bool.not_eq_true] at h1
      have e3 : targetsB d m = false := by
        cases d with
        | list ds =>
          have h3 : (ds.all fun d => numB d m) = false := h1
          simp only [targetsB, h3, Bool.false_and]
        | _ => rfl
      rw [e3] at q
      exact q _ e1
end

/-! are_nudges: slots 0 value, 1 count, 2 nudge -/
abbrev s_are_nudges : Stmt := topS 18
abbrev N_are_nudges : List Str := ["value", "count", "nudge"]
abbrev P_are_nudges : List Str := ["value", "count"]
theorem sc_are_nudges : FnScope N_are_nudges P_are_nudges (defScope s_are_nudges) := ⟨rfl, rfl, rfl, by decide +kernel, rfl, by decide +kernel, by decide +kernel⟩
def sp_are_nudges (K : PySem.W.Frag) : Sp := fun vs H Q _ => ∃ v d m, vs = [v, .int m] ∧ Da K H d v ∧ ∀ H', Ex H H' → Q (.bl (nudgesB d m)) H'
section
variable {P : Program} {w : World} {K : PySem.W.Frag} {mg : Str → Option Value} {base : Heap}
theorem ok_are_nudges {f : Addr} {fd : FuncData} (T : Txt K mg) (F : Fun K "are_nudges" "are_nudges" s_are_nudges f fd)
    (D_are_targets : DefOk P w K mg base CX0 4 "are_targets" P_are_targets (sp_are_targets K)) :
    FnG P w K mg base CX0 5 f fd P_are_nudges (sp_are_nudges K) := by
  refine okG0 F sc_are_nudges (fun vs H Q E h => ?_) (fun cdv A outer s H vs Q E hr hq h => ?_)
  · obtain ⟨v, d, m, rfl, _⟩ := h
    rfl
  · obtain ⟨v, d, m, rfl, hd, q⟩ := h
    refine ⟨_, (pss_cons (ps_if (PW.pt (pw_or (pt_not (pt_val (pe_callB (call_isiK K) (by rfl) T.b_isinstance bt_isinstance (pa_cons (pv 0) (pa_cons (pe_bty T.b_list bt_list) pa_nil))))) (pw_or1 (pt_cmpR op_gt (pe_callB (call_lenK K) (by rfl) T.b_len bt_len (pa_cons (pv 0) pa_nil)) (pe_globI T.c_MOST_NUDGES) (nomark _))))) (pss_one (ps_ret pe_bl)) pss_nil)
      (pss_one (ps_ret (pe_callB (cr_allK K rfl) (by rfl) T.b_all bt_all (pa_cons (pe_lc (own := [("nudge", 2)]) rfl sc_are_nudges.nd (pi_listK K (pv 0)) (blkOk_by (N := N_are_nudges) (sc := defScope s_are_nudges) (by decide +kernel)) (fun _ _ _ _ _ => (pg_name (i := 2) sc_are_nudges.nd rfl (by first | exact .inl rfl | exact .inr rfl))) (fun _ _ _ _ _ => pts_nil) (fun _ _ _ _ _ => (pe_callD D_are_targets (hr.mono (by decide)) hq pass0 (pa_cons (pv 2) (pa_cons (pv 1) pa_nil))))) pa_nil))))), ?_⟩
    refine ⟨_, rfl, _, _, _, _, _, rfl, .ty _, hd.ty, isa_list d, _, rfl, ?_⟩
    cases d with
    | list ds =>
      obtain ⟨a, xs, rfl, hS0, hA, hz⟩ := hd
      have hS : SqL K _ a xs := .inl (.inl hS0)
      have hl := hA.len
      refine ⟨_, rfl, a, _, rfl, .inl hS, _, _, rfl, rfl, _, rfl, ?_⟩
      refine ite2 (fun h1 => ?_) (fun h1 => ?_)
      · have e3 : nudgesB (.list ds) m = false := by
          have h4 : decide (ds.length ≤ 8) = false := by
            rw [hl]
            simp at h1
            simp
            omega
          simp only [nudgesB, h4, Bool.false_and]
        rw [e3] at q
        exact q _ Ex.rfl
      · have e3 : nudgesB (.list ds) m = ds.all fun d => targetsB d m := by
          have h4 : decide (ds.length ≤ 8) = true := by
            rw [hl]
            simp at h1
            simp
            omega
          simp only [nudgesB, h4, Bool.true_and]
        rw [e3] at q
        refine ⟨_, rfl, a, rfl, ⟨_, hS⟩, fun D hD => ?_⟩
        refine lc_ev xs.length (fun _ => true) (fun i y _ => y = .bl (targetsB (ds.getD i .none) m)) (by omega) hD (fun _ _ _ _ _ h => h)
          (fun i H' hi e => itl_go hS e hi) (fun H' e => itl_stop hS e) ?_ ?_
        · intro i H' x H'' hi e _ y Q' N' hQ _
          obtain ⟨rfl, hx⟩ := itl_yld y hS e
          obtain ⟨d, hd, hx'⟩ := hA.at' hx
          refine ⟨rfl, _, rfl, _, rfl, _, _, _, rfl, hx'.up e, fun H2 e2 => ?_⟩
          refine hQ rfl _ _ e2 ?_
          rw [List.getD_eq_getElem?_getD, hd]
          rfl
        · intro ys H' e hy gv
          refine ⟨D, (List.range xs.length).map fun i => targetsB (ds.getD i .none) m, rfl, .inl (.inl ?_), ?_⟩
          · rw [hy, gv.all, given_bl]
          · rw [← hl, all_range_get (fun d => targetsB d m) .none ds]
            exact q _ e
    | _ => exact q _ Ex.rfl
end

/-! has_web_shape: slots 0 value, 1 count, 2 pairs, 3 nudges -/
abbrev s_has_web_shape : Stmt := topS 19
abbrev N_has_web_shape : List Str := ["value", "count", "pairs", "nudges"]
abbrev P_has_web_shape : List Str := ["value"]
theorem sc_has_web_shape : FnScope N_has_web_shape P_has_web_shape (defScope s_has_web_shape) := ⟨rfl, rfl, rfl, by decide +kernel, rfl, by decide +kernel, by decide +kernel⟩
def sp_has_web_shape (K : PySem.W.Frag) : Sp := fun vs H Q _ => ∃ v d, vs = [v] ∧ Da K H d v ∧ ∀ H', Ex H H' → Q (.bl (webB d)) H'
section
variable {P : Program} {w : World} {K : PySem.W.Frag} {mg : Str → Option Value} {base : Heap}
theorem ok_has_web_shape {f : Addr} {fd : FuncData} (T : Txt K mg) (F : Fun K "has_web_shape" "has_web_shape" s_has_web_shape f fd)
    (D_is_integer : DefOk P w K mg base CX0 1 "is_integer" P_is_integer (sp_is_integer K))
    (D_are_ascending_tuples : DefOk P w K mg base CX0 4 "are_ascending_tuples" P_are_ascending_tuples (sp_are_ascending_tuples K))
    (D_are_nudges : DefOk P w K mg base CX0 5 "are_nudges" P_are_nudges (sp_are_nudges K)) :
    FnG P w K mg base CX0 6 f fd P_has_web_shape (sp_has_web_shape K) := by
  refine okG0 F sc_has_web_shape (fun vs H Q E h => ?_) (fun cdv A outer s H vs Q E hr hq h => ?_)
  · obtain ⟨v, d, rfl, _⟩ := h
    rfl
  · obtain ⟨v, d, rfl, hd, q⟩ := h
    refine ⟨_, (pss_cons (ps_if (PW.pt (pw_or (pt_not (pt_val (pe_callB (call_isiK K) (by rfl) T.b_isinstance bt_isinstance (pa_cons (pv 0) (pa_cons (pe_bty T.b_tuple bt_tuple) pa_nil))))) (pw_or1 (pt_cmpR op_ne (pe_callB (call_lenK K) (by rfl) T.b_len bt_len (pa_cons (pv 0) pa_nil)) pe_int (nomark _))))) (pss_one (ps_ret pe_bl)) pss_nil)
      (pss_cons (ps_asg (pv 0) (pg_tupK (n := 3) K rfl (pgs_cons (pg_name (i := 1) sc_has_web_shape.nd rfl (by first | exact .inl rfl | exact .inr rfl)) (pgs_cons (pg_name (i := 2) sc_has_web_shape.nd rfl (by first | exact .inl rfl | exact .inr rfl)) (pgs_cons (pg_name (i := 3) sc_has_web_shape.nd rfl (by first | exact .inl rfl | exact .inr rfl)) pgs_nil)))))
      (pss_cons (ps_if (PW.pt (pw_or (pt_not (pt_val (pe_callD D_is_integer (hr.mono (by decide)) hq pass0 (pa_cons (pv 1) pa_nil)))) (pw_or1 (pt_not (pt_chain op_le op_le pe_int (pv 1) (pe_globI T.c_MOST_QUANTITIES)))))) (pss_one (ps_ret pe_bl)) pss_nil)
      (pss_one (ps_ret (pe_and (pe_callD D_are_ascending_tuples (hr.mono (by decide)) hq pass0 (pa_cons (pv 2) (pa_cons (pv 1) (pa_cons (pv 1) pa_nil)))) (pe_one (pe_callD D_are_nudges (hr.mono (by decide)) hq pass0 (pa_cons (pv 3) (pa_cons (pv 1) pa_nil)))))))))), ?_⟩
    refine ⟨_, rfl, _, _, _, _, _, rfl, .ty _, hd.ty, isa_tuple d, _, rfl, ?_⟩
    cases d with
    | tuple ds =>
      obtain ⟨a, xs, rfl, hS0, hA⟩ := hd
      have hS : SqT K _ a xs := .inl (.inl hS0)
      have hl := hA.len
      refine ⟨_, rfl, a, _, rfl, .inr hS, rfl, _, rfl, ?_⟩
      refine ite2 (fun h1 => ?_) (fun h1 => ?_)
      · have e : webB (.tuple ds) = false := by
          unfold webB
          split
          · rename_i heq
            cases heq
            rw [← hl] at h1
            simp at h1
          · rfl
        rw [e] at q
        exact q _ Ex.rfl
      · have h2 : ds.length = 3 := by
          simp at h1
          omega
        obtain ⟨d1, d2, d3, rfl⟩ : ∃ d1 d2 d3, ds = [d1, d2, d3] := by
          match ds, h2 with
          | [d1, d2, d3], _ => exact ⟨d1, d2, d3, rfl⟩
        obtain ⟨x1, r1, rfl, g1, x2, r2, rfl, g2, x3, r3, rfl, g3, rfl⟩ := hA
        refine ⟨_, rfl, a, _, rfl, hS, rfl, _, _, rfl, _, _, rfl, _, _, rfl, rfl, ?_⟩
        refine ⟨_, rfl, _, _, rfl, g1, _, rfl, ?_⟩
        cases d1 with
        | int n =>
          obtain rfl := g1
          refine ⟨_, rfl, _, _, rfl, rfl, _, rfl, ?_⟩
          refine ite2 (fun h3 => ?_) (fun h3 => ?_)
          · refine ⟨_, _, rfl, rfl, _, rfl, ?_⟩
            refine ite2 (fun h4 => ?_) (fun h4 => ?_)
            · have e : webB (.tuple [.int n, d2, d3]) = false := by
                have h5 : decide (n ≤ 20) = false := by simpa using h4
                simp only [webB, h5, Bool.and_false, Bool.false_and]
              rw [e] at q
              exact q _ Ex.rfl
            · have e : webB (.tuple [.int n, d2, d3]) = (tuplesB d2 n n && nudgesB d3 n) := by
                have h5 : decide (n ≤ 20) = true := by simpa using h4
                simp only [webB, h5, h3, Bool.true_and]
              rw [e] at q
              refine ⟨_, rfl, _, rfl, _, rfl, _, _, _, _, rfl, g2, fun H1 e1 => ⟨_, rfl, ?_⟩⟩
              refine ite2 (fun h6 => ?_) (fun h6 => ?_)
              · refine ⟨_, rfl, _, rfl, _, _, _, rfl, g3.up e1, fun H2 e2 => ?_⟩
                rw [h6, Bool.true_and] at q
                exact q _ (e1.tr e2)
              · rw [Bool.not_eq_true] at h6
                rw [h6, Bool.false_and] at q
                exact q _ e1
          · have e : webB (.tuple [.int n, d2, d3]) = false := by
              rw [Bool.not_eq_true] at h3
              simp only [webB, h3, Bool.false_and]
            rw [e] at q
            exact ⟨_, rfl, q _ Ex.rfl⟩
        | _ => exact q _ Ex.rfl
    | _ => exact q _ Ex.rfl
end

end K36
namespace K36
open PySem PySem.Spec PyProof.Rows L2 Nw
/-! are_integers: slots 0 value, 1 many, 2 one -/
abbrev s_are_integers : Stmt := topS 20
abbrev N_are_integers : List Str := ["value", "many", "one"]
abbrev P_are_integers : List Str := ["value", "many"]
theorem sc_are_integers : FnScope N_are_integers P_are_integers (defScope s_are_integers) := ⟨rfl, rfl, rfl, by decide +kernel, rfl, by decide +kernel, by decide +kernel⟩
def sp_are_integers (K : PySem.W.Frag) : Sp := fun vs H Q _ => ∃ v d m, vs = [v, .int m] ∧ Da K H d v ∧ ∀ H', Ex H H' → Q (.bl (intsB d m)) H'
section
variable {P : Program} {w : World} {K : PySem.W.Frag} {mg : Str → Option Value} {base : Heap}
theorem ok_are_integers {f : Addr} {fd : FuncData} (T : Txt K mg) (F : Fun K "are_integers" "are_integers" s_are_integers f fd)
    (D_is_integer : DefOk P w K mg base CX0 1 "is_integer" P_is_integer (sp_is_integer K)) :
    FnG P w K mg base CX0 2 f fd P_are_integers (sp_are_integers K) := by
  refine okG0 F sc_are_integers (fun vs H Q E h => ?_) (fun cdv A outer s H vs Q E hr hq h => ?_)
  · obtain ⟨v, d, m, rfl, _⟩ := h
    rfl
  · obtain ⟨v, d, m, rfl, hd, q⟩ := h
    refine ⟨_, (pss_one (ps_ret (pe_and (pe_callB (call_isiK K) (by rfl) T.b_isinstance bt_isinstance (pa_cons (pv 0) (pa_cons (pe_bty T.b_list bt_list) pa_nil))) (pe_and (pe_cmpR op_eq (pe_callB (call_lenK K) (by rfl) T.b_len bt_len (pa_cons (pv 0) pa_nil)) (pv 1) (nomark _)) (pe_one (pe_callB (cr_allK K rfl) (by rfl) T.b_all bt_all (pa_cons (pe_lc (own := [("one", 2)]) rfl sc_are_integers.nd (pi_listK K (pv 0)) (blkOk_by (N := N_are_integers) (sc := defScope s_are_integers) (by decide +kernel)) (fun _ _ _ _ _ => (pg_name (i := 2) sc_are_integers.nd rfl (by first | exact .inl rfl | exact .inr rfl))) (fun _ _ _ _ _ => pts_nil) (fun _ _ _ _ _ => (pe_callD D_is_integer (hr.mono (by decide)) hq pass0 (pa_cons (pv 2) pa_nil)))) pa_nil))))))), ?_⟩
    refine ⟨_, rfl, _, _, _, _, _, rfl, .ty _, hd.ty, isa_list d, _, rfl, ?_⟩
    cases d with
    | list ds =>
      obtain ⟨a, xs, rfl, hS0, hA, hz⟩ := hd
      have hS : SqL K _ a xs := .inl (.inl hS0)
      have hl := hA.len
      refine ⟨_, rfl, a, _, rfl, .inl hS, _, rfl, rfl, _, rfl, ?_⟩
      refine ite2 (fun h1 => ?_) (fun h1 => ?_)
      · have e3 : intsB (.list ds) m = ds.all isInt := by
          have h4 : decide ((ds.length : Int) = m) = true := by
            rw [hl]
            simpa using h1
          simp only [intsB, h4, Bool.true_and]
        rw [e3] at q
        refine ⟨_, rfl, a, rfl, ⟨_, hS⟩, fun D hD => ?_⟩
        refine lc_ev xs.length (fun _ => true) (fun i y _ => y = .bl (isInt (ds.getD i .none))) (by omega) hD (fun _ _ _ _ _ h => h)
          (fun i H' hi e => itl_go hS e hi) (fun H' e => itl_stop hS e) ?_ ?_
        · intro i H' x H'' hi e _ y Q' N' hQ _
          obtain ⟨rfl, hx⟩ := itl_yld y hS e
          obtain ⟨d, hd, hx'⟩ := hA.at' hx
          refine ⟨rfl, _, rfl, _, _, rfl, hx'.up e, ?_⟩
          refine hQ rfl _ _ Ex.rfl ?_
          rw [List.getD_eq_getElem?_getD, hd]
          rfl
        · intro ys H' e hy gv
          refine ⟨D, (List.range xs.length).map fun i => isInt (ds.getD i .none), rfl, .inl (.inl ?_), ?_⟩
          · rw [hy, gv.all, given_bl]
          · rw [← hl, all_range_get isInt .none ds]
            exact q _ e
      · have e3 : intsB (.list ds) m = false := by
          have h4 : decide ((ds.length : Int) = m) = false := by
            rw [hl]
            simpa using h1
          simp only [intsB, h4, Bool.false_and]
        rw [e3] at q
        exact q _ Ex.rfl
    | _ => exact q _ Ex.rfl
end

/-! are_line_numbers: slots 0 value, 1 many, 2 number -/
abbrev s_are_line_numbers : Stmt := topS 21
abbrev N_are_line_numbers : List Str := ["value", "many", "number"]
abbrev P_are_line_numbers : List Str := ["value", "many"]
theorem sc_are_line_numbers : FnScope N_are_line_numbers P_are_line_numbers (defScope s_are_line_numbers) := ⟨rfl, rfl, rfl, by decide +kernel, rfl, by decide +kernel, by decide +kernel⟩
def sp_are_line_numbers (K : PySem.W.Frag) : Sp := fun vs H Q _ => ∃ v d m, vs = [v, .int m] ∧ Da K H d v ∧ ∀ H', Ex H H' → Q (.bl (lineB d m)) H'
section
variable {P : Program} {w : World} {K : PySem.W.Frag} {mg : Str → Option Value} {base : Heap}
theorem ok_are_line_numbers {f : Addr} {fd : FuncData} (T : Txt K mg) (F : Fun K "are_line_numbers" "are_line_numbers" s_are_line_numbers f fd)
    (D_are_integers : DefOk P w K mg base CX0 2 "are_integers" P_are_integers (sp_are_integers K)) :
    FnG P w K mg base CX0 3 f fd P_are_line_numbers (sp_are_line_numbers K) := by
  refine okG0 F sc_are_line_numbers (fun vs H Q E h => ?_) (fun cdv A outer s H vs Q E hr hq h => ?_)
  · obtain ⟨v, d, m, rfl, _⟩ := h
    rfl
  · obtain ⟨v, d, m, rfl, hd, q⟩ := h
    refine ⟨_, (pss_cons (ps_if (pt_not (pt_val (pe_callD D_are_integers (hr.mono (by decide)) hq pass0 (pa_cons (pv 0) (pa_cons (pv 1) pa_nil))))) (pss_one (ps_ret pe_bl)) pss_nil)
      (pss_one (ps_ret (pe_callB (cr_allK K rfl) (by rfl) T.b_all bt_all (pa_cons (pe_lc (own := [("number", 2)]) rfl sc_are_line_numbers.nd (pi_listK K (pv 0)) (blkOk_by (N := N_are_line_numbers) (sc := defScope s_are_line_numbers) (by decide +kernel)) (fun _ _ _ _ _ => (pg_name (i := 2) sc_are_line_numbers.nd rfl (by first | exact .inl rfl | exact .inr rfl))) (fun _ _ _ _ _ => pts_nil) (fun _ _ _ _ _ => (pe_and (pe_cmpR op_ne (pv 2) pe_int (nomark _)) (pe_one (pe_cmpR op_le (pe_callB call_abs (by rfl) T.b_abs bt_abs (pa_cons (pv 2) pa_nil)) (pe_globI T.c_GREATEST_NUMBER) (nomark _)))))) pa_nil))))), ?_⟩
    refine ⟨_, rfl, _, rfl, _, _, _, rfl, hd, fun H1 e1 => ⟨_, rfl, ?_⟩⟩
    refine ite2 (fun h1 => ?_) (fun h1 => ?_)
    · have e3 : lineB d m = false := by
        have h2 : intsB d m = false := by simpa using h1
        cases d with
        | list ds => simp only [lineB, h2, Bool.false_and]
        | _ => rfl
      rw [e3] at q
      exact q _ e1
    · have h2 : intsB d m = true := by simpa using h1
      cases d with
      | list ds =>
        have e3 : lineB (.list ds) m = ds.all noB := by simp only [lineB, h2, Bool.true_and]
        have h3 : ds.all isInt = true := by
          simp only [intsB, Bool.and_eq_true] at h2
          exact h2.2
        obtain ⟨a, xs, rfl, hS0, hA, hz⟩ := hd.up e1
        have hS : SqL K _ a xs := .inl (.inl hS0)
        have hl := hA.len
        refine ⟨_, rfl, a, rfl, ⟨_, hS⟩, fun D hD => ?_⟩
        refine lc_ev xs.length (fun _ => true) (fun i y _ => y = .bl (noB (ds.getD i .none))) (by omega) hD (fun _ _ _ _ _ h => h)
          (fun i H' hi e => itl_go hS e hi) (fun H' e => itl_stop hS e) ?_ ?_
        · intro i H' x H'' hi e _ y Q' N' hQ _
          obtain ⟨rfl, hx⟩ := itl_yld y hS e
          obtain ⟨d, hd, hx'⟩ := hA.at' hx
          have h4 := (List.all_eq_true.mp h3) d (List.mem_of_getElem? hd)
          cases d with
          | int z =>
            obtain rfl := hx'
            have en : noB (ds.getD i .none) = (decide (z ≠ 0) && decide ((if z < 0 then -z else z) ≤ 1000000)) := by
              rw [List.getD_eq_getElem?_getD, hd]
              rfl
            refine ⟨rfl, _, rfl, rfl, _, rfl, ?_⟩
            refine ite2 (fun h5 => ?_) (fun h5 => ?_)
            · refine ⟨_, rfl, _, rfl, _, _, rfl, rfl, ?_⟩
              refine hQ rfl _ _ Ex.rfl ?_
              rw [en]
              have h6 : decide (z ≠ 0) = true := by simpa using h5
              rw [h6, Bool.true_and]
            · refine hQ rfl _ _ Ex.rfl ?_
              rw [en]
              have h6 : decide (z ≠ 0) = false := by simpa using h5
              rw [h6, Bool.false_and]
          | _ => exact (Bool.noConfusion h4 : False).elim
        · intro ys H' e hy gv
          refine ⟨D, (List.range xs.length).map fun i => noB (ds.getD i .none), rfl, .inl (.inl ?_), ?_⟩
          · rw [hy, gv.all, given_bl]
          · rw [← hl, all_range_get noB .none ds, ← e3]
            exact q _ (e1.tr e)
      | _ => exact (Bool.noConfusion h2 : False).elim
end

end K36
namespace K36
open PySem PySem.Spec PyProof.Rows L2 Nw
/-! has_filling_shape: slots 0 web, 1 value, 2 _, 3 pairs, 4 nudges, 5 numbers, 6 strengths, 7 row, 8 nudge -/
abbrev s_has_filling_shape : Stmt := topS 22
abbrev N_has_filling_shape : List Str := ["web", "value", "_", "pairs", "nudges", "numbers", "strengths", "row", "nudge"]
abbrev P_has_filling_shape : List Str := ["web", "value"]
theorem sc_has_filling_shape : FnScope N_has_filling_shape P_has_filling_shape (defScope s_has_filling_shape) := ⟨rfl, rfl, rfl, by decide +kernel, rfl, by decide +kernel, by decide +kernel⟩
def sp_has_filling_shape (K : PySem.W.Frag) : Sp := fun vs H Q _ => ∃ x u v d, vs = [x, v] ∧ Da K H (Wb.d u) x ∧ u.Ok ∧ Da K H d v ∧ ∀ H', Ex H H' → Q (.bl (fillB u d)) H'
section
variable {P : Program} {w : World} {K : PySem.W.Frag} {mg : Str → Option Value} {base : Heap}
theorem ok_has_filling_shape {f : Addr} {fd : FuncData} (T : Txt K mg) (F : Fun K "has_filling_shape" "has_filling_shape" s_has_filling_shape f fd)
    (D_are_line_numbers : DefOk P w K mg base CX0 3 "are_line_numbers" P_are_line_numbers (sp_are_line_numbers K)) :
    FnG P w K mg base CX0 4 f fd P_has_filling_shape (sp_has_filling_shape K) := by
  refine okG0 F sc_has_filling_shape (fun vs H Q E h => ?_) (fun cdv A outer s H vs Q E hr hq h => ?_)
  · obtain ⟨x, u, v, d, rfl, _⟩ := h
    rfl
  · obtain ⟨x, u, v, d, rfl, hw, hu, hd, q⟩ := h
    obtain ⟨t, x2, x3, rfl, hT, g2, g3⟩ := Wb.at hw
    refine ⟨_, (pss_cons (ps_if (PW.pt (pw_or (pt_not (pt_val (pe_callB (call_isiK K) (by rfl) T.b_isinstance bt_isinstance (pa_cons (pv 1) (pa_cons (pe_bty T.b_tuple bt_tuple) pa_nil))))) (pw_or1 (pt_cmpR op_ne (pe_callB (call_lenK K) (by rfl) T.b_len bt_len (pa_cons (pv 1) pa_nil)) pe_int (nomark _))))) (pss_one (ps_ret pe_bl)) pss_nil)
      (pss_cons (ps_asg (pv 0) (pg_tupK (n := 3) K rfl (pgs_cons (pg_name (i := 2) sc_has_filling_shape.nd rfl (by first | exact .inl rfl | exact .inr rfl)) (pgs_cons (pg_name (i := 3) sc_has_filling_shape.nd rfl (by first | exact .inl rfl | exact .inr rfl)) (pgs_cons (pg_name (i := 4) sc_has_filling_shape.nd rfl (by first | exact .inl rfl | exact .inr rfl)) pgs_nil)))))
      (pss_cons (ps_asg (pv 1) (pg_tupK (n := 2) K rfl (pgs_cons (pg_name (i := 5) sc_has_filling_shape.nd rfl (by first | exact .inl rfl | exact .inr rfl)) (pgs_cons (pg_name (i := 6) sc_has_filling_shape.nd rfl (by first | exact .inl rfl | exact .inr rfl)) pgs_nil))))
      (pss_cons (ps_if (pt_not (pt_val (pe_callD D_are_line_numbers (hr.mono (by decide)) hq pass0 (pa_cons (pv 5) (pa_cons (pe_callB (call_lenK K) (by rfl) T.b_len bt_len (pa_cons (pv 3) pa_nil)) pa_nil))))) (pss_one (ps_ret pe_bl)) pss_nil)
      (pss_cons (ps_if (PW.pt (pw_or (pt_not (pt_val (pe_callB (call_isiK K) (by rfl) T.b_isinstance bt_isinstance (pa_cons (pv 6) (pa_cons (pe_bty T.b_list bt_list) pa_nil))))) (pw_or1 (pt_cmpR op_ne (pe_callB (call_lenK K) (by rfl) T.b_len bt_len (pa_cons (pv 6) pa_nil)) (pe_callB (call_lenK K) (by rfl) T.b_len bt_len (pa_cons (pv 4) pa_nil)) (nomark _))))) (pss_one (ps_ret pe_bl)) pss_nil)
      (pss_one (ps_ret (pe_callB (cr_allK K rfl) (by rfl) T.b_all bt_all (pa_cons (pe_lc (own := [("row", 7), ("nudge", 8)]) rfl sc_has_filling_shape.nd (pi_zip (by rfl) T.b_zip (pa_cons (pv 6) (pa_cons (pv 4) pa_nil))) (blkOk_by (N := N_has_filling_shape) (sc := defScope s_has_filling_shape) (by decide +kernel)) (fun _ _ _ _ _ => (pg_tupK (n := 2) K rfl (pgs_cons (pg_name (i := 7) sc_has_filling_shape.nd rfl (by first | exact .inl rfl | exact .inr rfl)) (pgs_cons (pg_name (i := 8) sc_has_filling_shape.nd rfl (by first | exact .inl rfl | exact .inr rfl)) pgs_nil)))) (fun _ _ _ _ _ => pts_nil) (fun _ _ _ _ _ => (pe_callD D_are_line_numbers (hr.mono (by decide)) hq pass0 (pa_cons (pv 7) (pa_cons (pe_callB (call_lenK K) (by rfl) T.b_len bt_len (pa_cons (pv 8) pa_nil)) pa_nil))))) pa_nil))))))))), ?_⟩
    refine ⟨_, rfl, _, _, _, _, _, rfl, .ty _, hd.ty, isa_tuple d, _, rfl, ?_⟩
    cases d with
    | tuple ds =>
      obtain ⟨a, xs, rfl, hS0, hA⟩ := hd
      have hS : SqT K _ a xs := .inl (.inl hS0)
      have hl := hA.len
      refine ⟨_, rfl, a, _, rfl, .inr hS, rfl, _, rfl, ?_⟩
      refine ite2 (fun h1 => ?_) (fun h1 => ?_)
      · have e : fillB u (.tuple ds) = false := by
          unfold fillB
          split
          · rename_i heq
            cases heq
            rw [← hl] at h1
            simp at h1
          · rfl
        rw [e] at q
        exact q _ Ex.rfl
      · have h2 : ds.length = 2 := by
          simp at h1
          omega
        obtain ⟨d1, d2, rfl⟩ : ∃ d1 d2, ds = [d1, d2] := by
          match ds, h2 with
          | [d1, d2], _ => exact ⟨d1, d2, rfl⟩
        obtain ⟨y1, r1, rfl, k1, y2, r2, rfl, k2, rfl⟩ := hA
        obtain ⟨a2, zs, rfl, hL2, hA2, hz2⟩ := g2
        obtain ⟨a3, ws, rfl, hL3, hA3, hz3⟩ := g3
        have hl2 := hA2.len
        have hl3 := hA3.len
        rw [List.length_map] at hl2 hl3
        refine ⟨_, rfl, t, _, rfl, hT, rfl, _, _, rfl, _, _, rfl, _, _, rfl, rfl, ?_⟩
        refine ⟨_, rfl, a, _, rfl, hS, rfl, _, _, rfl, _, _, rfl, rfl, ?_⟩
        refine ⟨_, rfl, _, rfl, a2, _, rfl, .inl (.inl (.inl hL2)), _, _, _, rfl, k1, fun H1 e1 => ⟨_, rfl, ?_⟩⟩
        rw [← hl2]
        refine ite2 (fun h3 => ?_) (fun h3 => ?_)
        · have e : fillB u (.tuple [d1, d2]) = false := by
            have h4 : lineB d1 u.ps.length = false := by simpa using h3
            cases d2 <;> simp only [fillB, h4, Bool.false_and]
          rw [e] at q
          exact q _ e1
        · have h4 : lineB d1 u.ps.length = true := by simpa using h3
          refine ⟨_, rfl, _, _, _, _, _, rfl, .ty _, (k2.up e1).ty, isa_list d2, _, rfl, ?_⟩
          cases d2 with
          | list rs =>
            obtain ⟨b, bs, rfl, hB, hAB, hzB⟩ := k2.up e1
            have hSB : SqL K _ b bs := .inl (.inl hB)
            have hSW : SqL K _ a3 ws := .inl (.inl (e1 _ _ hL3))
            have hlB := hAB.len
            refine ⟨_, rfl, b, _, rfl, .inl hSB, _, rfl, a3, _, rfl, .inl hSW, rfl, _, rfl, ?_⟩
            refine ite2 (fun h5 => ?_) (fun h5 => ?_)
            · have e : fillB u (.tuple [d1, .list rs]) = false := by
                have h6 : decide (rs.length = u.ns.length) = false := by
                  rw [hlB, hl3]
                  simp at h5
                  simp
                  omega
                simp only [fillB, h6, Bool.false_and, Bool.and_false]
              rw [e] at q
              exact q _ e1
            · have h7 : rs.length = u.ns.length := by
                rw [hlB, hl3]
                simp at h5
                omega
              have e : fillB u (.tuple [d1, .list rs]) = (rs.zip u.ns).all fun p => lineB p.1 p.2.length := by
                simp only [fillB, h4, decide_eq_true h7, Bool.true_and]
              rw [e] at q
              refine ⟨_, rfl, _, rfl, b, a3, bs, ws, rfl, hSB, hSW, fun D hD => ?_⟩
              have hlz : (rs.zip u.ns).length = min bs.length ws.length := by rw [List.length_zip, hlB, hl3]
              refine lc_ev (min bs.length ws.length) (fun _ => true) (fun i y _ => y = .bl ((fun p : PyData × List Int => lineB p.1 p.2.length) ((rs.zip u.ns).getD i (.none, [])))) (by omega) hD (fun _ _ _ _ _ h => h)
                (fun i H' hi e => itz_go hSB hSW e hi) (fun H' e => itz_stop hSB hSW e) ?_ ?_
              · rintro i H' x H'' hi e _ ⟨T1, z1, z2, rfl, hT1, rfl, hz1, hz2'⟩ Q' N' hQ _
                have i1 := hz1 bs (e.l hSB)
                have i2 := hz2' ws (e.l hSW)
                obtain ⟨dr, hdr, hx1⟩ := hAB.at' i1
                obtain ⟨ds2, hds2, hx2⟩ := hA3.at' i2
                obtain ⟨r, hr2, rfl⟩ := map_at hds2
                obtain ⟨ar, rfl, hLr⟩ := dInts_at hx2
                have e2 : Ex H' (upd H' T1 (.tup [z1, .ref ar])) := Ex.nw hT1
                refine ⟨T1, _, rfl, .inl (.inl upd_same), rfl, _, _, rfl, _, _, rfl, rfl, rfl, ?_⟩
                refine ⟨_, rfl, _, rfl, ar, _, rfl, .inl (((e1.tr e).tr e2).l hLr), _, _, _, rfl, hx1.up (e.tr e2), fun H2 e3 => ?_⟩
                refine hQ rfl _ _ (e2.tr e3) ?_
                have eg : (rs.zip u.ns).getD i (.none, []) = (dr, r) := by
                  rw [List.getD_eq_getElem?_getD, (List.getElem?_zip_eq_some (z := (dr, r))).mpr ⟨hdr, hr2⟩]
                  rfl
                rw [eg, List.length_map]
              · intro ys H' e hy gv
                refine ⟨D, (List.range (min bs.length ws.length)).map fun i => (fun p : PyData × List Int => lineB p.1 p.2.length) ((rs.zip u.ns).getD i (.none, [])), rfl, .inl (.inl ?_), ?_⟩
                · rw [hy, gv.all, given_bl]
                · rw [← hlz, all_range_get (fun p : PyData × List Int => lineB p.1 p.2.length) (.none, []) (rs.zip u.ns)]
                  exact q _ (e1.tr e)
          | _ =>
            have e : ∀ d2, (∀ rs, d2 ≠ .list rs) → fillB u (.tuple [d1, d2]) = false := fun d2 h => by
              cases d2 <;> first | rfl | exact (h _ rfl).elim
            rw [e _ (fun rs h => by cases h)] at q
            exact q _ e1
    | _ => exact q _ Ex.rfl
end

end K36
namespace K36
open PySem PySem.Spec PyProof.Rows L2 Nw
/-! check_web: slots 0 web -/
abbrev s_check_web : Stmt := topS 24
abbrev N_check_web : List Str := ["web"]
abbrev P_check_web : List Str := ["web"]
theorem sc_check_web : FnScope N_check_web P_check_web (defScope s_check_web) := ⟨rfl, rfl, rfl, by decide +kernel, rfl, by decide +kernel, by decide +kernel⟩
/-- of a right value: nothing is raised -/
def sp_check_web (K : PySem.W.Frag) : Sp := fun vs H Q _ => ∃ v d, vs = [v] ∧ Da K H d v ∧ webB d = true ∧ ∀ H', Ex H H' → Q .non H'
section
variable {P : Program} {w : World} {K : PySem.W.Frag} {mg : Str → Option Value} {base : Heap}
theorem ok_check_web {f : Addr} {fd : FuncData} (T : Txt K mg) (F : Fun K "check_web" "check_web" s_check_web f fd)
    (D_has_web_shape : DefOk P w K mg base CX0 6 "has_web_shape" P_has_web_shape (sp_has_web_shape K)) :
    FnG P w K mg base CX0 7 f fd P_check_web (sp_check_web K) := by
  refine okG0 F sc_check_web (fun vs H Q E h => ?_) (fun cdv A outer s H vs Q E hr hq h => ?_)
  · obtain ⟨v, d, rfl, _⟩ := h
    rfl
  · obtain ⟨v, d, rfl, hd, hw, q⟩ := h
    refine ⟨_, (pss_one (ps_if (pt_not (pt_val (pe_callD D_has_web_shape (hr.mono (by decide)) hq pass0 (pa_cons (pv 0) pa_nil)))) (pss_one ps_never) pss_nil)), ?_⟩
    refine ⟨_, rfl, _, _, rfl, hd, fun H1 e1 => ⟨_, rfl, ?_⟩⟩
    rw [hw]
    exact q _ e1
end

/-! check_filling: slots 0 web, 1 filling -/
abbrev s_check_filling : Stmt := topS 25
abbrev N_check_filling : List Str := ["web", "filling"]
abbrev P_check_filling : List Str := ["web", "filling"]
theorem sc_check_filling : FnScope N_check_filling P_check_filling (defScope s_check_filling) := ⟨rfl, rfl, rfl, by decide +kernel, rfl, by decide +kernel, by decide +kernel⟩
def sp_check_filling (K : PySem.W.Frag) : Sp := fun vs H Q _ => ∃ x u v d, vs = [x, v] ∧ Da K H (Wb.d u) x ∧ u.Ok ∧ Da K H d v ∧ fillB u d = true ∧ ∀ H', Ex H H' → Q .non H'
section
variable {P : Program} {w : World} {K : PySem.W.Frag} {mg : Str → Option Value} {base : Heap}
theorem ok_check_filling {f : Addr} {fd : FuncData} (T : Txt K mg) (F : Fun K "check_filling" "check_filling" s_check_filling f fd)
    (D_has_filling_shape : DefOk P w K mg base CX0 4 "has_filling_shape" P_has_filling_shape (sp_has_filling_shape K)) :
    FnG P w K mg base CX0 5 f fd P_check_filling (sp_check_filling K) := by
  refine okG0 F sc_check_filling (fun vs H Q E h => ?_) (fun cdv A outer s H vs Q E hr hq h => ?_)
  · obtain ⟨x, u, v, d, rfl, _⟩ := h
    rfl
  · obtain ⟨x, u, v, d, rfl, hw, hu, hd, hf, q⟩ := h
    refine ⟨_, (pss_one (ps_if (pt_not (pt_val (pe_callD D_has_filling_shape (hr.mono (by decide)) hq pass0 (pa_cons (pv 0) (pa_cons (pv 1) pa_nil))))) (pss_one ps_never) pss_nil)), ?_⟩
    refine ⟨_, rfl, _, rfl, _, u, _, _, rfl, hw, hu, hd, fun H1 e1 => ⟨_, rfl, ?_⟩⟩
    rw [hf]
    exact q _ e1
end

/-! check_state: slots 0 web, 1 state -/
abbrev s_check_state : Stmt := topS 26
abbrev N_check_state : List Str := ["web", "state"]
abbrev P_check_state : List Str := ["web", "state"]
theorem sc_check_state : FnScope N_check_state P_check_state (defScope s_check_state) := ⟨rfl, rfl, rfl, by decide +kernel, rfl, by decide +kernel, by decide +kernel⟩
def sp_check_state (K : PySem.W.Frag) : Sp := fun vs H Q _ => ∃ x u v d, vs = [x, v] ∧ Da K H (Wb.d u) x ∧ u.Ok ∧ Da K H d v ∧ intsB d u.n = true ∧ ∀ H', Ex H H' → Q .non H'
section
variable {P : Program} {w : World} {K : PySem.W.Frag} {mg : Str → Option Value} {base : Heap}
theorem ok_check_state {f : Addr} {fd : FuncData} (T : Txt K mg) (F : Fun K "check_state" "check_state" s_check_state f fd)
    (D_are_integers : DefOk P w K mg base CX0 2 "are_integers" P_are_integers (sp_are_integers K)) :
    FnG P w K mg base CX0 3 f fd P_check_state (sp_check_state K) := by
  refine okG0 F sc_check_state (fun vs H Q E h => ?_) (fun cdv A outer s H vs Q E hr hq h => ?_)
  · obtain ⟨x, u, v, d, rfl, _⟩ := h
    rfl
  · obtain ⟨x, u, v, d, rfl, hw, hu, hd, hf, q⟩ := h
    refine ⟨_, (pss_one (ps_if (pt_not (pt_val (pe_callD D_are_integers (hr.mono (by decide)) hq pass0 (pa_cons (pv 1) (pa_cons (pe_ix (ix_seqK K) (pv 0) pe_int (fun _ _ => rfl)) pa_nil))))) (pss_one ps_never) pss_nil)), ?_⟩
    obtain ⟨t, x2, x3, rfl, hT, g2, g3⟩ := Wb.at hw
    refine ⟨_, rfl, _, rfl, .inr (.inl ⟨t, _, 0, _, rfl, rfl, hT, rfl, _, _, _, rfl, hd, fun H1 e1 => ⟨_, rfl, ?_⟩⟩)⟩
    rw [hf]
    exact q _ e1
end

/-! all_lines: slots 0 web, 1 count, 2 pairs, 3 nudges, 4 pushed, 5 target, 6 at, 7 nudge -/
abbrev s_all_lines : Stmt := topS 28
abbrev N_all_lines : List Str := ["web", "count", "pairs", "nudges", "pushed", "target", "at", "nudge"]
abbrev P_all_lines : List Str := ["web"]
theorem sc_all_lines : FnScope N_all_lines P_all_lines (defScope s_all_lines) := ⟨rfl, rfl, rfl, by decide +kernel, rfl, by decide +kernel, by decide +kernel⟩
def sp_all_lines (K : PySem.W.Frag) : Sp := fun vs H Q _ => ∃ v u, vs = [v] ∧ Da K H (Wb.d u) v ∧ u.Ok ∧
  ∀ p xs H', H p = none → Ex H H' → H' p = some (.lst xs) → DaAll K H' (u.lines.map dPair) xs → Q (.ref p) H'
section
variable {P : Program} {w : World} {K : PySem.W.Frag} {mg : Str → Option Value} {base : Heap}
theorem ok_all_lines {f : Addr} {fd : FuncData} (T : Txt K mg) (F : Fun K "all_lines" "all_lines" s_all_lines f fd) :
    FnG P w K mg base CX0 1 f fd P_all_lines (sp_all_lines K) := by
  refine okG0 F sc_all_lines (fun vs H Q E h => ?_) (fun cdv A outer s H vs Q E hr hq h => ?_)
  · obtain ⟨v, u, rfl, _⟩ := h
    rfl
  · obtain ⟨v, u, rfl, hd, hu, q⟩ := h
    obtain ⟨t, x2, x3, rfl, hS, ⟨a2, ys, rfl, hL20, hA2, hz2⟩, ⟨a, xs, rfl, hL0, hA, hz⟩⟩ := Wb.at hd
    have hL : SqL K _ a xs := .inl (.inl hL0)
    have hL2 : SqL K _ a2 ys := .inl (.inl hL20)
    have hl2 := hA2.len
    have hl := hA.len
    rw [List.length_map] at hl hl2
    refine ⟨_, (pss_cons (ps_asg (pv 0) (pg_tupK (n := 3) K rfl (pgs_cons (pg_name (i := 1) sc_all_lines.nd rfl (by first | exact .inl rfl | exact .inr rfl)) (pgs_cons (pg_name (i := 2) sc_all_lines.nd rfl (by first | exact .inl rfl | exact .inr rfl)) (pgs_cons (pg_name (i := 3) sc_all_lines.nd rfl (by first | exact .inl rfl | exact .inr rfl)) pgs_nil)))))
      (pss_cons (ps_setLc2 (i := 4) (own := [("at", 6), ("nudge", 7), ("target", 5)]) (vs1 := [5]) rfl sc_all_lines.nd rfl rfl (sw_true rfl rfl rfl (by decide +kernel)) (pi_enum (by rfl) T.b_enumerate (pa_cons (pv 3) pa_nil)) (blkOk_by (N := N_all_lines) (sc := defScope s_all_lines) (by decide +kernel)) (by decide) (fun _ _ _ _ _ => (pg_tupK (n := 2) K rfl (pgs_cons (pg_name (i := 6) sc_all_lines.nd rfl (by first | exact .inl rfl | exact .inr rfl)) (pgs_cons (pg_name (i := 7) sc_all_lines.nd rfl (by first | exact .inl rfl | exact .inr rfl)) pgs_nil)))) (fun _ _ _ _ _ => pts_nil) (fun _ _ _ _ _ => (pi_listK K (pv 7))) (fun _ _ _ _ _ => (pg_name (i := 5) sc_all_lines.nd rfl (by first | exact .inl rfl | exact .inr rfl))) (fun _ _ _ _ _ => pts_nil) (fun _ _ _ _ _ => (pe_tup (pa_cons (pe_op op_add (pv 1) (pv 6)) (pa_cons (pv 5) pa_nil)))))
      (pss_one (ps_ret (pe_op (op_catS K) (pv 2) (pv 4)))))), ?_⟩
    refine ⟨_, rfl, t, _, rfl, hS, rfl, _, _, rfl, _, _, rfl, _, _, rfl, rfl, ?_⟩
    refine ⟨_, rfl, a, xs, rfl, hL, fun D hD => ?_⟩
    have nD : ∀ {b o}, H b = some o → b ≠ D := fun h e => by
      rw [e, hD] at h
      cases h
    refine lc2_by xs.length (fun i H' => Ex H H' ∧ ∃ acc, H' D = some (.lst acc) ∧ OffD D acc ∧ DaAll K H' ((pushedFrom u.n 0 (u.ns.take i)).map dPair) acc)
      ⟨Ex.nw hD, [], upd_same, OffD.nil, rfl⟩ (fun i H' hi p => ite_go hL p.1 hi) (fun H' p => ite_stop hL p.1) ?_ ?_
    · rintro i H1 x H2 hi ⟨e1, acc0, hD0, hacc0, hA0⟩ ⟨T1, y1, rfl, hT1, rfl, hy1⟩
      have g1 := hy1 xs (e1.l hL)
      obtain ⟨dr, hdr, hx⟩ := hA.at' g1
      obtain ⟨r, hrr, rfl⟩ := map_at hdr
      obtain ⟨ar, rfl, hLr⟩ := dInts_at hx
      have e2 : Ex H1 (upd H1 T1 (.tup [.int (i : Nat), .ref ar])) := Ex.nw hT1
      refine ⟨T1, _, rfl, .inl (.inl upd_same), rfl, _, _, rfl, _, _, rfl, rfl, rfl, ?_⟩
      refine ⟨_, rfl, ar, rfl, ⟨_, e2.l (e1.l hLr)⟩, ?_⟩
      refine lci_by (r.map V.int).length (fun j H' => Ex H H' ∧ ∃ acc, H' D = some (.lst acc) ∧ OffD D acc ∧
          DaAll K H' ((pushedFrom u.n 0 (u.ns.take i) ++ pushedAt u.n i (r.take j)).map dPair) acc)
        ⟨e1.tr e2, acc0, e2 _ _ hD0, hacc0, ?_⟩ (fun j H' hj p => itl_go hLr p.1 hj) (fun H' p => itl_stop hLr p.1) ?_ ?_
      · rw [List.take_zero]
        simp only [pushedAt, List.map_nil, List.append_nil]
        exact hA0.up e2
      · rintro j H3 x H4 hj ⟨e3, acc, hD3, hacc, hA3⟩ ⟨rfl, hx⟩
        obtain ⟨z, hz', rfl⟩ := map_at (hx _ (e3.l hLr))
        refine ⟨rfl, ?_⟩
        refine ⟨_, rfl, _, rfl, _, _, rfl, rfl, _, rfl, by show 2 ≤ sizeLine; decide, fun T2 hT2 => ?_⟩
        have hT2D : T2 ≠ D := fun e => by
          rw [e, hD3] at hT2
          cases hT2
        have hac : acc.length ≤ 1500 := by
          have h1 := hA3.len
          rw [List.length_map, List.length_append] at h1
          have h2 := pushed_len u.n (u.ns.take i) 0 (fun r hr => hu.row (List.mem_of_mem_take hr))
          have h3 := hu.row (List.mem_of_getElem? hrr)
          have h4 := hu.few
          simp only [pushedAt, List.length_map, List.length_take] at h1 h2
          omega
        refine ⟨acc, by rw [upd_ne hT2D.symm]; exact hD3, mil' (by omega), (e3.tr (Ex.nw hT2)).wr hD, _, upd_same, hacc.snoc hT2D, ?_⟩
        have hT3 : (upd (upd H4 T2 (.tup [.int (u.n + (i : Int)), .int z])) D (.lst (acc ++ [.ref T2]))) T2 = some (.tup [.int (u.n + (i : Int)), .int z]) := by
          rw [upd_ne hT2D, upd_same]
        have et : r.take (j + 1) = r.take j ++ [z] := by rw [List.take_add_one, hz']; rfl
        rw [et]
        simp only [pushedAt, List.map_append, List.map_cons, List.map_nil, ← List.append_assoc]
        refine DaAll.app ?_ ⟨_, _, rfl, dPair_of (p := (u.n + (i : Int), z)) hT3, rfl⟩
        rw [← List.map_append]
        exact pairs_keep ((Ex.nw hT2).d.tr ExD.put) hA3 hacc
      · rintro H3 ⟨e3, acc, hD3, hacc, hA3⟩
        refine ⟨e3, acc, hD3, hacc, ?_⟩
        rw [List.length_map, List.take_length] at hA3
        rw [pushedFrom_take u.n u.ns 0 i r hrr, Nat.zero_add]
        exact hA3
    · rintro H1 ⟨e1, acc, hD1, hacc, hA1⟩
      rw [← hl, List.take_length] at hA1
      have hac : acc.length ≤ 160 := by
        have h1 := hA1.len
        have h2 := pushed_len u.n u.ns 0 (fun r hr => hu.row hr)
        have h4 := hu.few
        rw [List.length_map] at h1
        omega
      refine ⟨_, rfl, _, rfl, a2, D, ys, acc, rfl, rfl, e1.l hL2, .inl (.inl hD1), by have := hu.len; omega, fun p hp => ?_⟩
      refine q p _ _ (e1.fr hp) (e1.nw2 hp) upd_same ?_
      unfold Wb.lines
      rw [List.map_append]
      exact (hA2.up (e1.nw2 hp)).app (hA1.up (Ex.nw hp))
end

end K36
namespace K36
open PySem PySem.Spec PyProof.Rows L2 Nw
/-! all_numbers: slots 0 filling, 1 numbers, 2 strengths, 3 row, 4 number -/
abbrev s_all_numbers : Stmt := topS 30
abbrev N_all_numbers : List Str := ["filling", "numbers", "strengths", "row", "number"]
abbrev P_all_numbers : List Str := ["filling"]
theorem sc_all_numbers : FnScope N_all_numbers P_all_numbers (defScope s_all_numbers) := ⟨rfl, rfl, rfl, by decide +kernel, rfl, by decide +kernel, by decide +kernel⟩
def sp_all_numbers (K : PySem.W.Frag) : Sp := fun vs H Q _ => ∃ v f, vs = [v] ∧ Da K H (Fl.d f) v ∧ (f.xs.length ≤ 1500 ∧ f.ss.flatten.length ≤ 1500) ∧
  ∀ p H', H p = none → Ex H H' → H' p = some (.lst (f.nums.map V.int)) → Q (.ref p) H'
section
variable {P : Program} {w : World} {K : PySem.W.Frag} {mg : Str → Option Value} {base : Heap}
theorem ok_all_numbers {f : Addr} {fd : FuncData} (T : Txt K mg) (F : Fun K "all_numbers" "all_numbers" s_all_numbers f fd) :
    FnG P w K mg base CX0 1 f fd P_all_numbers (sp_all_numbers K) := by
  refine okG0 F sc_all_numbers (fun vs H Q E h => ?_) (fun cdv A outer s H vs Q E hr hq h => ?_)
  · obtain ⟨v, f, rfl, _⟩ := h
    rfl
  · obtain ⟨v, f, rfl, hf, hz, q⟩ := h
    obtain ⟨t, x1, x2, rfl, hT, g1, ⟨a, xs, rfl, hL, hA, hzA⟩⟩ := Fl.at hf
    obtain ⟨a1, rfl, hL1⟩ := dInts_at g1
    have hl := hA.len
    rw [List.length_map] at hl
    have hS : SqL K _ a xs := .inl (.inl hL)
    refine ⟨_, (pss_cons (ps_asg (pv 0) (pg_tupK (n := 2) K rfl (pgs_cons (pg_name (i := 1) sc_all_numbers.nd rfl (by first | exact .inl rfl | exact .inr rfl)) (pgs_cons (pg_name (i := 2) sc_all_numbers.nd rfl (by first | exact .inl rfl | exact .inr rfl)) pgs_nil))))
      (pss_one (ps_ret (pe_op (op_catS K) (pv 1) (pe_lc2 (own := [("row", 3), ("number", 4)]) (vs1 := [4]) rfl sc_all_numbers.nd (pi_listK K (pv 2)) (blkOk_by (N := N_all_numbers) (sc := defScope s_all_numbers) (by decide +kernel)) (by decide) (fun _ _ _ _ _ => (pg_name (i := 3) sc_all_numbers.nd rfl (by first | exact .inl rfl | exact .inr rfl))) (fun _ _ _ _ _ => pts_nil) (fun _ _ _ _ _ => (pi_listK K (pv 3))) (fun _ _ _ _ _ => (pg_name (i := 4) sc_all_numbers.nd rfl (by first | exact .inl rfl | exact .inr rfl))) (fun _ _ _ _ _ => pts_nil) (fun _ _ _ _ _ => (pv 4))))))), ?_⟩
    refine ⟨_, rfl, t, _, rfl, hT, rfl, _, _, rfl, _, _, rfl, rfl, ?_⟩
    refine ⟨_, rfl, _, rfl, a, rfl, ⟨_, hS⟩, fun D hD => ?_⟩
    refine lc2_by xs.length (fun i H' => Ex H H' ∧ H' D = some (.lst (((f.ss.take i).flatten).map V.int)))
      ⟨Ex.nw hD, by rw [upd_same]; rfl⟩ (fun i H' hi p => itl_go hS p.1 hi) (fun H' p => itl_stop hS p.1) ?_ ?_
    · rintro i H1 x H2 hi ⟨e1, hD1⟩ y
      obtain ⟨rfl, hx⟩ := itl_yld y hS e1
      obtain ⟨dr, hdr, hxd⟩ := hA.at' hx
      obtain ⟨r, hrr, rfl⟩ := map_at hdr
      obtain ⟨ar, rfl, hLr⟩ := dInts_at hxd
      have hrl := row_len_flat (List.mem_of_getElem? hrr)
      refine ⟨rfl, ?_⟩
      refine ⟨_, rfl, ar, rfl, ⟨_, e1.l hLr⟩, ?_⟩
      refine lci_by (r.map V.int).length (fun j H' => Ex H H' ∧ H' D = some (.lst (((f.ss.take i).flatten ++ r.take j).map V.int)))
        ⟨e1, by rw [List.take_zero, List.append_nil]; exact hD1⟩ (fun j H' hj p => itl_go hLr p.1 hj) (fun H' p => itl_stop hLr p.1) ?_ ?_
      · rintro j H3 x H4 hj ⟨e3, hD3⟩ ⟨rfl, hx3⟩
        obtain ⟨z, hz', rfl⟩ := map_at (hx3 _ (e3.l hLr))
        refine ⟨rfl, _, rfl, _, hD3, mil' ?_, e3.wr hD, ?_⟩
        · have := flat_len (ss := f.ss) (i := i)
          rw [List.length_map, List.length_append, List.length_take]
          omega
        · rw [upd_same, take_snoc hz', List.map_append, List.map_append, List.map_append, List.append_assoc]
          rfl
      · rintro H3 ⟨e3, hD3⟩
        refine ⟨e3, ?_⟩
        rw [List.length_map, List.take_length, ← flat_take hrr] at hD3
        exact hD3
    · rintro H1 ⟨e1, hD1⟩
      rw [← hl, List.take_length] at hD1
      refine ⟨a1, D, _, _, rfl, rfl, e1.l hL1, .inl (.inl hD1), by rw [List.length_map, List.length_map]; omega, fun p hp => ?_⟩
      refine q p _ (e1.fr hp) (e1.nw2 hp) ?_
      rw [upd_same]
      unfold Fl.nums
      rw [List.map_append]
end

/-! numbered_lines: slots 0 web, 1 filling, 2 numbers, 3 number, 4 source, 5 target -/
abbrev s_numbered_lines : Stmt := topS 31
abbrev N_numbered_lines : List Str := ["web", "filling", "numbers", "number", "source", "target"]
abbrev P_numbered_lines : List Str := ["web", "filling"]
theorem sc_numbered_lines : FnScope N_numbered_lines P_numbered_lines (defScope s_numbered_lines) := ⟨rfl, rfl, rfl, by decide +kernel, rfl, by decide +kernel, by decide +kernel⟩
def sp_numbered_lines (K : PySem.W.Frag) : Sp := fun vs H Q _ => ∃ x u v f, vs = [x, v] ∧ Da K H (Wb.d u) x ∧ u.Ok ∧ Da K H (Fl.d f) v ∧ f.Ok u ∧
  ∀ p zs H', H p = none → Ex H H' → H' p = some (.lst zs) → DaAll K H' ((nl u f).map dNum) zs → Q (.ref p) H'
section
variable {P : Program} {w : World} {K : PySem.W.Frag} {mg : Str → Option Value} {base : Heap}
theorem ok_numbered_lines {f : Addr} {fd : FuncData} (T : Txt K mg) (F : Fun K "numbered_lines" "numbered_lines" s_numbered_lines f fd)
    (D_all_lines : DefOk P w K mg base CX0 1 "all_lines" P_all_lines (sp_all_lines K))
    (D_all_numbers : DefOk P w K mg base CX0 1 "all_numbers" P_all_numbers (sp_all_numbers K)) :
    FnG P w K mg base CX0 2 f fd P_numbered_lines (sp_numbered_lines K) := by
  refine okG0 F sc_numbered_lines (fun vs H Q E h => ?_) (fun cdv A outer s H vs Q E hr hq h => ?_)
  · obtain ⟨x, u, v, f, rfl, _⟩ := h
    rfl
  · obtain ⟨x, u, v, f, rfl, hw, hu, hf, hok, q⟩ := h
    have z0 := hok.nlen
    have z1 := hu.lines_len
    have z2 : f.nums.length = f.xs.length + f.ss.flatten.length := by
      unfold Fl.nums
      rw [List.length_append]
    refine ⟨_, (pss_cons (ps_set (i := 2) sc_numbered_lines.nd rfl (by first | exact .inl rfl | exact .inr rfl) (pe_callD D_all_numbers (hr.mono (by decide)) hq pass0 (pa_cons (pv 1) pa_nil)))
      (pss_one (ps_ret (pe_lc (own := [("number", 3), ("source", 4), ("target", 5)]) rfl sc_numbered_lines.nd (pi_zip (by rfl) T.b_zip (pa_cons (pe_callD D_all_lines (hr.mono (by decide)) hq pass0 (pa_cons (pv 0) pa_nil)) (pa_cons (pv 2) pa_nil))) (blkOk_by (N := N_numbered_lines) (sc := defScope s_numbered_lines) (by decide +kernel)) (fun _ _ _ _ _ => (pg_tupK (n := 2) K rfl (pgs_cons (pg_tupK (n := 2) K rfl (pgs_cons (pg_name (i := 4) sc_numbered_lines.nd rfl (by first | exact .inl rfl | exact .inr rfl)) (pgs_cons (pg_name (i := 5) sc_numbered_lines.nd rfl (by first | exact .inl rfl | exact .inr rfl)) pgs_nil))) (pgs_cons (pg_name (i := 3) sc_numbered_lines.nd rfl (by first | exact .inl rfl | exact .inr rfl)) pgs_nil)))) (fun _ _ _ _ _ => pts_nil) (fun _ _ _ _ _ => (pe_tup (pa_cons (pv 4) (pa_cons (pv 5) (pa_cons (pv 3) pa_nil))))))))), ?_⟩
    refine ⟨_, rfl, v, f, rfl, hf, by omega, fun N H1 hN e1 hN1 => ?_⟩
    refine ⟨_, rfl, _, u, rfl, hw.up e1, hu, fun L zs H2 hL e2 hLs hA => ?_⟩
    have hl := hA.len
    rw [List.length_map] at hl
    have sL : SqL K H2 L zs := .inl (.inl hLs)
    have sN : SqL K H2 N (f.nums.map V.int) := .inl (.inl (e2 _ _ hN1))
    have hln : (nl u f).length = min zs.length (f.nums.map V.int).length := by
      unfold nl
      rw [List.length_zip, List.length_map, hl]
    refine ⟨_, rfl, L, N, zs, _, rfl, sL, sN, fun D hD => ?_⟩
    refine lc_by (min zs.length (f.nums.map V.int).length) (fun i H' => Ex H2 H' ∧ ∃ acc, H' D = some (.lst acc) ∧ DaAll K (rm H' D) (((nl u f).take i).map dNum) acc)
      ⟨Ex.nw hD, [], upd_same, rfl⟩ (fun i H' hi p => itz_go sL sN p.1 hi) (fun H' p => itz_stop sL sN p.1) ?_ ?_
    · rintro i H3 x H4 hi ⟨e3, acc, hD3, hA3⟩ ⟨T1, y1, y2, rfl, hT1, rfl, hy1, hy2⟩
      obtain ⟨p, hp, b, rfl, hSb⟩ := pairs_at hA (hy1 zs (e3.l sL))
      obtain ⟨z, hz, rfl⟩ := map_at (hy2 _ (e3.l sN))
      have e4 : Ex H3 (upd H3 T1 (.tup [.ref b, .int z])) := Ex.nw hT1
      have hlz : (nl u f)[i]? = some (p, z) := (List.getElem?_zip_eq_some (z := (p, z))).mpr ⟨hp, hz⟩
      refine ⟨T1, _, rfl, .inl (.inl upd_same), rfl, _, _, rfl, b, _, rfl, (e3.tr e4).t hSb, rfl, _, _, rfl, _, _, rfl, rfl, _, _, rfl, rfl, rfl, ?_⟩
      generalize upd H3 T1 (.tup [.ref b, .int z]) = H5 at e4
      refine ⟨_, rfl, _, rfl, _, rfl, by show 3 ≤ sizeLine; decide, fun T2 hT2 => ?_⟩
      have hD5 := e4 _ _ hD3
      have T2D : T2 ≠ D := fun e => by
        rw [e, hD5] at hT2
        cases hT2
      have hA5 := hA3.len
      rw [List.length_map, List.length_take] at hA5
      refine ⟨acc, by rw [upd_ne T2D.symm]; exact hD5, mil' (by omega), ((e3.tr e4).tr (Ex.nw hT2)).wr hD, _, upd_same, ?_⟩
      rw [take_snoc hlz, List.map_append]
      refine (hA3.up (ex_rm1 fun c o n h => ?_)).app ⟨_, _, rfl, dNum_of (l := (p, z)) ?_, rfl⟩
      · rw [upd_ne n, upd_ne (ne_of_none (e4 _ _ h) hT2)]
        exact e4 _ _ h
      · rw [rm_ne T2D, upd_ne T2D, upd_same]
    · rintro H3 ⟨e3, acc, hD3, hA3⟩
      rw [← hln, List.take_length] at hA3
      exact q D acc H3 (e1.fr (e2.fr hD)) ((e1.tr e2).tr e3) hD3 (hA3.up rm_ex)
end

/-! moved: slots 0 count, 1 lines, 2 state, 3 given, 4 values, 5 new, 6 source, 7 target, 8 number -/
abbrev s_moved : Stmt := topS 32
abbrev N_moved : List Str := ["count", "lines", "state", "given", "values", "new", "source", "target", "number"]
abbrev P_moved : List Str := ["count", "lines", "state", "given"]
theorem sc_moved : FnScope N_moved P_moved (defScope s_moved) := ⟨rfl, rfl, rfl, by decide +kernel, rfl, by decide +kernel, by decide +kernel⟩
def sp_moved (K : PySem.W.Frag) : Sp := fun vs H Q _ => ∃ (n : Int) (L sa ga : Addr) (zs : List V) (ls : List NL) (st gv : List Int), vs = [.int n, .ref L, .ref sa, .ref ga] ∧ (0 ≤ n ∧ n ≤ 20) ∧
  SqL K H L zs ∧ DaAll K H (ls.map dNum) zs ∧ SqL K H sa (st.map V.int) ∧ SqL K H ga (gv.map V.int) ∧ (st.length ≤ 1000 ∧ gv.length ≤ 1000 ∧ ls.length ≤ 1500) ∧
  (∀ l ∈ ls, ((0 ≤ l.1.1 ∧ l.1.1 < (st.length : Int) + gv.length) ∧ (0 ≤ l.1.2 ∧ l.1.2 < n)) ∧ Bd 1000000 l.2) ∧
  ∀ p H', H p = none → Ex H H' → H' p = some (.lst ((mv n.toNat ls (st ++ gv)).map V.int)) → Q (.ref p) H'
section
variable {P : Program} {w : World} {K : PySem.W.Frag} {mg : Str → Option Value} {base : Heap}
theorem ok_moved {f : Addr} {fd : FuncData} (T : Txt K mg) (F : Fun K "moved" "moved" s_moved f fd) :
    FnG P w K mg base CX0 1 f fd P_moved (sp_moved K) := by
  refine okG0 F sc_moved (fun vs H Q E h => ?_) (fun cdv A outer s H vs Q E hr hq h => ?_)
  · obtain ⟨n, L, sa, ga, zs, ls, st, gv, rfl, _⟩ := h
    rfl
  · obtain ⟨n, L, sa, ga, zs, ls, st, gv, rfl, hn, hL, hA, hs, hg, hz, hok, q⟩ := h
    have hl := hA.len
    rw [List.length_map] at hl
    refine ⟨_, (pss_cons (ps_set (i := 4) sc_moved.nd rfl (by first | exact .inl rfl | exact .inr rfl) (pe_op (op_catS K) (pv 2) (pv 3)))
      (pss_cons (ps_set (i := 5) sc_moved.nd rfl (by first | exact .inl rfl | exact .inr rfl) (pe_op op_rep (pe_lst (pa_cons pe_int pa_nil)) (pv 0)))
      (pss_cons (ps_for PassesOwn.never rfl (pi_listK K (pv 1)) (pg_tupK (n := 3) K rfl (pgs_cons (pg_name (i := 6) sc_moved.nd rfl (by first | exact .inl rfl | exact .inr rfl)) (pgs_cons (pg_name (i := 7) sc_moved.nd rfl (by first | exact .inl rfl | exact .inr rfl)) (pgs_cons (pg_name (i := 8) sc_moved.nd rfl (by first | exact .inl rfl | exact .inr rfl)) pgs_nil)))) (pss_one (ps_augS (pv 5) (pv 7) (get_list K) (pe_op op_mul (pv 8) (pe_ix (ix_seqK K) (pv 4) (pv 6) (fun _ _ => rfl))) ip_add set_list)))
      (pss_one (ps_ret (pv 5)))))), ?_⟩
    refine ⟨_, rfl, _, rfl, sa, ga, _, _, rfl, rfl, hs, hg, by rw [List.length_map, List.length_map]; omega, fun B hB => ?_⟩
    have e1 : Ex H (upd H B (.lst (st.map V.int ++ gv.map V.int))) := Ex.nw hB
    have f1 : (upd H B (.lst (st.map V.int ++ gv.map V.int))) B = some (.lst (st.map V.int ++ gv.map V.int)) := upd_same
    generalize upd H B (.lst (st.map V.int ++ gv.map V.int)) = H1 at e1 f1
    rw [← List.map_append] at f1
    refine ⟨by show 1 ≤ sizeLine; decide, fun O hO => ?_⟩
    have e2 : Ex H1 (upd H1 O (.lst [.int 0])) := Ex.nw hO
    have f2 : (upd H1 O (.lst [.int 0])) O = some (.lst [.int 0]) := upd_same
    generalize upd H1 O (.lst [.int 0]) = H2 at e2 f2
    refine ⟨_, rfl, O, n, _, rfl, rfl, f2, by omega, by omega, mil (by rw [List.length_singleton]; omega), fun D hD => ?_⟩
    rw [rep_int]
    have hDB : H D = none := (e1.tr e2).fr hD
    have DB : B ≠ D := fun e => by
      rw [← e, e2 _ _ f1] at hD
      cases hD
    refine ⟨_, rfl, L, rfl, ⟨_, ((e1.tr e2).tr (Ex.nw hD)).l hL⟩, ?_⟩
    refine for_by zs.length (fun i σ H' => ∃ y6 y7 y8, σ = [some (V.int n), some (V.ref L), some (V.ref sa), some (V.ref ga), some (V.ref B), some (V.ref D), y6, y7, y8] ∧ Ex H2 H' ∧
        H' D = some (.lst ((mvs (st ++ gv) (ls.take i) (List.replicate n.toNat 0)).map V.int)))
      ⟨_, _, _, rfl, Ex.nw hD, by rw [upd_same]; rfl⟩ (fun i σ H' hi p => ?_) (fun σ H' p => ?_) ?_ ?_
    · obtain ⟨_, _, _, _, e3, _⟩ := p
      exact itl_go hL ((e1.tr e2).tr e3) hi
    · obtain ⟨_, _, _, _, e3, _⟩ := p
      exact itl_stop hL ((e1.tr e2).tr e3)
    · rintro i σ H3 x H4 hi ⟨y6, y7, y8, rfl, e3, hD3⟩ y
      have e03 := (e1.tr e2).tr e3
      obtain ⟨rfl, hx⟩ := itl_yld y hL e03
      obtain ⟨l, hli, b, rfl, hSb⟩ := nums_at hA hx
      obtain ⟨⟨h1, h2⟩, h3⟩ := hok l (List.mem_of_getElem? hli)
      have hml : (mvs (st ++ gv) (ls.take i) (List.replicate n.toNat 0)).length = n.toNat := by rw [mvs_len, List.length_replicate]
      generalize hm : mvs (st ++ gv) (ls.take i) (List.replicate n.toNat 0) = acc at hD3 hml
      have i2 : l.1.2.toNat < acc.length := by omega
      have i1 : l.1.1.toNat < (st ++ gv).length := by
        rw [List.length_append]
        omega
      have g2 := List.getElem?_eq_getElem i2
      have g1 := List.getElem?_eq_getElem i1
      generalize acc[l.1.2.toNat] = x2 at g2
      generalize (st ++ gv)[l.1.1.toNat] = x1 at g1
      refine ⟨b, _, rfl, e03.t hSb, rfl, _, _, rfl, _, _, rfl, _, _, rfl, rfl, ?_⟩
      refine ⟨_, rfl, _, rfl, D, _, l.1.2, .int x2, rfl, rfl, h2.1, .inl (.inl hD3), by rw [List.getElem?_map, g2]; rfl, ?_⟩
      refine ⟨_, rfl, _, rfl, _, rfl, .inl ⟨B, _, l.1.1, .int x1, rfl, rfl, .inl (.inl (e3 _ _ (e2 _ _ f1))), atI_int h1.1 (by rw [List.getElem?_map, g1]; rfl), ?_⟩⟩
      refine ⟨_, _, rfl, rfl, .inl ⟨by have := h3.1; omega, by have := h3.2; omega⟩, _, _, rfl, rfl, D, _, l.1.2, l.1.2.toNat, rfl, rfl, hD3, ixN_int h2.1 (by rw [List.length_map]; omega), ?_⟩
      refine ⟨_, _, _, rfl, e3.wr hD, ?_⟩
      rw [upd_same, stp_at g2 g1, take_snoc hli, mvs_snoc, hm]
    · rintro σ H3 ⟨y6, y7, y8, rfl, e3, hD3⟩
      rw [← hl, List.take_length] at hD3
      exact ⟨_, rfl, q D H3 hDB ((e1.tr e2).tr e3) hD3⟩
end

end K36
namespace K36
open PySem PySem.Spec PyProof.Rows L2 Nw
/-! states_behind: slots 0 web, 1 filling, 2 state, 3 rows, 4 lines, 5 states, 6 given -/
abbrev s_states_behind : Stmt := topS 33
abbrev N_states_behind : List Str := ["web", "filling", "state", "rows", "lines", "states", "given"]
abbrev P_states_behind : List Str := ["web", "filling", "state", "rows"]
theorem sc_states_behind : FnScope N_states_behind P_states_behind (defScope s_states_behind) := ⟨rfl, rfl, rfl, by decide +kernel, rfl, by decide +kernel, by decide +kernel⟩
def sp_states_behind (K : PySem.W.Frag) : Sp := fun vs H Q _ => ∃ x u v f sv st rv rows, vs = [x, v, sv, rv] ∧ Da K H (Wb.d u) x ∧ u.Ok ∧ Da K H (Fl.d f) v ∧ f.Ok u ∧
  Da K H (dInts st) sv ∧ (st.length : Int) = u.n ∧ Da K H (dRows rows) rv ∧ (∀ r ∈ rows, r.length = u.ns.length) ∧ rows.length ≤ 60 ∧
  ∀ p bs H', NewR H H' (rn u.n.toNat (nl u f) st rows) p bs → Q (.ref p) H'
section
variable {P : Program} {w : World} {K : PySem.W.Frag} {mg : Str → Option Value} {base : Heap}
theorem ok_states_behind {f : Addr} {fd : FuncData} (T : Txt K mg) (F : Fun K "states_behind" "states_behind" s_states_behind f fd)
    (D_numbered_lines : DefOk P w K mg base CX0 2 "numbered_lines" P_numbered_lines (sp_numbered_lines K))
    (D_moved : DefOk P w K mg base CX0 1 "moved" P_moved (sp_moved K)) :
    FnG P w K mg base CX0 3 f fd P_states_behind (sp_states_behind K) := by
  refine okG0 F sc_states_behind (fun vs H Q E h => ?_) (fun cdv A outer s H vs Q E hr hq h => ?_)
  · obtain ⟨x, u, v, f, sv, st, rv, rows, rfl, _⟩ := h
    rfl
  · obtain ⟨x, u, v, f, sv, st, rv, rows, rfl, hw, hu, hf, hok, hst, hsl, ⟨a, xs, rfl, hR, hA, hzA⟩, hrl, hrz, q⟩ := h
    obtain ⟨t, x2, x3, rfl, hT, g2, g3⟩ := Wb.at hw
    obtain ⟨sa, rfl, hS⟩ := dInts_at hst
    have sR : SqL K _ a xs := .inl (.inl hR)
    have hl := hA.len
    rw [List.length_map] at hl
    have b1 := hu.lo
    have b2 := hu.hi
    have b3 := hu.few
    refine ⟨_, (pss_cons (ps_set (i := 4) sc_states_behind.nd rfl (by first | exact .inl rfl | exact .inr rfl) (pe_callD D_numbered_lines (hr.mono (by decide)) hq pass0 (pa_cons (pv 0) (pa_cons (pv 1) pa_nil))))
      (pss_cons (ps_set (i := 5) sc_states_behind.nd rfl (by first | exact .inl rfl | exact .inr rfl) (pe_lst (pa_cons (pe_callTy (call_listK K) (by rfl) T.b_list bt_list (pa_cons (pv 2) pa_nil)) pa_nil)))
      (pss_cons (ps_for PassesOwn.never rfl (pi_listK K (pv 3)) (pg_name (i := 6) sc_states_behind.nd rfl (by first | exact .inl rfl | exact .inr rfl)) (pss_one (ps_expr (pe_bm PySem.F.plainAttrs_list PySem.F.slot_list_append PySem.F.type_list_append mt_append (pv 5) (pa_cons (pe_callD D_moved (hr.mono (by decide)) hq pass0 (pa_cons (pe_ix (ix_seqK K) (pv 0) pe_int (fun _ _ => rfl)) (pa_cons (pv 4) (pa_cons (pe_ix (ix_listK K) (pv 5) (pe_un un_neg pe_int) (fun _ _ => rfl)) (pa_cons (pv 6) pa_nil))))) pa_nil)))))
      (pss_one (ps_ret (pv 5)))))), ?_⟩
    refine ⟨_, rfl, _, rfl, _, u, _, f, rfl, hw, hu, hf, hok, fun L zs H1 hL0 e1 hL hAL => ?_⟩
    refine ⟨_, rfl, sa, _, rfl, .inl (e1.l hS), fun S0 hS0 => ?_⟩
    have e2 : Ex H1 (upd H1 S0 (.lst (st.map V.int))) := Ex.nw hS0
    have f2 : (upd H1 S0 (.lst (st.map V.int))) S0 = some (.lst (st.map V.int)) := upd_same
    generalize upd H1 S0 (.lst (st.map V.int)) = H2 at e2 f2
    refine ⟨by show 1 ≤ sizeLine; decide, fun D hD => ?_⟩
    have S0D : S0 ≠ D := fun e => by
      rw [e, hD] at f2
      cases f2
    have e12 := e1.tr e2
    refine ⟨_, rfl, a, rfl, ⟨_, (e12.tr (Ex.nw hD)).l sR⟩, ?_⟩
    have sL : SqL K H2 L zs := .inl (.inl (e2 _ _ hL))
    refine for_by xs.length (fun i σ H' => ∃ y6, σ = [some (V.ref t), some v, some (V.ref sa), some (V.ref a), some (V.ref L), some (V.ref D), y6] ∧ Ex H2 H' ∧
        ∃ bs b, NewR H H' (rn u.n.toNat (nl u f) st (rows.take i)) D (bs ++ [b]))
      ⟨_, rfl, Ex.nw hD, [], S0, ?_⟩ (fun i σ H' hi p => ?_) (fun σ H' p => ?_) ?_ ?_
    · refine ⟨e12.tr (Ex.nw hD), e12.fr hD, by rw [upd_same]; rfl, rfl, ?_, by simp⟩
      intro k b hb
      cases k with
      | zero =>
        obtain rfl : S0 = b := by simpa using hb
        exact ⟨⟨e1.fr hS0, S0D⟩, st, rfl, by rw [upd_ne S0D]; exact f2⟩
      | succ k => simp at hb
    · obtain ⟨_, _, e3, _⟩ := p
      exact itl_go sR (e12.tr e3) hi
    · obtain ⟨_, _, e3, _⟩ := p
      exact itl_stop sR (e12.tr e3)
    · rintro i σ H3 x H4 hi ⟨y6, rfl, e3, bs, b, R⟩ y
      obtain ⟨rfl, hx⟩ := itl_yld y sR (e12.tr e3)
      obtain ⟨dr, hdr, hxd⟩ := hA.at' hx
      obtain ⟨r, hrr, rfl⟩ := map_at hdr
      obtain ⟨ar, rfl, hLr⟩ := dInts_at hxd
      have e03 := e12.tr e3
      have hk := rn_len u.n.toNat (nl u f) st rows i (by omega)
      have hbl := R.len
      rw [List.length_append, List.length_singleton, hk] at hbl
      obtain ⟨nb, s, hs1, hs2⟩ := R.row bs.length b (by rw [List.getElem?_concat_length])
      have hlast := last_row (d := []) hs1 (by omega)
      have hsl2 : (s.length : Int) = u.n := by
        have hm : ∀ k, k ≤ rows.length → ∀ z ∈ rn u.n.toNat (nl u f) st (rows.take k), (z.length : Int) = u.n := by
          intro k
          induction k with
          | zero =>
            intro _ z hz
            obtain rfl : z = st := by simpa [rn] using hz
            exact hsl
          | succ k ih =>
            intro hk z hz
            rw [take_snoc (List.getElem?_eq_getElem (show k < rows.length from hk)), rn_snoc] at hz
            rcases List.mem_append.mp hz with hz | hz
            · exact ih (by omega) z hz
            · obtain rfl := List.mem_singleton.mp hz
              rw [mv_len]
              omega
        exact hm i (by omega) s (List.mem_of_getElem? hs1)
      have hrl2 := hrl r (List.mem_of_getElem? hrr)
      refine ⟨_, rfl, .inl ⟨rfl, _, .inl (.inl R.at_)⟩, _, rfl, .inr (.inl ⟨t, _, 0, _, rfl, rfl, e03.t hT, rfl, ?_⟩)⟩
      refine ⟨_, rfl, _, rfl, _, rfl, D, _, -1, .ref b, rfl, rfl, .inl (.inl R.at_), by rw [List.map_append]; exact atI_last _ _, ?_⟩
      refine ⟨_, rfl, u.n, L, b, ar, zs, nl u f, s, r, rfl, by omega, e3.l sL, hAL.up (e2.tr e3), .inl (.inl hs2), e03.l hLr, ⟨by omega, by omega, hok.nl_len hu⟩, ?_, fun l H5 hl5 e5 h5 => ?_⟩
      · intro l hl
        have := hok.line hu l hl
        refine ⟨⟨⟨this.1.1.1, ?_⟩, this.1.2⟩, this.2⟩
        have := this.1.1.2
        omega
      · have hD5 := e5 _ _ R.at_
        refine ⟨D, _, _, rfl, rfl, hD5, mil' (by rw [List.length_map, List.length_append, List.length_singleton]; omega), ?_⟩
        have R5 := R.snoc e5 hl5 h5
        refine ⟨_, rfl, (e3.tr e5).wr hD, bs ++ [b], l, ?_⟩
        rw [take_snoc hrr, rn_snoc, hlast]
        exact R5
    · rintro σ H3 ⟨y6, rfl, e3, bs, b, R⟩
      rw [← hl, List.take_length] at R
      exact ⟨_, rfl, q D _ H3 R⟩
end

end K36
namespace K36
open PySem PySem.Spec PyProof.Rows L2 Nw
/-! _law_well: slots 0 _law_script, 1 _law_k, 2 _law_cell -/
abbrev s_well : Stmt := topS 38
abbrev N_well : List Str := ["_law_script", "_law_k", "_law_cell"]
abbrev P_well : List Str := ["_law_script", "_law_k"]
theorem sc_well : FnScope N_well P_well (defScope s_well) := ⟨rfl, rfl, rfl, by decide +kernel, rfl, by decide +kernel, by decide +kernel⟩
theorem p31 : (10 : Int) ^ Int.toNat 31 = 10000000000000000000000000000000 := by decide +kernel
theorem p33 : (10 : Int) ^ Int.toNat 33 = 1000000000000000000000000000000000 := by decide +kernel
theorem p27 : (10 : Int) ^ Int.toNat 27 = 1000000000000000000000000000 := by decide +kernel
theorem ne31 : (10 : Int) ^ Int.toNat 31 + 33 ≠ 0 := by rw [p31]; decide
theorem ne33 : (10 : Int) ^ Int.toNat 33 + 61 ≠ 0 := by rw [p33]; decide
theorem ne27 : (10 : Int) ^ Int.toNat 27 + 103 ≠ 0 := by rw [p27]; decide
theorem cpow5 {i : Int} (h0 : 0 ≤ i) (h : i < 10 ^ 60) : CPowW i 5 := ⟨by decide, by decide, pow_lt_of h0 h⟩
theorem well_new {a x k : Int} (hk : 0 ≤ k ∧ k ≤ 63) : 0 ≤ a.fmod (10 ^ Int.toNat 31 + 33) + 6700417 * k + 257 ∧ a.fmod (10 ^ Int.toNat 31 + 33) + 6700417 * k + 257 < 10 ^ 42 := by
  have h := fmod_in (a := a) (m := 10 ^ Int.toNat 31 + 33) (by rw [p31]; omega)
  rw [p31] at h ⊢
  rw [p42]
  omega
def sp_well (K : PySem.W.Frag) : Sp := fun vs H Q _ => ∃ (a : Addr) (ns : List Int) (k : Int), vs = [.ref a, .int k] ∧ SqL K H a (ns.map V.int) ∧ (0 ≤ k ∧ k ≤ 63) ∧
  ∀ p H', H p = none → Ex H H' → Purse H' p 0 → Q (.ref p) H'
section
variable {P : Program} {w : World} {K : PySem.W.Frag} {mg : Str → Option Value} {base : Heap}
theorem ok_well {f : Addr} {fd : FuncData} (T : Txt K mg) (F : Fun K "_law_well" "_law_well" s_well f fd) :
    FnG P w K mg base CX0 1 f fd P_well (sp_well K) := by
  refine okG0 F sc_well (fun vs H Q E h => ?_) (fun cdv A outer s H vs Q E hr hq h => ?_)
  · obtain ⟨a, ns, k, rfl, _⟩ := h
    rfl
  · obtain ⟨a, ns, k, rfl, hS, hk, q⟩ := h
    have fin : ∀ (z x y : Int) (p : Addr), H p = none → 0 ≤ x → Q (.ref p) (upd H p (.lst [.int x, .int (y.fmod (10 ^ Int.toNat 31 + 33) + 6700417 * k + 257), .int 0])) :=
      fun z x y p hp hx => q p _ hp (Ex.nw hp) ⟨_, _, _, upd_same, hx, well_new (x := z) hk, by omega, by omega⟩
    refine ⟨_, (pss_cons (ps_set (i := 2) sc_well.nd rfl (by first | exact .inl rfl | exact .inr rfl) (pe_ifExp (pt_cmpR op_lt (pv 1) (pe_callB (call_lenK K) (by rfl) T.b_len bt_len (pa_cons (pv 0) pa_nil)) (nomark _)) (pe_ix (ix_listK K) (pv 0) (pv 1) (fun _ _ => rfl)) pe_int))
      (pss_one (ps_ret (pe_lst (pa_cons (pe_callB (call_max2 rfl) (by rfl) T.b_max bt_max (pa_cons pe_int (pa_cons (pe_op op_sub (pv 2) (pe_op op_powW pe_int pe_int)) pa_nil))) (pa_cons (pe_op op_add (pe_op op_add (pe_op op_modN (pe_callTy call_int1 (by rfl) T.b_int bt_int (pa_cons (pe_callB call_abs (by rfl) T.b_abs bt_abs (pa_cons (pv 2) pa_nil)) pa_nil)) (pe_op op_add (pe_op op_powW pe_int pe_int) pe_int)) (pe_op op_mul pe_int (pv 1))) pe_int) (pa_cons pe_int pa_nil))))))), ?_⟩
    refine ⟨_, rfl, _, rfl, a, _, rfl, .inl hS, _, _, rfl, rfl, _, rfl, ?_⟩
    refine ite2 (fun h1 => ?_) (fun h1 => ?_)
    · have h2 : k.toNat < ns.length := by
        simp only [List.length_map, decide_eq_true_eq] at h1
        omega
      refine ⟨_, rfl, _, rfl, a, _, k, .int (ns[k.toNat]), rfl, rfl, hS, atI_int hk.1 (by rw [List.getElem?_map, List.getElem?_eq_getElem h2]; rfl), ?_⟩
      refine ⟨_, rfl, _, _, rfl, rfl, cpow10 (by decide) (by decide), _, _, rfl, rfl, _, _, rfl, ?_⟩
      refine ⟨_, rfl, _, rfl, .inl ⟨_, rfl, _, _, rfl, rfl, cpow10 (by decide) (by decide), _, _, rfl, rfl, _, _, rfl, rfl, ne31, ?_⟩⟩
      refine ⟨_, rfl, _, _, rfl, rfl, .inl ⟨by decide, by decide⟩, _, _, rfl, rfl, _, _, rfl, rfl, by show 3 ≤ sizeLine; decide, fun p hp => ?_⟩
      exact fin (ns[k.toNat]) _ _ p hp (by split <;> omega)
    · refine ⟨_, rfl, _, _, rfl, rfl, cpow10 (by decide) (by decide), _, _, rfl, rfl, _, _, rfl, ?_⟩
      refine ⟨_, rfl, _, rfl, .inl ⟨_, rfl, _, _, rfl, rfl, cpow10 (by decide) (by decide), _, _, rfl, rfl, _, _, rfl, rfl, ne31, ?_⟩⟩
      refine ⟨_, rfl, _, _, rfl, rfl, .inl ⟨by decide, by decide⟩, _, _, rfl, rfl, _, _, rfl, rfl, by show 3 ≤ sizeLine; decide, fun p hp => ?_⟩
      exact fin 0 _ _ p hp (by split <;> omega)
end

/-! _law_pick: slots 0 _law_well_here, 1 _law_bound, 2 _law_found, 3 _law_stirred -/
abbrev s_pick : Stmt := topS 39
abbrev N_pick : List Str := ["_law_well_here", "_law_bound", "_law_found", "_law_stirred"]
abbrev P_pick : List Str := ["_law_well_here", "_law_bound"]
theorem sc_pick : FnScope N_pick P_pick (defScope s_pick) := ⟨rfl, rfl, rfl, by decide +kernel, rfl, by decide +kernel, by decide +kernel⟩
def sp_pick (K : PySem.W.Frag) : Sp := fun vs H Q _ => ∃ (p : Addr) (m : Int) (n : Nat), vs = [.ref p, .int m] ∧ (0 < m ∧ m < 1000000000000000000000000000000000000000000000000000000000000) ∧ Purse H p n ∧ n ≤ 1000000000 ∧
  ∀ z H', (0 ≤ z ∧ z < m) → Purse H' p (n + 1) → ExD p H H' → Q (.int z) H'
section
variable {P : Program} {w : World} {K : PySem.W.Frag} {mg : Str → Option Value} {base : Heap}
theorem ok_pick {f : Addr} {fd : FuncData} (T : Txt K mg) (F : Fun K "_law_pick" "_law_pick" s_pick f fd) :
    FnG P w K mg base CX0 1 f fd P_pick (sp_pick K) := by
  refine okG0 F sc_pick (fun vs H Q E h => ?_) (fun cdv A outer s H vs Q E hr hq h => ?_)
  · obtain ⟨p, m, n, rfl, _⟩ := h
    rfl
  · obtain ⟨p, m, n, rfl, hm, ⟨b, c, e, hp, hb, hc, he⟩, hn, q⟩ := h
    have hS : SqL K H p [.int b, .int c, .int e] := .inl (.inl hp)
    refine ⟨_, (pss_cons (ps_if (pt_cmpR op_gt (pe_ix (ix_listK K) (pv 0) pe_int (fun _ _ => rfl)) pe_int (nomark _)) (pss_cons (ps_set (i := 2) sc_pick.nd rfl (by first | exact .inl rfl | exact .inr rfl) (pe_op op_modN (pe_callTy call_int1 (by rfl) T.b_int bt_int (pa_cons (pe_ix (ix_listK K) (pv 0) pe_int (fun _ _ => rfl)) pa_nil)) (pv 1)))
      (pss_cons (ps_asg (pe_op op_fdivW (pe_ix (ix_listK K) (pv 0) pe_int (fun _ _ => rfl)) (pv 1)) (pg_sub (pv 0) pe_int set_list))
      (pss_one (ps_ret (pv 2))))) pss_nil)
      (pss_cons (ps_asg (pe_op op_add (pe_ix (ix_listK K) (pv 0) pe_int (fun _ _ => rfl)) pe_int) (pg_sub (pv 0) pe_int set_list))
      (pss_cons (ps_set (i := 3) sc_pick.nd rfl (by first | exact .inl rfl | exact .inr rfl) (pe_op op_modN (pe_callTy call_int1 (by rfl) T.b_int bt_int (pa_cons (pe_op op_powW (pe_op op_add (pe_ix (ix_listK K) (pv 0) pe_int (fun _ _ => rfl)) (pe_op op_mul pe_int (pe_ix (ix_listK K) (pv 0) pe_int (fun _ _ => rfl)))) pe_int) pa_nil)) (pe_op op_add (pe_op op_powW pe_int pe_int) pe_int)))
      (pss_cons (ps_set (i := 3) sc_pick.nd rfl (by first | exact .inl rfl | exact .inr rfl) (pe_op op_modN (pe_callTy call_int1 (by rfl) T.b_int bt_int (pa_cons (pe_op op_powW (pe_op op_add (pv 3) (pe_op op_mul pe_int (pe_ix (ix_listK K) (pv 0) pe_int (fun _ _ => rfl)))) pe_int) pa_nil)) (pe_op op_add (pe_op op_powW pe_int pe_int) pe_int)))
      (pss_one (ps_ret (pe_op op_modN (pe_callTy call_int1 (by rfl) T.b_int bt_int (pa_cons (pe_op op_fdivW (pv 3) pe_int) pa_nil)) (pv 1)))))))), ?_⟩
    refine ⟨_, rfl, p, _, 0, _, rfl, rfl, hS, rfl, _, _, rfl, rfl, _, rfl, ?_⟩
    refine ite2 (fun h1 => ?_) (fun h1 => ?_)
    · refine ⟨_, rfl, p, _, 0, _, rfl, rfl, hS, rfl, .inl ⟨_, rfl, _, rfl, _, _, rfl, rfl, by omega, ?_⟩⟩
      refine ⟨_, rfl, p, _, 0, _, rfl, rfl, hS, rfl, _, rfl, _, _, rfl, rfl, great_div hm.1 hm.2, ?_⟩
      refine ⟨_, rfl, p, _, 0, 0, rfl, rfl, hp, rfl, _, rfl, ?_⟩
      exact q _ _ (fmod_in hm.1) ⟨_, _, _, upd_same, div_in hb hm.1, hc, he.1, by omega⟩ ExD.put
    · refine ⟨_, rfl, p, _, 2, _, rfl, rfl, hS, rfl, _, _, rfl, rfl, ?_⟩
      refine ⟨_, rfl, p, _, 2, 2, rfl, rfl, hp, rfl, ?_⟩
      have hS2 : SqL K (upd H p (.lst [.int b, .int c, .int (e + 1)])) p [.int b, .int c, .int (e + 1)] := .inl (.inl upd_same)
      have b1 : 0 ≤ c + 524287 * (e + 1) ∧ c + 524287 * (e + 1) < 10 ^ 60 := by
        rw [p42] at hc
        rw [p60]
        omega
      refine ⟨_, rfl, p, _, 1, _, rfl, rfl, hS2, rfl, _, rfl, p, _, 2, _, rfl, rfl, hS2, rfl, _, _, rfl, rfl, .inl ⟨by decide, by decide⟩, _, _, rfl, rfl, ?_⟩
      refine ⟨_, _, rfl, rfl, cpow5 b1.1 b1.2, .inl ⟨_, rfl, _, _, rfl, rfl, cpow10 (by decide) (by decide), _, _, rfl, rfl, _, _, rfl, rfl, ne33, ?_⟩⟩
      have b2 := fmod_in (a := (c + 524287 * (e + 1)) ^ Int.toNat 5) (m := 10 ^ Int.toNat 33 + 61) (by rw [p33]; decide)
      have b3 : ∀ y : Int, 0 ≤ y ∧ y < 10 ^ Int.toNat 33 + 61 → 0 ≤ y + 2097143 * (e + 1) ∧ y + 2097143 * (e + 1) < 10 ^ 60 := by
        intro y b2
        rw [p33] at b2
        rw [p60]
        omega
      refine ⟨_, rfl, _, rfl, p, _, 2, _, rfl, rfl, hS2, rfl, _, _, rfl, rfl, .inl ⟨by decide, by decide⟩, _, _, rfl, rfl, ?_⟩
      refine ⟨_, _, rfl, rfl, cpow3 (b3 _ b2).1 (b3 _ b2).2, .inl ⟨_, rfl, _, _, rfl, rfl, cpow10 (by decide) (by decide), _, _, rfl, rfl, _, _, rfl, rfl, ne27, ?_⟩⟩
      refine ⟨_, rfl, _, _, rfl, rfl, small_div' (by decide) (by decide), .inl ⟨_, rfl, _, rfl, _, _, rfl, rfl, by omega, ?_⟩⟩
      exact q _ _ (fmod_in hm.1) ⟨_, _, _, upd_same, hb, hc, by omega, by omega⟩ ExD.put
end

end K36
namespace K36
open PySem PySem.Spec PyProof.Rows L2 Nw
/-! _law_mixed: slots 0 _law_well_here, 1 _law_things, 2 _law_left, 3 _law_found -/
abbrev s_mixed : Stmt := topS 40
abbrev N_mixed : List Str := ["_law_well_here", "_law_things", "_law_left", "_law_found"]
abbrev P_mixed : List Str := ["_law_well_here", "_law_things"]
theorem sc_mixed : FnScope N_mixed P_mixed (defScope s_mixed) := ⟨rfl, rfl, rfl, by decide +kernel, rfl, by decide +kernel, by decide +kernel⟩
/-- things in any sequence, off the well -/
def sp_mixed (K : PySem.W.Frag) : Sp := fun vs H Q _ => ∃ (p a : Addr) (n : Int) (m : Nat), vs = [.ref p, .ref a] ∧ (1 ≤ n ∧ n ≤ 20) ∧ SqL K H a ((iota n).map V.int) ∧ Purse H p m ∧ m ≤ 1000000 ∧
  ∀ (l : Addr) (o : List Int) H', H l = none → ExD p H H' → Purse H' p (m + 20) → H' l = some (.lst (o.map V.int)) → IsOrd n o → Q (.ref l) H'
section
variable {P : Program} {w : World} {K : PySem.W.Frag} {mg : Str → Option Value} {base : Heap}
theorem ok_mixed {f : Addr} {fd : FuncData} (T : Txt K mg) (F : Fun K "_law_mixed" "_law_mixed" s_mixed f fd)
    (D_pick : DefOk P w K mg base CX0 1 "_law_pick" P_pick (sp_pick K)) :
    FnG P w K mg base CX0 2 f fd P_mixed (sp_mixed K) := by
  refine okG0 F sc_mixed (fun vs H Q E h => ?_) (fun cdv A outer s H vs Q E hr hq h => ?_)
  · obtain ⟨p, a, n, m, rfl, _⟩ := h
    rfl
  · obtain ⟨p, a, n, m, rfl, hn, hS, hp, hm, q⟩ := h
    refine ⟨_, (pss_cons (ps_par (i := 2) (j := 3) (by rfl) sc_mixed.nd rfl rfl (by decide) rfl rfl (pa_cons (pe_callTy (call_listK K) (by rfl) T.b_list bt_list (pa_cons (pv 1) pa_nil)) (pa_cons (pe_lst pa_nil) pa_nil)) (by rfl))
      (pss_cons (ps_while PassesOwn.never (pt_cmpR (op_neDk K hr.units) (pv 2) (pe_lst pa_nil) (nomark _)) (pss_one (ps_expr (pe_bm PySem.F.plainAttrs_list PySem.F.slot_list_append PySem.F.type_list_append mt_append (pv 3) (pa_cons (pe_bm PySem.F.plainAttrs_list PySem.F.slot_list_pop PySem.F.type_list_pop mt_popAt (pv 2) (pa_cons (pe_callD D_pick (hr.mono (by decide)) hq pass0 (pa_cons (pv 0) (pa_cons (pe_callB (call_lenK K) (by rfl) T.b_len bt_len (pa_cons (pv 2) pa_nil)) pa_nil))) pa_nil)) pa_nil)))))
      (pss_one (ps_ret (pv 3))))), ?_⟩
    refine ⟨_, rfl, a, _, rfl, .inl hS, fun L hL => ?_⟩
    have pL := hp.off hL
    refine ⟨Nat.zero_le _, fun F2 hF2 => ⟨_, _, rfl, ?_⟩⟩
    have FL : F2 ≠ L := fun e => by
      rw [e, upd_same] at hF2
      cases hF2
    have HF : H F2 = none := by
      rw [upd_ne FL] at hF2
      exact hF2
    have pF := hp.off HF
    refine ⟨fun c σ H' => ∃ left found : List Int, σ = [some (V.ref p), some (V.ref a), some (V.ref L), some (V.ref F2)] ∧ c = left.length ∧ ExD p H H' ∧ Purse H' p (m + found.length) ∧
        H' L = some (.lst (left.map V.int)) ∧ H' F2 = some (.lst (found.map V.int)) ∧ (left ++ found).Perm (iota n), ⟨_, iota n, [], rfl, rfl, ?_, ?_, ?_, ?_, ?_⟩, ?_⟩
    · exact (ExD.nw hL).wr HF
    · exact (hp.put pL.symm).put pF.symm
    · rw [upd_ne FL.symm, upd_same]
    · exact upd_same
    · rw [List.append_nil]
    · rintro c σ H1 ⟨left, found, rfl, rfl, e1, p1, hL1, hF1, hp1⟩
      have hll : left.length + found.length = n.toNat := by
        have := hp1.length_eq
        rw [List.length_append, List.length_map, List.length_range] at this
        exact this
      refine ⟨_, rfl, Nat.zero_le _, fun E2 hE2 => ?_⟩
      have e2 : Ex H1 (upd H1 E2 (.lst [])) := Ex.nw hE2
      have f2 : (upd H1 E2 (.lst [])) E2 = some (.lst (([] : List Int).map V.int)) := upd_same
      generalize upd H1 E2 (.lst []) = H2 at e2 f2
      have hL2 := e2 _ _ hL1
      have hF2' := e2 _ _ hF1
      have p2 := p1.up e2
      refine ⟨_, _, (dInts_of hL2 (by omega)).dInts, (dInts_of f2 (by decide)).dInts, sh_dInts _, sh_dInts _, _, rfl, ?_⟩
      rw [eqv_dInts]
      refine ite2 (fun h1 => ?_) (fun h1 => ?_)
      · have hpos : 0 < left.length := by
          cases left with
          | nil => simp at h1
          | cons x l => simp
        refine ⟨fun σ' H' => ∃ left' found' : List Int, σ' = [some (V.ref p), some (V.ref a), some (V.ref L), some (V.ref F2)] ∧ left'.length < left.length ∧ ExD p H H' ∧ Purse H' p (m + found'.length) ∧
            H' L = some (.lst (left'.map V.int)) ∧ H' F2 = some (.lst (found'.map V.int)) ∧ (left' ++ found').Perm (iota n), fun σ' H' h => ?_, ?_⟩
        · obtain ⟨l', f', g1, g2, g3⟩ := h
          exact ⟨_, g2, l', f', g1, rfl, g3⟩
        refine ⟨_, rfl, .inl ⟨rfl, _, .inl (.inl hF2')⟩, ?_⟩
        refine ⟨_, rfl, .inl ⟨rfl, _, .inl (.inl hL2)⟩, ?_⟩
        refine ⟨_, rfl, _, rfl, L, _, rfl, .inl (.inl (.inl hL2)), ?_⟩
        refine ⟨p, _, _, rfl, by rw [List.length_map]; omega, p2, by omega, fun z H3 hz p3 e3 => ?_⟩
        rw [List.length_map] at hz
        have hL3 := e3 _ _ pL hL2
        have hF3 := e3 _ _ pF hF2'
        have hzl : z.toNat < left.length := by omega
        have hx := List.getElem?_eq_getElem hzl
        generalize left[z.toNat] = x at hx
        refine ⟨L, _, z, z.toNat, .int x, rfl, rfl, hL3, by omega, by omega, seqIndex_of hz.1 (by rw [List.length_map]; omega), by rw [List.getElem?_map, hx]; rfl, ?_⟩
        have hF4 : (upd H3 L (.lst ((left.map V.int).eraseIdx z.toNat))) F2 = some (.lst (found.map V.int)) := by
          rw [upd_ne FL]
          exact hF3
        refine ⟨F2, _, _, rfl, rfl, hF4, mil' (by rw [List.length_map]; omega), ?_⟩
        have hel := List.length_eraseIdx_of_lt hzl
        refine ⟨left.eraseIdx z.toNat, found ++ [x], rfl, by omega, ?_, ?_, ?_, ?_, ?_⟩
        · exact (((e1.tr e2.d).tr e3).wr hL).wr HF
        · have := ((p3.put (o := .lst ((left.map V.int).eraseIdx z.toNat)) pL.symm).put (o := .lst (found.map V.int ++ [.int x])) pF.symm)
          rw [List.length_append]
          exact this
        · rw [upd_ne FL.symm, upd_same, map_pop]
        · rw [upd_same, List.map_append]
          rfl
        · have h2 := pop_perm hx
          refine List.Perm.trans ?_ hp1
          have h3 : (left.eraseIdx z.toNat ++ (found ++ [x])).Perm (x :: left.eraseIdx z.toNat ++ found) := by
            rw [← List.append_assoc]
            exact List.perm_append_comm
          exact h3.trans (h2.append_right found)
      · have h0 : left = [] := by simpa using h1
        subst h0
        rw [List.nil_append] at hp1
        rw [List.length_nil, Nat.zero_add] at hll
        exact ⟨_, rfl, q F2 found H2 HF (e1.tr e2.d) (p2.mono (by omega)) hF2' hp1⟩
end

end K36
namespace K36
open PySem PySem.Spec PyProof.Rows L2 Nw
/-! _law_web: slots 0 _law_well_here, 1 _law_limit, 2 _law_pushes, 3 _law_count, 4 _law_way, 5 _law_pairs, 6 _law_order, 7 _law_dense, 8 _law_k, 9 _law_turn, 10 _law_one, 11 _law_nudges, 12 _law_some -/
abbrev s_web : Stmt := topS 41
abbrev N_web : List Str := ["_law_well_here", "_law_limit", "_law_pushes", "_law_count", "_law_way", "_law_pairs", "_law_order", "_law_dense", "_law_k", "_law_turn", "_law_one", "_law_nudges", "_law_some"]
abbrev P_web : List Str := ["_law_well_here", "_law_limit", "_law_pushes"]
theorem sc_web : FnScope N_web P_web (defScope s_web) := ⟨rfl, rfl, rfl, by decide +kernel, rfl, by decide +kernel, by decide +kernel⟩
theorem ksplit {Inv N : L2.St → Hp → Prop} {G : Prop} (h1 : (∀ σ H, Inv σ H → N σ H) → G) (h2 : ∀ σ H, Inv σ H → N σ H) : G := h1 h2
theorem pairs_exd {K : PySem.W.Frag} {H H' : Hp} {p : Addr} {xs : List V} {ps : List (Int × Int)} {acc : List V} (hp : H p = some (.lst xs)) (e : ExD p H H') (h : DaAll K H (ps.map dPair) acc) : DaAll K H' (ps.map dPair) acc :=
  ((pairs_rm hp h).up e.rm).up rm_ex
theorem purse_lst {H : Hp} {p : Addr} {m : Nat} (h : Purse H p m) : ∃ xs, H p = some (.lst xs) := by
  obtain ⟨b, c, d, h1, _⟩ := h.ex
  exact ⟨_, h1⟩
/-- a pair more behind a list of pairs -/
theorem pairs_put {K : PySem.W.Frag} {H : Hp} {L T : Addr} {acc : List V} {ps : List (Int × Int)} {x : Int × Int} (hL : H L = some (.lst acc)) (hA : DaAll K H (ps.map dPair) acc) (hT : H T = none) :
    DaAll K (upd (upd H T (.tup [.int x.1, .int x.2])) L (.lst (acc ++ [.ref T]))) ((ps ++ [x]).map dPair) (acc ++ [.ref T]) := by
  have h1 : DaAll K (upd H T (.tup [.int x.1, .int x.2])) ((ps ++ [x]).map dPair) (acc ++ [.ref T]) := by
    rw [List.map_append]
    exact (hA.up (Ex.nw hT)).app ⟨_, _, rfl, dPair_of upd_same, rfl⟩
  exact pairs_wr ((Ex.nw hT) _ _ hL) h1
/-- some web, off the well -/
def sp_web (K : PySem.W.Frag) : Sp := fun vs H Q _ => ∃ (p : Addr) (most mn : Int) (m : Nat), vs = [.ref p, .int most, .int mn] ∧ (1 ≤ most ∧ most ≤ 20) ∧ (0 ≤ mn ∧ mn ≤ 8) ∧
  Purse H p m ∧ m ≤ 100000 ∧
  ∀ (v : V) (u : Wb) H', ExD p H H' → Purse H' p (m + 1000) → Da K (rm H' p) u.d v → u.Ok → u.n ≤ most → (u.ns.length : Int) ≤ mn → Q v H'
section
variable {P : Program} {w : World} {K : PySem.W.Frag} {mg : Str → Option Value} {base : Heap}
theorem ok_web {f : Addr} {fd : FuncData} (T : Txt K mg) (F : Fun K "_law_web" "_law_web" s_web f fd)
    (D_pick : DefOk P w K mg base CX0 1 "_law_pick" P_pick (sp_pick K))
    (D_mixed : DefOk P w K mg base CX0 2 "_law_mixed" P_mixed (sp_mixed K)) :
    FnG P w K mg base CX0 3 f fd P_web (sp_web K) := by
  refine okG0 F sc_web (fun vs H Q E h => ?_) (fun cdv A outer s H vs Q E hr hq h => ?_)
  · obtain ⟨p, most, mn, m, rfl, _⟩ := h
    rfl
  · obtain ⟨p, most, mn, m, rfl, hmost, hmn, hp, hm, q⟩ := h
    refine ⟨_, (pss_cons (ps_asg (pe_tup (pa_cons (pe_op op_add pe_int (pe_callD D_pick (hr.mono (by decide)) hq pass0 (pa_cons (pv 0) (pa_cons (pv 1) pa_nil)))) (pa_cons (pe_callD D_pick (hr.mono (by decide)) hq pass0 (pa_cons (pv 0) (pa_cons pe_int pa_nil))) (pa_cons (pe_lst pa_nil) pa_nil)))) (pg_tupK (n := 3) K rfl (pgs_cons (pg_name (i := 3) sc_web.nd rfl (by first | exact .inl rfl | exact .inr rfl)) (pgs_cons (pg_name (i := 4) sc_web.nd rfl (by first | exact .inl rfl | exact .inr rfl)) (pgs_cons (pg_name (i := 5) sc_web.nd rfl (by first | exact .inl rfl | exact .inr rfl)) pgs_nil)))))
      (pss_cons (ps_asg (pe_tup (pa_cons (pe_callD D_mixed (hr.mono (by decide)) hq pass0 (pa_cons (pv 0) (pa_cons (pe_listRg rfl (by rfl) T.b_list (prg_1 (by rfl) T.b_range (pv 3))) pa_nil))) (pa_cons (pe_op op_add pe_int (pe_callD D_pick (hr.mono (by decide)) hq pass0 (pa_cons (pv 0) (pa_cons pe_int pa_nil)))) pa_nil))) (pg_tupK (n := 2) K rfl (pgs_cons (pg_name (i := 6) sc_web.nd rfl (by first | exact .inl rfl | exact .inr rfl)) (pgs_cons (pg_name (i := 7) sc_web.nd rfl (by first | exact .inl rfl | exact .inr rfl)) pgs_nil))))
      (pss_cons (ps_for PassesOwn.never rfl (pi_range1 (by rfl) T.b_range (pa_cons (pv 3) pa_nil)) (pg_name (i := 8) sc_web.nd rfl (by first | exact .inl rfl | exact .inr rfl)) (pss_cons (ps_if (PW.pt (pw_and (pt_cmpR op_eq (pv 4) pe_int (nomark _)) (pw_and1 (pt_cmpR op_lt (pe_op op_add (pv 8) pe_int) (pv 3) (nomark _))))) (pss_one (ps_expr (pe_bm PySem.F.plainAttrs_list PySem.F.slot_list_append PySem.F.type_list_append mt_append (pv 5) (pa_cons (pe_tup (pa_cons (pe_ix (ix_listK K) (pv 6) (pv 8) (fun _ _ => rfl)) (pa_cons (pe_ix (ix_listK K) (pv 6) (pe_op op_add (pv 8) pe_int) (fun _ _ => rfl)) pa_nil))) pa_nil)))) pss_nil)
      (pss_one (ps_if (pt_cmpR op_lt (pv 4) pe_int (nomark _)) (pss_one (ps_expr (pe_bm PySem.F.plainAttrs_list PySem.F.slot_list_extend PySem.F.type_list_extend mt_extend (pv 5) (pa_cons (pe_lc (own := [("_law_turn", 9)]) rfl sc_web.nd (pi_range1 (by rfl) T.b_range (pa_cons (pe_callD D_pick (hr.mono (by decide)) hq pass0 (pa_cons (pv 0) (pa_cons pe_int pa_nil))) pa_nil)) (blkOk_by (N := N_web) (sc := defScope s_web) (by decide +kernel)) (fun _ _ _ _ _ => (pg_name (i := 9) sc_web.nd rfl (by first | exact .inl rfl | exact .inr rfl))) (fun _ _ _ _ _ => pts_nil) (fun _ _ _ _ _ => (pe_tup (pa_cons (pe_ix (ix_listK K) (pv 6) (pv 8) (fun _ _ => rfl)) (pa_cons (pe_ix (ix_listK K) (pv 6) (pe_callD D_pick (hr.mono (by decide)) hq pass0 (pa_cons (pv 0) (pa_cons (pv 3) pa_nil))) (fun _ _ => rfl)) pa_nil))))) pa_nil)))) (pss_one (ps_expr (pe_bm PySem.F.plainAttrs_list PySem.F.slot_list_extend PySem.F.type_list_extend mt_extend (pv 5) (pa_cons (pe_lc (own := [("_law_one", 10)]) rfl sc_web.nd (pi_listK K (pv 6)) (blkOk_by (N := N_web) (sc := defScope s_web) (by decide +kernel)) (fun _ _ _ _ _ => (pg_name (i := 10) sc_web.nd rfl (by first | exact .inl rfl | exact .inr rfl))) (fun _ _ _ _ _ => (pts_one (pt_cmpR op_eq (pe_callD D_pick (hr.mono (by decide)) hq pass0 (pa_cons (pv 0) (pa_cons (pv 7) pa_nil))) pe_int (nomark _)))) (fun _ _ _ _ _ => (pe_tup (pa_cons (pe_ix (ix_listK K) (pv 6) (pv 8) (fun _ _ => rfl)) (pa_cons (pv 10) pa_nil))))) pa_nil))))))))
      (pss_cons (ps_set (i := 11) sc_web.nd rfl (by first | exact .inl rfl | exact .inr rfl) (pe_ifExp (PW.pt (pw_and (pt_cmpR op_eq (pv 4) pe_int (nomark _)) (pw_and (pt_cmpR op_gt (pv 2) pe_int (nomark _)) (pw_and1 (pt_cmpR op_gt (pe_callD D_pick (hr.mono (by decide)) hq pass0 (pa_cons (pv 0) (pa_cons pe_int pa_nil))) pe_int (nomark _)))))) (pe_lst (pa_cons (pe_lst (pa_cons (pe_ix (ix_listK K) (pv 6) pe_int (fun _ _ => rfl)) pa_nil)) pa_nil)) (pe_lst pa_nil)))
      (pss_cons (ps_for PassesOwn.never rfl (pi_range1 (by rfl) T.b_range (pa_cons (pe_callD D_pick (hr.mono (by decide)) hq pass0 (pa_cons (pv 0) (pa_cons (pe_op op_sub (pe_op op_add (pv 2) pe_int) (pe_callB (call_lenK K) (by rfl) T.b_len bt_len (pa_cons (pv 11) pa_nil))) pa_nil))) pa_nil)) (pg_name (i := 9) sc_web.nd rfl (by first | exact .inl rfl | exact .inr rfl)) (pss_cons (ps_set (i := 12) sc_web.nd rfl (by first | exact .inl rfl | exact .inr rfl) (pe_callB (cr_sortedIk K) (by rfl) T.b_sorted bt_sorted (pa_cons (pe_lc (own := [("_law_one", 10)]) rfl sc_web.nd (pi_listK K (pv 6)) (blkOk_by (N := N_web) (sc := defScope s_web) (by decide +kernel)) (fun _ _ _ _ _ => (pg_name (i := 10) sc_web.nd rfl (by first | exact .inl rfl | exact .inr rfl))) (fun _ _ _ _ _ => (pts_one (pt_cmpR op_eq (pe_callD D_pick (hr.mono (by decide)) hq pass0 (pa_cons (pv 0) (pa_cons pe_int pa_nil))) pe_int (nomark _)))) (fun _ _ _ _ _ => (pv 10))) pa_nil)))
      (pss_one (ps_expr (pe_bm PySem.F.plainAttrs_list PySem.F.slot_list_append PySem.F.type_list_append mt_append (pv 11) (pa_cons (pe_ifExp (pt_cmpR (op_neDk K hr.units) (pv 12) (pe_lst pa_nil) (nomark _)) (pv 12) (pe_lst (pa_cons (pe_ix (ix_listK K) (pv 6) (pe_callD D_pick (hr.mono (by decide)) hq pass0 (pa_cons (pv 0) (pa_cons (pv 3) pa_nil))) (fun _ _ => rfl)) pa_nil))) pa_nil))))))
      (pss_one (ps_ret (pe_tup (pa_cons (pv 3) (pa_cons (pe_callB (cr_sortedWK K P w rfl) (by rfl) T.b_sorted bt_sorted (pa_cons (pe_callTy (cr_setWK K P w rfl hr.units) (by rfl) T.b_set bt_set (pa_cons (pv 5) pa_nil)) pa_nil)) (pa_cons (pv 11) pa_nil))))))))))), ?_⟩
    refine ⟨_, rfl, _, rfl, p, most, m, rfl, by omega, hp, by omega, fun z1 H1 hz1 p1 e1 => ⟨_, _, rfl, rfl, ?_⟩⟩
    refine ⟨_, rfl, p, 3, m + 1, rfl, by decide, p1, by omega, fun z2 H2 hz2 p2 e2 => ?_⟩
    refine ⟨Nat.zero_le _, fun L hL => ⟨by show 3 ≤ sizeLine; decide, fun T1 hT1 => ?_⟩⟩
    have pL := p2.off hL
    have TL : T1 ≠ L := fun e => by
      rw [e, upd_same] at hT1
      cases hT1
    refine ⟨T1, _, rfl, .inl (.inl upd_same), rfl, _, _, rfl, _, _, rfl, _, _, rfl, rfl, ?_⟩
    have e20 : ExD p H (upd (upd H2 L (.lst [])) T1 (.tup [.int (1 + z1), .int z2, .ref L])) := ((e1.tr e2).tr (ExD.nw hL)).tr (ExD.nw hT1)
    have hL0 : (upd (upd H2 L (.lst [])) T1 (.tup [.int (1 + z1), .int z2, .ref L])) L = some (.lst []) := by
      rw [upd_ne TL.symm, upd_same]
    have HL : H L = none := Purse.fr (e1.tr e2) p2 hL
    have HT1 : H2 T1 = none := by rw [upd_ne TL] at hT1; exact hT1
    have p20 : Purse (upd (upd H2 L (.lst [])) T1 (.tup [.int (1 + z1), .int z2, .ref L])) p (m + 2) :=
      (p2.put pL.symm).put (p2.off HT1).symm
    generalize upd (upd H2 L (.lst [])) T1 (.tup [.int (1 + z1), .int z2, .ref L]) = H3 at e20 hL0 p20
    -- the order
    refine ⟨_, rfl, _, rfl, 1 + z1, rfl, RgOk.of_le (by omega) (by omega) (by omega) (by omega), fun R hR => ?_⟩
    rw [rgV_iota]
    have e4 : Ex H3 (upd H3 R (.lst ((iota (1 + z1)).map V.int))) := Ex.nw hR
    have f4 : (upd H3 R (.lst ((iota (1 + z1)).map V.int))) R = some (.lst ((iota (1 + z1)).map V.int)) := upd_same
    generalize upd H3 R (.lst ((iota (1 + z1)).map V.int)) = H4 at e4 f4
    refine ⟨p, R, 1 + z1, m + 2, rfl, by omega, .inl (.inl f4), p20.up e4, by omega, fun O o H5 hO e5 p5 f5 ho => ?_⟩
    refine ⟨_, rfl, p, 6, m + 22, rfl, by decide, p5, by omega, fun z3 H6 hz3 p6 e6 => ⟨_, _, rfl, rfl, by show 2 ≤ sizeLine; decide, fun T2 hT2 => ?_⟩⟩
    have pO : O ≠ p := (p20.up e4).off hO
    have f6 := e6 _ _ pO f5
    have e7 : Ex H6 (upd H6 T2 (.tup [.ref O, .int (1 + z3)])) := Ex.nw hT2
    have f7 : (upd H6 T2 (.tup [.ref O, .int (1 + z3)])) T2 = some (.tup [.ref O, .int (1 + z3)]) := upd_same
    have p7 := p6.up e7
    generalize upd H6 T2 (.tup [.ref O, .int (1 + z3)]) = H7 at e7 f7 p7
    refine ⟨T2, _, rfl, .inl (.inl f7), rfl, _, _, rfl, _, _, rfl, rfl, ?_⟩
    have hO7 := e7 _ _ f6
    have hL7 : H7 L = some (.lst []) := e7 _ _ (e6 _ _ pL (e5 _ _ pL (e4 _ _ hL0)))
    have e07 : ExD p H H7 := ((e20.tr e4.d).tr e5).tr (e6.tr e7.d)
    have OL : O ≠ L := fun e => by
      have := e4 _ _ hL0
      rw [← e, hO] at this
      cases this
    have hol := ho.len
    have h0 := List.getElem?_eq_getElem (show 0 < o.length by omega)
    have hin : ∀ t ∈ o, 0 ≤ t ∧ t < 1 + z1 := fun t ht => ho.mem.mp ht
    have hat : ∀ i : Int, 0 ≤ i → i < 1 + z1 → ∃ x, atI (o.map V.int) i = some (.int x) ∧ 0 ≤ x ∧ x < 1 + z1 := fun i hi hi2 => by
      have hx := List.getElem?_eq_getElem (show i.toNat < o.length by omega)
      refine ⟨o[i.toNat], atI_int hi (by rw [List.getElem?_map, hx]; rfl), hin _ (List.mem_of_getElem? hx)⟩
    refine ⟨_, rfl, _, rfl, by omega, by omega, ?_⟩
    refine for_by (1 + z1).toNat (fun i σ H' => ∃ y8, σ = [some (V.ref p), some (V.int most), some (V.int mn), some (V.int (1 + z1)), some (V.int z2), some (V.ref L), some (V.ref O), some (V.int (1 + z3)), y8, none, none, none, none] ∧
        ExD p H H' ∧ Purse H' p (m + 23 + 20 * i) ∧ H' O = some (.lst (o.map V.int)) ∧ ∃ (acc : List V) (ps : List (Int × Int)), H' L = some (.lst acc) ∧ DaAll K H' (ps.map dPair) acc ∧
        (∀ x ∈ ps, (0 ≤ x.1 ∧ x.1 < 1 + z1) ∧ (0 ≤ x.2 ∧ x.2 < 1 + z1)) ∧ ps.length ≤ 21 * i)
      ⟨_, rfl, e07, p7, hO7, [], [], hL7, rfl, fun x hx => (by cases hx), Nat.le_refl _⟩ (fun i σ H' hi _ => hi) (fun σ H' _ => Nat.le_refl _) ?_ ?_
    · rintro i σ H8 x H9 hi ⟨y8, rfl, e8, p8, hO8, acc, ps, hL8, hA8, hb, hl⟩ ⟨rfl, rfl⟩
      -- one pair of the chain
      apply ksplit (Inv := fun σ H' => σ = [some (V.ref p), some (V.int most), some (V.int mn), some (V.int (1 + z1)), some (V.int z2), some (V.ref L), some (V.ref O), some (V.int (1 + z3)), some (V.int (0 + (i : Int))), none, none, none, none] ∧
        ExD p H H' ∧ Purse H' p (m + 23 + 20 * i) ∧ H' O = some (.lst (o.map V.int)) ∧ ∃ (acc : List V) (ps : List (Int × Int)), H' L = some (.lst acc) ∧ DaAll K H' (ps.map dPair) acc ∧
        (∀ x ∈ ps, (0 ≤ x.1 ∧ x.1 < 1 + z1) ∧ (0 ≤ x.2 ∧ x.2 < 1 + z1)) ∧ ps.length ≤ 21 * i + 1)
      · intro key
        refine ⟨_, rfl, rfl, _, rfl, ite2 (fun _ => ?_) (fun _ => ?_)⟩
        · refine ⟨_, rfl, _, _, rfl, rfl, _, rfl, _, _, rfl, rfl, _, rfl, ite2 (fun h => ?_) (fun _ => ?_)⟩
          rotate_left
          · exact key _ _ ⟨rfl, e8, p8, hO8, acc, ps, hL8, hA8, hb, by omega⟩
          · have h2 : (0 + (i : Int)) + 1 < 1 + z1 := by simpa using h
            obtain ⟨x1, hx1, hr1⟩ := hat (0 + (i : Int)) (by omega) (by omega)
            obtain ⟨x2, hx2, hr2⟩ := hat (0 + (i : Int) + 1) (by omega) (by omega)
            have sO : SqL K H9 O (o.map V.int) := .inl (.inl hO8)
            refine ⟨_, rfl, .inl ⟨rfl, _, .inl (.inl hL8)⟩, ?_⟩
            refine ⟨_, rfl, _, rfl, O, _, _, .int x1, rfl, rfl, sO, hx1, ?_⟩
            refine ⟨_, rfl, _, rfl, _, _, rfl, rfl, O, _, _, .int x2, rfl, rfl, sO, hx2, ?_⟩
            refine ⟨by show 2 ≤ sizeLine; decide, fun T3 hT3 => ?_⟩
            have hL9 := (Ex.nw (o := .tup [.int x1, .int x2]) hT3) _ _ hL8
            have lA := hA8.len
            rw [List.length_map] at lA
            refine ⟨L, _, _, rfl, rfl, hL9, mil' (by omega), ?_⟩
            have T3L : T3 ≠ L := fun e => by
              rw [e, hL8] at hT3
              cases hT3
            have pT3 := p8.off hT3
            refine key _ _ ⟨rfl, (e8.tr (ExD.nw hT3)).wr HL, (p8.up (Ex.nw hT3)).put pL.symm, by rw [upd_ne OL, upd_ne (ne_of_none hO8 hT3)]; exact hO8, _, ps ++ [(x1, x2)], upd_same, pairs_put (x := (x1, x2)) hL8 hA8 hT3, fun x hx => ?_, by rw [List.length_append, List.length_singleton]; omega⟩
            rcases List.mem_append.mp hx with hx | hx
            · exact hb x hx
            · obtain rfl := List.mem_singleton.mp hx
              exact ⟨hr1, hr2⟩
        · exact key _ _ ⟨rfl, e8, p8, hO8, acc, ps, hL8, hA8, hb, by omega⟩
      · rintro σ H10 ⟨rfl, e10, p10, hO10, acc, ps, hL10, hA10, hb, hl⟩
        refine ⟨_, rfl, _, _, rfl, rfl, _, rfl, ite2 (fun _ => ?_) (fun _ => ?_)⟩
        · refine ⟨_, rfl, .inl ⟨rfl, _, .inl (.inl hL10)⟩, ?_⟩
          refine ⟨_, rfl, p, 3, _, rfl, by decide, p10, by omega, fun z4 H11 hz4 p11 e11 => ⟨_, rfl, by omega, by omega, fun D hD => ?_⟩⟩
          have Dp := p11.off hD
          have hO11 := e11 _ _ pO hO10
          refine lc_by z4.toNat (fun j H' => ExD p H11 H' ∧ Purse H' p (m + 23 + 20 * i + 1 + j) ∧ ∃ (ac2 : List V) (ps2 : List (Int × Int)), H' D = some (.lst ac2) ∧ DaAll K H' (ps2.map dPair) ac2 ∧
            (∀ x ∈ ps2, (0 ≤ x.1 ∧ x.1 < 1 + z1) ∧ (0 ≤ x.2 ∧ x.2 < 1 + z1)) ∧ ps2.length ≤ j)
            ⟨ExD.nw hD, (p11.mono (by omega)).put Dp.symm, [], [], upd_same, rfl, fun x hx => (by cases hx), Nat.le_refl _⟩ (fun j H' hj _ => hj) (fun H' _ => Nat.le_refl _) ?_ ?_
          · rintro j H12 x H13 hj ⟨e12, p12, ac2, ps2, hD12, hA12, hb12, hl12⟩ ⟨rfl, rfl⟩
            have hO12 := e12 _ _ pO hO11
            have sO : SqL K H13 O (o.map V.int) := .inl (.inl hO12)
            obtain ⟨x1, hx1, hr1⟩ := hat (0 + (i : Int)) (by omega) (by omega)
            refine ⟨rfl, ?_⟩
            refine ⟨_, rfl, _, rfl, O, _, _, .int x1, rfl, rfl, sO, hx1, ?_⟩
            refine ⟨_, rfl, _, rfl, _, rfl, p, 1 + z1, _, rfl, by omega, p12, by omega, fun z5 H14 hz5 p14 e14 => ?_⟩
            have hO14 := e14 _ _ pO hO12
            obtain ⟨x2, hx2, hr2⟩ := hat z5 (by omega) (by omega)
            refine ⟨O, _, _, .int x2, rfl, rfl, .inl (.inl hO14), hx2, by show 2 ≤ sizeLine; decide, fun T4 hT4 => ?_⟩
            obtain ⟨pc, hpc⟩ := purse_lst p12
            have hD14 := e14 _ _ Dp hD12
            have hA14 := pairs_exd hpc e14 hA12
            have lB := hA12.len
            rw [List.length_map] at lB
            have T4D : T4 ≠ D := fun e => by
              rw [e, hD14] at hT4
              cases hT4
            refine ⟨_, Ex.nw hT4 _ _ hD14, mil' (by omega), ((e12.tr e14).tr (ExD.nw hT4)).wr hD, ((p14.up (Ex.nw hT4)).put Dp.symm).mono (by omega), _, ps2 ++ [(x1, x2)], upd_same, pairs_put (x := (x1, x2)) hD14 hA14 hT4, fun x hx => ?_, by rw [List.length_append, List.length_singleton]; omega⟩
            rcases List.mem_append.mp hx with hx | hx
            · exact hb12 x hx
            · obtain rfl := List.mem_singleton.mp hx
              exact ⟨hr1, hr2⟩
          · rintro H12 ⟨e12, p12, ac2, ps2, hD12, hA12, hb12, hl12⟩
            have hL12 := e11.tr e12 L _ pL hL10
            have hO12 := e11.tr e12 O _ pO hO10
            have lA := hA10.len
            have lB := hA12.len
            rw [List.length_map] at lA lB
            obtain ⟨pc, hpc⟩ := purse_lst p10
            have hA12' := pairs_exd hpc (e11.tr e12) hA10
            refine ⟨L, D, acc, ac2, rfl, rfl, hL12, hD12, mil (by omega), ?_⟩
            refine ⟨_, rfl, (e10.tr (e11.tr e12)).wr HL, (p12.put pL.symm).mono (by omega), by rw [upd_ne OL]; exact hO12, acc ++ ac2, ps ++ ps2, upd_same, ?_, fun x hx => ?_, by rw [List.length_append]; omega⟩
            · refine pairs_wr hL12 ?_
              rw [List.map_append]
              exact hA12'.app hA12
            · rcases List.mem_append.mp hx with hx | hx
              · exact hb x hx
              · exact hb12 x hx
        · refine ⟨_, rfl, .inl ⟨rfl, _, .inl (.inl hL10)⟩, ?_⟩
          have sO10 : SqL K H10 O (o.map V.int) := .inl (.inl hO10)
          refine ⟨_, rfl, O, rfl, ⟨_, sO10⟩, fun D hD => ?_⟩
          have Dp := p10.off hD
          refine lc_by (o.map V.int).length (fun j H' => ExD p H10 H' ∧ Purse H' p (m + 23 + 20 * i + j) ∧ ∃ (ac2 : List V) (ps2 : List (Int × Int)), H' D = some (.lst ac2) ∧ DaAll K H' (ps2.map dPair) ac2 ∧
            (∀ x ∈ ps2, (0 ≤ x.1 ∧ x.1 < 1 + z1) ∧ (0 ≤ x.2 ∧ x.2 < 1 + z1)) ∧ ps2.length ≤ j)
            ⟨ExD.nw hD, p10.put Dp.symm, [], [], upd_same, rfl, fun x hx => (by cases hx), Nat.le_refl _⟩ (fun j H' hj pv => itl_go (K := K) (.inl (.inl (pv.1 _ _ pO hO10))) Ex.rfl hj) (fun H' pv => itl_stop (K := K) (.inl (.inl (pv.1 _ _ pO hO10))) Ex.rfl) ?_ ?_
          · rintro j H12 x H13 hj ⟨e12, p12, ac2, ps2, hD12, hA12, hb12, hl12⟩ y
            obtain ⟨rfl, hx⟩ := itl_yld (K := K) y (.inl (.inl (e12 _ _ pO hO10))) Ex.rfl
            obtain ⟨x2, hx2, rfl⟩ := map_at hx
            rw [List.length_map] at hj
            have hO12 := e12 _ _ pO hO10
            have sO : SqL K H13 O (o.map V.int) := .inl (.inl hO12)
            obtain ⟨x1, hx1, hr1⟩ := hat (0 + (i : Int)) (by omega) (by omega)
            refine ⟨rfl, ?_⟩
            refine ⟨_, rfl, _, rfl, p, 1 + z3, _, rfl, by omega, p12, by omega, fun z5 H14 hz5 p14 e14 => ⟨rfl, _, rfl, ?_⟩⟩
            obtain ⟨pc, hpc⟩ := purse_lst p12
            have hO14 := e14 _ _ pO hO12
            have hD14 := e14 _ _ Dp hD12
            have hA14 := pairs_exd hpc e14 hA12
            have lB := hA12.len
            rw [List.length_map] at lB
            refine ite2 (fun _ => ?_) (fun _ => ?_)
            · refine ⟨_, rfl, _, rfl, O, _, _, .int x1, rfl, rfl, .inl (.inl hO14), hx1, _, rfl, by show 2 ≤ sizeLine; decide, fun T4 hT4 => ?_⟩
              have T4D : T4 ≠ D := fun e => by
                rw [e, hD14] at hT4
                cases hT4
              refine ⟨_, Ex.nw hT4 _ _ hD14, mil' (by omega), ((e12.tr e14).tr (ExD.nw hT4)).wr hD, ((p14.up (Ex.nw hT4)).put Dp.symm).mono (by omega), _, ps2 ++ [(x1, x2)], upd_same, pairs_put (x := (x1, x2)) hD14 hA14 hT4, fun x hx => ?_, by rw [List.length_append, List.length_singleton]; omega⟩
              rcases List.mem_append.mp hx with hx | hx
              · exact hb12 x hx
              · obtain rfl := List.mem_singleton.mp hx
                exact ⟨hr1, hin _ (List.mem_of_getElem? hx2)⟩
            · exact ⟨e12.tr e14, p14.mono (by omega), ac2, ps2, hD14, hA14, hb12, by omega⟩
          · rintro H12 ⟨e12, p12, ac2, ps2, hD12, hA12, hb12, hl12⟩
            rw [List.length_map] at hl12 p12
            have hL12 := e12 L _ pL hL10
            have hO12 := e12 O _ pO hO10
            have lA := hA10.len
            have lB := hA12.len
            rw [List.length_map] at lA lB
            obtain ⟨pc, hpc⟩ := purse_lst p10
            have hA12' := pairs_exd hpc (e12) hA10
            refine ⟨L, D, acc, ac2, rfl, rfl, hL12, hD12, mil (by omega), ?_⟩
            refine ⟨_, rfl, (e10.tr (e12)).wr HL, (p12.put pL.symm).mono (by omega), by rw [upd_ne OL]; exact hO12, acc ++ ac2, ps ++ ps2, upd_same, ?_, fun x hx => ?_, by rw [List.length_append]; omega⟩
            · refine pairs_wr hL12 ?_
              rw [List.map_append]
              exact hA12'.app hA12
            · rcases List.mem_append.mp hx with hx | hx
              · exact hb x hx
              · exact hb12 x hx
    · rintro σ H8 ⟨y8, rfl, e8, p8, hO8, acc, ps, hL8, hA8, hb, hl⟩
      -- the nudges
      apply ksplit (Inv := fun σ H' => ∃ (M : Addr) (xs : List V) (ns : List (List Int)), σ = [some (V.ref p), some (V.int most), some (V.int mn), some (V.int (1 + z1)), some (V.int z2), some (V.ref L), some (V.ref O), some (V.int (1 + z3)), y8, none, none, some (V.ref M), none] ∧
        ExD p H8 H' ∧ Purse H' p (m + 430) ∧ M ≠ p ∧ M ≠ O ∧ H8 M = none ∧ H' M = some (.lst xs) ∧ DaAll K (rm (rm H' p) M) (ns.map dInts) xs ∧ (ns.length : Int) ≤ mn ∧ ns.length ≤ 1 ∧ (∀ r ∈ ns, r ≠ [] ∧ (∀ t ∈ r, 0 ≤ t ∧ t < 1 + z1) ∧ ascB ltIn r = true))
      · intro key
        have non : ∀ H9 : Hp, ExD p H8 H9 → Purse H9 p (m + 430) → ∀ M, H9 M = none → ExD p H8 (upd H9 M (.lst [])) ∧ Purse (upd H9 M (.lst [])) p (m + 430) ∧ M ≠ p ∧ M ≠ O ∧ H8 M = none := fun H9 e9 p9 M hM => by
          have Mp := p9.off hM
          refine ⟨e9.tr (ExD.nw hM), p9.put Mp.symm, Mp, fun e => ?_, Purse.fr e9 p9 hM⟩
          rw [e, e9 _ _ pO hO8] at hM
          cases hM
        have p8' := p8.mono (show m + 23 + 20 * (1 + z1).toNat ≤ m + 423 by omega)
        refine ⟨_, rfl, rfl, _, rfl, ite2 (fun _ => ?_) (fun _ => ?_)⟩
        · refine ⟨_, rfl, _, _, rfl, rfl, _, rfl, ite2 (fun hpos => ?_) (fun _ => ?_)⟩
          · have hpos : 0 < mn := by simpa using hpos
            refine ⟨_, rfl, p, 4, _, rfl, by decide, p8', by omega, fun z4 H9 hz4 p9 e9 => ⟨_, _, rfl, rfl, _, rfl, ite2 (fun _ => ?_) (fun _ => ?_)⟩⟩
            · obtain ⟨x1, hx1, hr1⟩ := hat 0 (by omega) (by omega)
              have hO9 := e9 _ _ pO hO8
              refine ⟨_, rfl, O, _, 0, .int x1, rfl, rfl, .inl (.inl hO9), hx1, by show 1 ≤ sizeLine; decide, fun C hC => ?_⟩
              have eC : Ex H9 (upd H9 C (.lst [.int x1])) := Ex.nw hC
              have fC : (upd H9 C (.lst [.int x1])) C = some (.lst [.int x1]) := upd_same
              have Cp := p9.off hC
              have pC := p9.up eC
              generalize upd H9 C (.lst [.int x1]) = H10 at eC fC pC
              refine ⟨by show 1 ≤ sizeLine; decide, fun M hM => ?_⟩
              have CM : C ≠ M := fun e => by
                rw [e, hM] at fC
                cases fC
              have Mp := pC.off hM
              dsimp only [gName]
              refine key _ _ ⟨M, [.ref C], [[x1]], rfl, (e9.tr eC.d).tr (ExD.nw hM), (pC.up (Ex.nw hM)).mono (by omega), Mp, fun e => ?_, Purse.fr (e9.tr eC.d) pC hM, upd_same, ?_, by show (1 : Int) ≤ mn; omega, Nat.le_refl _, fun r hr => ?_⟩
              · rw [e, eC _ _ hO9] at hM
                cases hM
              · exact ⟨_, _, rfl, dInts_of (r := [x1]) (by rw [rm_ne CM, rm_ne Cp, upd_ne CM]; exact fC) (by show 1 ≤ 100000; decide), rfl⟩
              · obtain rfl := List.mem_singleton.mp hr
                exact ⟨by simp, fun t ht => by
                  obtain rfl := List.mem_singleton.mp ht
                  exact hr1, rfl⟩
            · refine ⟨Nat.zero_le _, fun M hM => ?_⟩
              obtain ⟨n1, n2, n3, n4, n5⟩ := non _ e9 (p9.mono (by omega)) M hM
              exact key _ _ ⟨M, [], [], rfl, n1, n2, n3, n4, n5, upd_same, rfl, by show (0 : Int) ≤ mn; omega, Nat.zero_le _, fun r hr => nomatch hr⟩
          · refine ⟨Nat.zero_le _, fun M hM => ?_⟩
            obtain ⟨n1, n2, n3, n4, n5⟩ := non _ ExD.rfl (p8'.mono (by omega)) M hM
            exact key _ _ ⟨M, [], [], rfl, n1, n2, n3, n4, n5, upd_same, rfl, by show (0 : Int) ≤ mn; omega, Nat.zero_le _, fun r hr => nomatch hr⟩
        · refine ⟨Nat.zero_le _, fun M hM => ?_⟩
          obtain ⟨n1, n2, n3, n4, n5⟩ := non _ ExD.rfl (p8'.mono (by omega)) M hM
          exact key _ _ ⟨M, [], [], rfl, n1, n2, n3, n4, n5, upd_same, rfl, by show (0 : Int) ≤ mn; omega, Nat.zero_le _, fun r hr => nomatch hr⟩
      · rintro σ H9 ⟨M, xs, ns, rfl, e9, p9, Mp, MO, HM, hM9, hA9, hnm, hn1, hns⟩
        have pO9 := e9 _ _ pO hO8
        have lxn := hA9.len
        rw [List.length_map] at lxn
        have ML : M ≠ L := fun e => by
          rw [e, hL8] at HM
          cases HM
        refine ⟨_, rfl, _, rfl, _, _, rfl, rfl, _, rfl, M, _, rfl, .inl (.inl (.inl hM9)), _, _, rfl, rfl, ?_⟩
        refine ⟨p, _, _, rfl, by omega, p9, by omega, fun z6 H10 hz6 p10 e10 => ⟨_, rfl, by omega, by omega, ?_⟩⟩
        have hM10 := e10 _ _ Mp hM9
        have hA10 : DaAll K (rm (rm H10 p) M) (ns.map dInts) xs := hA9.up (Ex.rm e10.rm)
        refine for_by z6.toNat (fun i σ H' => ∃ y9 y12, σ = [some (V.ref p), some (V.int most), some (V.int mn), some (V.int (1 + z1)), some (V.int z2), some (V.ref L), some (V.ref O), some (V.int (1 + z3)), y8, y9, none, some (V.ref M), y12] ∧
            ExD p H8 H' ∧ Purse H' p (m + 431 + 21 * i) ∧ ∃ (xs : List V) (rs : List (List Int)), H' M = some (.lst xs) ∧ DaAll K (rm (rm H' p) M) (rs.map dInts) xs ∧ rs.length = ns.length + i ∧ (∀ r ∈ rs, r ≠ [] ∧ (∀ t ∈ r, 0 ≤ t ∧ t < 1 + z1) ∧ ascB ltIn r = true))
          ⟨_, _, rfl, e9.tr e10, p10, xs, ns, hM10, hA10, rfl, hns⟩ (fun i σ H' hi _ => hi) (fun σ H' _ => Nat.le_refl _) ?_ ?_
        · rintro i σ H11 x H12 hi ⟨y9, y12, rfl, e11, p11, xs2, rs, hM11, hA11, hrl, hrs⟩ ⟨rfl, rfl⟩
          have hO11 := e11 _ _ pO hO8
          have lrs := hA11.len
          rw [List.length_map] at lrs
          refine ⟨_, rfl, O, rfl, ⟨_, .inl (.inl hO11)⟩, fun D hD => ?_⟩
          have Dp := p11.off hD
          have DM : D ≠ M := fun e => by
            rw [e, hM11] at hD
            cases hD
          refine lc_by (o.map V.int).length (fun j H' => ExD p H12 H' ∧ Purse H' p (m + 431 + 21 * i + j) ∧ ∃ sub : List Int, H' D = some (.lst (sub.map V.int)) ∧ sub.Sublist (o.take j))
            ⟨ExD.nw hD, p11.put Dp.symm, [], upd_same, List.nil_sublist _⟩ (fun j H' hj pv => itl_go (K := K) (.inl (.inl (pv.1 _ _ pO hO11))) Ex.rfl hj) (fun H' pv => itl_stop (K := K) (.inl (.inl (pv.1 _ _ pO hO11))) Ex.rfl) ?_ ?_
          · rintro j H13 x H14 hj ⟨e13, p13, sub, hD13, hsub⟩ y
            obtain ⟨rfl, hx⟩ := itl_yld (K := K) y (.inl (.inl (e13 _ _ pO hO11))) Ex.rfl
            obtain ⟨x1, hx1, rfl⟩ := map_at hx
            rw [List.length_map] at hj
            have hsl := hsub.length_le
            rw [List.length_take] at hsl
            refine ⟨rfl, ?_⟩
            refine ⟨_, rfl, p, 3, _, rfl, by decide, p13, by omega, fun z7 H15 hz7 p15 e15 => ⟨rfl, _, rfl, ite2 (fun _ => ?_) (fun _ => ?_)⟩⟩
            · refine ⟨_, rfl, _, e15 _ _ Dp hD13, mil' (by rw [List.length_map]; omega), (e13.tr e15).wr hD, (p15.put Dp.symm).mono (by omega), sub ++ [x1], ?_, ?_⟩
              · rw [upd_same, List.map_append]
                rfl
              · rw [take_snoc hx1]
                exact hsub.append (List.Sublist.refl _)
            · exact ⟨e13.tr e15, p15.mono (by omega), sub, e15 _ _ Dp hD13, by rw [take_snoc hx1]; exact hsub.trans (List.sublist_append_left _ _)⟩
          · rintro H13 ⟨e13, p13, sub, hD13, hsub⟩
            rw [List.length_map, List.take_length] at hsub
            rw [List.length_map] at p13
            have hsl := hsub.length_le
            refine ⟨D, sub, rfl, .inl (.inl hD13), fun r S hperm hsort hS => ?_⟩
            have hnd : sub.Nodup := hsub.nodup ho.nd
            have hasc := asc_sortedI hperm hsort hnd
            have hrl : r.length ≤ 20 := by
              rw [hperm.length_eq]
              omega
            have hrin : ∀ t ∈ r, 0 ≤ t ∧ t < 1 + z1 := fun t ht => hin t (hsub.subset (hperm.mem_iff.mp ht))
            have Sp := p13.off hS
            have hM13 := e13 _ _ Mp hM11
            have SM : S ≠ M := fun e => by
              rw [e, hM13] at hS
              cases hS
            have e14 : ExD p H12 (upd H13 S (.lst (r.map V.int))) := e13.tr (ExD.nw hS)
            have p14 := p13.up (Ex.nw (o := .lst (r.map V.int)) hS)
            have hS14 : (upd H13 S (.lst (r.map V.int))) S = some (.lst (r.map V.int)) := upd_same
            generalize upd H13 S (.lst (r.map V.int)) = H14 at e14 p14 hS14
            have hM14 := e14 _ _ Mp hM11
            refine ⟨_, rfl, .inl ⟨rfl, _, .inl (.inl hM14)⟩, ?_⟩
            refine ⟨_, rfl, Nat.zero_le _, fun Z hZ => ?_⟩
            have eZ : Ex H14 (upd H14 Z (.lst [])) := Ex.nw hZ
            have dS : Da K (upd H14 Z (.lst [])) (dInts r) (.ref S) := dInts_of (eZ _ _ hS14) (by omega)
            have dZ : Da K (upd H14 Z (.lst [])) (dInts []) (.ref Z) := dInts_of (r := []) upd_same (by decide)
            have pZ := p14.up eZ
            generalize upd H14 Z (.lst []) = H15 at eZ dS dZ pZ
            refine ⟨_, _, dS.dInts, dZ.dInts, sh_dInts _, sh_dInts _, _, rfl, ?_⟩
            rw [eqv_dInts]
            have e15 := e14.tr eZ.d
            have hM15 := e15 _ _ Mp hM11
            -- a list more at M
            have put : ∀ (G : Hp) (c : Addr) (r' : List Int), ExD p H12 G → Purse G p (m + 431 + 21 * (i + 1)) → c ≠ p → c ≠ M → G c = some (.lst (r'.map V.int)) → r'.length ≤ 20 → (r' ≠ [] ∧ (∀ t ∈ r', 0 ≤ t ∧ t < 1 + z1) ∧ ascB ltIn r' = true) →
                G M = some (.lst xs2) ∧ xs2.length < sizeLine ∧ (ExD p H8 (upd G M (.lst (xs2 ++ [.ref c]))) ∧ Purse (upd G M (.lst (xs2 ++ [.ref c]))) p (m + 431 + 21 * (i + 1)) ∧ ∃ (xs : List V) (rs : List (List Int)), (upd G M (.lst (xs2 ++ [.ref c]))) M = some (.lst xs) ∧ DaAll K (rm (rm (upd G M (.lst (xs2 ++ [.ref c]))) p) M) (rs.map dInts) xs ∧ rs.length = ns.length + (i + 1) ∧ (∀ r ∈ rs, r ≠ [] ∧ (∀ t ∈ r, 0 ≤ t ∧ t < 1 + z1) ∧ ascB ltIn r = true)) := fun G c r' eG pG cp cM hc hcl hcr => by
              refine ⟨eG _ _ Mp hM11, mil' (by omega), (e11.tr eG).wr HM, pG.put Mp.symm, xs2 ++ [.ref c], rs ++ [r'], upd_same, ?_, by rw [List.length_append, List.length_singleton]; omega, fun s hs => ?_⟩
              · rw [List.map_append]
                refine ((hA11.up (Ex.rm eG.rm)).up (ex_rm2 fun b o n1 n2 h => ?_)).app ⟨_, _, rfl, dInts_of ?_ (by omega), rfl⟩
                · rw [upd_ne n2]
                  exact h
                · rw [rm_ne cM, rm_ne cp, upd_ne cM]
                  exact hc
              · rcases List.mem_append.mp hs with hs | hs
                · exact hrs s hs
                · obtain rfl := List.mem_singleton.mp hs
                  exact hcr
            refine ite2 (fun h1 => ?_) (fun _ => ?_)
            · obtain ⟨w1, w2, w3⟩ := put _ S r e15 (pZ.mono (by omega)) Sp SM (eZ _ _ hS14) hrl ⟨by simpa using h1, hrin, hasc⟩
              exact ⟨_, rfl, M, _, _, rfl, rfl, w1, w2, _, _, rfl, w3⟩
            · have hO15 := e15 _ _ pO hO11
              refine ⟨_, rfl, _, rfl, _, rfl, p, 1 + z1, _, rfl, by omega, pZ, by omega, fun z8 H16 hz8 p16 e16 => ?_⟩
              obtain ⟨x1, hx1, hr1⟩ := hat z8 (by omega) (by omega)
              refine ⟨O, _, _, .int x1, rfl, rfl, .inl (.inl (e16 _ _ pO hO15)), hx1, by show 1 ≤ sizeLine; decide, fun C hC => ?_⟩
              have Cp := p16.off hC
              have CM : C ≠ M := fun e => by
                rw [e, e16 _ _ Mp hM15] at hC
                cases hC
              obtain ⟨w1, w2, w3⟩ := put (upd H16 C (.lst [.int x1])) C [x1] ((e15.tr e16).tr (ExD.nw hC)) ((p16.up (Ex.nw hC)).mono (by omega)) Cp CM upd_same (by show 1 ≤ 20; decide) ⟨by simp, fun t ht => by
                obtain rfl := List.mem_singleton.mp ht
                exact hr1, rfl⟩
              exact ⟨M, _, _, rfl, rfl, w1, w2, _, _, rfl, w3⟩
        · rintro σ H11 ⟨y9, y12, rfl, e11, p11, xs2, rs, hM11, hA11, hrl, hrs⟩
          have lrs := hA11.len
          rw [List.length_map] at lrs
          obtain ⟨pc, hpc⟩ := purse_lst p8
          have hL11 := e11 _ _ pL hL8
          have hAL := pairs_exd hpc e11 hA8
          refine ⟨_, rfl, _, rfl, L, acc, ps, rfl, .inl (.inl hL11), hAL, by omega, fun sa Ls hsa m1 m2 => ?_⟩
          obtain ⟨m3, m4⟩ := sorted_set_pairs (K := K) (P := P) (w := w) hsa m1 m2
          refine ⟨sa, Ls, rfl, upd_same, m3, fun L' c pm hasc hc => ?_⟩
          obtain ⟨_, e12, hAq, hmem⟩ := m4 L' c (.lst (L'.map fun q => V.ref q.1)) pm hc
          have fq : (upd (upd H11 sa (SetWO P w sa Ls)) c (.lst (L'.map fun q => V.ref q.1))) c = some (.lst (L'.map fun q => V.ref q.1)) := upd_same
          generalize upd (upd H11 sa (SetWO P w sa Ls)) c (.lst (L'.map fun q => V.ref q.1)) = H12 at e12 hAq fq
          generalize (L'.map fun q => toP q.2) = qs at hasc hAq hmem
          generalize (L'.map fun q => V.ref q.1) = zs at hAq fq
          refine ⟨_, rfl, by show 3 ≤ sizeLine; decide, fun T3 hT3 => ?_⟩
          have p12 := p11.up e12
          have hM12 := e12 _ _ hM11
          have T3p := p12.off hT3
          have T3M : T3 ≠ M := fun e => by
            rw [e, hM12] at hT3
            cases hT3
          have T3c : T3 ≠ c := fun e => by
            rw [e, fq] at hT3
            cases hT3
          have cp := p12.off (q := T3) hT3
          have ccp : c ≠ p := fun e => by
            obtain ⟨ph, hph⟩ := purse_lst p11
            have h3 := m4 L' c (.lst (L'.map fun q => V.ref q.1)) pm hc
            rw [e, hph] at h3
            cases h3.1
          have ok : (⟨1 + z1, qs, rs⟩ : Wb).Ok := ⟨by show 1 ≤ 1 + z1; omega, by show 1 + z1 ≤ 20; omega, fun x hx => hb x ((hmem x).1 hx), hasc, by show rs.length ≤ 8; omega, hrs⟩
          refine q (.ref T3) ⟨1 + z1, qs, rs⟩ _ (((e8.tr e11).tr e12.d).tr (ExD.nw hT3)) ((p12.up (Ex.nw hT3)).mono (by omega)) ?_ ?_ (by show 1 + z1 ≤ most; omega) (by show (rs.length : Int) ≤ mn; omega)
          · obtain ⟨ph, hph⟩ := purse_lst (p12.up (Ex.nw (o := .tup [.int (1 + z1), .ref c, .ref M]) hT3))
            have hq2 := hAq.len
            have hq3 : qs.length ≤ 400 := pairs400 ok
            refine ⟨T3, _, rfl, by rw [rm_ne T3p, upd_same], _, _, rfl, rfl, _, _, rfl, ⟨c, zs, rfl, ?_, ?_, ?_⟩, _, _, rfl, ⟨M, xs2, rfl, ?_, ?_, ?_⟩, rfl⟩
            · rw [rm_ne ccp, upd_ne T3c.symm]
              exact fq
            · exact pairs_rm hph (hAq.up (Ex.nw hT3))
            · rw [List.length_map]
              show qs.length ≤ 100000
              omega
            · rw [rm_ne Mp, upd_ne T3M.symm]
              exact hM12
            · refine (hA11.up (Ex.rm e12.rm)).up (rm_ex.tr (ex_rm1 fun b o n h => ?_))
              rw [upd_ne (ne_of_none h hT3)]
              exact h
            · rw [List.length_map]
              show rs.length ≤ 100000
              omega
          · exact ok
end

end K36
namespace K36
open PySem PySem.Spec PyProof.Rows L2 Nw
/-! _law_filling: slots 0 _law_well_here, 1 _law_web_here, 2 _law_wide, 3 _law_numbers, 4 _law_pair, 5 _law_strengths, 6 _law_some, 7 _law_one -/
abbrev s_filling : Stmt := topS 42
abbrev N_filling : List Str := ["_law_well_here", "_law_web_here", "_law_wide", "_law_numbers", "_law_pair", "_law_strengths", "_law_some", "_law_one"]
abbrev P_filling : List Str := ["_law_well_here", "_law_web_here", "_law_wide"]
theorem sc_filling : FnScope N_filling P_filling (defScope s_filling) := ⟨rfl, rfl, rfl, by decide +kernel, rfl, by decide +kernel, by decide +kernel⟩
/-- some filling, off the purse -/
def sp_filling (K : PySem.W.Frag) : Sp := fun vs H Q _ => ∃ (p : Addr) (v : V) (u : Wb) (wide : Int) (m : Nat), vs = [.ref p, v, .int wide] ∧ Da K (rm H p) (Wb.d u) v ∧ u.Ok ∧ (1 ≤ wide ∧ wide ≤ 1000000) ∧
  Purse H p m ∧ m ≤ 100000 ∧
  ∀ (t : V) (f : Fl) H', ExD p H H' → Purse H' p (m + 3000) → Da K (rm H' p) (Fl.d f) t → f.Ok u → Q t H'
section
variable {P : Program} {w : World} {K : PySem.W.Frag} {mg : Str → Option Value} {base : Heap}
theorem ok_filling {f : Addr} {fd : FuncData} (T : Txt K mg) (F : Fun K "_law_filling" "_law_filling" s_filling f fd)
    (D_pick : DefOk P w K mg base CX0 1 "_law_pick" P_pick (sp_pick K)) :
    FnG P w K mg base CX0 2 f fd P_filling (sp_filling K) := by
  refine okG0 F sc_filling (fun vs H Q E h => ?_) (fun cdv A outer s H vs Q E hr hq h => ?_)
  · obtain ⟨p, v, u, wide, m, rfl, _⟩ := h
    rfl
  · obtain ⟨p, v, u, wide, m, rfl, hw, hu, hwd, hp, hm, q⟩ := h
    have hw0 := hw
    obtain ⟨t, x2, x3, rfl, hT, ⟨a2, ys, rfl, hL2, hA2, hz2⟩, ⟨a3, ws, rfl, hL3, hA3, hz3⟩⟩ := Wb.at hw
    have hl2 := hA2.len
    have hl3 := hA3.len
    rw [List.length_map] at hl2 hl3
    have b1 := hu.len
    have b3 := hu.few
    have s2 : SqL K (rm H p) a2 ys := .inl (.inl hL2)
    have s3 : SqL K (rm H p) a3 ws := .inl (.inl hL3)
    have nk : ∀ z : Int, 0 ≤ z ∧ z < wide → ∀ y : Int, y = 1 ∨ y = -1 → NumOk ((1 + z) * y) := by
      rintro z hz y (rfl | rfl)
      · refine ⟨by omega, ?_, ?_⟩ <;> omega
      · refine ⟨by omega, ?_, ?_⟩ <;> omega
    refine ⟨_, (pss_cons (ps_setLc (i := 3) (own := [("_law_pair", 4)]) rfl sc_filling.nd rfl rfl (sw_true rfl rfl rfl (by decide +kernel)) (pi_listK K (pe_ix (ix_tupK K) (pv 1) pe_int (fun _ _ => rfl))) (blkOk_by (N := N_filling) (sc := defScope s_filling) (by decide +kernel)) (fun _ _ _ _ _ => (pg_name (i := 4) sc_filling.nd rfl (by first | exact .inl rfl | exact .inr rfl))) (fun _ _ _ _ _ => pts_nil) (fun _ _ _ _ _ => (pe_op op_mul (pe_op op_add pe_int (pe_callD D_pick (hr.mono (by decide)) hq pass0 (pa_cons (pv 0) (pa_cons (pv 2) pa_nil)))) (pe_ix (ix_listK K) (pe_lst (pa_cons pe_int (pa_cons (pe_un un_neg pe_int) pa_nil))) (pe_callD D_pick (hr.mono (by decide)) hq pass0 (pa_cons (pv 0) (pa_cons pe_int pa_nil))) (fun _ _ => rfl)))))
      (pss_cons (ps_set (i := 5) sc_filling.nd rfl (by first | exact .inl rfl | exact .inr rfl) (pe_lst pa_nil))
      (pss_cons (ps_for PassesOwn.never rfl (pi_listK K (pe_ix (ix_tupK K) (pv 1) pe_int (fun _ _ => rfl))) (pg_name (i := 6) sc_filling.nd rfl (by first | exact .inl rfl | exact .inr rfl)) (pss_one (ps_expr (pe_bm PySem.F.plainAttrs_list PySem.F.slot_list_append PySem.F.type_list_append mt_append (pv 5) (pa_cons (pe_lc (own := [("_law_one", 7)]) rfl sc_filling.nd (pi_listK K (pv 6)) (blkOk_by (N := N_filling) (sc := defScope s_filling) (by decide +kernel)) (fun _ _ _ _ _ => (pg_name (i := 7) sc_filling.nd rfl (by first | exact .inl rfl | exact .inr rfl))) (fun _ _ _ _ _ => pts_nil) (fun _ _ _ _ _ => (pe_op op_mul (pe_op op_add pe_int (pe_callD D_pick (hr.mono (by decide)) hq pass0 (pa_cons (pv 0) (pa_cons (pv 2) pa_nil)))) (pe_ix (ix_listK K) (pe_lst (pa_cons pe_int (pa_cons (pe_un un_neg pe_int) pa_nil))) (pe_callD D_pick (hr.mono (by decide)) hq pass0 (pa_cons (pv 0) (pa_cons pe_int pa_nil))) (fun _ _ => rfl))))) pa_nil)))))
      (pss_one (ps_ret (pe_tup (pa_cons (pv 3) (pa_cons (pv 5) pa_nil)))))))), ?_⟩
    refine ⟨_, rfl, t, _, 1, _, rfl, rfl, rm_ex.t hT, rfl, a2, rfl, ⟨_, rm_ex.l s2⟩, fun D hD => ?_⟩
    have Dp := hp.off hD
    refine lc_by ys.length (fun i H' => ExD p H H' ∧ Purse H' p (m + 2 * i) ∧ ∃ r : List Int, H' D = some (.lst (r.map V.int)) ∧ r.length = i ∧ ∀ x ∈ r, NumOk x)
      ⟨ExD.nw hD, hp.put Dp.symm, [], upd_same, rfl, fun x hx => (by cases hx)⟩ (fun i H' hi pv => itl_go s2 (pv.1.rm.tr rm_ex) hi) (fun H' pv => itl_stop s2 (pv.1.rm.tr rm_ex)) ?_ ?_
    · rintro i H1 x H2 hi ⟨e1, p1, r, hr1, hrl, hrn⟩ y
      obtain ⟨rfl, _⟩ := itl_yld y s2 (e1.rm.tr rm_ex)
      refine ⟨rfl, ?_⟩
      refine ⟨_, rfl, _, rfl, p, wide, _, rfl, by omega, p1, by omega, fun z H3 hz p3 e3 => ⟨_, _, rfl, rfl, ?_⟩⟩
      refine ⟨_, rfl, by show 2 ≤ sizeLine; decide, fun l hl => ?_⟩
      have p4 := p3.up (Ex.nw (o := .lst [.int 1, .int (-1)]) hl)
      have e4 : ExD p H3 (upd H3 l (.lst [.int 1, .int (-1)])) := ExD.nw hl
      have f4 : (upd H3 l (.lst [.int 1, .int (-1)])) l = some (.lst [.int 1, .int (-1)]) := upd_same
      have lp := p3.off hl
      generalize upd H3 l (.lst [.int 1, .int (-1)]) = H4 at p4 e4 f4
      refine ⟨_, rfl, p, 2, _, rfl, by decide, p4, by omega, fun z2 H5 hz2' p5 e5 => ?_⟩
      have f5 := e5 _ _ lp f4
      have e6 := (e3.tr e4).tr e5
      have hr5 := e6 _ _ Dp hr1
      have fin : ∀ y : Int, y = 1 ∨ y = -1 → ExD p H (upd H5 D (.lst (r.map V.int ++ [.int ((1 + z) * y)]))) ∧ Purse (upd H5 D (.lst (r.map V.int ++ [.int ((1 + z) * y)]))) p (m + 2 * (i + 1)) ∧
          ∃ r' : List Int, (upd H5 D (.lst (r.map V.int ++ [.int ((1 + z) * y)]))) D = some (.lst (r'.map V.int)) ∧ r'.length = i + 1 ∧ ∀ x ∈ r', NumOk x := by
        intro y hy
        refine ⟨(e1.tr e6).wr hD, (p5.mono (by omega)).put Dp.symm, r ++ [(1 + z) * y], ?_, ?_, ?_⟩
        · rw [upd_same, List.map_append]
          rfl
        · rw [List.length_append, hrl]
          rfl
        · intro x hx
          rcases List.mem_append.mp hx with hx | hx
          · exact hrn x hx
          · obtain rfl := List.mem_singleton.mp hx
            exact nk z hz y hy
      rcases (show z2 = 0 ∨ z2 = 1 by omega) with rfl | rfl
      · exact ⟨l, _, 0, .int 1, rfl, rfl, .inl (.inl f5), rfl, _, _, rfl, rfl, .inr ⟨by decide, by decide⟩, _, hr5, mil' (by rw [List.length_map]; omega), fin 1 (.inl rfl)⟩
      · exact ⟨l, _, 1, .int (-1), rfl, rfl, .inl (.inl f5), rfl, _, _, rfl, rfl, .inr ⟨by decide, by decide⟩, _, hr5, mil' (by rw [List.length_map]; omega), fin (-1) (.inr rfl)⟩
    · rintro H1 ⟨e1, p1, r, hr1, hrl, hrn⟩
      refine ⟨Nat.zero_le _, fun S hS => ?_⟩
      have Sp := p1.off hS
      have SD : S ≠ D := fun e => by
        rw [e, hr1] at hS
        cases hS
      refine ⟨_, rfl, t, _, 2, _, rfl, rfl, ((e1.tr (ExD.nw hS)).rm.tr rm_ex).t hT, rfl, a3, rfl, ⟨_, ((e1.tr (ExD.nw hS)).rm.tr rm_ex).l s3⟩, ?_⟩
      refine for_by ws.length (fun i σ H' => ∃ y6 y7, σ = [some (V.ref p), some (V.ref t), some (V.int wide), some (V.ref D), none, some (V.ref S), y6, y7] ∧ ExD p H H' ∧ Purse H' p (m + 2600 + 40 * i) ∧
          H' D = some (.lst (r.map V.int)) ∧ ∃ (acc : List V) (ss : List (List Int)), H' S = some (.lst acc) ∧ DaAll K (rm (rm H' p) S) (ss.map dInts) acc ∧
          ss.map List.length = (u.ns.take i).map List.length ∧ ∀ r ∈ ss, ∀ x ∈ r, NumOk x)
        ⟨_, _, rfl, e1.tr (ExD.nw hS), (p1.up (Ex.nw hS)).mono (by omega), ?_, [], [], upd_same, rfl, rfl, fun r hr => (by cases hr)⟩ (fun i σ H' hi pv => ?_) (fun σ H' pv => ?_) ?_ ?_
      · rw [upd_ne SD.symm]
        exact hr1
      · obtain ⟨_, _, _, e, _⟩ := pv
        exact itl_go s3 (e.rm.tr rm_ex) hi
      · obtain ⟨_, _, _, e, _⟩ := pv
        exact itl_stop s3 (e.rm.tr rm_ex)
      · rintro i σ H3 x H4 hi ⟨y6, y7, rfl, e3, p3, hD3, acc, ss, hS3, hA, hsl, hsn⟩ y
        obtain ⟨rfl, hx⟩ := itl_yld y s3 (e3.rm.tr rm_ex)
        obtain ⟨dr, hdr, hxd⟩ := hA3.at' hx
        obtain ⟨g, hgr, rfl⟩ := map_at hdr
        obtain ⟨ar, rfl, hLr⟩ := dInts_at hxd
        have hg20 := hu.row (List.mem_of_getElem? hgr)
        have hal := hA.len
        rw [List.length_map] at hal
        have hsl1 := congrArg List.length hsl
        rw [List.length_map, List.length_map, List.length_take] at hsl1
        refine ⟨_, rfl, .inl ⟨rfl, _, .inl (.inl hS3)⟩, ?_⟩
        have sr : SqL K (rm H p) ar (g.map V.int) := hLr
        refine ⟨_, rfl, ar, rfl, ⟨_, (e3.rm.tr rm_ex).l sr⟩, fun C hC => ?_⟩
        have Cp := p3.off hC
        have CS : C ≠ S := fun e => by
          rw [e, hS3] at hC
          cases hC
        have CD : C ≠ D := fun e => by
          rw [e, hD3] at hC
          cases hC
        refine lc_by (g.map V.int).length (fun j H' => ExD p H4 H' ∧ Purse H' p (m + 2600 + 40 * i + 2 * j) ∧ ∃ r : List Int, H' C = some (.lst (r.map V.int)) ∧ r.length = j ∧ ∀ x ∈ r, NumOk x)
          ⟨ExD.nw hC, p3.put Cp.symm, [], upd_same, rfl, fun x hx => (by cases hx)⟩ (fun j H' hj pv => itl_go sr ((e3.tr pv.1).rm.tr rm_ex) hj) (fun H' pv => itl_stop sr ((e3.tr pv.1).rm.tr rm_ex)) ?_ ?_
        · rintro j H5 x H6 hj ⟨e5, p5, r5, hr5, hrl5, hrn5⟩ y
          obtain ⟨rfl, _⟩ := itl_yld y sr ((e3.tr e5).rm.tr rm_ex)
          rw [List.length_map] at hj
          refine ⟨rfl, ?_⟩
          refine ⟨_, rfl, _, rfl, p, wide, _, rfl, by omega, p5, by omega, fun z H7 hz p7 e7 => ⟨_, _, rfl, rfl, ?_⟩⟩
          refine ⟨_, rfl, by show 2 ≤ sizeLine; decide, fun l hl => ?_⟩
          have p8 := p7.up (Ex.nw (o := .lst [.int 1, .int (-1)]) hl)
          have e8 : ExD p H7 (upd H7 l (.lst [.int 1, .int (-1)])) := ExD.nw hl
          have f8 : (upd H7 l (.lst [.int 1, .int (-1)])) l = some (.lst [.int 1, .int (-1)]) := upd_same
          have lp := p7.off hl
          generalize upd H7 l (.lst [.int 1, .int (-1)]) = H8 at p8 e8 f8
          refine ⟨_, rfl, p, 2, _, rfl, by decide, p8, by omega, fun z2 H9 hz2' p9 e9 => ?_⟩
          have f9 := e9 _ _ lp f8
          have e10 := (e7.tr e8).tr e9
          have hr9 := e10 _ _ Cp hr5
          have fin : ∀ y : Int, y = 1 ∨ y = -1 → ExD p H4 (upd H9 C (.lst (r5.map V.int ++ [.int ((1 + z) * y)]))) ∧ Purse (upd H9 C (.lst (r5.map V.int ++ [.int ((1 + z) * y)]))) p (m + 2600 + 40 * i + 2 * (j + 1)) ∧
              ∃ r' : List Int, (upd H9 C (.lst (r5.map V.int ++ [.int ((1 + z) * y)]))) C = some (.lst (r'.map V.int)) ∧ r'.length = j + 1 ∧ ∀ x ∈ r', NumOk x := by
            intro y hy
            refine ⟨(e5.tr e10).wr hC, (p9.mono (by omega)).put Cp.symm, r5 ++ [(1 + z) * y], ?_, ?_, ?_⟩
            · rw [upd_same, List.map_append]
              rfl
            · rw [List.length_append, hrl5]
              rfl
            · intro x hx
              rcases List.mem_append.mp hx with hx | hx
              · exact hrn5 x hx
              · obtain rfl := List.mem_singleton.mp hx
                exact nk z hz y hy
          rcases (show z2 = 0 ∨ z2 = 1 by omega) with rfl | rfl
          · exact ⟨l, _, 0, .int 1, rfl, rfl, .inl (.inl f9), rfl, _, _, rfl, rfl, .inr ⟨by decide, by decide⟩, _, hr9, mil' (by rw [List.length_map]; omega), fin 1 (.inl rfl)⟩
          · exact ⟨l, _, 1, .int (-1), rfl, rfl, .inl (.inl f9), rfl, _, _, rfl, rfl, .inr ⟨by decide, by decide⟩, _, hr9, mil' (by rw [List.length_map]; omega), fin (-1) (.inr rfl)⟩
        · rintro H5 ⟨e5, p5, r5, hr5, hrl5, hrn5⟩
          rw [List.length_map] at hrl5
          have hS5 := e5 _ _ Sp hS3
          have hD5 := e5 _ _ Dp hD3
          rw [List.length_map] at p5
          refine ⟨S, _, _, rfl, rfl, hS5, mil' (by omega), ?_⟩
          refine ⟨_, _, rfl, (e3.tr e5).wr (?_ : H S = none), (p5.mono (by omega)).put Sp.symm, by rw [upd_ne SD.symm]; exact hD5, acc ++ [.ref C], ss ++ [r5], upd_same, ?_, ?_, ?_⟩
          · exact Purse.fr e1 p1 hS
          · rw [List.map_append]
            refine (hA.up (ex_rm2 fun b o n1 n2 h => ?_)).app ⟨_, _, rfl, dInts_of ?_ (by omega), rfl⟩
            · rw [upd_ne n2]
              exact e5 b o n1 h
            · rw [rm_ne CS, rm_ne Cp, upd_ne CS]
              exact hr5
          · rw [take_snoc hgr, List.map_append, List.map_append, hsl]
            simp [hrl5]
          · intro s hs
            rcases List.mem_append.mp hs with hs | hs
            · exact hsn s hs
            · obtain rfl := List.mem_singleton.mp hs
              exact hrn5
      · rintro σ H3 ⟨y6, y7, rfl, e3, p3, hD3, acc, ss, hS3, hA, hsl, hsn⟩
        have hal := hA.len
        rw [List.length_map] at hal
        have hsl1 := congrArg List.length hsl
        rw [List.length_map, List.length_map, List.length_take] at hsl1
        refine ⟨_, rfl, _, rfl, by show 2 ≤ sizeLine; decide, fun T hT => ?_⟩
        have Tp := p3.off hT
        have TS : T ≠ S := fun e => by
          rw [e, hS3] at hT
          cases hT
        have TD : T ≠ D := fun e => by
          rw [e, hD3] at hT
          cases hT
        refine q (.ref T) ⟨r, ss⟩ _ (e3.tr (ExD.nw hT)) ((p3.up (Ex.nw hT)).mono (by omega)) ?_ ?_
        · refine ⟨T, _, rfl, by rw [rm_ne Tp, upd_same], _, _, rfl, dInts_of (by rw [rm_ne Dp, upd_ne TD.symm]; exact hD3) (by show r.length ≤ 100000; omega), _, _, rfl, ⟨S, acc, rfl, by rw [rm_ne Sp, upd_ne TS.symm]; exact hS3, ?_, ?_⟩, rfl⟩
          · refine hA.up (rm_ex.tr (ex_rm1 fun b o n h => ?_))
            rw [upd_ne (ne_of_none h hT)]
            exact h
          · rw [List.length_map]
            show ss.length ≤ 100000
            omega
        · refine ⟨?_, hrn, ?_, hsn⟩
          · show r.length = u.ps.length
            omega
          · show ss.map List.length = u.ns.map List.length
            rw [hsl, ← hl3, List.take_length]
end

end K36
namespace K36
open PySem PySem.Spec PyProof.Rows L2 Nw
/-! _law_stepped: slots 0 _law_web_here, 1 _law_filling_here, 2 _law_state, 3 _law_given, 4 _law_found, 5 _law_pair, 6 _law_number, 7 _law_one, 8 _law_k -/
abbrev s_stepped : Stmt := topS 44
abbrev N_stepped : List Str := ["_law_web_here", "_law_filling_here", "_law_state", "_law_given", "_law_found", "_law_pair", "_law_number", "_law_one", "_law_k"]
abbrev P_stepped : List Str := ["_law_web_here", "_law_filling_here", "_law_state", "_law_given"]
theorem sc_stepped : FnScope N_stepped P_stepped (defScope s_stepped) := ⟨rfl, rfl, rfl, by decide +kernel, rfl, by decide +kernel, by decide +kernel⟩
def sp_stepped (K : PySem.W.Frag) : Sp := fun vs H Q _ => ∃ x u v f a g vals gs, vs = [x, v, .ref a, .ref g] ∧ Da K H (Wb.d u) x ∧ u.Ok ∧ Da K H (Fl.d f) v ∧ f.Ok u ∧ SqL K H a (vals.map V.int) ∧ SqL K H g (gs.map V.int) ∧ (vals.length : Int) = u.n ∧ gs.length = u.ns.length ∧
  ∀ p H', H p = none → Ex H H' → H' p = some (.lst ((mv u.n.toNat (nl u f) (vals ++ gs)).map V.int)) → Q (.ref p) H'
section
variable {P : Program} {w : World} {K : PySem.W.Frag} {mg : Str → Option Value} {base : Heap}
theorem ok_stepped {f : Addr} {fd : FuncData} (T : Txt K mg) (F : Fun K "_law_stepped" "_law_stepped" s_stepped f fd) :
    FnG P w K mg base CX0 1 f fd P_stepped (sp_stepped K) := by
  refine okG0 F sc_stepped (fun vs H Q E h => ?_) (fun cdv A outer s H vs Q E hr hq h => ?_)
  · obtain ⟨x, u, v, f, a, ga, vals, gs, rfl, _⟩ := h
    rfl
  · obtain ⟨x, u, v, f, a, ga, vals, gs, rfl, hw, hu, hf, hok, hV, hG, hvl, hgl0, q⟩ := h
    obtain ⟨t, x2, x3, rfl, hT, ⟨a2, ys, rfl, hL2, hA2, hz2⟩, ⟨a3, ws, rfl, hL3, hA3, hz3⟩⟩ := Wb.at hw
    obtain ⟨tf, x4, x5, rfl, hTf, g4, ⟨a5, ss, rfl, hL5, hA5, hz5⟩⟩ := Fl.at hf
    obtain ⟨a4, rfl, s4⟩ := dInts_at g4
    have hl2 := hA2.len
    have hl3 := hA3.len
    have hl5 := hA5.len
    rw [List.length_map] at hl2 hl3 hl5
    have b1 := hu.lo
    have b2 := hu.hi
    have b3 := hu.few
    have s2 : SqL K H a2 ys := .inl (.inl hL2)
    have s3 : SqL K H a3 ws := .inl (.inl hL3)
    have s5 : SqL K H a5 ss := .inl (.inl hL5)
    have hlen : min ys.length (f.xs.map V.int).length = ys.length := by
      rw [List.length_map, hok.len]
      omega
    refine ⟨_, (pss_cons (ps_set (i := 4) sc_stepped.nd rfl (by first | exact .inl rfl | exact .inr rfl) (pe_op op_rep (pe_lst (pa_cons pe_int pa_nil)) (pe_ix (ix_tupK K) (pv 0) pe_int (fun _ _ => rfl))))
      (pss_cons (ps_for PassesOwn.never rfl (pi_zip (by rfl) T.b_zip (pa_cons (pe_ix (ix_tupK K) (pv 0) pe_int (fun _ _ => rfl)) (pa_cons (pe_ix (ix_seqK K) (pv 1) pe_int (fun _ _ => rfl)) pa_nil))) (pg_tupK (n := 2) K rfl (pgs_cons (pg_name (i := 5) sc_stepped.nd rfl (by first | exact .inl rfl | exact .inr rfl)) (pgs_cons (pg_name (i := 6) sc_stepped.nd rfl (by first | exact .inl rfl | exact .inr rfl)) pgs_nil))) (pss_cons (ps_set (i := 7) sc_stepped.nd rfl (by first | exact .inl rfl | exact .inr rfl) (pe_ix (ix_seqK K) (pv 5) pe_int (fun _ _ => rfl)))
      (pss_one (ps_asg (pe_op op_add (pe_ix (ix_listK K) (pv 4) (pv 7) (fun _ _ => rfl)) (pe_op op_mul (pv 6) (pe_ix (ix_seqK K) (pv 2) (pe_ix (ix_seqK K) (pv 5) pe_int (fun _ _ => rfl)) (fun _ _ => rfl)))) (pg_sub (pv 4) (pv 7) set_list)))))
      (pss_cons (ps_for PassesOwn.never rfl (pi_range1 (by rfl) T.b_range (pa_cons (pe_callB (call_lenK K) (by rfl) T.b_len bt_len (pa_cons (pe_ix (ix_tupK K) (pv 0) pe_int (fun _ _ => rfl)) pa_nil)) pa_nil)) (pg_name (i := 8) sc_stepped.nd rfl (by first | exact .inl rfl | exact .inr rfl)) (pss_one (ps_for PassesOwn.never rfl (pi_zip (by rfl) T.b_zip (pa_cons (pe_ix (ix_seqK K) (pe_ix (ix_tupK K) (pv 0) pe_int (fun _ _ => rfl)) (pv 8) (fun _ _ => rfl)) (pa_cons (pe_ix (ix_seqK K) (pe_ix (ix_seqK K) (pv 1) pe_int (fun _ _ => rfl)) (pv 8) (fun _ _ => rfl)) pa_nil))) (pg_tupK (n := 2) K rfl (pgs_cons (pg_name (i := 7) sc_stepped.nd rfl (by first | exact .inl rfl | exact .inr rfl)) (pgs_cons (pg_name (i := 6) sc_stepped.nd rfl (by first | exact .inl rfl | exact .inr rfl)) pgs_nil))) (pss_one (ps_asg (pe_op op_add (pe_ix (ix_listK K) (pv 4) (pv 7) (fun _ _ => rfl)) (pe_op op_mul (pv 6) (pe_ix (ix_seqK K) (pv 3) (pv 8) (fun _ _ => rfl)))) (pg_sub (pv 4) (pv 7) set_list))))))
      (pss_one (ps_ret (pv 4)))))), ?_⟩
    refine ⟨by show 1 ≤ sizeLine; decide, fun O hO => ?_⟩
    have e2 : Ex H (upd H O (.lst [.int 0])) := Ex.nw hO
    have f2 : (upd H O (.lst [.int 0])) O = some (.lst [.int 0]) := upd_same
    generalize upd H O (.lst [.int 0]) = H2 at e2 f2
    refine ⟨_, rfl, t, _, 0, _, rfl, rfl, e2.t hT, rfl, O, u.n, _, rfl, rfl, f2, by omega, by omega, mil (by rw [List.length_singleton]; omega), fun D hD => ?_⟩
    rw [rep_int]
    have eD : Ex H (upd H2 D (.lst ((List.replicate u.n.toNat (0 : Int)).map V.int))) := e2.tr (Ex.nw hD)
    have fD : (upd H2 D (.lst ((List.replicate u.n.toNat (0 : Int)).map V.int))) D = some (.lst ((List.replicate u.n.toNat (0 : Int)).map V.int)) := upd_same
    have hDH : H D = none := e2.fr hD
    generalize upd H2 D (.lst ((List.replicate u.n.toNat (0 : Int)).map V.int)) = H3 at eD fD
    refine ⟨_, rfl, t, _, 1, _, rfl, rfl, eD.t hT, rfl, _, rfl, .inr (.inl ⟨tf, _, 0, _, rfl, rfl, eD.t hTf, rfl, a2, a4, _, _, rfl, eD.l s2, eD.l s4, ?_⟩)⟩
    refine for_by ys.length (fun i σ H' => ∃ y4 y5 y6 y7, σ = [some (V.ref t), some (V.ref tf), some (V.ref a), some (V.ref ga), some (V.ref D), y4, y5, y6, y7] ∧ Ex H H' ∧
        H' D = some (.lst ((mvs (vals ++ gs) ((u.ps.zip f.xs).take i) (List.replicate u.n.toNat 0)).map V.int)))
      ⟨_, _, _, _, rfl, eD, fD⟩ (fun i σ H' hi pv => ?_) (fun σ H' pv => ?_) ?_ ?_
    · obtain ⟨_, _, _, _, _, e, _⟩ := pv
      exact itz_go s2 s4 e (by rw [hlen]; exact hi)
    · obtain ⟨_, _, _, _, _, e, _⟩ := pv
      have := itz_stop s2 s4 e
      rw [hlen] at this
      exact this
    · rintro i σ H4 x H5 hi ⟨y4, y5, y6, y7, rfl, e4, hD4⟩ ⟨T1, z1, z2, rfl, hT1, rfl, hz1, hz2'⟩
      obtain ⟨l, hli, b, rfl, hSb⟩ := pairs_at hA2 (hz1 ys (e4.l s2))
      obtain ⟨num, hnum, rfl⟩ := map_at (hz2' _ (e4.l s4))
      have e5 : Ex H4 (upd H4 T1 (.tup [.ref b, .int num])) := Ex.nw hT1
      have f5 : (upd H4 T1 (.tup [.ref b, .int num])) T1 = some (.tup [.ref b, .int num]) := upd_same
      generalize upd H4 T1 (.tup [.ref b, .int num]) = H6 at e5 f5
      have hD6 := e5 _ _ hD4
      have e6 := e4.tr e5
      obtain ⟨h1, h2⟩ := hu.ps l (List.mem_of_getElem? hli)
      have h3 := (hok.num num (List.mem_of_getElem? hnum)).2
      have hlz : (u.ps.zip f.xs)[i]? = some (l, num) := (List.getElem?_zip_eq_some (z := (l, num))).mpr ⟨hli, hnum⟩
      have hml : (mvs (vals ++ gs) ((u.ps.zip f.xs).take i) (List.replicate u.n.toNat 0)).length = u.n.toNat := by rw [mvs_len, List.length_replicate]
      generalize hm : mvs (vals ++ gs) ((u.ps.zip f.xs).take i) (List.replicate u.n.toNat 0) = acc at hD6 hml
      have i2 : l.2.toNat < acc.length := by omega
      have i1 : l.1.toNat < vals.length := by omega
      have g2 := List.getElem?_eq_getElem i2
      have g1 := List.getElem?_eq_getElem i1
      generalize acc[l.2.toNat] = c2 at g2
      have g1b := g1
      generalize vals[l.1.toNat] = c1 at g1 g1b
      refine ⟨T1, _, rfl, .inl (.inl f5), rfl, _, _, rfl, _, _, rfl, rfl, ?_⟩
      refine ⟨_, rfl, .inr (.inl ⟨b, _, 1, _, rfl, rfl, e6.t hSb, rfl, ?_⟩)⟩
      refine ⟨_, rfl, _, rfl, D, _, l.2, .int c2, rfl, rfl, .inl (.inl hD6), atI_int h2.1 (by rw [List.getElem?_map, g2]; rfl), ?_⟩
      refine ⟨_, rfl, _, rfl, _, rfl, .inr (.inl ⟨b, _, 0, _, rfl, rfl, e6.t hSb, rfl, .inl ⟨a, _, l.1, .int c1, rfl, rfl, e6.l hV, atI_int h1.1 (by rw [List.getElem?_map, g1]; rfl), ?_⟩⟩)⟩
      refine ⟨_, _, rfl, rfl, .inl ⟨by have := h3.1; omega, by have := h3.2; omega⟩, _, _, rfl, rfl, _, rfl, _, rfl, D, _, l.2, l.2.toNat, rfl, rfl, hD6, ixN_int h2.1 (by rw [List.length_map]; omega), ?_⟩
      refine ⟨_, _, _, _, rfl, e6.wr hDH, ?_⟩
      rw [upd_same, stp_at (l := (l, num)) (vals := vals ++ gs) g2 (by rw [List.getElem?_append_left i1]; exact g1b), take_snoc hlz, mvs_snoc, hm]
    · rintro σ H4 ⟨y4, y5, y6, y7, rfl, e4, hD4⟩
      have hlz : (u.ps.zip f.xs).length = ys.length := by
        rw [List.length_zip, hok.len]
        omega
      rw [← hlz, List.take_length] at hD4
      generalize hm0 : mvs (vals ++ gs) (u.ps.zip f.xs) (List.replicate u.n.toNat 0) = acc0 at hD4
      have hl0 : acc0.length = u.n.toNat := by rw [← hm0, mvs_len, List.length_replicate]
      refine ⟨_, rfl, t, _, 2, _, rfl, rfl, e4.t hT, rfl, a3, _, rfl, .inl (e4.l s3), _, rfl, by omega, by omega, ?_⟩
      refine for_by ws.length (fun i σ H' => ∃ y4 y5 y6 y7, σ = [some (V.ref t), some (V.ref tf), some (V.ref a), some (V.ref ga), some (V.ref D), y4, y5, y6, y7] ∧ Ex H H' ∧
          H' D = some (.lst ((mvs (vals ++ gs) (nlFrom u.n 0 (u.ns.take i) f.ss) acc0).map V.int)))
        ⟨_, _, _, _, rfl, e4, by rw [List.take_zero]; exact hD4⟩ (fun i σ H' hi pv => by show i < _; omega) (fun σ H' pv => by show _ ≤ _; omega) ?_ ?_
      · rintro i σ H9 x H5 hi ⟨y4, y5, y6, y7, rfl, e5, hD5⟩ ⟨rfl, rfl⟩
        obtain ⟨dr, hdr, hxd⟩ := hA3.at' (List.getElem?_eq_getElem hi)
        have hws := List.getElem?_eq_getElem hi
        generalize ws[i] = xws at hws hxd
        obtain ⟨g, hgr, rfl⟩ := map_at hdr
        obtain ⟨ar, rfl, hLr⟩ := dInts_at hxd
        have hi5 : i < ss.length := by
          have := hok.slen
          omega
        obtain ⟨ds2, hds2, hxs2⟩ := hA5.at' (List.getElem?_eq_getElem hi5)
        have hss := List.getElem?_eq_getElem hi5
        generalize ss[i] = xss at hss hxs2
        obtain ⟨sr, hsr, rfl⟩ := map_at hds2
        obtain ⟨as, rfl, hLs⟩ := dInts_at hxs2
        have hrs := hok.rlen hsr hgr
        have ek : (0 + (i : Int)) = (i : Int) := Int.zero_add _
        refine ⟨_, rfl, t, _, 2, _, rfl, rfl, e5.t hT, rfl, _, rfl, .inl ⟨a3, _, 0 + (i : Int), .ref ar, rfl, rfl, e5.l s3, by rw [ek]; exact atI_nat hws, ?_⟩⟩
        refine ⟨_, rfl, .inr (.inl ⟨tf, _, 1, _, rfl, rfl, e5.t hTf, rfl, _, rfl, .inl ⟨a5, _, 0 + (i : Int), .ref as, rfl, rfl, e5.l s5, by rw [ek]; exact atI_nat hss, ar, as, _, _, rfl, e5.l hLr, e5.l hLs, ?_⟩⟩)⟩
        have hlen2 : min (g.map V.int).length (sr.map V.int).length = g.length := by
          rw [List.length_map, List.length_map]
          omega
        generalize hm1 : mvs (vals ++ gs) (nlFrom u.n 0 (u.ns.take i) f.ss) acc0 = acc1 at hD5
        have hl1 : acc1.length = u.n.toNat := by rw [← hm1, mvs_len, hl0]
        refine for_by g.length (fun j σ H' => ∃ y4 y5 y6, σ = [some (V.ref t), some (V.ref tf), some (V.ref a), some (V.ref ga), some (V.ref D), y4, y5, y6, some (V.int (0 + (i : Int)))] ∧ Ex H H' ∧
            H' D = some (.lst ((mvs (vals ++ gs) ((blkAt u.n i g sr).take j) acc1).map V.int)))
          ⟨_, _, _, rfl, e5, by rw [List.take_zero]; exact hD5⟩ (fun j σ H' hj pv => ?_) (fun σ H' pv => ?_) ?_ ?_
        · obtain ⟨_, _, _, _, e, _⟩ := pv
          exact itz_go hLr hLs e (by rw [hlen2]; exact hj)
        · obtain ⟨_, _, _, _, e, _⟩ := pv
          have := itz_stop hLr hLs e
          rw [hlen2] at this
          exact this
        · rintro j σ H8 x H9 hj ⟨y4, y5, y6, rfl, e8, hD8⟩ ⟨T2, z1, z2, rfl, hT2, rfl, hz1, hz2'⟩
          obtain ⟨gl, hgl, rfl⟩ := map_at (hz1 _ (e8.l hLr))
          obtain ⟨num, hnum, rfl⟩ := map_at (hz2' _ (e8.l hLs))
          have e9 : Ex H8 (upd H8 T2 (.tup [.int gl, .int num])) := Ex.nw hT2
          have f9 : (upd H8 T2 (.tup [.int gl, .int num])) T2 = some (.tup [.int gl, .int num]) := upd_same
          generalize upd H8 T2 (.tup [.int gl, .int num]) = H10 at e9 f9
          have hD10 := e9 _ _ hD8
          have e10 := e8.tr e9
          have h2 := (hu.ns g (List.mem_of_getElem? hgr)).2.1 gl (List.mem_of_getElem? hgl)
          have h3 := (hok.rnum sr (List.mem_of_getElem? hsr) num (List.mem_of_getElem? hnum)).2
          have hlz2 : (blkAt u.n i g sr)[j]? = some ((u.n + (i : Int), gl), num) := by
            refine (List.getElem?_zip_eq_some (z := ((u.n + (i : Int), gl), num))).mpr ⟨?_, hnum⟩
            show (pushedAt u.n i g)[j]? = _
            unfold pushedAt
            rw [List.getElem?_map, hgl]
            rfl
          have hml : (mvs (vals ++ gs) ((blkAt u.n i g sr).take j) acc1).length = u.n.toNat := by rw [mvs_len, hl1]
          generalize hm : mvs (vals ++ gs) ((blkAt u.n i g sr).take j) acc1 = acc at hD10 hml
          have i2 : gl.toNat < acc.length := by omega
          have i1 : i < gs.length := by omega
          have g2 := List.getElem?_eq_getElem i2
          have g1 := List.getElem?_eq_getElem i1
          generalize acc[gl.toNat] = c2 at g2
          generalize gs[i] = c1 at g1
          have g1b : (vals ++ gs)[(u.n + (i : Int)).toNat]? = some c1 := by
            rw [List.getElem?_append_right (by omega), show (u.n + (i : Int)).toNat - vals.length = i by omega]
            exact g1
          refine ⟨T2, _, rfl, .inl (.inl f9), rfl, _, _, rfl, _, _, rfl, rfl, ?_⟩
          refine ⟨_, rfl, _, rfl, D, _, gl, .int c2, rfl, rfl, .inl (.inl hD10), atI_int h2.1 (by rw [List.getElem?_map, g2]; rfl), ?_⟩
          refine ⟨_, rfl, _, rfl, _, rfl, .inl ⟨ga, _, 0 + (i : Int), .int c1, rfl, rfl, e10.l hG, atI_int (by omega) (by rw [ek, Int.toNat_natCast, List.getElem?_map, g1]; rfl), ?_⟩⟩
          refine ⟨_, _, rfl, rfl, .inl ⟨by have := h3.1; omega, by have := h3.2; omega⟩, _, _, rfl, rfl, _, rfl, _, rfl, D, _, gl, gl.toNat, rfl, rfl, hD10, ixN_int h2.1 (by rw [List.length_map]; omega), ?_⟩
          refine ⟨_, _, _, rfl, e10.wr hDH, ?_⟩
          rw [upd_same, stp_at (l := ((u.n + (i : Int), gl), num)) (vals := vals ++ gs) g2 g1b, take_snoc hlz2, mvs_snoc, hm]
        · rintro σ H8 ⟨y4, y5, y6, rfl, e8, hD8⟩
          have hbl : (blkAt u.n i g sr).length = g.length := by
            unfold blkAt pushedAt
            rw [List.length_zip, List.length_map]
            omega
          rw [← hbl, List.take_length, ← hm1, ← mvs_app] at hD8
          refine ⟨_, _, _, _, rfl, e8, ?_⟩
          rw [nlFrom_take u.n u.ns f.ss 0 i g sr hgr hsr, Nat.zero_add]
          exact hD8
      · rintro σ H5 ⟨y4, y5, y6, y7, rfl, e5, hD5⟩
        rw [← hl3, List.take_length, ← hm0, ← mvs_app, ← hok.nl] at hD5
        exact ⟨_, rfl, q D H5 hDH e5 hD5⟩
end

end K36
namespace K36
open PySem PySem.Spec PyProof.Rows L2 Nw
/-! shown_at: slots 0 web, 1 filling, 2 state, 3 found, 4 nudge, 5 row, 6 target, 7 number -/
abbrev s_shown_at : Stmt := topS 36
abbrev N_shown_at : List Str := ["web", "filling", "state", "found", "nudge", "row", "target", "number"]
abbrev P_shown_at : List Str := ["web", "filling", "state"]
theorem sc_shown_at : FnScope N_shown_at P_shown_at (defScope s_shown_at) := ⟨rfl, rfl, rfl, by decide +kernel, rfl, by decide +kernel, by decide +kernel⟩
/-- what a nudge shows -/
def prodZ (st g s : List Int) : List Int := (g.zip s).map fun z => z.2 * st.getD z.1.toNat 0
def shw (ns ss : List (List Int)) (st : List Int) : List Int := (ns.zip ss).map fun z => (prodZ st z.1 z.2).sum
def sp_shown_at (K : PySem.W.Frag) : Sp := fun vs H Q _ => ∃ x u v f a st, vs = [x, v, .ref a] ∧ Da K H (Wb.d u) x ∧ u.Ok ∧ Da K H (Fl.d f) v ∧ f.Ok u ∧ SqL K H a (st.map V.int) ∧ (st.length : Int) = u.n ∧
  ∀ p H', H p = none → Ex H H' → H' p = some (.lst ((shw u.ns f.ss st).map V.int)) → Q (.ref p) H'
section
variable {P : Program} {w : World} {K : PySem.W.Frag} {mg : Str → Option Value} {base : Heap}
theorem ok_shown_at {f : Addr} {fd : FuncData} (T : Txt K mg) (F : Fun K "shown_at" "shown_at" s_shown_at f fd) :
    FnG P w K mg base CX0 1 f fd P_shown_at (sp_shown_at K) := by
  refine okG0 F sc_shown_at (fun vs H Q E h => ?_) (fun cdv A outer s H vs Q E hr hq h => ?_)
  · obtain ⟨x, u, v, f, a, st, rfl, _⟩ := h
    rfl
  · obtain ⟨x, u, v, f, a, st, rfl, hw, hu, hf, hok, hV, hvl, q⟩ := h
    obtain ⟨t, x2, x3, rfl, hT, _, ⟨a3, ws, rfl, hL3, hA3, hz3⟩⟩ := Wb.at hw
    obtain ⟨tf, x4, x5, rfl, hTf, _, ⟨a5, ss, rfl, hL5, hA5, hz5⟩⟩ := Fl.at hf
    have hl3 := hA3.len
    have hl5 := hA5.len
    rw [List.length_map] at hl3 hl5
    have b3 := hu.few
    have hsl := hok.slen
    have s3 : SqL K H a3 ws := .inl (.inl hL3)
    have s5 : SqL K H a5 ss := .inl (.inl hL5)
    refine ⟨_, (pss_cons (ps_set (i := 3) sc_shown_at.nd rfl (by first | exact .inl rfl | exact .inr rfl) (pe_lst pa_nil))
      (pss_cons (ps_for PassesOwn.never rfl (pi_zip (by rfl) T.b_zip (pa_cons (pe_ix (ix_seqK K) (pv 0) pe_int (fun _ _ => rfl)) (pa_cons (pe_ix (ix_seqK K) (pv 1) pe_int (fun _ _ => rfl)) pa_nil))) (pg_tupK (n := 2) K rfl (pgs_cons (pg_name (i := 4) sc_shown_at.nd rfl (by first | exact .inl rfl | exact .inr rfl)) (pgs_cons (pg_name (i := 5) sc_shown_at.nd rfl (by first | exact .inl rfl | exact .inr rfl)) pgs_nil))) (pss_one (ps_expr (pe_bm PySem.F.plainAttrs_list PySem.F.slot_list_append PySem.F.type_list_append mt_append (pv 3) (pa_cons (pe_callB (cr_sumK K rfl) (by rfl) T.b_sum bt_sum (pa_cons (pe_lc (own := [("target", 6), ("number", 7)]) rfl sc_shown_at.nd (pi_zip (by rfl) T.b_zip (pa_cons (pv 4) (pa_cons (pv 5) pa_nil))) (blkOk_by (N := N_shown_at) (sc := defScope s_shown_at) (by decide +kernel)) (fun _ _ _ _ _ => (pg_tupK (n := 2) K rfl (pgs_cons (pg_name (i := 6) sc_shown_at.nd rfl (by first | exact .inl rfl | exact .inr rfl)) (pgs_cons (pg_name (i := 7) sc_shown_at.nd rfl (by first | exact .inl rfl | exact .inr rfl)) pgs_nil)))) (fun _ _ _ _ _ => pts_nil) (fun _ _ _ _ _ => (pe_op op_mul (pv 7) (pe_ix (ix_seqK K) (pv 2) (pv 6) (fun _ _ => rfl))))) pa_nil)) pa_nil)))))
      (pss_one (ps_ret (pv 3))))), ?_⟩
    refine ⟨Nat.zero_le _, fun D hD => ?_⟩
    have eD : Ex H (upd H D (.lst [])) := Ex.nw hD
    have fD : (upd H D (.lst [])) D = some (.lst (([] : List Int).map V.int)) := upd_same
    generalize upd H D (.lst []) = H1 at eD fD
    refine ⟨_, rfl, .inr (.inl ⟨t, _, 2, _, rfl, rfl, eD.t hT, rfl, _, rfl, .inr (.inl ⟨tf, _, 1, _, rfl, rfl, eD.t hTf, rfl, a3, a5, _, _, rfl, eD.l s3, eD.l s5, ?_⟩)⟩)⟩
    have hlen : min ws.length ss.length = ws.length := by omega
    have hzl : (u.ns.zip f.ss).length = ws.length := by
      rw [List.length_zip]
      omega
    refine for_by ws.length (fun i σ H' => ∃ y4 y5, σ = [some (V.ref t), some (V.ref tf), some (V.ref a), some (V.ref D), y4, y5, none, none] ∧ Ex H H' ∧
        H' D = some (.lst ((((u.ns.zip f.ss).take i).map fun z => (prodZ st z.1 z.2).sum).map V.int)))
      ⟨_, _, rfl, eD, fD⟩ (fun i σ H' hi pv => ?_) (fun σ H' pv => ?_) ?_ ?_
    · obtain ⟨_, _, _, e, _⟩ := pv
      exact itz_go s3 s5 e (by rw [hlen]; exact hi)
    · obtain ⟨_, _, _, e, _⟩ := pv
      have := itz_stop s3 s5 e
      rw [hlen] at this
      exact this
    · rintro i σ H2 x H3 hi ⟨y4, y5, rfl, e2, hD2⟩ ⟨T1, z1, z2, rfl, hT1, rfl, hz1, hz2'⟩
      obtain ⟨dr, hdr, hxd⟩ := hA3.at' (hz1 _ (e2.l s3))
      obtain ⟨g, hgr, rfl⟩ := map_at hdr
      obtain ⟨ar, rfl, hLr⟩ := dInts_at hxd
      obtain ⟨ds2, hds2, hxs2⟩ := hA5.at' (hz2' _ (e2.l s5))
      obtain ⟨sr, hsr, rfl⟩ := map_at hds2
      obtain ⟨as, rfl, hLs⟩ := dInts_at hxs2
      have hrs := hok.rlen hsr hgr
      have e3 : Ex H2 (upd H2 T1 (.tup [.ref ar, .ref as])) := Ex.nw hT1
      have f3 : (upd H2 T1 (.tup [.ref ar, .ref as])) T1 = some (.tup [.ref ar, .ref as]) := upd_same
      generalize upd H2 T1 (.tup [.ref ar, .ref as]) = H4 at e3 f3
      have e04 := e2.tr e3
      have hD4 := e3 _ _ hD2
      have hz : (u.ns.zip f.ss)[i]? = some (g, sr) := (List.getElem?_zip_eq_some (z := (g, sr))).mpr ⟨hgr, hsr⟩
      refine ⟨T1, _, rfl, .inl (.inl f3), rfl, _, _, rfl, _, _, rfl, rfl, ?_⟩
      refine ⟨_, rfl, .inl ⟨rfl, _, .inl (.inl hD4)⟩, ?_⟩
      refine ⟨_, rfl, _, rfl, ar, as, _, _, rfl, e04.l hLr, e04.l hLs, fun G hG => ?_⟩
      have hlen2 : min (g.map V.int).length (sr.map V.int).length = g.length := by
        rw [List.length_map, List.length_map]
        omega
      have gl20 : g.length ≤ 20 := hu.row (List.mem_of_getElem? hgr)
      refine lc_by g.length (fun j H' => Ex H4 H' ∧ H' G = some (.lst (((((g.zip sr).take j).map fun z => z.2 * st.getD z.1.toNat 0)).map V.int)))
        ⟨Ex.nw hG, upd_same⟩ (fun j H' hj pv => itz_go hLr hLs (e04.tr pv.1) (by rw [hlen2]; exact hj)) (fun H' pv => ?_) ?_ ?_
      · have := itz_stop hLr hLs (e04.tr pv.1)
        rw [hlen2] at this
        exact this
      · rintro j H5 x H6 hj ⟨e5, hG5⟩ ⟨T2, w1, w2, rfl, hT2, rfl, hw1, hw2⟩
        obtain ⟨gl, hgl, rfl⟩ := map_at (hw1 _ ((e04.tr e5).l hLr))
        obtain ⟨num, hnum, rfl⟩ := map_at (hw2 _ ((e04.tr e5).l hLs))
        have e6 : Ex H5 (upd H5 T2 (.tup [.int gl, .int num])) := Ex.nw hT2
        have f6 : (upd H5 T2 (.tup [.int gl, .int num])) T2 = some (.tup [.int gl, .int num]) := upd_same
        generalize upd H5 T2 (.tup [.int gl, .int num]) = H7 at e6 f6
        have h2 := (hu.ns g (List.mem_of_getElem? hgr)).2.1 gl (List.mem_of_getElem? hgl)
        have h3 := (hok.rnum sr (List.mem_of_getElem? hsr) num (List.mem_of_getElem? hnum)).2
        have hzz : (g.zip sr)[j]? = some (gl, num) := (List.getElem?_zip_eq_some (z := (gl, num))).mpr ⟨hgl, hnum⟩
        have i1 : gl.toNat < st.length := by omega
        have g1 := List.getElem?_eq_getElem i1
        have g1d : st.getD gl.toNat 0 = st[gl.toNat] := by
          rw [List.getD_eq_getElem?_getD, g1]
          rfl
        generalize st[gl.toNat] = c1 at g1 g1d
        refine ⟨T2, _, rfl, .inl (.inl f6), rfl, _, _, rfl, _, _, rfl, rfl, rfl, ?_⟩
        refine ⟨_, rfl, _, rfl, _, rfl, .inl ⟨a, _, gl, .int c1, rfl, rfl, ((e04.tr e5).tr e6).l hV, atI_int h2.1 (by rw [List.getElem?_map, g1]; rfl), ?_⟩⟩
        refine ⟨_, _, rfl, rfl, .inl ⟨by have := h3.1; omega, by have := h3.2; omega⟩, _, e6 _ _ hG5, mil' ?_, (e5.tr e6).wr hG, ?_⟩
        · rw [List.length_map, List.length_map, List.length_take]
          omega
        · rw [upd_same, take_snoc hzz, List.map_append, List.map_append, List.map_cons, List.map_nil, List.map_cons, List.map_nil, g1d]
      · rintro H5 ⟨e5, hG5⟩
        have hzlen : (g.zip sr).length = g.length := by
          rw [List.length_zip]
          omega
        rw [← hzlen, List.take_length] at hG5
        have hD5 := e5 _ _ hD4
        refine ⟨G, _, rfl, .inl (.inl hG5), D, _, _, rfl, rfl, hD5, mil' (by rw [List.length_map, List.length_map, List.length_take]; omega), _, _, rfl, (e04.tr e5).wr hD, ?_⟩
        rw [upd_same, take_snoc hz, List.map_append, List.map_append]
        rfl
    · rintro σ H2 ⟨y4, y5, rfl, e2, hD2⟩
      rw [← hzl, List.take_length] at hD2
      exact ⟨_, rfl, q D H2 hD e2 hD2⟩
end

end K36
namespace K36
open PySem PySem.Spec PyProof.Rows L2 Nw
/-! shown: slots 0 web, 1 filling, 2 state, 3 number, 4 still, 5 states, 6 one -/
abbrev s_shown : Stmt := topS 35
abbrev N_shown : List Str := ["web", "filling", "state", "number", "still", "states", "one"]
abbrev P_shown : List Str := ["web", "filling", "state", "number"]
theorem sc_shown : FnScope N_shown P_shown (defScope s_shown) := ⟨rfl, rfl, rfl, by decide +kernel, rfl, by decide +kernel, by decide +kernel⟩
theorem rep_flat {α : Type} (m : Nat) (x : α) : (List.replicate m [x]).flatten = List.replicate m x := by
  induction m with
  | zero => rfl
  | succ m ih => rw [List.replicate_succ, List.flatten_cons, ih, List.replicate_succ]; rfl
theorem daall_rep {K : PySem.W.Frag} {H : Hp} {d : PyData} {v : V} (h : Da K H d v) : ∀ m : Nat, DaAll K H (List.replicate m d) (List.replicate m v)
  | 0 => rfl
  | m + 1 => by
    rw [List.replicate_succ, List.replicate_succ]
    exact ⟨_, _, rfl, h, daall_rep h m⟩
/-- what the nudges show, so many times -/
def still (u : Wb) : List Int := List.replicate u.ns.length 0
def stn (u : Wb) (f : Fl) (st : List Int) (N : Nat) : List (List Int) := rn u.n.toNat (nl u f) st (List.replicate N (still u))
def shn (u : Wb) (f : Fl) (st : List Int) (N : Nat) : List (List Int) := ((stn u f st N).take N).map (shw u.ns f.ss)
def sp_shown (K : PySem.W.Frag) : Sp := fun vs H Q _ => ∃ x u v f sv st N, vs = [x, v, sv, .int (N : Nat)] ∧ Da K H (Wb.d u) x ∧ u.Ok ∧ Da K H (Fl.d f) v ∧ f.Ok u ∧ Da K H (dInts st) sv ∧ (st.length : Int) = u.n ∧ N ≤ 60 ∧
  ∀ p bs H', NewR H H' (shn u f st N) p bs → Q (.ref p) H'
section
variable {P : Program} {w : World} {K : PySem.W.Frag} {mg : Str → Option Value} {base : Heap}
theorem ok_shown {f : Addr} {fd : FuncData} (T : Txt K mg) (F : Fun K "shown" "shown" s_shown f fd)
    (D_is_number_below : DefOk P w K mg base CX0 2 "is_number_below" P_is_number_below (sp_is_number_below K))
    (D_check_web : DefOk P w K mg base CX0 7 "check_web" P_check_web (sp_check_web K))
    (D_check_filling : DefOk P w K mg base CX0 5 "check_filling" P_check_filling (sp_check_filling K))
    (D_check_state : DefOk P w K mg base CX0 3 "check_state" P_check_state (sp_check_state K))
    (D_states_behind : DefOk P w K mg base CX0 3 "states_behind" P_states_behind (sp_states_behind K))
    (D_shown_at : DefOk P w K mg base CX0 1 "shown_at" P_shown_at (sp_shown_at K)) :
    FnG P w K mg base CX0 8 f fd P_shown (sp_shown K) := by
  refine okG0 F sc_shown (fun vs H Q E h => ?_) (fun cdv A outer s H vs Q E hr hq h => ?_)
  · obtain ⟨x, u, v, f, sv, st, N, rfl, _⟩ := h
    rfl
  · obtain ⟨x, u, v, f, sv, st, N, rfl, hw, hu, hf, hok, hs, hsl, hN, q⟩ := h
    obtain ⟨t, x2, x3, rfl, hT, _, ⟨a3, ws, rfl, hL3, hA3, hz3⟩⟩ := Wb.at hw
    have hl3 := hA3.len
    rw [List.length_map] at hl3
    have b3 := hu.few
    have s3 : SqL K H a3 ws := .inl (.inl hL3)
    refine ⟨_, (pss_cons (ps_expr (pe_callD D_check_web (hr.mono (by decide)) hq pass0 (pa_cons (pv 0) pa_nil)))
      (pss_cons (ps_expr (pe_callD D_check_filling (hr.mono (by decide)) hq pass0 (pa_cons (pv 0) (pa_cons (pv 1) pa_nil))))
      (pss_cons (ps_expr (pe_callD D_check_state (hr.mono (by decide)) hq pass0 (pa_cons (pv 0) (pa_cons (pv 2) pa_nil))))
      (pss_cons (ps_if (pt_not (pt_val (pe_callD D_is_number_below (hr.mono (by decide)) hq pass0 (pa_cons (pv 3) (pa_cons (pe_op op_add (pe_globI T.c_MOST_ROWS) pe_int) pa_nil))))) (pss_one ps_never) pss_nil)
      (pss_cons (ps_set (i := 4) sc_shown.nd rfl (by first | exact .inl rfl | exact .inr rfl) (pe_op op_rep (pe_lst (pa_cons pe_int pa_nil)) (pe_callB (call_lenK K) (by rfl) T.b_len bt_len (pa_cons (pe_ix (ix_seqK K) (pv 0) pe_int (fun _ _ => rfl)) pa_nil))))
      (pss_cons (ps_set (i := 5) sc_shown.nd rfl (by first | exact .inl rfl | exact .inr rfl) (pe_callD D_states_behind (hr.mono (by decide)) hq pass0 (pa_cons (pv 0) (pa_cons (pv 1) (pa_cons (pv 2) (pa_cons (pe_op op_rep (pe_lst (pa_cons (pv 4) pa_nil)) (pv 3)) pa_nil))))))
      (pss_one (ps_ret (pe_lc (own := [("one", 6)]) rfl sc_shown.nd (pi_listK K (pe_slice (sl_listK K) (pv 5) po_none (po_some (pv 3)))) (blkOk_by (N := N_shown) (sc := defScope s_shown) (by decide +kernel)) (fun _ _ _ _ _ => (pg_name (i := 6) sc_shown.nd rfl (by first | exact .inl rfl | exact .inr rfl))) (fun _ _ _ _ _ => pts_nil) (fun _ _ _ _ _ => (pe_callD D_shown_at (hr.mono (by decide)) hq pass0 (pa_cons (pv 0) (pa_cons (pv 1) (pa_cons (pv 6) pa_nil)))))))))))))), ?_⟩
    refine ⟨_, rfl, _, _, rfl, hw, hu.web, fun H1 e1 => ?_⟩
    refine ⟨_, rfl, _, rfl, _, u, _, _, rfl, hw.up e1, hu, hf.up e1, hok.fill, fun H2 e2 => ?_⟩
    have e02 := e1.tr e2
    refine ⟨_, rfl, _, rfl, _, u, _, _, rfl, hw.up e02, hu, hs.up e02, intsB_of hsl, fun H3 e3 => ?_⟩
    have e03 := e02.tr e3
    refine ⟨_, rfl, _, _, rfl, rfl, .int (N : Int), .int (N : Int), _, rfl, rfl, _, rfl, ?_⟩
    have en : numB (.int (N : Int)) ((fun i j : Int => i + j) 60 1) = true := by
      simp only [numB, Bool.and_eq_true, decide_eq_true_eq]
      omega
    rw [en]
    refine ite2 (fun h => by cases h) (fun _ => ?_)
    refine ⟨by show 1 ≤ sizeLine; decide, fun O hO => ?_⟩
    have e4 : Ex H3 (upd H3 O (.lst [.int 0])) := Ex.nw hO
    have f4 : (upd H3 O (.lst [.int 0])) O = some (.lst [.int 0]) := upd_same
    generalize upd H3 O (.lst [.int 0]) = H4 at e4 f4
    have e04 := e03.tr e4
    refine ⟨_, rfl, .inr (.inl ⟨t, _, 2, _, rfl, rfl, e04.t hT, rfl, a3, _, rfl, .inl (e04.l s3), ?_⟩)⟩
    refine ⟨O, (ws.length : Int), _, rfl, rfl, f4, by omega, by omega, mil (by rw [List.length_singleton]; omega), fun S hS => ?_⟩
    rw [rep_int, show ((ws.length : Int)).toNat = u.ns.length by omega]
    have e5 : Ex H4 (upd H4 S (.lst ((List.replicate u.ns.length (0 : Int)).map V.int))) := Ex.nw hS
    have f5 : (upd H4 S (.lst ((List.replicate u.ns.length (0 : Int)).map V.int))) S = some (.lst ((List.replicate u.ns.length (0 : Int)).map V.int)) := upd_same
    generalize upd H4 S (.lst ((List.replicate u.ns.length (0 : Int)).map V.int)) = H5 at e5 f5
    refine ⟨_, rfl, _, rfl, _, rfl, _, rfl, by show 1 ≤ sizeLine; decide, fun O2 hO2 => ?_⟩
    have e6 : Ex H5 (upd H5 O2 (.lst [.ref S])) := Ex.nw hO2
    have f6 : (upd H5 O2 (.lst [.ref S])) O2 = some (.lst [.ref S]) := upd_same
    generalize upd H5 O2 (.lst [.ref S]) = H6 at e6 f6
    refine ⟨_, rfl, O2, (N : Int), _, rfl, rfl, f6, by omega, by omega, mil (by rw [List.length_singleton]; omega), fun R hR => ?_⟩
    rw [rep_flat, show ((N : Int)).toNat = N by omega]
    have e7 : Ex H6 (upd H6 R (.lst (List.replicate N (V.ref S)))) := Ex.nw hR
    have f7 : (upd H6 R (.lst (List.replicate N (V.ref S)))) R = some (.lst (List.replicate N (V.ref S))) := upd_same
    generalize upd H6 R (.lst (List.replicate N (V.ref S))) = H7 at e7 f7
    have e07 := ((e04.tr e5).tr e6).tr e7
    have dS : Da K H7 (dInts (still u)) (.ref S) := dInts_of ((e6.tr e7) _ _ f5) (by show (List.replicate u.ns.length (0 : Int)).length ≤ 100000; rw [List.length_replicate]; omega)
    have dR : Da K H7 (dRows (List.replicate N (still u))) (.ref R) := ⟨R, _, rfl, f7, by rw [List.map_replicate]; exact daall_rep dS N, by rw [List.length_map, List.length_replicate]; omega⟩
    have lR : ∀ r ∈ List.replicate N (still u), r.length = u.ns.length := fun r hr => by
      obtain rfl := (List.mem_replicate.mp hr).2
      exact List.length_replicate
    refine ⟨_, u, _, f, _, st, _, _, rfl, hw.up e07, hu, hf.up e07, hok, hs.up e07, hsl, dR, lR, by rw [List.length_replicate]; exact hN, fun p bs H8 R8 => ?_⟩
    have e08 := e07.tr R8.ex
    have rl := rn_len u.n.toNat (nl u f) st (List.replicate N (still u)) N (by rw [List.length_replicate]; exact Nat.le_refl _)
    rw [List.take_of_length_le (by rw [List.length_replicate]; exact Nat.le_refl _)] at rl
    have rw_ : ∀ z ∈ stn u f st N, (z.length : Int) = u.n := fun z hz => by
      have h1 := rn_rows (n := u.n.toNat) (ls := nl u f) (st := st) (rows := List.replicate N (still u)) (by omega) N (by rw [List.length_replicate]; exact Nat.le_refl _)
      rw [List.take_of_length_le (by rw [List.length_replicate]; exact Nat.le_refl _)] at h1
      have := h1 z hz
      have := hu.lo
      omega
    have bl := R8.len
    rw [rl] at bl
    refine ⟨_, rfl, _, rfl, _, rfl, p, _, rfl, .inl (.inl R8.at_), fun c hc => ?_⟩
    have ec : cutV (bs.map V.ref) none (some (N : Int)) = (bs.take N).map V.ref := by
      unfold cutV
      rw [HT.sIx_none, show HT.sIx (bs.map V.ref).length (bs.map V.ref).length (some (N : Int)) = min N (bs.map V.ref).length from HT.sIx_nat _ _ N, List.drop_zero, Nat.sub_zero, List.length_map, Nat.min_eq_left (by omega), List.map_take]
    rw [ec]
    have e9 : Ex H8 (upd H8 c (.lst ((bs.take N).map V.ref))) := Ex.nw hc
    have s9 : SqL K (upd H8 c (.lst ((bs.take N).map V.ref))) c ((bs.take N).map V.ref) := .inl (.inl upd_same)
    generalize upd H8 c (.lst ((bs.take N).map V.ref)) = H9 at e9 s9
    have e09 := e08.tr e9
    have ln : ((bs.take N).map V.ref).length = N := by
      rw [List.length_map, List.length_take]
      omega
    refine ⟨c, rfl, ⟨_, s9⟩, fun D hD => ?_⟩
    refine lc_by N (fun i H' => ∃ ds, NewR H9 H' (((stn u f st N).take i).map (shw u.ns f.ss)) D ds)
      ⟨[], Ex.nw hD, hD, upd_same, rfl, fun k b hb => by simp at hb, List.nodup_nil⟩ (fun i H' hi pv => ?_) (fun H' pv => ?_) ?_ ?_
    · obtain ⟨ds, R9⟩ := pv
      exact itl_go s9 R9.ex (by rw [ln]; exact hi)
    · obtain ⟨ds, R9⟩ := pv
      have := itl_stop s9 R9.ex
      rw [ln] at this
      exact this
    · rintro i H10 x H11 hi ⟨ds, R9⟩ y
      obtain ⟨rfl, hx⟩ := itl_yld y s9 R9.ex
      obtain ⟨b, hb, rfl⟩ := map_at hx
      rw [List.getElem?_take_of_lt hi] at hb
      obtain ⟨_, r, hr1, hr2⟩ := R8.row i b hb
      have hr1' : (stn u f st N)[i]? = some r := hr1
      have e10 := e9.tr R9.ex
      refine ⟨rfl, _, rfl, _, rfl, _, rfl, _, u, _, f, b, r, rfl, hw.up (e08.tr e10), hu, hf.up (e08.tr e10), hok, .inl (.inl (e10 _ _ hr2)), rw_ r (List.mem_of_getElem? hr1), fun p2 H12 hp2 e12 h12 => ?_⟩
      have dl := R9.len
      rw [List.length_map, List.length_take] at dl
      refine ⟨_, e12 _ _ R9.at_, mil' (by rw [List.length_map]; omega), ds ++ [p2], ?_⟩
      rw [take_snoc hr1', List.map_append]
      exact R9.snoc e12 hp2 h12
    · rintro H10 ⟨ds, R9⟩
      refine q D ds H10 ⟨e09.tr R9.ex, e09.fr hD, R9.at_, R9.len, fun k b hb => ?_, R9.nd⟩
      obtain ⟨⟨n1, n2⟩, n3⟩ := R9.row k b hb
      exact ⟨⟨e09.fr n1, n2⟩, n3⟩
end

end K36
namespace K36
open PySem PySem.Spec PyProof.Rows L2 Nw
/-! _law_copy: slots 0 _law_web_here, 1 _law_filling_here, 2 _law_nudges, 3 _law_some, 4 _law_row -/
abbrev s_copy : Stmt := topS 43
abbrev N_copy : List Str := ["_law_web_here", "_law_filling_here", "_law_nudges", "_law_some", "_law_row"]
abbrev P_copy : List Str := ["_law_web_here", "_law_filling_here"]
theorem sc_copy : FnScope N_copy P_copy (defScope s_copy) := ⟨rfl, rfl, rfl, by decide +kernel, rfl, by decide +kernel, by decide +kernel⟩
/-- the web and the filling anew -/
def sp_copy (K : PySem.W.Frag) : Sp := fun vs H Q _ => ∃ x u v f, vs = [x, v] ∧ Da K H (Wb.d u) x ∧ u.Ok ∧ Da K H (Fl.d f) v ∧ f.Ok u ∧
  ∀ T y z H', Ex H H' → H' T = some (.tup [y, z]) → Da K H' u.d y → Da K H' f.d z → Q (.ref T) H'
section
variable {P : Program} {w : World} {K : PySem.W.Frag} {mg : Str → Option Value} {base : Heap}
theorem ok_copy {f : Addr} {fd : FuncData} (T : Txt K mg) (F : Fun K "_law_copy" "_law_copy" s_copy f fd) :
    FnG P w K mg base CX0 1 f fd P_copy (sp_copy K) := by
  refine okG0 F sc_copy (fun vs H Q E h => ?_) (fun cdv A outer s H vs Q E hr hq h => ?_)
  · obtain ⟨x, u, v, f, rfl, _⟩ := h
    rfl
  · obtain ⟨x, u, v, f, rfl, hd, hu, hf, hok, q⟩ := h
    obtain ⟨t, x2, x3, rfl, hS, ⟨a2, ys, rfl, hL2, hA2, hz2⟩, ⟨a, xs, rfl, hL, hA, hz⟩⟩ := Wb.at hd
    obtain ⟨tf, x4, x5, rfl, hSf, ⟨a4, fs, rfl, hL4, hA4, hz4⟩, ⟨a5, ss, rfl, hL5, hA5, hz5⟩⟩ := Fl.at hf
    have hl := hA.len
    have hl5 := hA5.len
    rw [List.length_map] at hl hl5
    have b3 := hu.few
    have b5 := hok.slen
    have e0 : Ex H H := Ex.rfl
    refine ⟨_, (pss_cons (ps_setLc (i := 2) (own := [("_law_some", 3)]) rfl sc_copy.nd rfl rfl (sw_true rfl rfl rfl (by decide +kernel)) (pi_listK K (pe_ix (ix_tupK K) (pv 0) pe_int (fun _ _ => rfl))) (blkOk_by (N := N_copy) (sc := defScope s_copy) (by decide +kernel)) (fun _ _ _ _ _ => (pg_name (i := 3) sc_copy.nd rfl (by first | exact .inl rfl | exact .inr rfl))) (fun _ _ _ _ _ => pts_nil) (fun _ _ _ _ _ => (pe_callTy (call_listK K) (by rfl) T.b_list bt_list (pa_cons (pv 3) pa_nil))))
      (pss_one (ps_ret (pe_tup (pa_cons (pe_tup (pa_cons (pe_ix (ix_tupK K) (pv 0) pe_int (fun _ _ => rfl)) (pa_cons (pe_callTy (call_listK K) (by rfl) T.b_list bt_list (pa_cons (pe_ix (ix_tupK K) (pv 0) pe_int (fun _ _ => rfl)) pa_nil)) (pa_cons (pv 2) pa_nil)))) (pa_cons (pe_tup (pa_cons (pe_callTy (call_listK K) (by rfl) T.b_list bt_list (pa_cons (pe_ix (ix_tupK K) (pv 1) pe_int (fun _ _ => rfl)) pa_nil)) (pa_cons (pe_lc (own := [("_law_row", 4)]) rfl sc_copy.nd (pi_listK K (pe_ix (ix_tupK K) (pv 1) pe_int (fun _ _ => rfl))) (blkOk_by (N := N_copy) (sc := defScope s_copy) (by decide +kernel)) (fun _ _ _ _ _ => (pg_name (i := 4) sc_copy.nd rfl (by first | exact .inl rfl | exact .inr rfl))) (fun _ _ _ _ _ => pts_nil) (fun _ _ _ _ _ => (pe_callTy (call_listK K) (by rfl) T.b_list bt_list (pa_cons (pv 4) pa_nil)))) pa_nil))) pa_nil)))))), ?_⟩
    refine ⟨_, rfl, t, _, 2, _, rfl, rfl, hS, rfl, ?_⟩
    have sX : SqL K H a xs := .inl (.inl (e0 _ _ hL))
    refine ⟨a, rfl, ⟨_, sX⟩, fun D hD => ?_⟩
    refine lc_by xs.length (fun i H' => ∃ ds, NewR H H' (u.ns.take i) D ds)
      ⟨[], Ex.nw hD, hD, upd_same, rfl, fun k b hb => by simp at hb, List.nodup_nil⟩ (fun i H' hi pv => by
        obtain ⟨_, R⟩ := pv
        exact itl_go sX R.ex hi) (fun H' pv => by
        obtain ⟨_, R⟩ := pv
        exact itl_stop sX R.ex) ?_ ?_
    · rintro i G1 x G2 hi ⟨ds, R⟩ y
      obtain ⟨rfl, hx⟩ := itl_yld y sX R.ex
      obtain ⟨dr, hdr, hxd⟩ := hA.at' hx
      obtain ⟨r, hrr, rfl⟩ := map_at hdr
      obtain ⟨ar, zs, rfl, hLr, hAr, _⟩ := hxd
      obtain rfl := DaAll.ints.mp hAr
      have dl := R.len
      rw [List.length_take] at dl
      refine ⟨rfl, _, rfl, ar, _, rfl, .inl (.inl (.inl (R.ex _ _ (e0 _ _ hLr)))), fun l hl' => ?_⟩
      refine ⟨_, Ex.nw hl' _ _ R.at_, mil' (by rw [List.length_map]; omega), ds ++ [l], ?_⟩
      rw [take_snoc hrr]
      exact R.snoc (Ex.nw hl') hl' upd_same
    · rintro G1 ⟨ds, R⟩
      rw [← hl, List.take_length] at R
      refine ⟨_, rfl, t, _, 0, _, rfl, rfl, R.ex.t hS, rfl, ?_⟩
      refine ⟨_, rfl, t, _, 1, _, rfl, rfl, R.ex.t hS, rfl, a2, _, rfl, .inl (.inl (.inl (R.ex _ _ hL2))), fun b hb => ?_⟩
      have e1 : Ex G1 (upd G1 b (.lst ys)) := Ex.nw hb
      have f1 : (upd G1 b (.lst ys)) b = some (.lst ys) := upd_same
      generalize upd G1 b (.lst ys) = H1 at e1 f1
      refine ⟨_, rfl, by show 3 ≤ sizeLine; decide, fun T1 hT1 => ?_⟩
      have e2 : Ex H1 (upd H1 T1 (.tup [.int u.n, .ref b, .ref D])) := Ex.nw hT1
      have f2 : (upd H1 T1 (.tup [.int u.n, .ref b, .ref D])) T1 = some (.tup [.int u.n, .ref b, .ref D]) := upd_same
      generalize upd H1 T1 (.tup [.int u.n, .ref b, .ref D]) = H2 at e2 f2
      have e02 := R.ex.tr (e1.tr e2)
      have dN : Da K H2 (dRows u.ns) (.ref D) := (R.da (fun r hr => by have := hu.row hr; omega) (by omega)).up (e1.tr e2)
      have dW : Da K H2 u.d (.ref T1) := ⟨T1, _, rfl, f2, _, _, rfl, rfl, _, _, rfl, ⟨b, ys, rfl, e2 _ _ f1, hA2.up e02, hz2⟩, _, _, rfl, dN, rfl⟩
      refine ⟨_, rfl, tf, _, 0, _, rfl, rfl, e02.t hSf, rfl, a4, _, rfl, .inl (.inl (.inl (e02 _ _ hL4))), fun c hc => ?_⟩
      have e3 : Ex H2 (upd H2 c (.lst fs)) := Ex.nw hc
      have f3 : (upd H2 c (.lst fs)) c = some (.lst fs) := upd_same
      generalize upd H2 c (.lst fs) = H3 at e3 f3
      have e03 := e02.tr e3
      refine ⟨_, rfl, tf, _, 1, _, rfl, rfl, e03.t hSf, rfl, ?_⟩
      have sX : SqL K H3 a5 ss := .inl (.inl (e03 _ _ hL5))
      refine ⟨a5, rfl, ⟨_, sX⟩, fun D2 hD2 => ?_⟩
      refine lc_by ss.length (fun i H' => ∃ ds, NewR H3 H' (f.ss.take i) D2 ds)
        ⟨[], Ex.nw hD2, hD2, upd_same, rfl, fun k b hb => by simp at hb, List.nodup_nil⟩ (fun i H' hi pv => by
          obtain ⟨_, R2⟩ := pv
          exact itl_go sX R2.ex hi) (fun H' pv => by
          obtain ⟨_, R2⟩ := pv
          exact itl_stop sX R2.ex) ?_ ?_
      · rintro i G3 x G4 hi ⟨ds2, R2⟩ y
        obtain ⟨rfl, hx⟩ := itl_yld y sX R2.ex
        obtain ⟨dr, hdr, hxd⟩ := hA5.at' hx
        obtain ⟨r, hrr, rfl⟩ := map_at hdr
        obtain ⟨ar, zs, rfl, hLr, hAr, _⟩ := hxd
        obtain rfl := DaAll.ints.mp hAr
        have dl := R2.len
        rw [List.length_take] at dl
        refine ⟨rfl, _, rfl, ar, _, rfl, .inl (.inl (.inl (R2.ex _ _ (e03 _ _ hLr)))), fun l hl' => ?_⟩
        refine ⟨_, Ex.nw hl' _ _ R2.at_, mil' (by rw [List.length_map]; omega), ds2 ++ [l], ?_⟩
        rw [take_snoc hrr]
        exact R2.snoc (Ex.nw hl') hl' upd_same
      · rintro G3 ⟨ds2, R2⟩
        rw [← hl5, List.take_length] at R2
        refine ⟨by show 2 ≤ sizeLine; decide, fun T2 hT2 => ?_⟩
        have e4 : Ex G3 (upd G3 T2 (.tup [.ref c, .ref D2])) := Ex.nw hT2
        have f4 : (upd G3 T2 (.tup [.ref c, .ref D2])) T2 = some (.tup [.ref c, .ref D2]) := upd_same
        generalize upd G3 T2 (.tup [.ref c, .ref D2]) = H4 at e4 f4
        have e34 := R2.ex.tr e4
        have dS : Da K H4 (dRows f.ss) (.ref D2) := (R2.da (fun r hr => by
          obtain ⟨k, hk⟩ := List.getElem?_of_mem hr
          obtain ⟨s', hs'⟩ : ∃ s', u.ns[k]? = some s' := ⟨_, List.getElem?_eq_getElem (by have := (List.getElem?_eq_some_iff.mp hk).1; omega)⟩
          have := hok.rlen hk hs'
          have := hu.row (List.mem_of_getElem? hs')
          omega) (by omega)).up e4
        have dF : Da K H4 f.d (.ref T2) := ⟨T2, _, rfl, f4, _, _, rfl, ⟨c, fs, rfl, e34 _ _ f3, hA4.up (e03.tr e34), hz4⟩, _, _, rfl, dS, rfl⟩
        refine ⟨by show 2 ≤ sizeLine; decide, fun T3 hT3 => ?_⟩
        have e5 := Ex.nw (o := .tup [.ref T1, .ref T2]) hT3
        exact q T3 _ _ _ (e03.tr (e34.tr e5)) upd_same (dW.up (e3.tr (e34.tr e5))) (dF.up e5)
end

end K36
namespace K36
open PySem PySem.Spec PyProof.Rows L2 Nw
/-! _law_due: slots 0 _law_web_here, 1 _law_filling_here, 2 _law_state, 3 _law_number, 4 _law_found, 5 _law_here, 6 _law_turn, 7 _law_row, 8 _law_k, 9 _law_one, 10 _law_strength -/
abbrev s_due : Stmt := topS 45
abbrev N_due : List Str := ["_law_web_here", "_law_filling_here", "_law_state", "_law_number", "_law_found", "_law_here", "_law_turn", "_law_row", "_law_k", "_law_one", "_law_strength"]
abbrev P_due : List Str := ["_law_web_here", "_law_filling_here", "_law_state", "_law_number"]
theorem sc_due : FnScope N_due P_due (defScope s_due) := ⟨rfl, rfl, rfl, by decide +kernel, rfl, by decide +kernel, by decide +kernel⟩
theorem rupd {H H1 H2 : Hp} {ns : List (List Int)} {L : Addr} {bs : List Addr} (h : NewR H H1 ns L bs) (e : Ex H1 H2) : NewR H H2 ns L bs :=
  ⟨h.ex.tr e, h.new, e _ _ h.at_, h.len, fun k b hb => ⟨(h.row k b hb).1, by
    obtain ⟨r, h1, h2⟩ := (h.row k b hb).2
    exact ⟨r, h1, e _ _ h2⟩⟩, h.nd⟩
/-- the states behind, one by one -/
def sti (u : Wb) (f : Fl) (st : List Int) : Nat → List Int
  | 0 => st
  | i + 1 => mv u.n.toNat (nl u f) (sti u f st i ++ still u)
theorem stn_eq {u : Wb} {f : Fl} {st : List Int} : ∀ N : Nat, stn u f st N = (List.range (N + 1)).map (sti u f st)
  | 0 => rfl
  | N + 1 => by
    have ih := stn_eq (u := u) (f := f) (st := st) N
    unfold stn at ih ⊢
    rw [List.replicate_succ', rn_snoc, ih, List.range_succ (n := N + 1), List.map_append]
    congr 1
    rw [List.range_succ, List.map_append, List.map_cons, List.map_nil, List.getLastD_concat]
    rfl
theorem shn_eq {u : Wb} {f : Fl} {st : List Int} (N : Nat) : shn u f st N = (List.range N).map fun i => shw u.ns f.ss (sti u f st i) := by
  unfold shn
  rw [stn_eq, List.map_take, List.map_map, ← List.map_take, List.take_range, Nat.min_eq_left (Nat.le_succ N)]
  rfl
theorem sti_len {u : Wb} {f : Fl} {st : List Int} (h : (st.length : Int) = u.n) : ∀ i, (((sti u f st i).length : Nat) : Int) = u.n
  | 0 => h
  | i + 1 => by
    show (((mv u.n.toNat (nl u f) (sti u f st i ++ still u)).length : Nat) : Int) = u.n
    rw [mv_len]
    omega
def sp_due (K : PySem.W.Frag) : Sp := fun vs H Q _ => ∃ x u v f a st N, vs = [x, v, .ref a, .int (N : Nat)] ∧ Da K H (Wb.d u) x ∧ u.Ok ∧ Da K H (Fl.d f) v ∧ f.Ok u ∧ SqL K H a (st.map V.int) ∧ (st.length : Int) = u.n ∧ N ≤ 60 ∧
  ∀ p bs H', NewR H H' (shn u f st N) p bs → Q (.ref p) H'
section
variable {P : Program} {w : World} {K : PySem.W.Frag} {mg : Str → Option Value} {base : Heap}
theorem ok_due {f : Addr} {fd : FuncData} (T : Txt K mg) (F : Fun K "_law_due" "_law_due" s_due f fd)
    (D_stepped : DefOk P w K mg base CX0 1 "_law_stepped" P_stepped (sp_stepped K)) :
    FnG P w K mg base CX0 2 f fd P_due (sp_due K) := by
  refine okG0 F sc_due (fun vs H Q E h => ?_) (fun cdv A outer s H vs Q E hr hq h => ?_)
  · obtain ⟨x, u, v, f, a, st, N, rfl, _⟩ := h
    rfl
  · obtain ⟨x, u, v, f, a, st, N, rfl, hw, hu, hf, hok, hV, hvl, hN, q⟩ := h
    obtain ⟨t, x2, x3, rfl, hT, _, ⟨a3, ws, rfl, hL3, hA3, hz3⟩⟩ := Wb.at hw
    obtain ⟨tf, x4, x5, rfl, hTf, _, ⟨a5, ss, rfl, hL5, hA5, hz5⟩⟩ := Fl.at hf
    have hl3 := hA3.len
    have hl5 := hA5.len
    rw [List.length_map] at hl3 hl5
    have b3 := hu.few
    have hsl := hok.slen
    have s3 : SqL K H a3 ws := .inl (.inl hL3)
    have s5 : SqL K H a5 ss := .inl (.inl hL5)
    refine ⟨_, (pss_cons (ps_asg (pe_tup (pa_cons (pe_lst pa_nil) (pa_cons (pe_callTy (call_listK K) (by rfl) T.b_list bt_list (pa_cons (pv 2) pa_nil)) pa_nil))) (pg_tupK (n := 2) K rfl (pgs_cons (pg_name (i := 4) sc_due.nd rfl (by first | exact .inl rfl | exact .inr rfl)) (pgs_cons (pg_name (i := 5) sc_due.nd rfl (by first | exact .inl rfl | exact .inr rfl)) pgs_nil))))
      (pss_cons (ps_for PassesOwn.never rfl (pi_range1 (by rfl) T.b_range (pa_cons (pv 3) pa_nil)) (pg_name (i := 6) sc_due.nd rfl (by first | exact .inl rfl | exact .inr rfl)) (pss_cons (ps_set (i := 7) sc_due.nd rfl (by first | exact .inl rfl | exact .inr rfl) (pe_lst pa_nil))
      (pss_cons (ps_for PassesOwn.never rfl (pi_range1 (by rfl) T.b_range (pa_cons (pe_callB (call_lenK K) (by rfl) T.b_len bt_len (pa_cons (pe_ix (ix_tupK K) (pv 0) pe_int (fun _ _ => rfl)) pa_nil)) pa_nil)) (pg_name (i := 8) sc_due.nd rfl (by first | exact .inl rfl | exact .inr rfl)) (pss_one (ps_expr (pe_bm PySem.F.plainAttrs_list PySem.F.slot_list_append PySem.F.type_list_append mt_append (pv 7) (pa_cons (pe_callB (cr_sumK K rfl) (by rfl) T.b_sum bt_sum (pa_cons (pe_lc (own := [("_law_one", 9), ("_law_strength", 10)]) rfl sc_due.nd (pi_zip (by rfl) T.b_zip (pa_cons (pe_ix (ix_seqK K) (pe_ix (ix_tupK K) (pv 0) pe_int (fun _ _ => rfl)) (pv 8) (fun _ _ => rfl)) (pa_cons (pe_ix (ix_seqK K) (pe_ix (ix_seqK K) (pv 1) pe_int (fun _ _ => rfl)) (pv 8) (fun _ _ => rfl)) pa_nil))) (blkOk_by (N := N_due) (sc := defScope s_due) (by decide +kernel)) (fun _ _ _ _ _ => (pg_tupK (n := 2) K rfl (pgs_cons (pg_name (i := 9) sc_due.nd rfl (by first | exact .inl rfl | exact .inr rfl)) (pgs_cons (pg_name (i := 10) sc_due.nd rfl (by first | exact .inl rfl | exact .inr rfl)) pgs_nil)))) (fun _ _ _ _ _ => pts_nil) (fun _ _ _ _ _ => (pe_op op_mul (pv 10) (pe_ix (ix_seqK K) (pv 5) (pv 9) (fun _ _ => rfl))))) pa_nil)) pa_nil)))))
      (pss_cons (ps_expr (pe_bm PySem.F.plainAttrs_list PySem.F.slot_list_append PySem.F.type_list_append mt_append (pv 4) (pa_cons (pv 7) pa_nil)))
      (pss_one (ps_set (i := 5) sc_due.nd rfl (by first | exact .inl rfl | exact .inr rfl) (pe_callD D_stepped (hr.mono (by decide)) hq pass0 (pa_cons (pv 0) (pa_cons (pv 1) (pa_cons (pv 5) (pa_cons (pe_op op_rep (pe_lst (pa_cons pe_int pa_nil)) (pe_callB (call_lenK K) (by rfl) T.b_len bt_len (pa_cons (pe_ix (ix_tupK K) (pv 0) pe_int (fun _ _ => rfl)) pa_nil))) pa_nil)))))))))))
      (pss_one (ps_ret (pv 4))))), ?_⟩
    refine ⟨Nat.zero_le _, fun D hD => ?_⟩
    have eD : Ex H (upd H D (.lst [])) := Ex.nw hD
    have fD : (upd H D (.lst [])) D = some (.lst (([] : List Addr).map V.ref)) := upd_same
    generalize upd H D (.lst []) = H1 at eD fD
    refine ⟨_, rfl, a, _, rfl, .inl (eD.l hV), fun A hA => ?_⟩
    have eA : Ex H1 (upd H1 A (.lst (st.map V.int))) := Ex.nw hA
    have fA : (upd H1 A (.lst (st.map V.int))) A = some (.lst (st.map V.int)) := upd_same
    generalize upd H1 A (.lst (st.map V.int)) = H2 at eA fA
    refine ⟨by show 2 ≤ sizeLine; decide, fun T0 hT0 => ?_⟩
    have eT : Ex H2 (upd H2 T0 (.tup [.ref D, .ref A])) := Ex.nw hT0
    have fT : (upd H2 T0 (.tup [.ref D, .ref A])) T0 = some (.tup [.ref D, .ref A]) := upd_same
    generalize upd H2 T0 (.tup [.ref D, .ref A]) = H3 at eT fT
    refine ⟨T0, _, rfl, .inl (.inl fT), rfl, _, _, rfl, _, _, rfl, rfl, ?_⟩
    have e13 := eA.tr eT
    refine ⟨_, rfl, _, rfl, by omega, by omega, ?_⟩
    refine for_by N (fun i σ H' => ∃ A y6 y7 y8, σ = [some (V.ref t), some (V.ref tf), some (V.ref a), some (V.int (N : Int)), some (V.ref D), some (V.ref A), y6, y7, y8, none, none] ∧
        H' A = some (.lst ((sti u f st i).map V.int)) ∧ ∃ ds, NewR H H' ((List.range i).map fun i => shw u.ns f.ss (sti u f st i)) D ds)
      ⟨A, _, _, _, rfl, eT _ _ fA, [], eD.tr e13, hD, e13 _ _ fD, rfl, fun k b hb => by simp at hb, List.nodup_nil⟩ (fun i σ H' hi _ => by show i < _; omega) (fun σ H' _ => by show _ ≤ N; omega) ?_ ?_
    · rintro i σ H4 x H5 hi ⟨A, y6, y7, y8, rfl, fA, ds, R⟩ ⟨rfl, rfl⟩
      have e4 := R.ex
      have dsl := R.len
      rw [List.length_map, List.length_range] at dsl
      refine ⟨Nat.zero_le _, fun W hW => ?_⟩
      have eW : Ex H5 (upd H5 W (.lst [])) := Ex.nw hW
      have fW : (upd H5 W (.lst [])) W = some (.lst (([] : List Int).map V.int)) := upd_same
      generalize upd H5 W (.lst []) = H6 at eW fW
      have e06 := e4.tr eW
      refine ⟨_, rfl, t, _, 2, _, rfl, rfl, e06.t hT, rfl, a3, _, rfl, .inl (e06.l s3), _, rfl, by omega, by omega, ?_⟩
      refine for_by ws.length (fun k σ H' => ∃ y8, σ = [some (V.ref t), some (V.ref tf), some (V.ref a), some (V.int (N : Int)), some (V.ref D), some (V.ref A), some (V.int (0 + (i : Int))), some (V.ref W), y8, none, none] ∧ Ex H5 H' ∧
          H' W = some (.lst ((((u.ns.zip f.ss).take k).map fun z => (prodZ (sti u f st i) z.1 z.2).sum).map V.int)))
        ⟨_, rfl, eW, fW⟩ (fun k σ H' hk _ => by show k < _; omega) (fun σ H' _ => by show _ ≤ ws.length; omega) ?_ ?_
      · rintro k σ H7 x H8 hk ⟨y8, rfl, e7, hW7⟩ ⟨rfl, rfl⟩
        have ek : (0 + (k : Int)) = (k : Int) := Int.zero_add _
        have hws := List.getElem?_eq_getElem hk
        generalize ws[k] = xw at hws
        have hk5 : k < ss.length := by omega
        have hss := List.getElem?_eq_getElem hk5
        generalize ss[k] = xss at hss
        obtain ⟨dr, hdr, hxd⟩ := hA3.at' hws
        obtain ⟨g, hgr, rfl⟩ := map_at hdr
        obtain ⟨ar, rfl, hLr⟩ := dInts_at hxd
        obtain ⟨ds2, hds2, hxs2⟩ := hA5.at' hss
        obtain ⟨sr, hsr, rfl⟩ := map_at hds2
        obtain ⟨as, rfl, hLs⟩ := dInts_at hxs2
        have hrs := hok.rlen hsr hgr
        have e08 := e4.tr e7
        have hz : (u.ns.zip f.ss)[k]? = some (g, sr) := (List.getElem?_zip_eq_some (z := (g, sr))).mpr ⟨hgr, hsr⟩
        have gl20 : g.length ≤ 20 := hu.row (List.mem_of_getElem? hgr)
        have sA8 : SqL K H8 A ((sti u f st i).map V.int) := .inl (.inl (e7 _ _ fA))
        have stl := sti_len (u := u) (f := f) (st := st) hvl i
        refine ⟨_, rfl, .inl ⟨rfl, _, .inl (.inl hW7)⟩, ?_⟩
        refine ⟨_, rfl, t, _, 2, _, rfl, rfl, e08.t hT, rfl, _, rfl, .inl ⟨a3, _, 0 + (k : Int), .ref ar, rfl, rfl, e08.l s3, by rw [ek]; exact atI_nat hws, ?_⟩⟩
        refine ⟨_, rfl, .inr (.inl ⟨tf, _, 1, _, rfl, rfl, e08.t hTf, rfl, _, rfl, .inl ⟨a5, _, 0 + (k : Int), .ref as, rfl, rfl, e08.l s5, by rw [ek]; exact atI_nat hss, ar, as, _, _, rfl, e08.l hLr, e08.l hLs, fun G hG => ?_⟩⟩)⟩
        have hlen2 : min (g.map V.int).length (sr.map V.int).length = g.length := by
          rw [List.length_map, List.length_map]
          omega
        refine lc_by g.length (fun j H' => Ex H8 H' ∧ H' G = some (.lst (((((g.zip sr).take j).map fun z => z.2 * (sti u f st i).getD z.1.toNat 0)).map V.int)))
          ⟨Ex.nw hG, upd_same⟩ (fun j H' hj pv => itz_go hLr hLs (e08.tr pv.1) (by rw [hlen2]; exact hj)) (fun H' pv => ?_) ?_ ?_
        · have := itz_stop hLr hLs (e08.tr pv.1)
          rw [hlen2] at this
          exact this
        · rintro j H9 x H10 hj ⟨e9, hG9⟩ ⟨T2, w1, w2, rfl, hT2, rfl, hw1, hw2⟩
          obtain ⟨gl, hgl, rfl⟩ := map_at (hw1 _ ((e08.tr e9).l hLr))
          obtain ⟨num, hnum, rfl⟩ := map_at (hw2 _ ((e08.tr e9).l hLs))
          have e10 : Ex H9 (upd H9 T2 (.tup [.int gl, .int num])) := Ex.nw hT2
          have f10 : (upd H9 T2 (.tup [.int gl, .int num])) T2 = some (.tup [.int gl, .int num]) := upd_same
          generalize upd H9 T2 (.tup [.int gl, .int num]) = H11 at e10 f10
          have h2 := (hu.ns g (List.mem_of_getElem? hgr)).2.1 gl (List.mem_of_getElem? hgl)
          have h3 := (hok.rnum sr (List.mem_of_getElem? hsr) num (List.mem_of_getElem? hnum)).2
          have hzz : (g.zip sr)[j]? = some (gl, num) := (List.getElem?_zip_eq_some (z := (gl, num))).mpr ⟨hgl, hnum⟩
          have i1 : gl.toNat < (sti u f st i).length := by omega
          have g1 := List.getElem?_eq_getElem i1
          have g1d : (sti u f st i).getD gl.toNat 0 = (sti u f st i)[gl.toNat] := by
            rw [List.getD_eq_getElem?_getD, g1]
            rfl
          generalize (sti u f st i)[gl.toNat] = c1 at g1 g1d
          refine ⟨T2, _, rfl, .inl (.inl f10), rfl, _, _, rfl, _, _, rfl, rfl, rfl, ?_⟩
          refine ⟨_, rfl, _, rfl, _, rfl, .inl ⟨A, _, gl, .int c1, rfl, rfl, (e9.tr e10).l sA8, atI_int h2.1 (by rw [List.getElem?_map, g1]; rfl), ?_⟩⟩
          refine ⟨_, _, rfl, rfl, .inl ⟨by have := h3.1; omega, by have := h3.2; omega⟩, _, e10 _ _ hG9, mil' ?_, (e9.tr e10).wr hG, ?_⟩
          · rw [List.length_map, List.length_map, List.length_take]
            omega
          · rw [upd_same, take_snoc hzz, List.map_append, List.map_append, List.map_cons, List.map_nil, List.map_cons, List.map_nil, g1d]
        · rintro H9 ⟨e9, hG9⟩
          have hzlen : (g.zip sr).length = g.length := by
            rw [List.length_zip]
            omega
          rw [← hzlen, List.take_length] at hG9
          have hW9 := e9 _ _ hW7
          refine ⟨G, _, rfl, .inl (.inl hG9), W, _, _, rfl, rfl, hW9, mil' (by rw [List.length_map, List.length_map, List.length_take]; omega), _, rfl, (e7.tr e9).wr hW, ?_⟩
          rw [upd_same, take_snoc hz, List.map_append, List.map_append]
          rfl
      · rintro σ H7 ⟨y8, rfl, e7, hW7⟩
        have hzl : (u.ns.zip f.ss).length = ws.length := by
          rw [List.length_zip]
          omega
        rw [← hzl, List.take_length] at hW7
        have hW7' : H7 W = some (.lst ((shw u.ns f.ss (sti u f st i)).map V.int)) := hW7
        have fA7 := e7 _ _ fA
        have AD : A ≠ D := fun e => by
          have h1 := R.at_
          rw [← e, fA] at h1
          have h2 := HO.lst.inj (Option.some.inj h1)
          have stl := sti_len (u := u) (f := f) (st := st) hvl i
          have := hu.lo
          cases hz : sti u f st i with
          | nil =>
            rw [hz, List.length_nil] at stl
            omega
          | cons z zs =>
            rw [hz] at h2
            cases ds with
            | nil => cases h2
            | cons d ds => exact nomatch (List.cons.inj h2).1
        have R7 : NewR H (upd H7 D (.lst (ds.map V.ref ++ [.ref W]))) (((List.range i).map fun i => shw u.ns f.ss (sti u f st i)) ++ [shw u.ns f.ss (sti u f st i)]) D (ds ++ [W]) := R.snoc e7 hW hW7'
        refine ⟨_, rfl, .inl ⟨rfl, _, .inl (.inl (e7 _ _ R.at_))⟩, ?_⟩
        refine ⟨_, rfl, D, _, _, rfl, rfl, e7 _ _ R.at_, mil' (by rw [List.length_map]; omega), ?_⟩
        have fA8 : (upd H7 D (.lst (ds.map V.ref ++ [.ref W]))) A = some (.lst ((sti u f st i).map V.int)) := by
          rw [upd_ne AD]
          exact fA7
        generalize upd H7 D (.lst (ds.map V.ref ++ [.ref W])) = H8 at R7 fA8
        refine ⟨_, rfl, _, rfl, _, rfl, by show 1 ≤ sizeLine; decide, fun O hO => ?_⟩
        have eO : Ex H8 (upd H8 O (.lst [.int 0])) := Ex.nw hO
        have fO : (upd H8 O (.lst [.int 0])) O = some (.lst [.int 0]) := upd_same
        generalize upd H8 O (.lst [.int 0]) = H9 at eO fO
        have e09 := R7.ex.tr eO
        refine ⟨_, rfl, t, _, 2, _, rfl, rfl, e09.t hT, rfl, a3, _, rfl, .inl (e09.l s3), ?_⟩
        refine ⟨O, (ws.length : Int), _, rfl, rfl, fO, by omega, by omega, mil (by rw [List.length_singleton]; omega), fun S hS => ?_⟩
        rw [rep_int, show ((ws.length : Int)).toNat = u.ns.length by omega]
        have eS : Ex H9 (upd H9 S (.lst ((still u).map V.int))) := Ex.nw hS
        have fS : (upd H9 S (.lst ((still u).map V.int))) S = some (.lst ((still u).map V.int)) := upd_same
        refine ⟨_, u, _, f, A, S, sti u f st i, still u, rfl, hw.up (e09.tr eS), hu, hf.up (e09.tr eS), hok, .inl (.inl ((eO.tr eS) _ _ fA8)), .inl (.inl fS), sti_len hvl i, List.length_replicate, fun A2 H10 hA2 e10 h10 => ?_⟩
        refine ⟨A2, _, _, _, rfl, h10, ds ++ [W], ?_⟩
        rw [List.range_succ, List.map_append]
        have e810 := eO.tr (eS.tr e10)
        exact rupd R7 e810
    · rintro σ H4 ⟨A, y6, y7, y8, rfl, fA, ds, R⟩
      refine ⟨_, rfl, q D ds H4 ?_⟩
      rw [shn_eq]
      exact R
end

end K36
namespace K36
open PySem PySem.Spec PyProof.Rows L2 Nw
/-! _law_right: slots 0 _law_well_here, 1 _law_size, 2 _law_wide, 3 _law_web_here, 4 _law_filling_here, 5 _law_top, 6 _law_states, 7 _law_turn, 8 _law_one, 9 _law_number, 10 _law_passed, 11 _law_given, 12 _law_due_here, 13 _law_told, 14 _law_row, 15 _law_both, 16 _law_other, 17 _law_others, 18 _law_sums, 19 _law_k -/
abbrev s_right : Stmt := topS 46
abbrev N_right : List Str := ["_law_well_here", "_law_size", "_law_wide", "_law_web_here", "_law_filling_here", "_law_top", "_law_states", "_law_turn", "_law_one", "_law_number", "_law_passed", "_law_given", "_law_due_here", "_law_told", "_law_row", "_law_both", "_law_other", "_law_others", "_law_sums", "_law_k"]
abbrev P_right : List Str := ["_law_well_here", "_law_size", "_law_wide"]
theorem sc_right : FnScope N_right P_right (defScope s_right) := ⟨rfl, rfl, rfl, by decide +kernel, rfl, by decide +kernel, by decide +kernel⟩
theorem sti_bd {u : Wb} {f : Fl} (hu : u.Ok) (hok : f.Ok u) {st : List Int} (hl : (st.length : Int) = u.n) {M : Int} (hM : 0 ≤ M) (h : ∀ x ∈ st, Bd M x) : ∀ i, ∀ x ∈ sti u f st i, Bd (20000000 ^ i * M) x
  | 0, x, hx => by
    rw [Int.pow_zero, Int.one_mul]
    exact h x hx
  | i + 1, x, hx => by
    have ih := sti_bd hu hok hl hM h i
    have hli := sti_len (f := f) hl i
    have p0 : 0 ≤ (20000000 : Int) ^ i * M := Int.mul_nonneg (Int.pow_nonneg (by decide)) hM
    obtain ⟨t, ht, rfl⟩ := List.getElem_of_mem hx
    have e : (sti u f st (i + 1))[t] = (sti u f st (i + 1)).getD t 0 := by
      rw [List.getD_eq_getElem?_getD, List.getElem?_eq_getElem ht]
      rfl
    have hl1 := sti_len (f := f) hl (i + 1)
    rw [e]
    have g : (sti u f st (i + 1)).getD t 0 = inc (sti u f st i ++ still u) (nl u f) t := mv_get (by omega)
    rw [g]
    unfold still
    rw [inc_still hu hok hli]
    have := inc_bd hu hok p0 ih t
    rw [Int.pow_succ, Int.mul_comm ((20000000 : Int) ^ i) 20000000, Int.mul_assoc]
    exact this
theorem shw_bd {u : Wb} {f : Fl} (hu : u.Ok) (hok : f.Ok u) {st : List Int} {M : Int} (hM : 0 ≤ M) (h : ∀ x ∈ st, Bd M x) : ∀ x ∈ shw u.ns f.ss st, Bd (20000000 * M) x := by
  intro x hx
  obtain ⟨z, hz, rfl⟩ := List.mem_map.mp hx
  have z1 := (List.of_mem_zip (a := z.1) (b := z.2) hz).1
  have z2 := (List.of_mem_zip (a := z.1) (b := z.2) hz).2
  have l20 := hu.row z1
  unfold prodZ
  have h1 := abs_sum_le (M := 1000000 * M) (by omega) (xs := (z.1.zip z.2).map fun y => y.2 * st.getD y.1.toNat 0) fun x hx => by
    obtain ⟨l, hl, rfl⟩ := List.mem_map.mp hx
    have h3 := (hok.rnum z.2 z2 l.2 (List.of_mem_zip (a := l.1) (b := l.2) hl).2).2
    exact bd_mul h3 (bd_getD h hM _) hM
  rw [List.length_map, List.length_zip] at h1
  have h4 : ((min z.1.length z.2.length : Nat) : Int) * (1000000 * M) ≤ 20 * (1000000 * M) := Int.mul_le_mul_of_nonneg_right (by omega) (by omega)
  refine h1.mono ?_
  omega
theorem pow2e7 {i k : Nat} (h : i ≤ k) : (20000000 : Int) ^ i ≤ 20000000 ^ k := by
  have h1 : ∀ n : Nat, (20000000 : Int) ^ n = ((20000000 ^ n : Nat) : Int) := fun n => by
    rw [Int.natCast_pow]
    rfl
  rw [h1, h1]
  exact Int.ofNat_le.mpr (Nat.pow_le_pow_right (by decide) h)
theorem big480 : (20000000 : Int) * ((20000000 : Int) ^ 60 * 10 ^ 30) < 10 ^ 480 := by decide +kernel
theorem shn_bd {u : Wb} {f : Fl} (hu : u.Ok) (hok : f.Ok u) {st : List Int} (hl : (st.length : Int) = u.n) (h : ∀ x ∈ st, Bd (10 ^ 30) x) {N : Nat} (hN : N ≤ 60) : ∀ r ∈ shn u f st N, ∀ x ∈ r, x.natAbs < 10 ^ 480 := by
  intro r hr x hx
  rw [shn_eq] at hr
  obtain ⟨i, hi, rfl⟩ := List.mem_map.mp hr
  have hi := List.mem_range.mp hi
  have M0 : (0 : Int) ≤ 10 ^ 30 := by decide +kernel
  have b := shw_bd hu hok (Int.mul_nonneg (Int.pow_nonneg (by decide)) M0) (sti_bd hu hok hl M0 h i) x hx
  have hp : (20000000 : Int) ^ i ≤ 20000000 ^ 60 := pow2e7 (by omega)
  have h2 : (20000000 : Int) ^ i * 10 ^ 30 ≤ 20000000 ^ 60 * 10 ^ 30 := Int.mul_le_mul_of_nonneg_right hp M0
  have h3 := big480
  have e : ((10 ^ 480 : Nat) : Int) = (10 : Int) ^ 480 := by rw [Int.natCast_pow]; rfl
  have b1 := b.1
  have b2 := b.2
  generalize (20000000 : Int) ^ i * 10 ^ 30 = A at b1 b2 h2
  generalize (20000000 : Int) ^ 60 * 10 ^ 30 = B at h2 h3
  generalize (10 : Int) ^ 480 = C at h3 e
  generalize (10 : Nat) ^ 480 = D at e ⊢
  omega
theorem sti_add {u : Wb} {f : Fl} {a b : List Int} (ha : (a.length : Int) = u.n) (hb : (b.length : Int) = u.n) : ∀ i, sti u f (addL a b) i = addL (sti u f a i) (sti u f b i)
  | 0 => rfl
  | i + 1 => by
    have ih := sti_add (f := f) ha hb i
    have la := sti_len (f := f) ha i
    have lb := sti_len (f := f) hb i
    have la1 := sti_len (f := f) ha (i + 1)
    have lb1 := sti_len (f := f) hb (i + 1)
    have hab : ((addL a b).length : Int) = u.n := by
      rw [addL_len (by omega)]
      exact ha
    have lc1 := sti_len (f := f) hab (i + 1)
    refine ext_getD (by rw [addL_len (by omega)]; omega) fun t ht => ?_
    rw [addL_get (by omega)]
    have g : ∀ s : List Int, (sti u f s (i + 1)).getD t 0 = inc (sti u f s i ++ still u) (nl u f) t := fun s => mv_get (by omega)
    rw [g, g, g, ih]
    refine inc_add fun j => ?_
    unfold still
    rw [getD_app_rep, getD_app_rep, getD_app_rep, addL_get (by omega)]
theorem sum_addL : ∀ {g s : List Int} {a b c : List Int}, (∀ i, c.getD i 0 = a.getD i 0 + b.getD i 0) → (prodZ c g s).sum = (prodZ a g s).sum + (prodZ b g s).sum
  | [], s, a, b, c, h => by
    cases s <;> rfl
  | x :: g, [], a, b, c, h => rfl
  | x :: g, y :: s, a, b, c, h => by
    have ih := sum_addL (g := g) (s := s) h
    unfold prodZ at ih ⊢
    rw [List.zip_cons_cons, List.map_cons, List.map_cons, List.map_cons, List.sum_cons, List.sum_cons, List.sum_cons, ih, h, Int.mul_add]
    omega
theorem shw_add {ns ss : List (List Int)} {a b : List Int} (h : a.length = b.length) : shw ns ss (addL a b) = addL (shw ns ss a) (shw ns ss b) := by
  unfold shw
  generalize ns.zip ss = zs
  induction zs with
  | nil => rfl
  | cons z zs ih =>
    rw [List.map_cons, List.map_cons, List.map_cons, ih, sum_addL fun i => addL_get h i]
    rfl
theorem p480 : (10 : Nat) ^ 480 < 2 ^ 1920 := by decide +kernel
theorem shn_len {u : Wb} {f : Fl} (hok : f.Ok u) {st : List Int} {N : Nat} : ∀ r ∈ shn u f st N, r.length = u.ns.length := fun r hr => by
  rw [shn_eq] at hr
  obtain ⟨i, _, rfl⟩ := List.mem_map.mp hr
  unfold shw
  rw [List.length_map, List.length_zip, hok.slen, Nat.min_self]
theorem shn_many {u : Wb} {f : Fl} {st : List Int} {N : Nat} : (shn u f st N).length = N := by
  rw [shn_eq, List.length_map, List.length_range]
theorem shn_take {u : Wb} {f : Fl} {st : List Int} {N M : Nat} (h : M ≤ N) : (shn u f st N).take M = shn u f st M := by
  rw [shn_eq, shn_eq, ← List.map_take, List.take_range, Nat.min_eq_left h]
theorem sh_shn {u : Wb} {f : Fl} (hu : u.Ok) (hok : f.Ok u) {st : List Int} (hl : (st.length : Int) = u.n) (h : ∀ x ∈ st, Bd (10 ^ 30) x) {N : Nat} (hN : N ≤ 60) : Sh 481 (1 + (1 + 8) * 60) 2 (dRows (shn u f st N)) :=
  Sh.rows (k := 480) (m := 8) (j := 60) (by decide) (fun r hr x hx => Nat.lt_trans (shn_bd hu hok hl h hN r hr x hx) p480) (shn_bd hu hok hl h hN) (fun r hr => by
    rw [shn_len hok r hr]
    exact hu.few) (by rw [shn_many]; exact hN)
theorem shn_at {u : Wb} {f : Fl} {st : List Int} {N k : Nat} (h : k < N) : (shn u f st N)[k]? = some (shw u.ns f.ss (sti u f st k)) := by
  rw [shn_eq, List.getElem?_map, List.getElem?_range h]
  rfl
def sp_right (K : PySem.W.Frag) : Sp := fun vs H Q _ => ∃ (p : Addr) (size wide : Int) (m : Nat), vs = [.ref p, .int size, .int wide] ∧ (1 ≤ size ∧ size ≤ 20) ∧ (1 ≤ wide ∧ wide ≤ 1000000) ∧ Purse H p m ∧ m ≤ 50000 ∧
  ∀ H', ExD p H H' → Purse H' p (m + 10000) → Q (.bl true) H'
section
variable {P : Program} {w : World} {K : PySem.W.Frag} {mg : Str → Option Value} {base : Heap}
theorem ok_right {f : Addr} {fd : FuncData} (T : Txt K mg) (F : Fun K "_law_right" "_law_right" s_right f fd)
    (D_shown : DefOk P w K mg base CX0 8 "shown" P_shown (sp_shown K))
    (D_pick : DefOk P w K mg base CX0 1 "_law_pick" P_pick (sp_pick K))
    (D_web : DefOk P w K mg base CX0 3 "_law_web" P_web (sp_web K))
    (D_filling : DefOk P w K mg base CX0 2 "_law_filling" P_filling (sp_filling K))
    (D_copy : DefOk P w K mg base CX0 1 "_law_copy" P_copy (sp_copy K))
    (D_due : DefOk P w K mg base CX0 2 "_law_due" P_due (sp_due K)) :
    FnG P w K mg base CX0 9 f fd P_right (sp_right K) := by
  refine okG0 F sc_right (fun vs H Q E h => ?_) (fun cdv A outer s H vs Q E hr hq h => ?_)
  · obtain ⟨p, size, wide, m, rfl, _⟩ := h
    rfl
  · obtain ⟨p, size, wide, m, rfl, hsz, hwd, hp, hm, q⟩ := h
    refine ⟨_, (pss_cons (ps_set (i := 3) sc_right.nd rfl (by first | exact .inl rfl | exact .inr rfl) (pe_callD D_web (hr.mono (by decide)) hq pass0 (pa_cons (pv 0) (pa_cons (pv 1) (pa_cons pe_int pa_nil)))))
      (pss_cons (ps_set (i := 4) sc_right.nd rfl (by first | exact .inl rfl | exact .inr rfl) (pe_callD D_filling (hr.mono (by decide)) hq pass0 (pa_cons (pv 0) (pa_cons (pv 3) (pa_cons (pv 2) pa_nil)))))
      (pss_cons (ps_set (i := 5) sc_right.nd rfl (by first | exact .inl rfl | exact .inr rfl) (pe_ix (ix_listK K) (pe_lst (pa_cons pe_int (pa_cons (pe_op op_mul pe_int (pe_op op_powW pe_int pe_int)) pa_nil))) (pe_callD D_pick (hr.mono (by decide)) hq pass0 (pa_cons (pv 0) (pa_cons pe_int pa_nil))) (fun _ _ => rfl)))
      (pss_cons (ps_set (i := 6) sc_right.nd rfl (by first | exact .inl rfl | exact .inr rfl) (pe_lst pa_nil))
      (pss_cons (ps_for PassesOwn.never rfl (pi_range1 (by rfl) T.b_range (pa_cons pe_int pa_nil)) (pg_name (i := 7) sc_right.nd rfl (by first | exact .inl rfl | exact .inr rfl)) (pss_one (ps_expr (pe_bm PySem.F.plainAttrs_list PySem.F.slot_list_append PySem.F.type_list_append mt_append (pv 6) (pa_cons (pe_lc (own := [("_law_one", 8)]) rfl sc_right.nd (pi_range1 (by rfl) T.b_range (pa_cons (pe_ix (ix_tupK K) (pv 3) pe_int (fun _ _ => rfl)) pa_nil)) (blkOk_by (N := N_right) (sc := defScope s_right) (by decide +kernel)) (fun _ _ _ _ _ => (pg_name (i := 8) sc_right.nd rfl (by first | exact .inl rfl | exact .inr rfl))) (fun _ _ _ _ _ => pts_nil) (fun _ _ _ _ _ => (pe_op op_add (pe_op op_sub (pe_callD D_pick (hr.mono (by decide)) hq pass0 (pa_cons (pv 0) (pa_cons (pe_op op_sub (pe_op op_mul pe_int (pv 5)) pe_int) pa_nil))) (pv 5)) pe_int))) pa_nil)))))
      (pss_cons (ps_set (i := 9) sc_right.nd rfl (by first | exact .inl rfl | exact .inr rfl) (pe_ix (ix_listK K) (pe_lst (pa_cons (pe_callD D_pick (hr.mono (by decide)) hq pass0 (pa_cons (pv 0) (pa_cons pe_int pa_nil))) (pa_cons (pe_callD D_pick (hr.mono (by decide)) hq pass0 (pa_cons (pv 0) (pa_cons pe_int pa_nil))) (pa_cons pe_int pa_nil)))) (pe_callD D_pick (hr.mono (by decide)) hq pass0 (pa_cons (pv 0) (pa_cons pe_int pa_nil))) (fun _ _ => rfl)))
      (pss_cons (ps_par (i := 10) (j := 11) (by rfl) sc_right.nd rfl rfl (by decide) rfl rfl (pa_cons (pe_callD D_copy (hr.mono (by decide)) hq pass0 (pa_cons (pv 3) (pa_cons (pv 4) pa_nil))) (pa_cons (pe_callTy (call_listK K) (by rfl) T.b_list bt_list (pa_cons (pe_ix (ix_listK K) (pv 6) pe_int (fun _ _ => rfl)) pa_nil)) pa_nil)) (by rfl))
      (pss_cons (ps_set (i := 12) sc_right.nd rfl (by first | exact .inl rfl | exact .inr rfl) (pe_callD D_due (hr.mono (by decide)) hq pass0 (pa_cons (pv 3) (pa_cons (pv 4) (pa_cons (pe_ix (ix_listK K) (pv 6) pe_int (fun _ _ => rfl)) (pa_cons (pv 9) pa_nil))))))
      (pss_cons (ps_set (i := 13) sc_right.nd rfl (by first | exact .inl rfl | exact .inr rfl) (pe_callD D_shown (hr.mono (by decide)) hq pass0 (pa_cons (pe_ix (ix_tupK K) (pv 10) pe_int (fun _ _ => rfl)) (pa_cons (pe_ix (ix_tupK K) (pv 10) pe_int (fun _ _ => rfl)) (pa_cons (pv 11) (pa_cons (pv 9) pa_nil))))))
      (pss_cons (ps_if (PW.pt (pw_or (pt_cmpR op_ne (pe_callB (call_reprK K hq hr) (by rfl) T.b_repr bt_repr (pa_cons (pv 13) pa_nil)) (pe_callB (call_reprK K hq hr) (by rfl) T.b_repr bt_repr (pa_cons (pv 12) pa_nil)) (nomark _)) (pw_or (pt_cmpR (op_neDk K hr.units) (pv 10) (pe_tup (pa_cons (pv 3) (pa_cons (pv 4) pa_nil))) (nomark _)) (pw_or1 (pt_cmpR (op_neDk K hr.units) (pv 11) (pe_ix (ix_listK K) (pv 6) pe_int (fun _ _ => rfl)) (nomark _)))))) (pss_one (ps_ret pe_bl)) pss_nil)
      (pss_cons (ps_for PassesOwn.never rfl (pi_listK K (pv 13)) (pg_name (i := 14) sc_right.nd rfl (by first | exact .inl rfl | exact .inr rfl)) (pss_one (ps_expr (pe_bm PySem.F.plainAttrs_list PySem.F.slot_list_append PySem.F.type_list_append mt_append (pv 14) (pa_cons pe_non pa_nil)))))
      (pss_cons (ps_if (pt_cmpR (op_neDk K hr.units) (pe_lc (own := [("_law_row", 14)]) rfl sc_right.nd (pi_listK K (pv 13)) (blkOk_by (N := N_right) (sc := defScope s_right) (by decide +kernel)) (fun _ _ _ _ _ => (pg_name (i := 14) sc_right.nd rfl (by first | exact .inl rfl | exact .inr rfl))) (fun _ _ _ _ _ => (pts_one (pt_cmpR op_ne (pe_callB (call_lenK K) (by rfl) T.b_len bt_len (pa_cons (pv 14) pa_nil)) (pe_op op_add (pe_callB (call_lenK K) (by rfl) T.b_len bt_len (pa_cons (pe_ix (ix_tupK K) (pv 3) pe_int (fun _ _ => rfl)) pa_nil)) pe_int) (nomark _)))) (fun _ _ _ _ _ => (pv 14))) (pe_lst pa_nil) (nomark _)) (pss_one (ps_ret pe_bl)) pss_nil)
      (pss_cons (ps_expr (pe_bm PySem.F.plainAttrs_list PySem.F.slot_list_append PySem.F.type_list_append mt_append (pv 13) (pa_cons pe_non pa_nil)))
      (pss_cons (ps_if (pt_cmpR op_ne (pe_callB (call_reprK K hq hr) (by rfl) T.b_repr bt_repr (pa_cons (pe_callD D_shown (hr.mono (by decide)) hq pass0 (pa_cons (pe_ix (ix_tupK K) (pv 10) pe_int (fun _ _ => rfl)) (pa_cons (pe_ix (ix_tupK K) (pv 10) pe_int (fun _ _ => rfl)) (pa_cons (pv 11) (pa_cons (pe_op op_fdivW (pv 9) pe_int) pa_nil))))) pa_nil)) (pe_callB (call_reprK K hq hr) (by rfl) T.b_repr bt_repr (pa_cons (pe_slice (sl_listK K) (pv 12) po_none (po_some (pe_op op_fdivW (pv 9) pe_int))) pa_nil)) (nomark _)) (pss_one (ps_ret pe_bl)) pss_nil)
      (pss_cons (ps_setLc (i := 15) (own := [("_law_one", 8), ("_law_other", 16)]) rfl sc_right.nd rfl rfl (sw_true rfl rfl rfl (by decide +kernel)) (pi_zip (by rfl) T.b_zip (pa_cons (pe_ix (ix_listK K) (pv 6) pe_int (fun _ _ => rfl)) (pa_cons (pe_ix (ix_listK K) (pv 6) pe_int (fun _ _ => rfl)) pa_nil))) (blkOk_by (N := N_right) (sc := defScope s_right) (by decide +kernel)) (fun _ _ _ _ _ => (pg_tupK (n := 2) K rfl (pgs_cons (pg_name (i := 8) sc_right.nd rfl (by first | exact .inl rfl | exact .inr rfl)) (pgs_cons (pg_name (i := 16) sc_right.nd rfl (by first | exact .inl rfl | exact .inr rfl)) pgs_nil)))) (fun _ _ _ _ _ => pts_nil) (fun _ _ _ _ _ => (pe_op op_add (pv 8) (pv 16))))
      (pss_cons (ps_par (i := 17) (j := 18) (by rfl) sc_right.nd rfl rfl (by decide) rfl rfl (pa_cons (pe_callD D_shown (hr.mono (by decide)) hq pass0 (pa_cons (pv 3) (pa_cons (pv 4) (pa_cons (pe_ix (ix_listK K) (pv 6) pe_int (fun _ _ => rfl)) (pa_cons (pv 9) pa_nil))))) (pa_cons (pe_callD D_shown (hr.mono (by decide)) hq pass0 (pa_cons (pv 3) (pa_cons (pv 4) (pa_cons (pv 15) (pa_cons (pv 9) pa_nil))))) pa_nil)) (by rfl))
      (pss_cons (ps_for PassesOwn.never rfl (pi_range1 (by rfl) T.b_range (pa_cons (pv 9) pa_nil)) (pg_name (i := 19) sc_right.nd rfl (by first | exact .inl rfl | exact .inr rfl)) (pss_one (ps_if (pt_cmpR (op_neDk K hr.units) (pe_ix (ix_listK K) (pv 18) (pv 19) (fun _ _ => rfl)) (pe_lc (own := [("_law_one", 8), ("_law_other", 16)]) rfl sc_right.nd (pi_zip (by rfl) T.b_zip (pa_cons (pe_ix (ix_listK K) (pv 12) (pv 19) (fun _ _ => rfl)) (pa_cons (pe_ix (ix_listK K) (pv 17) (pv 19) (fun _ _ => rfl)) pa_nil))) (blkOk_by (N := N_right) (sc := defScope s_right) (by decide +kernel)) (fun _ _ _ _ _ => (pg_tupK (n := 2) K rfl (pgs_cons (pg_name (i := 8) sc_right.nd rfl (by first | exact .inl rfl | exact .inr rfl)) (pgs_cons (pg_name (i := 16) sc_right.nd rfl (by first | exact .inl rfl | exact .inr rfl)) pgs_nil)))) (fun _ _ _ _ _ => pts_nil) (fun _ _ _ _ _ => (pe_op op_add (pv 8) (pv 16)))) (nomark _)) (pss_one (ps_ret pe_bl)) pss_nil)))
      (pss_one (ps_ret (pe_cmpR op_eq (pe_callB (call_lenK K) (by rfl) T.b_len bt_len (pa_cons (pv 18) pa_nil)) (pv 9) (nomark _))))))))))))))))))))), ?_⟩
    refine ⟨_, rfl, _, rfl, p, size, 8, m, rfl, hsz, by decide, hp, by omega, fun v u H1 e1 p1 dW0 hu _ _ => ?_⟩
    refine ⟨_, rfl, _, rfl, _, rfl, p, v, u, wide, m + 1000, rfl, dW0, hu, hwd, p1, by omega, fun fv f H2 e2 p2 dF0 hok => ?_⟩
    have dW := dW0.up e2.rm
    have e02 := e1.tr e2
    have v29 := p29
    refine ⟨_, _, rfl, rfl, cpow10 (by decide) (by decide), _, _, rfl, rfl, .inl ⟨by decide, by decide⟩, by show 2 ≤ sizeLine; decide, fun b hb => ?_⟩
    have eb : ExD p H2 (upd H2 b (.lst [.int 9, .int (5 * 10 ^ Int.toNat 29)])) := ExD.nw hb
    have pb := p2.up (Ex.nw (o := .lst [.int 9, .int (5 * 10 ^ Int.toNat 29)]) hb)
    have fb : (upd H2 b (.lst [.int 9, .int (5 * 10 ^ Int.toNat 29)])) b = some (.lst [.int 9, .int (5 * 10 ^ Int.toNat 29)]) := upd_same
    have bp := p2.off hb
    generalize upd H2 b (.lst [.int 9, .int (5 * 10 ^ Int.toNat 29)]) = H3 at eb pb fb
    refine ⟨_, rfl, p, 2, _, rfl, by decide, pb, by omega, fun z H4 hz p4 e4 => ?_⟩
    obtain ⟨top, htop, hat⟩ : ∃ top : Int, (1 ≤ top ∧ top ≤ 500000000000000000000000000000) ∧ atI [V.int 9, V.int (5 * 10 ^ Int.toNat 29)] z = some (.int top) := by
      rcases (show z = 0 ∨ z = 1 by omega) with rfl | rfl
      · exact ⟨9, by decide, rfl⟩
      · exact ⟨5 * 10 ^ Int.toNat 29, by rw [v29]; decide, rfl⟩
    refine ⟨b, _, z, .int top, rfl, rfl, .inl (.inl (e4 _ _ bp fb)), hat, ?_⟩
    have dW4 := dW.up (eb.tr e4).rm
    have dF4 := dF0.up (eb.tr e4).rm
    have e04 := e02.tr (eb.tr e4)
    -- the two states
    refine ⟨Nat.zero_le _, fun S hS => ?_⟩
    have Sp := p4.off hS
    have HS : H S = none := Purse.fr e04 p4 hS
    have e5 : Ex H4 (upd H4 S (.lst [])) := Ex.nw hS
    have p5 := p4.up (Ex.nw (o := .lst []) hS)
    have f5 : (upd H4 S (.lst [])) S = some (.lst []) := upd_same
    generalize upd H4 S (.lst []) = H5 at e5 p5 f5
    have h5 : ∀ b o, H4 b = some o → H5 b = some o := e5
    have g4 : ∀ H', (∀ b o, b ≠ p → b ≠ S → H5 b = some o → H' b = some o) → Ex (rm H4 p) H' := fun H' o6 b o hb => by
      by_cases n : b = p
      · rw [n, rm_at] at hb
        cases hb
      · rw [rm_ne n] at hb
        exact o6 b o n (fun e => by rw [e, hS] at hb; cases hb) (h5 b o hb)
    have dW4' := dW4
    obtain ⟨t, x2, x3, rfl, hT, g2, ⟨a3, ws, rfl, hL3, hA3, hz3⟩⟩ := Wb.at dW4
    have hlo := hu.lo
    have hhi := hu.hi
    refine ⟨_, rfl, by decide, by decide, ?_⟩
    refine for_by 2 (fun i σ H' => ∃ y7, σ = [some (V.ref p), some (V.int size), some (V.int wide), some (V.ref t), some fv, some (V.int top), some (V.ref S), y7, none, none, none, none, none, none, none, none, none, none, none, none] ∧
        (∀ b o, b ≠ p → b ≠ S → H5 b = some o → H' b = some o) ∧ Purse H' p (m + 4001 + 20 * i) ∧ ∃ cs : List (Addr × List Int), cs.length = i ∧ H' S = some (.lst (cs.map fun c => V.ref c.1)) ∧
        ∀ c ∈ cs, c.1 ≠ S ∧ c.1 ≠ p ∧ H5 c.1 = none ∧ H' c.1 = some (.lst (c.2.map V.int)) ∧ (c.2.length : Int) = u.n ∧ ∀ x ∈ c.2, Bd 500000000000000000000000000000 x)
      ⟨_, rfl, fun b o _ _ h => h, p5, [], rfl, f5, fun c hc => (by cases hc)⟩ (fun i σ H' hi _ => by show i < _; exact hi) (fun σ H' _ => by show 2 ≤ 2; decide) ?_ ?_
    · rintro i σ H6 x H7 hi ⟨y7, rfl, o6, p6, cs, hcl, hS6, hcs⟩ ⟨rfl, rfl⟩
      have offc : ∀ c ∈ cs, c.1 ≠ S ∧ c.1 ≠ p := fun c hc => ⟨(hcs c hc).1, (hcs c hc).2.1⟩
      have hT7 : SqT K H7 t [.int u.n, x2, .ref a3] := (g4 _ o6).t hT
      refine ⟨_, rfl, .inl ⟨rfl, _, .inl (.inl hS6)⟩, ?_⟩
      refine ⟨_, rfl, t, _, 0, _, rfl, rfl, hT7, rfl, _, rfl, by omega, by omega, fun D hD => ?_⟩
      have Dp := p6.off hD
      have DS : D ≠ S := fun e => by
        rw [e, hS6] at hD
        cases hD
      have H5D : H5 D = none := by
        cases hz : H5 D with
        | none => rfl
        | some o =>
          rw [o6 D o Dp DS hz] at hD
          cases hD
      refine lc_by u.n.toNat (fun j H' => ExD p H7 H' ∧ Purse H' p (m + 4001 + 20 * i + j) ∧ ∃ r : List Int, H' D = some (.lst (r.map V.int)) ∧ r.length = j ∧ ∀ x ∈ r, Bd 500000000000000000000000000000 x)
        ⟨ExD.nw hD, p6.put Dp.symm, [], upd_same, rfl, fun x hx => (by cases hx)⟩ (fun j H' hj _ => by show j < _; omega) (fun H' _ => by show _ ≤ _; omega) ?_ ?_
      · rintro j H8 x H9 hj ⟨e8, p8, r, hD8, hrl, hrb⟩ ⟨rfl, rfl⟩
        refine ⟨rfl, ?_⟩
        refine ⟨_, rfl, _, rfl, _, _, rfl, rfl, .inl ⟨by decide, by decide⟩, _, _, rfl, rfl, p, _, _, rfl, by omega, p8, by omega, fun z9 H10 hz9 p10 e10 => ?_⟩
        refine ⟨_, rfl, _, _, rfl, rfl, _, _, rfl, rfl, _, e10 _ _ Dp hD8, mil' (by rw [List.length_map]; omega), (e8.tr e10).wr hD, (p10.put Dp.symm).mono (by omega), r ++ [z9 - top + 1], ?_, by rw [List.length_append, hrl]; rfl, fun x hx => ?_⟩
        · rw [upd_same, List.map_append]
          rfl
        · rcases List.mem_append.mp hx with hx | hx
          · exact hrb x hx
          · obtain rfl := List.mem_singleton.mp hx
            exact ⟨by omega, by omega⟩
      · rintro H8 ⟨e8, p8, r, hD8, hrl, hrb⟩
        have hS8 := e8 _ _ Sp hS6
        refine ⟨S, _, _, rfl, rfl, hS8, mil' (by rw [List.length_map]; omega), ?_⟩
        refine ⟨_, rfl, fun b o n1 n2 h => ?_, (p8.put Sp.symm).mono (by omega), cs ++ [(D, r)], by rw [List.length_append, hcl]; rfl, by rw [upd_same, List.map_append]; rfl, fun c hc => ?_⟩
        · rw [upd_ne n2]
          exact e8 b o n1 (o6 b o n1 n2 h)
        · rcases List.mem_append.mp hc with hc | hc
          · obtain ⟨c1, c2, c3, c4, c5⟩ := hcs c hc
            exact ⟨c1, c2, c3, by rw [upd_ne c1]; exact e8 _ _ c2 c4, c5⟩
          · obtain rfl := List.mem_singleton.mp hc
            exact ⟨DS, Dp, H5D, by rw [upd_ne DS]; exact hD8, by show ((r.length : Nat) : Int) = u.n; omega, hrb⟩
    · rintro σ H6 ⟨y7, rfl, o6, p6, cs, hcl, hS6, hcs⟩
      have eG := g4 _ o6
      have dW6 := dW4'.up eG
      have dF6 := dF4.up eG
      obtain ⟨c0, c1, rfl⟩ : ∃ c0 c1, cs = [c0, c1] := by
        match cs, hcl with
        | [c0, c1], _ => exact ⟨c0, c1, rfl⟩
      obtain ⟨n0, n0p, _, f0, l0, b0⟩ := hcs c0 (by simp)
      obtain ⟨n1, n1p, _, f1, l1, b1⟩ := hcs c1 (by simp)
      obtain ⟨a0, r0⟩ := c0
      obtain ⟨a1, r1⟩ := c1
      have hS6' : H6 S = some (.lst [.ref a0, .ref a1]) := hS6
      -- how many
      refine ⟨_, rfl, p, 6, _, rfl, by decide, p6, by omega, fun z1 H7 hz1 p7 e7 => ?_⟩
      refine ⟨_, rfl, p, 61, _, rfl, by decide, p7, by omega, fun z2 H8 hz2 p8 e8 => ?_⟩
      refine ⟨by show 3 ≤ sizeLine; decide, fun B hB => ?_⟩
      have Bp := p8.off hB
      have eB : ExD p H8 (upd H8 B (.lst [.int z1, .int z2, .int 60])) := ExD.nw hB
      have pB := p8.up (Ex.nw (o := .lst [.int z1, .int z2, .int 60]) hB)
      have fB : (upd H8 B (.lst [.int z1, .int z2, .int 60])) B = some (.lst [.int z1, .int z2, .int 60]) := upd_same
      generalize upd H8 B (.lst [.int z1, .int z2, .int 60]) = H9 at eB pB fB
      refine ⟨_, rfl, p, 3, _, rfl, by decide, pB, by omega, fun z3 H10 hz3' p10 e10 => ?_⟩
      obtain ⟨N, hN, hatN⟩ : ∃ N : Nat, N ≤ 60 ∧ atI [V.int z1, V.int z2, V.int 60] z3 = some (.int (N : Int)) := by
        rcases (show z3 = 0 ∨ z3 = 1 ∨ z3 = 2 by omega) with rfl | rfl | rfl
        · exact ⟨z1.toNat, by omega, by rw [show ((z1.toNat : Nat) : Int) = z1 by omega]; rfl⟩
        · exact ⟨z2.toNat, by omega, by rw [show ((z2.toNat : Nat) : Int) = z2 by omega]; rfl⟩
        · exact ⟨60, by decide, rfl⟩
      refine ⟨B, _, z3, .int (N : Int), rfl, rfl, .inl (.inl (e10 _ _ Bp fB)), hatN, ?_⟩
      have e610 : ExD p H6 H10 := ((e7.tr e8).tr eB).tr e10
      have dW := (dW4'.up (show Ex (rm H4 p) (rm H6 p) from fun b o hb => by
        have := eG b o hb
        by_cases n : b = p
        · rw [n, rm_at] at hb
          cases hb
        · rw [rm_ne n]
          exact this)).up (e610.rm.tr rm_ex)
      have dF := (dF4.up (show Ex (rm H4 p) (rm H6 p) from fun b o hb => by
        have := eG b o hb
        by_cases n : b = p
        · rw [n, rm_at] at hb
          cases hb
        · rw [rm_ne n]
          exact this)).up (e610.rm.tr rm_ex)
      have f0 := e610 _ _ n0p f0
      have f1 := e610 _ _ n1p f1
      have fS := e610 _ _ Sp hS6'
      have e0 : ExD p H H10 := fun b o nb hb => by
        refine e610 b o nb (o6 b o nb (fun e => ?_) (e5 b o (e04 b o nb hb)))
        rw [e, HS] at hb
        cases hb
      have p10' : Purse H10 p (m + 10000) := p10.mono (by omega)
      clear eG dW6 dF6 hcs o6 hS6 hS6' e7 e8 eB e10 fB p7 p8 pB p6 p10 hT hL3 hA3 g2 dW4 dW4' dF4 g4 h5 e5 p5 f5
      generalize H10 = G0 at *
      have sS0 : SqL K G0 S [.ref a0, .ref a1] := .inl (.inl fS)
      have l0' : r0.length = r1.length := by
        have h1 : ((r0.length : Nat) : Int) = u.n := l0
        have h2 : ((r1.length : Nat) : Int) = u.n := l1
        omega
      have r20 : r0.length ≤ 20 := by
        have h1 : ((r0.length : Nat) : Int) = u.n := l0
        omega
      have l0'' : ((r0.length : Nat) : Int) = u.n := l0
      have l1'' : ((r1.length : Nat) : Int) = u.n := l1
      refine ⟨_, rfl, _, rfl, _, u, _, f, rfl, dW, hu, dF, hok, fun T1 y z G1 e1 hT1 dY dZ => ?_⟩
      refine ⟨_, rfl, S, _, 0, .ref a0, rfl, rfl, e1.l sS0, rfl, a0, _, rfl, .inl (.inl (.inl (e1 _ _ f0))), fun V0 hV0 => ?_⟩
      have e2 : Ex G1 (upd G1 V0 (.lst (r0.map V.int))) := Ex.nw hV0
      have fV : (upd G1 V0 (.lst (r0.map V.int))) V0 = some (.lst (r0.map V.int)) := upd_same
      generalize upd G1 V0 (.lst (r0.map V.int)) = G2 at e2 fV
      have e02 := e1.tr e2
      -- what is due
      refine ⟨_, _, rfl, _, rfl, _, rfl, _, rfl, S, _, 0, .ref a0, rfl, rfl, e02.l sS0, rfl, _, rfl, _, u, _, f, a0, r0, N, rfl, dW.up e02, hu, dF.up e02, hok, .inl (.inl (e02 _ _ f0)), l0, hN, fun Du ds G3 R3 => ?_⟩
      have e03 := e02.tr R3.ex
      have e23 := R3.ex
      have sT1 : SqT K G2 T1 [y, z] := .inl (.inl (e2 _ _ hT1))
      have dG3 : Da K G3 (dInts r0) (.ref V0) := dInts_of (e23 _ _ fV) (by omega)
      -- what is told
      refine ⟨_, rfl, T1, _, 0, _, rfl, rfl, e23.t sT1, rfl, _, rfl, T1, _, 1, _, rfl, rfl, e23.t sT1, rfl, _, rfl, _, rfl, _, u, _, f, _, r0, N, rfl, dY.up (e2.tr e23), hu, dZ.up (e2.tr e23), hok, dG3, l0, hN, fun Tl ts G4 R4 => ?_⟩
      have e34 := R4.ex
      have sm5 : (500000000000000000000000000000 : Int) ≤ 10 ^ 30 := by decide +kernel
      have bd0 : ∀ x ∈ r0, Bd (10 ^ 30) x := fun x hx => (b0 x hx).mono sm5
      have bd1 : ∀ x ∈ r1, Bd (10 ^ 30) x := fun x hx => (b1 x hx).mono sm5
      have few8 := hu.few
      have ln8 : ∀ (st : List Int) (M : Nat), ∀ r ∈ shn u f st M, r.length ≤ 100000 := fun st M r hr => by
        rw [shn_len hok r hr]
        omega
      have mn60 : ∀ (st : List Int) (M : Nat), M ≤ 60 → (shn u f st M).length ≤ 100000 := fun st M h => by
        rw [shn_many]
        omega
      have sh0 := sh_shn hu hok l0 bd0 hN
      have nd0 := nd_of_lay (lay_dRows (shn u f r0 N))
      have dD3 : Da K G3 (dRows (shn u f r0 N)) (.ref Du) := R3.da (ln8 r0 N) (mn60 r0 N hN)
      obtain ⟨k1, k2, k3, k4⟩ := repr_of (R4.da (ln8 r0 N) (mn60 r0 N hN) (K := K)) nd0 sh0 (by decide) (by decide) (by decide)
      refine ⟨_, rfl, _, _, rfl, k1, k2, k3, k4, ?_⟩
      obtain ⟨k1, k2, k3, k4⟩ := repr_of (dD3.up e34) nd0 sh0 (by decide) (by decide) (by decide)
      refine ⟨_, rfl, _, _, rfl, k1, k2, k3, k4, ?_⟩
      refine ⟨rfl, _, rfl, ite2 (fun h1 => ?_) (fun _ => ?_)⟩
      · simp at h1
      refine ⟨_, rfl, _, rfl, _, rfl, by show 2 ≤ sizeLine; decide, fun T2 hT2 => ?_⟩
      have e45 : Ex G4 (upd G4 T2 (.tup [.ref t, fv])) := Ex.nw hT2
      have fT2 : (upd G4 T2 (.tup [.ref t, fv])) T2 = some (.tup [.ref t, fv]) := upd_same
      generalize upd G4 T2 (.tup [.ref t, fv]) = G5 at e45 fT2
      have e05 := e03.tr (e34.tr e45)
      have e25 := e23.tr (e34.tr e45)
      have dT1 : Da K G5 (dWF u f) (.ref T1) := wf_of ((e2.tr e25) _ _ hT1) (dY.up (e2.tr e25)) (dZ.up (e2.tr e25))
      have dT2 : Da K G5 (dWF u f) (.ref T2) := wf_of fT2 (dW.up e05) (dF.up e05)
      refine ⟨_, _, dT1.wf, dT2.wf, sh_wf _ _, sh_wf _ _, _, rfl, ?_⟩
      rw [eqv_wf]
      refine ite2 (fun h => by simp at h) (fun _ => ?_)
      refine ⟨_, rfl, _, rfl, S, _, 0, .ref a0, rfl, rfl, e05.l sS0, rfl, ?_⟩
      refine ⟨_, _, (dInts_of (e25 _ _ fV) (by omega)).dInts, (dInts_of (e05 _ _ f0) (by omega)).dInts, sh_dInts _, sh_dInts _, _, rfl, ?_⟩
      rw [eqv_dInts]
      refine ite2 (fun h => by simp at h) (fun _ => ?_)
      have nTl : G3 Tl = none := R4.new
      have tl := R4.len
      rw [shn_many] at tl
      obtain ⟨NS, hNS⟩ : ∃ NS, NS = shn u f r0 N := ⟨_, rfl⟩
      have hNSl : ∀ r ∈ NS, r.length = u.ns.length := by
        rw [hNS]
        exact shn_len hok
      have R4' := R4
      rw [← hNS] at R4'
      refine ⟨_, rfl, Tl, rfl, ⟨_, .inl (.inl (e45 _ _ R4.at_))⟩, ?_⟩
      refine for_by (ts.map V.ref).length (fun i σ H' => ∃ y14, σ = [some (V.ref p), some (V.int size), some (V.int wide), some (V.ref t), some fv, some (V.int top), some (V.ref S), y7, none, some (V.int (N : Int)), some (V.ref T1), some (V.ref V0), some (V.ref Du), some (V.ref Tl), y14, none, none, none, none, none] ∧ Ex G3 H' ∧ H' Tl = some (.lst (ts.map V.ref)) ∧
          ∀ (k : Nat) (b : Addr), ts[k]? = some b → ∃ r, NS[k]? = some r ∧ H' b = some (.lst (if k < i then r.map V.int ++ [.non] else r.map V.int)))
        ⟨_, rfl, e34.tr e45, e45 _ _ R4.at_, fun k b hb => ?_⟩ (fun i σ H' hi pv => ?_) (fun σ H' pv => ?_) ?_ ?_
      · obtain ⟨_, r, h1, h2⟩ := R4'.row k b hb
        exact ⟨r, h1, by rw [if_neg (by omega)]; exact e45 _ _ h2⟩
      · obtain ⟨_, _, _, h4, _⟩ := pv
        exact itl_go (K := K) (.inl (.inl h4)) Ex.rfl hi
      · obtain ⟨_, _, _, h4, _⟩ := pv
        exact itl_stop (K := K) (.inl (.inl h4)) Ex.rfl
      · rintro i σ K1 x K2 hi ⟨y14, rfl, ei, hLi, hrow⟩ y
        obtain ⟨rfl, hx⟩ := itl_yld (K := K) y (.inl (.inl hLi)) Ex.rfl
        obtain ⟨b, hb, rfl⟩ := map_at hx
        obtain ⟨r, hr, hb2⟩ := hrow i b hb
        rw [if_neg (by omega)] at hb2
        have n1 := (R4.row i b hb).1
        have hrl1 := hNSl r (List.mem_of_getElem? hr)
        refine ⟨_, rfl, .inl ⟨rfl, _, .inl (.inl hb2)⟩, ?_⟩
        refine ⟨b, _, _, rfl, rfl, hb2, mil' (by rw [List.length_map]; omega), ?_⟩
        refine ⟨_, rfl, ei.wr n1.1, by rw [upd_ne n1.2.symm]; exact hLi, fun k c hc => ?_⟩
        obtain ⟨r', h1, h2⟩ := hrow k c hc
        refine ⟨r', h1, ?_⟩
        by_cases ek : k = i
        · subst ek
          rw [hb] at hc
          cases hc
          rw [hr] at h1
          cases h1
          rw [upd_same, if_pos (by omega)]
        · rw [upd_ne (nodup_at R4.nd hc hb ek), h2]
          by_cases ek2 : k < i
          · rw [if_pos ek2, if_pos (by omega)]
          · rw [if_neg ek2, if_neg (by omega)]
      · rintro σ G6 ⟨y14, rfl, e36, hL6, hrow6⟩
        have e06 := e03.tr e36
        refine ⟨_, rfl, Tl, rfl, ⟨_, .inl (.inl hL6)⟩, fun C hC => ?_⟩
        refine lc_by (ts.map V.ref).length (fun i H' => Ex G6 H' ∧ H' C = some (.lst [])) ⟨Ex.nw hC, upd_same⟩ (fun i H' hi pv => itl_go (K := K) (.inl (.inl hL6)) pv.1 hi) (fun H' pv => itl_stop (K := K) (.inl (.inl hL6)) pv.1) ?_ ?_
        · rintro i K1 x K2 hi ⟨ei, hCi⟩ y
          obtain ⟨rfl, hx⟩ := itl_yld (K := K) y (.inl (.inl hL6)) ei
          obtain ⟨b, hb, rfl⟩ := map_at hx
          obtain ⟨r, hr, hb2⟩ := hrow6 i b hb
          rw [if_pos (by simpa using hi)] at hb2
          have hrl1 := hNSl r (List.mem_of_getElem? hr)
          obtain ⟨t', x2', x3', et, hT', _, ⟨a3', ws', rfl, hL3', hA3', hz3'⟩⟩ := Wb.at (dW.up (e06.tr ei))
          cases et
          have hl3' := hA3'.len
          rw [List.length_map] at hl3'
          refine ⟨rfl, _, rfl, b, _, rfl, .inl (.inl (.inl (ei _ _ hb2))), ?_⟩
          refine ⟨_, rfl, t, _, 2, _, rfl, rfl, hT', rfl, a3', _, rfl, .inl (.inl (.inl hL3')), _, _, rfl, rfl, rfl, ?_⟩
          have ee : decide (V.int (((r.map V.int ++ [V.non]).length : Nat) : Int) = V.int ((ws'.length : Int) + 1)) = true := by
            rw [List.length_append, List.length_map, hrl1]
            simp
            omega
          refine ⟨_, rfl, ?_⟩
          rw [ee]
          exact ⟨ei, hCi⟩
        · rintro G7 ⟨e7, hC7⟩
          refine ⟨Nat.zero_le _, fun z1 hz1 => ?_⟩
          have dC : Dp K (upd G7 z1 (.lst [])) (.ref C) (dInts []) := ((dInts_of (r := []) hC7 (by decide)).up (Ex.nw hz1)).dInts
          have dz : Dp K (upd G7 z1 (.lst [])) (.ref z1) (dInts []) := Da.dInts (dInts_of (r := []) upd_same (by decide))
          have e38 : Ex G3 (upd G7 z1 (.lst [])) := (e36.tr e7).tr (Ex.nw hz1)
          have hL8 : (upd G7 z1 (.lst [])) Tl = some (.lst (ts.map V.ref)) := (e7.tr (Ex.nw hz1)) _ _ hL6
          refine ⟨_, _, dC, dz, sh_dInts _, sh_dInts _, _, rfl, ?_⟩
          rw [eqv_dInts]
          refine ite2 (fun h1 => ?_) (fun _ => ?_)
          · simp at h1
          generalize upd G7 z1 (.lst []) = G8 at e38 hL8
          refine ⟨_, rfl, .inl ⟨rfl, _, .inl (.inl hL8)⟩, ?_⟩
          refine ⟨Tl, _, _, rfl, rfl, hL8, mil' (by rw [List.length_map]; omega), ?_⟩
          have e39 : Ex G3 (upd G8 Tl (.lst (ts.map V.ref ++ [.non]))) := e38.wr nTl
          generalize upd G8 Tl (.lst (ts.map V.ref ++ [.non])) = G9 at e39
          have e29 := e23.tr e39
          have e09 := e03.tr e39
          -- half as many
          refine ⟨_, rfl, T1, _, 0, _, rfl, rfl, e29.t sT1, rfl, _, rfl, T1, _, 1, _, rfl, rfl, e29.t sT1, rfl, _, rfl, _, rfl, _, _, rfl, rfl, small_div' (by decide) (by decide), ?_⟩
          refine ⟨_, u, _, f, _, r0, N / 2, rfl, dY.up (e2.tr e29), hu, dZ.up (e2.tr e29), hok, dInts_of (e29 _ _ fV) (by omega), l0, by omega, fun Th hs G10 R10 => ?_⟩
          have hN2 : N / 2 ≤ N := Nat.div_le_self N 2
          have sh2 := sh_shn hu hok l0 bd0 (N := N / 2) (by omega)
          have nd2 := nd_of_lay (lay_dRows (shn u f r0 (N / 2)))
          obtain ⟨k1, k2, k3, k4⟩ := repr_of (R10.da (ln8 r0 _) (mn60 r0 _ (by omega)) (K := K)) nd2 sh2 (by decide) (by decide) (by decide)
          refine ⟨_, _, rfl, k1, k2, k3, k4, ?_⟩
          have e310 := e39.tr R10.ex
          have dsl : ds.length = N := by
            have := R3.len
            rw [shn_many] at this
            exact this
          refine ⟨_, rfl, _, rfl, _, _, rfl, rfl, small_div' (by decide) (by decide), _, rfl, Du, _, rfl, .inl (.inl (e310 _ _ R3.at_)), fun c hc => ?_⟩
          have ec : cutV (ds.map V.ref) none (some ((N : Int) / 2)) = (ds.take (N / 2)).map V.ref := by
            rw [show ((N : Int) / 2) = ((N / 2 : Nat) : Int) from rfl]
            unfold cutV
            rw [HT.sIx_none, show HT.sIx (ds.map V.ref).length (ds.map V.ref).length (some ((N / 2 : Nat) : Int)) = min (N / 2) (ds.map V.ref).length from HT.sIx_nat _ _ (N / 2), List.drop_zero, Nat.sub_zero, List.length_map, Nat.min_eq_left (by omega), List.map_take]
          rw [show cutV (ds.map V.ref) none (some ((fun i j : Int => i / j) (N : Int) 2)) = (ds.take (N / 2)).map V.ref from ec]
          have e11 : Ex G10 (upd G10 c (.lst ((ds.take (N / 2)).map V.ref))) := Ex.nw hc
          have f11 : (upd G10 c (.lst ((ds.take (N / 2)).map V.ref))) c = some (.lst ((ds.take (N / 2)).map V.ref)) := upd_same
          generalize upd G10 c (.lst ((ds.take (N / 2)).map V.ref)) = G11 at e11 f11
          have e311 := e310.tr e11
          have dHalf : Da K G11 (dRows (shn u f r0 (N / 2))) (.ref c) := by
            refine ⟨c, _, rfl, f11, rows_of (by rw [List.length_take, shn_many]; omega) fun k b hb => ?_, by rw [List.length_map, shn_many]; omega⟩
            have hk : k < N / 2 := by
              have := (List.getElem?_eq_some_iff.mp hb).1
              rw [List.length_take] at this
              omega
            rw [List.getElem?_take_of_lt hk] at hb
            obtain ⟨_, r, h1, h2⟩ := R3.row k b hb
            refine ⟨r, ?_, e311 _ _ h2, ln8 r0 N r (List.mem_of_getElem? h1)⟩
            rw [← shn_take hN2, List.getElem?_take_of_lt hk]
            exact h1
          obtain ⟨k1, k2, k3, k4⟩ := repr_of dHalf nd2 sh2 (by decide) (by decide) (by decide)
          refine ⟨_, _, rfl, k1, k2, k3, k4, ?_⟩
          refine ⟨rfl, _, rfl, ite2 (fun h1 => ?_) (fun _ => ?_)⟩
          · simp at h1
          have e011 := e03.tr e311
          -- both states
          have q0 : SqL K G11 a0 (r0.map V.int) := .inl (.inl (e011 _ _ f0))
          have q1 : SqL K G11 a1 (r1.map V.int) := .inl (.inl (e011 _ _ f1))
          refine ⟨_, rfl, S, _, 0, .ref a0, rfl, rfl, e011.l sS0, rfl, _, rfl, S, _, 1, .ref a1, rfl, rfl, e011.l sS0, rfl, a0, a1, _, _, rfl, q0, q1, fun G hG => ?_⟩
          have hmin : min (r0.map V.int).length (r1.map V.int).length = r0.length := by
            rw [List.length_map, List.length_map]
            omega
          refine lc_by r0.length (fun j H' => Ex G11 H' ∧ H' G = some (.lst ((((r0.zip r1).take j).map fun z => z.1 + z.2).map V.int)))
            ⟨Ex.nw hG, upd_same⟩ (fun j H' hj pv => itz_go q0 q1 pv.1 (by rw [hmin]; exact hj)) (fun H' pv => by
              have := itz_stop q0 q1 pv.1
              rw [hmin] at this
              exact this) ?_ ?_
          · rintro j K1 x K2 hj ⟨e5, hG5⟩ ⟨T3, w1, w2, rfl, hT3, rfl, hw1, hw2⟩
            obtain ⟨x1, hx1, rfl⟩ := map_at (hw1 _ (e5.l q0))
            obtain ⟨y1, hy1, rfl⟩ := map_at (hw2 _ (e5.l q1))
            have e6 : Ex K1 (upd K1 T3 (.tup [.int x1, .int y1])) := Ex.nw hT3
            have f6 : (upd K1 T3 (.tup [.int x1, .int y1])) T3 = some (.tup [.int x1, .int y1]) := upd_same
            generalize upd K1 T3 (.tup [.int x1, .int y1]) = K3 at e6 f6
            have hzz : (r0.zip r1)[j]? = some (x1, y1) := (List.getElem?_zip_eq_some (z := (x1, y1))).mpr ⟨hx1, hy1⟩
            refine ⟨T3, _, rfl, .inl (.inl f6), rfl, _, _, rfl, _, _, rfl, rfl, rfl, ?_⟩
            refine ⟨_, rfl, _, rfl, _, _, rfl, rfl, _, e6 _ _ hG5, mil' ?_, (e5.tr e6).wr hG, ?_⟩
            · rw [List.length_map, List.length_map, List.length_take]
              omega
            · rw [upd_same, take_snoc hzz, List.map_append, List.map_append]
              rfl
          · rintro G12 ⟨e12, hG12⟩
            have hzlen : (r0.zip r1).length = r0.length := by
              rw [List.length_zip]
              omega
            rw [← hzlen, List.take_length, addL_zip] at hG12
            have e012 := e011.tr e12
            have lab : ((addL r0 r1).length : Int) = u.n := by
              rw [addL_len l0']
              exact l0
            have bdab : ∀ x ∈ addL r0 r1, Bd (10 ^ 30) x := fun x hx => by
              rw [← addL_zip] at hx
              obtain ⟨z, hz, rfl⟩ := List.mem_map.mp hx
              have h1 := b0 z.1 (List.of_mem_zip (a := z.1) (b := z.2) hz).1
              have h2 := b1 z.2 (List.of_mem_zip (a := z.1) (b := z.2) hz).2
              have h3 : (10 : Int) ^ 30 = 1000000000000000000000000000000 := by decide +kernel
              rw [h3]
              obtain ⟨h11, h12⟩ := h1
              obtain ⟨h21, h22⟩ := h2
              exact ⟨by omega, by omega⟩
            refine ⟨_, rfl, _, rfl, _, rfl, S, _, 1, .ref a1, rfl, rfl, e012.l sS0, rfl, _, rfl, _, u, _, f, _, r1, N, rfl, dW.up e012, hu, dF.up e012, hok, dInts_of (e012 _ _ f1) (by omega), l1, hN, fun To os G13 R13 => ?_⟩
            have e013 := e012.tr R13.ex
            refine ⟨_, rfl, _, rfl, _, rfl, _, rfl, _, u, _, f, _, addL r0 r1, N, rfl, dW.up e013, hu, dF.up e013, hok, dInts_of (R13.ex _ _ hG12) (by rw [addL_len l0']; omega), lab, hN, fun Ts ss G14 R14 => ?_⟩
            refine ⟨_, _, rfl, ?_⟩
            have e014 := e013.tr R14.ex
            refine ⟨_, rfl, _, rfl, by omega, by omega, ?_⟩
            refine for_by N (fun i σ H' => ∃ y19, σ = [some (V.ref p), some (V.int size), some (V.int wide), some (V.ref t), some fv, some (V.int top), some (V.ref S), y7, none, some (V.int (N : Int)), some (V.ref T1), some (V.ref V0), some (V.ref Du), some (V.ref Tl), y14, some (V.ref G), none, some (V.ref To), some (V.ref Ts), y19] ∧ Ex G14 H')
              ⟨_, rfl, Ex.rfl⟩ (fun i σ H' hi pv => by show i < _; omega) (fun σ H' pv => by show _ ≤ N; omega) ?_ ?_
            · rintro i σ K1 x K2 hi ⟨y19, rfl, ei⟩ ⟨rfl, rfl⟩
              have ek : (0 + (i : Int)) = (i : Int) := Int.zero_add _
              have at_ : ∀ {H0 H1 : Hp} {st : List Int} {L : Addr} {bs : List Addr}, NewR H0 H1 (shn u f st N) L bs → ∃ b, bs[i]? = some b ∧ H1 b = some (.lst ((shw u.ns f.ss (sti u f st i)).map V.int)) := fun {H0 H1 st L bs} R => by
                have hl := R.len
                rw [shn_many] at hl
                have hb := List.getElem?_eq_getElem (show i < bs.length by omega)
                obtain ⟨_, r, h1, h2⟩ := R.row i _ hb
                rw [shn_at hi] at h1
                cases h1
                exact ⟨_, hb, h2⟩
              obtain ⟨bs1, hs1, hs2⟩ := at_ R14
              obtain ⟨bd1', hd1, hd2⟩ := at_ R3
              obtain ⟨bo1, ho1, ho2⟩ := at_ R13
              have e3i := (e311.tr e12).tr ((R13.ex.tr R14.ex).tr ei)
              have e13i := R14.ex.tr ei
              have atm : ∀ {bs : List Addr} {b : Addr}, bs[i]? = some b → atI (bs.map V.ref) (0 + (i : Int)) = some (.ref b) := fun {bs b} h => by
                rw [ek]
                exact atI_nat (by rw [List.getElem?_map, h]; rfl)
              refine ⟨_, rfl, _, rfl, Ts, _, 0 + (i : Int), .ref bs1, rfl, rfl, .inl (.inl (ei _ _ R14.at_)), atm hs1, ?_⟩
              have qd : SqL K K2 bd1' ((shw u.ns f.ss (sti u f r0 i)).map V.int) := .inl (.inl (e3i _ _ hd2))
              have qo : SqL K K2 bo1 ((shw u.ns f.ss (sti u f r1 i)).map V.int) := .inl (.inl (e13i _ _ ho2))
              refine ⟨_, rfl, _, rfl, Du, _, 0 + (i : Int), .ref bd1', rfl, rfl, .inl (.inl (e3i _ _ R3.at_)), atm hd1, _, rfl, _, rfl, To, _, 0 + (i : Int), .ref bo1, rfl, rfl, .inl (.inl (e13i _ _ R13.at_)), atm ho1, bd1', bo1, _, _, rfl, qd, qo, fun G2 hG2 => ?_⟩
              have wl : ∀ st : List Int, (shw u.ns f.ss st).length = u.ns.length := fun st => by
                unfold shw
                rw [List.length_map, List.length_zip, hok.slen, Nat.min_self]
              have e1 := wl (sti u f r0 i)
              have e2' := wl (sti u f r1 i)
              have add : shw u.ns f.ss (sti u f (addL r0 r1) i) = addL (shw u.ns f.ss (sti u f r0 i)) (shw u.ns f.ss (sti u f r1 i)) := by
                rw [sti_add l0 l1, shw_add (by have := sti_len (f := f) l0 i; have := sti_len (f := f) l1 i; omega)]
              rw [add] at hs2
              generalize shw u.ns f.ss (sti u f r0 i) = A at *
              generalize shw u.ns f.ss (sti u f r1 i) = B at *
              have hmin2 : min (A.map V.int).length (B.map V.int).length = A.length := by
                rw [List.length_map, List.length_map]
                omega
              refine lc_by A.length (fun j H' => Ex K2 H' ∧ H' G2 = some (.lst ((((A.zip B).take j).map fun z => z.1 + z.2).map V.int)))
                ⟨Ex.nw hG2, upd_same⟩ (fun j H' hj pv => itz_go qd qo pv.1 (by rw [hmin2]; exact hj)) (fun H' pv => by
                  have := itz_stop qd qo pv.1
                  rw [hmin2] at this
                  exact this) ?_ ?_
              · rintro j K3 x K4 hj ⟨e5, hG5⟩ ⟨T3, w1, w2, rfl, hT3, rfl, hw1, hw2⟩
                obtain ⟨x1, hx1, rfl⟩ := map_at (hw1 _ (e5.l qd))
                obtain ⟨y1, hy1, rfl⟩ := map_at (hw2 _ (e5.l qo))
                have e6 : Ex K3 (upd K3 T3 (.tup [.int x1, .int y1])) := Ex.nw hT3
                have f6 : (upd K3 T3 (.tup [.int x1, .int y1])) T3 = some (.tup [.int x1, .int y1]) := upd_same
                generalize upd K3 T3 (.tup [.int x1, .int y1]) = K5 at e6 f6
                have hzz : (A.zip B)[j]? = some (x1, y1) := (List.getElem?_zip_eq_some (z := (x1, y1))).mpr ⟨hx1, hy1⟩
                refine ⟨T3, _, rfl, .inl (.inl f6), rfl, _, _, rfl, _, _, rfl, rfl, rfl, ?_⟩
                refine ⟨_, rfl, _, rfl, _, _, rfl, rfl, _, e6 _ _ hG5, mil' ?_, (e5.tr e6).wr hG2, ?_⟩
                · rw [List.length_map, List.length_map, List.length_take]
                  omega
                · rw [upd_same, take_snoc hzz, List.map_append, List.map_append]
                  rfl
              · rintro K3 ⟨e5, hG5⟩
                have hzlen2 : (A.zip B).length = A.length := by
                  rw [List.length_zip]
                  omega
                rw [← hzlen2, List.take_length, addL_zip] at hG5
                have lAB : (addL A B).length ≤ 100000 := by
                  rw [addL_len (by omega)]
                  omega
                refine ⟨_, _, (dInts_of ((ei.tr e5) _ _ hs2) lAB).dInts, (dInts_of hG5 lAB).dInts, sh_dInts _, sh_dInts _, _, rfl, ?_⟩
                rw [eqv_dInts]
                refine ite2 (fun h => by simp at h) (fun _ => ?_)
                exact ⟨_, rfl, ei.tr e5⟩
            · rintro σ K1 ⟨y19, rfl, ei⟩
              have sl := R14.len
              rw [shn_many] at sl
              refine ⟨_, rfl, Ts, _, rfl, .inl (.inl (.inl (ei _ _ R14.at_))), _, rfl, rfl, ?_⟩
              rw [List.length_map, sl]
              rw [decide_eq_true rfl]
              have eF : Ex G0 K1 := e014.tr ei
              exact q K1 (e0.tr eF.d) (p10'.up eF)
end

end K36
namespace K36
open PySem PySem.Spec PyProof.Rows L2 Nw
/-! law: slots 0 _law_script, 1 _law_k, 2 _law_well_here, 3 _law_size, 4 _law_wide, 5 _law_chain, 6 _law_told -/
abbrev s_law : Stmt := topS 47
abbrev N_law : List Str := ["_law_script", "_law_k", "_law_well_here", "_law_size", "_law_wide", "_law_chain", "_law_told"]
abbrev P_law : List Str := ["_law_script"]
theorem sc_law : FnScope N_law P_law (defScope s_law) := ⟨rfl, rfl, rfl, by decide +kernel, rfl, by decide +kernel, by decide +kernel⟩
def sp_law (K : PySem.W.Frag) : Sp := fun vs H Q _ => ∃ (a : Addr) (ns : List Int), vs = [.ref a] ∧ ns.length ≤ 63 ∧ SqL K H a (ns.map V.int) ∧ ∀ H', Ex H H' → Q (.bl true) H'
theorem sp_law_start {K : PySem.W.Frag} {H : Hp} {a : Addr} {ns : List Int} (hl : ns.length ≤ 63) (hS : SqL K H a (ns.map V.int)) : sp_law K [.ref a] H (fun v _ => v = .bl true) (fun _ _ _ => False) :=
  ⟨a, ns, rfl, hl, hS, fun _ _ => rfl⟩
def dTwo (A B : List (List Int)) : PyData := .list [dRows A, dRows B]
section
variable {P : Program} {w : World} {K : PySem.W.Frag} {mg : Str → Option Value} {base : Heap}
theorem ok_law {f : Addr} {fd : FuncData} (T : Txt K mg) (F : Fun K "law" "law" s_law f fd)
    (D_shown : DefOk P w K mg base CX0 8 "shown" P_shown (sp_shown K))
    (D_well : DefOk P w K mg base CX0 1 "_law_well" P_well (sp_well K))
    (D_right : DefOk P w K mg base CX0 9 "_law_right" P_right (sp_right K)) :
    FnG P w K mg base CX0 10 f fd P_law (sp_law K) := by
  refine okG0 F sc_law (fun vs H Q E h => ?_) (fun cdv A outer s H vs Q E hr hq h => ?_)
  · obtain ⟨a, ns, rfl, _⟩ := h
    rfl
  · obtain ⟨a, ns, rfl, hn, hS, q⟩ := h
    refine ⟨_, (pss_cons (ps_for PassesOwn.never rfl (pi_range1 (by rfl) T.b_range (pa_cons (pe_callB (call_max2 rfl) (by rfl) T.b_max bt_max (pa_cons pe_int (pa_cons (pe_callB (call_min2 rfl) (by rfl) T.b_min bt_min (pa_cons pe_int (pa_cons (pe_callB (call_lenK K) (by rfl) T.b_len bt_len (pa_cons (pv 0) pa_nil)) pa_nil))) pa_nil))) pa_nil)) (pg_name (i := 1) sc_law.nd rfl (by first | exact .inl rfl | exact .inr rfl)) (pss_cons (ps_set (i := 2) sc_law.nd rfl (by first | exact .inl rfl | exact .inr rfl) (pe_callD D_well (hr.mono (by decide)) hq pass0 (pa_cons (pv 0) (pa_cons (pv 1) pa_nil))))
      (pss_one (ps_for PassesOwn.never rfl (pi_listK K (pe_lst (pa_cons (pe_tup (pa_cons pe_int (pa_cons pe_int pa_nil))) (pa_cons (pe_tup (pa_cons pe_int (pa_cons (pe_op op_powW pe_int pe_int) pa_nil))) (pa_cons (pe_tup (pa_cons pe_int (pa_cons pe_int pa_nil))) pa_nil))))) (pg_tupK (n := 2) K rfl (pgs_cons (pg_name (i := 3) sc_law.nd rfl (by first | exact .inl rfl | exact .inr rfl)) (pgs_cons (pg_name (i := 4) sc_law.nd rfl (by first | exact .inl rfl | exact .inr rfl)) pgs_nil))) (pss_one (ps_if (pt_not (pt_val (pe_callD D_right (hr.mono (by decide)) hq pass0 (pa_cons (pv 2) (pa_cons (pv 3) (pa_cons (pv 4) pa_nil)))))) (pss_one (ps_ret pe_bl)) pss_nil))))))
      (pss_cons (ps_set (i := 5) sc_law.nd rfl (by first | exact .inl rfl | exact .inr rfl) (pe_tup (pa_cons pe_int (pa_cons (pe_lst (pa_cons (pe_tup (pa_cons pe_int (pa_cons pe_int pa_nil))) (pa_cons (pe_tup (pa_cons pe_int (pa_cons pe_int pa_nil))) pa_nil))) (pa_cons (pe_lst (pa_cons (pe_lst (pa_cons pe_int pa_nil)) pa_nil)) pa_nil)))))
      (pss_cons (ps_set (i := 6) sc_law.nd rfl (by first | exact .inl rfl | exact .inr rfl) (pe_lst (pa_cons (pe_callD D_shown (hr.mono (by decide)) hq pass0 (pa_cons (pv 5) (pa_cons (pe_tup (pa_cons (pe_lst (pa_cons pe_int (pa_cons pe_int pa_nil))) (pa_cons (pe_lst (pa_cons (pe_lst (pa_cons pe_int pa_nil)) pa_nil)) pa_nil))) (pa_cons (pe_lst (pa_cons pe_int (pa_cons pe_int (pa_cons pe_int pa_nil)))) (pa_cons pe_int pa_nil))))) (pa_cons (pe_callD D_shown (hr.mono (by decide)) hq pass0 (pa_cons (pv 5) (pa_cons (pe_tup (pa_cons (pe_lst (pa_cons pe_int (pa_cons pe_int pa_nil))) (pa_cons (pe_lst (pa_cons (pe_lst (pa_cons pe_int pa_nil)) pa_nil)) pa_nil))) (pa_cons (pe_lst (pa_cons pe_int (pa_cons pe_int (pa_cons pe_int pa_nil)))) (pa_cons pe_int pa_nil))))) pa_nil))))
      (pss_one (ps_ret (pe_and (pe_cmpR (op_eqDk K hr.units) (pv 6) (pe_lst (pa_cons (pe_lst (pa_cons (pe_lst (pa_cons pe_int pa_nil)) (pa_cons (pe_lst (pa_cons pe_int pa_nil)) (pa_cons (pe_lst (pa_cons pe_int pa_nil)) pa_nil)))) (pa_cons (pe_lst pa_nil) pa_nil))) (nomark _)) (pe_one (pe_cmpR (op_eqDk K hr.units) (pe_callD D_shown (hr.mono (by decide)) hq pass0 (pa_cons (pe_tup (pa_cons pe_int (pa_cons (pe_lst pa_nil) (pa_cons (pe_lst pa_nil) pa_nil)))) (pa_cons (pe_tup (pa_cons (pe_lst pa_nil) (pa_cons (pe_lst pa_nil) pa_nil))) (pa_cons (pe_lst (pa_cons pe_int pa_nil)) (pa_cons pe_int pa_nil))))) (pe_lst (pa_cons (pe_lst pa_nil) (pa_cons (pe_lst pa_nil) pa_nil))) (nomark _))))))))), ?_⟩
    refine ⟨_, rfl, a, _, rfl, .inl hS, ?_⟩
    have hmm : ∃ m : Int, m = (if (if ((ns.map V.int).length : Int) < 4 then ((ns.map V.int).length : Int) else 4) > 1 then (if ((ns.map V.int).length : Int) < 4 then ((ns.map V.int).length : Int) else 4) else 1) ∧ 0 ≤ m ∧ m ≤ 4 := by
      refine ⟨_, rfl, ?_, ?_⟩
      · split <;> split <;> omega
      · split <;> split <;> omega
    obtain ⟨m, em, m0, m6⟩ := hmm
    refine ⟨_, _, rfl, _, _, rfl, m, by rw [em], by omega, by omega, ?_⟩
    refine for_by m.toNat (fun i σ H' => ∃ y1 y2 y3 y4 y5 y6, σ = [some (V.ref a), y1, y2, y3, y4, y5, y6] ∧ Ex H H')
      ⟨_, _, _, _, _, _, rfl, Ex.rfl⟩ (fun i σ H' hi p => hi) (fun σ H' p => Nat.le_refl _) ?_ ?_
    · rintro i σ H1 x H2 hi ⟨y1, y2, y3, y4, y5, y6, rfl, e1⟩ ⟨rfl, rfl⟩
      refine ⟨_, rfl, _, rfl, a, ns, (0 + (i : Int)), rfl, e1.l hS, by omega, fun p H3 hp e3 p3 => ?_⟩
      refine ⟨by show 2 ≤ sizeLine; decide, fun At1 Ah1 => ?_⟩
      have AE1 : Ex H3 (upd H3 At1 (.tup [.int 6, .int 3])) := Ex.nw Ah1
      have AF1 : (upd H3 At1 (.tup [.int 6, .int 3])) At1 = some (.tup [.int 6, .int 3]) := upd_same
      generalize upd H3 At1 (.tup [.int 6, .int 3]) = A1 at AE1 AF1
      refine ⟨_, _, rfl, rfl, cpow10 (by decide) (by decide), by show 2 ≤ sizeLine; decide, fun At2 Ah2 => ?_⟩
      have AE2 : Ex A1 (upd A1 At2 (.tup [.int 20, .int (10 ^ Int.toNat 6)])) := Ex.nw Ah2
      have AF2 : (upd A1 At2 (.tup [.int 20, .int (10 ^ Int.toNat 6)])) At2 = some (.tup [.int 20, .int (10 ^ Int.toNat 6)]) := upd_same
      generalize upd A1 At2 (.tup [.int 20, .int (10 ^ Int.toNat 6)]) = A2 at AE2 AF2
      refine ⟨by show 2 ≤ sizeLine; decide, fun At3 Ah3 => ?_⟩
      have AE3 : Ex A2 (upd A2 At3 (.tup [.int 4, .int 1])) := Ex.nw Ah3
      have AF3 : (upd A2 At3 (.tup [.int 4, .int 1])) At3 = some (.tup [.int 4, .int 1]) := upd_same
      generalize upd A2 At3 (.tup [.int 4, .int 1]) = A3 at AE3 AF3
      refine ⟨by show 3 ≤ sizeLine; decide, fun At4 Ah4 => ?_⟩
      have AE4 : Ex A3 (upd A3 At4 (.lst [.ref At1, .ref At2, .ref At3])) := Ex.nw Ah4
      have AF4 : (upd A3 At4 (.lst [.ref At1, .ref At2, .ref At3])) At4 = some (.lst [.ref At1, .ref At2, .ref At3]) := upd_same
      generalize upd A3 At4 (.lst [.ref At1, .ref At2, .ref At3]) = A4 at AE4 AF4
      have AU4 : Ex A4 A4 := Ex.rfl
      have AU3 := AE4.tr AU4
      have AU2 := AE3.tr AU3
      have AU1 := AE2.tr AU2
      have AU0 := AE1.tr AU1
      have pA := p3.up AU0
      have hSD : SqL K A4 At4 _ := .inl (.inl AF4)
      refine ⟨At4, rfl, ⟨_, hSD⟩, ?_⟩
      have hpD : At4 ≠ p := p3.off (AE1.fr (AE2.fr (AE3.fr Ah4)))
      refine for_by 3 (fun j σ H' => ∃ y3 y4 y5 y6, σ = [some (V.ref a), some (V.int (0 + (i : Int))), some (V.ref p), y3, y4, y5, y6] ∧ ExD p A4 H' ∧ Purse H' p (10000 * j))
        ⟨_, _, _, _, rfl, fun _ _ _ h => h, pA⟩ (fun j σ H' hj p => ?_) (fun σ H' p => ?_) ?_ ?_
      · obtain ⟨_, _, _, _, _, h4, _⟩ := p
        exact itl_go (h4.l hpD hSD) Ex.rfl hj
      · obtain ⟨_, _, _, _, _, h4, _⟩ := p
        exact itl_stop (h4.l hpD hSD) Ex.rfl
      · rintro j σ H5 x H6 hj ⟨y3, y4, y5, y6, rfl, e5, p5⟩ ⟨rfl, hx⟩
        have hx := hx _ (e5.l hpD hSD)
        have off : ∀ (T : Addr) (z1 z2 : Int), A4 T = some (.tup [.int z1, .int z2]) → H6 T = some (.tup [.int z1, .int z2]) := fun T z1 z2 hT => by
          refine e5 _ _ (fun e => ?_) hT
          obtain ⟨_, _, _, hp5, _⟩ := pA.ex
          rw [e, hp5] at hT
          cases hT
        obtain ⟨T, z1, z2, rfl, hT, h1, h2⟩ : ∃ (T : Addr) (z1 z2 : Int), x = .ref T ∧ H6 T = some (.tup [.int z1, .int z2]) ∧ (1 ≤ z1 ∧ z1 ≤ 20) ∧ (1 ≤ z2 ∧ z2 ≤ 1000000) := by
          match j, hj, hx with
          | 0, _, hx => exact ⟨At1, 6, 3, (Option.some.inj hx).symm, off _ _ _ (AU1 _ _ AF1), by decide, by decide⟩
          | 1, _, hx => exact ⟨At2, 20, _, (Option.some.inj hx).symm, off _ _ _ (AU2 _ _ AF2), by decide, by rw [p6]; decide⟩
          | 2, _, hx => exact ⟨At3, 4, 1, (Option.some.inj hx).symm, off _ _ _ (AU3 _ _ AF3), by decide, by decide⟩
        refine ⟨T, _, rfl, .inl (.inl hT), rfl, _, _, rfl, _, _, rfl, rfl, ?_⟩
        refine ⟨_, rfl, _, rfl, _, rfl, p, z1, z2, 10000 * j, rfl, h1, h2, p5, by omega, fun H8 e8 p8 => ?_⟩
        refine ⟨true, rfl, ite2 (fun h1 => ?_) (fun _ => ?_)⟩
        · cases h1
        · exact ⟨_, _, _, _, rfl, e5.tr e8, p8.mono (by omega)⟩
      · rintro σ H5 ⟨y3, y4, y5, y6, rfl, e5, p5⟩
        exact ⟨_, _, _, _, _, _, rfl, e1.tr (fun b o g => e5 b o (fun n => by rw [n, hp] at g; cases g) (AU0 b o (e3 b o g)))⟩
    · rintro σ H1 ⟨y1, y2, y3, y4, y5, y6, rfl, e1⟩
      refine ⟨by show 2 ≤ sizeLine; decide, fun Bt1 Bh1 => ?_⟩
      have BE1 : Ex H1 (upd H1 Bt1 (.tup [.int 1, .int 0])) := Ex.nw Bh1
      have BF1 : (upd H1 Bt1 (.tup [.int 1, .int 0])) Bt1 = some (.tup [.int 1, .int 0]) := upd_same
      generalize upd H1 Bt1 (.tup [.int 1, .int 0]) = B1 at BE1 BF1
      refine ⟨by show 2 ≤ sizeLine; decide, fun Bt2 Bh2 => ?_⟩
      have BE2 : Ex B1 (upd B1 Bt2 (.tup [.int 2, .int 1])) := Ex.nw Bh2
      have BF2 : (upd B1 Bt2 (.tup [.int 2, .int 1])) Bt2 = some (.tup [.int 2, .int 1]) := upd_same
      generalize upd B1 Bt2 (.tup [.int 2, .int 1]) = B2 at BE2 BF2
      refine ⟨by show 2 ≤ sizeLine; decide, fun Bt3 Bh3 => ?_⟩
      have BE3 : Ex B2 (upd B2 Bt3 (.lst [.ref Bt1, .ref Bt2])) := Ex.nw Bh3
      have BF3 : (upd B2 Bt3 (.lst [.ref Bt1, .ref Bt2])) Bt3 = some (.lst [.ref Bt1, .ref Bt2]) := upd_same
      generalize upd B2 Bt3 (.lst [.ref Bt1, .ref Bt2]) = B3 at BE3 BF3
      refine ⟨by show 1 ≤ sizeLine; decide, fun Bt4 Bh4 => ?_⟩
      have BE4 : Ex B3 (upd B3 Bt4 (.lst [.int 0])) := Ex.nw Bh4
      have BF4 : (upd B3 Bt4 (.lst [.int 0])) Bt4 = some (.lst [.int 0]) := upd_same
      generalize upd B3 Bt4 (.lst [.int 0]) = B4 at BE4 BF4
      refine ⟨by show 1 ≤ sizeLine; decide, fun Bt5 Bh5 => ?_⟩
      have BE5 : Ex B4 (upd B4 Bt5 (.lst [.ref Bt4])) := Ex.nw Bh5
      have BF5 : (upd B4 Bt5 (.lst [.ref Bt4])) Bt5 = some (.lst [.ref Bt4]) := upd_same
      generalize upd B4 Bt5 (.lst [.ref Bt4]) = B5 at BE5 BF5
      refine ⟨by show 3 ≤ sizeLine; decide, fun Bt6 Bh6 => ?_⟩
      have BE6 : Ex B5 (upd B5 Bt6 (.tup [.int 3, .ref Bt3, .ref Bt5])) := Ex.nw Bh6
      have BF6 : (upd B5 Bt6 (.tup [.int 3, .ref Bt3, .ref Bt5])) Bt6 = some (.tup [.int 3, .ref Bt3, .ref Bt5]) := upd_same
      generalize upd B5 Bt6 (.tup [.int 3, .ref Bt3, .ref Bt5]) = B6 at BE6 BF6
      refine ⟨_, rfl, by show 2 ≤ sizeLine; decide, fun Bt7 Bh7 => ?_⟩
      have BE7 : Ex B6 (upd B6 Bt7 (.lst [.int 2, .int 3])) := Ex.nw Bh7
      have BF7 : (upd B6 Bt7 (.lst [.int 2, .int 3])) Bt7 = some (.lst [.int 2, .int 3]) := upd_same
      generalize upd B6 Bt7 (.lst [.int 2, .int 3]) = B7 at BE7 BF7
      refine ⟨by show 1 ≤ sizeLine; decide, fun Bt8 Bh8 => ?_⟩
      have BE8 : Ex B7 (upd B7 Bt8 (.lst [.int 1])) := Ex.nw Bh8
      have BF8 : (upd B7 Bt8 (.lst [.int 1])) Bt8 = some (.lst [.int 1]) := upd_same
      generalize upd B7 Bt8 (.lst [.int 1]) = B8 at BE8 BF8
      refine ⟨by show 1 ≤ sizeLine; decide, fun Bt9 Bh9 => ?_⟩
      have BE9 : Ex B8 (upd B8 Bt9 (.lst [.ref Bt8])) := Ex.nw Bh9
      have BF9 : (upd B8 Bt9 (.lst [.ref Bt8])) Bt9 = some (.lst [.ref Bt8]) := upd_same
      generalize upd B8 Bt9 (.lst [.ref Bt8]) = B9 at BE9 BF9
      refine ⟨by show 2 ≤ sizeLine; decide, fun Bt10 Bh10 => ?_⟩
      have BE10 : Ex B9 (upd B9 Bt10 (.tup [.ref Bt7, .ref Bt9])) := Ex.nw Bh10
      have BF10 : (upd B9 Bt10 (.tup [.ref Bt7, .ref Bt9])) Bt10 = some (.tup [.ref Bt7, .ref Bt9]) := upd_same
      generalize upd B9 Bt10 (.tup [.ref Bt7, .ref Bt9]) = B10 at BE10 BF10
      refine ⟨by show 3 ≤ sizeLine; decide, fun Bt11 Bh11 => ?_⟩
      have BE11 : Ex B10 (upd B10 Bt11 (.lst [.int 1, .int 10, .int 100])) := Ex.nw Bh11
      have BF11 : (upd B10 Bt11 (.lst [.int 1, .int 10, .int 100])) Bt11 = some (.lst [.int 1, .int 10, .int 100]) := upd_same
      generalize upd B10 Bt11 (.lst [.int 1, .int 10, .int 100]) = B11 at BE11 BF11
      have BU11 : Ex B11 B11 := Ex.rfl
      have BU10 := BE11.tr BU11
      have BU9 := BE10.tr BU10
      have BU8 := BE9.tr BU9
      have BU7 := BE8.tr BU8
      have BU6 := BE7.tr BU7
      have BU5 := BE6.tr BU6
      have BU4 := BE5.tr BU5
      have BU3 := BE4.tr BU4
      have BU2 := BE3.tr BU3
      have BU1 := BE2.tr BU2
      have BU0 := BE1.tr BU1
      have hu : (Wb.mk 3 [(1, 0), (2, 1)] [[0]]).Ok := ⟨by decide, by decide, by decide, by decide, by decide, by decide⟩
      have hok : (Fl.mk [2, 3] [[1]]).Ok (Wb.mk 3 [(1, 0), (2, 1)] [[0]]) := by
        refine ⟨rfl, ?_, rfl, ?_⟩
        · intro x hx
          rcases List.mem_cons.mp hx with rfl | hx
          · exact ⟨by decide, by decide, by decide⟩
          · obtain rfl := List.mem_singleton.mp hx
            exact ⟨by decide, by decide, by decide⟩
        · intro r hr x hx
          obtain rfl := List.mem_singleton.mp hr
          obtain rfl := List.mem_singleton.mp hx
          exact ⟨by decide, by decide, by decide⟩
      have hu0 : (Wb.mk 1 [] []).Ok := ⟨by decide, by decide, by decide, by decide, by decide, by decide⟩
      have hok0 : (Fl.mk [] []).Ok (Wb.mk 1 [] []) := ⟨rfl, fun x hx => (nomatch hx), rfl, fun r hr => (nomatch hr)⟩
      have v3 : shn (Wb.mk 3 [(1, 0), (2, 1)] [[0]]) (Fl.mk [2, 3] [[1]]) [1, 10, 100] 3 = [[1], [20], [600]] := by decide
      have v0 : shn (Wb.mk 3 [(1, 0), (2, 1)] [[0]]) (Fl.mk [2, 3] [[1]]) [1, 10, 100] 0 = [] := by decide
      have v2 : shn (Wb.mk 1 [] []) (Fl.mk [] []) [5] 2 = [[], []] := by decide
      have dW : Da K B11 (Wb.d ⟨3, [(1, 0), (2, 1)], [[0]]⟩) (.ref Bt6) := ⟨Bt6, _, rfl, BU6 _ _ BF6, ⟨_, _, rfl, rfl, ⟨_, _, rfl, ⟨Bt3, _, rfl, BU3 _ _ BF3, ⟨_, _, rfl, ⟨Bt1, _, rfl, BU1 _ _ BF1, ⟨_, _, rfl, rfl, ⟨_, _, rfl, rfl, rfl⟩⟩⟩, ⟨_, _, rfl, ⟨Bt2, _, rfl, BU2 _ _ BF2, ⟨_, _, rfl, rfl, ⟨_, _, rfl, rfl, rfl⟩⟩⟩, rfl⟩⟩, by decide⟩, ⟨_, _, rfl, ⟨Bt5, _, rfl, BU5 _ _ BF5, ⟨_, _, rfl, ⟨Bt4, _, rfl, BU4 _ _ BF4, ⟨_, _, rfl, rfl, rfl⟩, by decide⟩, rfl⟩, by decide⟩, rfl⟩⟩⟩⟩
      have dF : Da K B11 (Fl.d ⟨[2, 3], [[1]]⟩) (.ref Bt10) := ⟨Bt10, _, rfl, BU10 _ _ BF10, ⟨_, _, rfl, ⟨Bt7, _, rfl, BU7 _ _ BF7, ⟨_, _, rfl, rfl, ⟨_, _, rfl, rfl, rfl⟩⟩, by decide⟩, ⟨_, _, rfl, ⟨Bt9, _, rfl, BU9 _ _ BF9, ⟨_, _, rfl, ⟨Bt8, _, rfl, BU8 _ _ BF8, ⟨_, _, rfl, rfl, rfl⟩, by decide⟩, rfl⟩, by decide⟩, rfl⟩⟩⟩
      have dS : Da K B11 (dInts [1, 10, 100]) (.ref Bt11) := ⟨Bt11, _, rfl, BU11 _ _ BF11, ⟨_, _, rfl, rfl, ⟨_, _, rfl, rfl, ⟨_, _, rfl, rfl, rfl⟩⟩⟩, by decide⟩
      refine ⟨_, _, _, _, _, _, 3, rfl, dW, hu, dF, hok, dS, rfl, by decide, fun L1 b1 G1 R1 => ?_⟩
      rw [v3] at R1
      refine ⟨_, rfl, by show 2 ≤ sizeLine; decide, fun Ct1 Ch1 => ?_⟩
      have CE1 : Ex G1 (upd G1 Ct1 (.lst [.int 2, .int 3])) := Ex.nw Ch1
      have CF1 : (upd G1 Ct1 (.lst [.int 2, .int 3])) Ct1 = some (.lst [.int 2, .int 3]) := upd_same
      generalize upd G1 Ct1 (.lst [.int 2, .int 3]) = C1 at CE1 CF1
      refine ⟨by show 1 ≤ sizeLine; decide, fun Ct2 Ch2 => ?_⟩
      have CE2 : Ex C1 (upd C1 Ct2 (.lst [.int 1])) := Ex.nw Ch2
      have CF2 : (upd C1 Ct2 (.lst [.int 1])) Ct2 = some (.lst [.int 1]) := upd_same
      generalize upd C1 Ct2 (.lst [.int 1]) = C2 at CE2 CF2
      refine ⟨by show 1 ≤ sizeLine; decide, fun Ct3 Ch3 => ?_⟩
      have CE3 : Ex C2 (upd C2 Ct3 (.lst [.ref Ct2])) := Ex.nw Ch3
      have CF3 : (upd C2 Ct3 (.lst [.ref Ct2])) Ct3 = some (.lst [.ref Ct2]) := upd_same
      generalize upd C2 Ct3 (.lst [.ref Ct2]) = C3 at CE3 CF3
      refine ⟨by show 2 ≤ sizeLine; decide, fun Ct4 Ch4 => ?_⟩
      have CE4 : Ex C3 (upd C3 Ct4 (.tup [.ref Ct1, .ref Ct3])) := Ex.nw Ch4
      have CF4 : (upd C3 Ct4 (.tup [.ref Ct1, .ref Ct3])) Ct4 = some (.tup [.ref Ct1, .ref Ct3]) := upd_same
      generalize upd C3 Ct4 (.tup [.ref Ct1, .ref Ct3]) = C4 at CE4 CF4
      refine ⟨by show 3 ≤ sizeLine; decide, fun Ct5 Ch5 => ?_⟩
      have CE5 : Ex C4 (upd C4 Ct5 (.lst [.int 1, .int 10, .int 100])) := Ex.nw Ch5
      have CF5 : (upd C4 Ct5 (.lst [.int 1, .int 10, .int 100])) Ct5 = some (.lst [.int 1, .int 10, .int 100]) := upd_same
      generalize upd C4 Ct5 (.lst [.int 1, .int 10, .int 100]) = C5 at CE5 CF5
      have CU5 : Ex C5 C5 := Ex.rfl
      have CU4 := CE5.tr CU5
      have CU3 := CE4.tr CU4
      have CU2 := CE3.tr CU3
      have CU1 := CE2.tr CU2
      have CU0 := CE1.tr CU1
      have dF2 : Da K C5 (Fl.d ⟨[2, 3], [[1]]⟩) (.ref Ct4) := ⟨Ct4, _, rfl, CU4 _ _ CF4, ⟨_, _, rfl, ⟨Ct1, _, rfl, CU1 _ _ CF1, ⟨_, _, rfl, rfl, ⟨_, _, rfl, rfl, rfl⟩⟩, by decide⟩, ⟨_, _, rfl, ⟨Ct3, _, rfl, CU3 _ _ CF3, ⟨_, _, rfl, ⟨Ct2, _, rfl, CU2 _ _ CF2, ⟨_, _, rfl, rfl, rfl⟩, by decide⟩, rfl⟩, by decide⟩, rfl⟩⟩⟩
      have dS2 : Da K C5 (dInts [1, 10, 100]) (.ref Ct5) := ⟨Ct5, _, rfl, CU5 _ _ CF5, ⟨_, _, rfl, rfl, ⟨_, _, rfl, rfl, ⟨_, _, rfl, rfl, rfl⟩⟩⟩, by decide⟩
      have e12 := R1.ex.tr CU0
      refine ⟨_, _, _, _, _, _, 0, rfl, dW.up e12, hu, dF2, hok, dS2, rfl, by decide, fun L2 b2 G2 R2 => ?_⟩
      rw [v0] at R2
      refine ⟨by show 2 ≤ sizeLine; decide, fun L3 h3 => ?_⟩
      have eL : Ex G2 (upd G2 L3 (.lst [.ref L1, .ref L2])) := Ex.nw h3
      have fL : (upd G2 L3 (.lst [.ref L1, .ref L2])) L3 = some (.lst [.ref L1, .ref L2]) := upd_same
      generalize upd G2 L3 (.lst [.ref L1, .ref L2]) = G3 at eL fL
      have dR1 : Da K G3 (dRows [[1], [20], [600]]) (.ref L1) := (R1.da (by decide) (by decide)).up (CU0.tr (R2.ex.tr eL))
      have dR2 : Da K G3 (dRows []) (.ref L2) := (R2.da (by decide) (by decide)).up eL
      have dT : Da K G3 (dTwo [[1], [20], [600]] []) (.ref L3) := ⟨L3, _, rfl, fL, ⟨_, _, rfl, dR1, _, _, rfl, dR2, rfl⟩, by decide⟩
      refine ⟨_, rfl, by show 1 ≤ sizeLine; decide, fun Dt1 Dh1 => ?_⟩
      have DE1 : Ex G3 (upd G3 Dt1 (.lst [.int 1])) := Ex.nw Dh1
      have DF1 : (upd G3 Dt1 (.lst [.int 1])) Dt1 = some (.lst [.int 1]) := upd_same
      generalize upd G3 Dt1 (.lst [.int 1]) = D1 at DE1 DF1
      refine ⟨by show 1 ≤ sizeLine; decide, fun Dt2 Dh2 => ?_⟩
      have DE2 : Ex D1 (upd D1 Dt2 (.lst [.int 20])) := Ex.nw Dh2
      have DF2 : (upd D1 Dt2 (.lst [.int 20])) Dt2 = some (.lst [.int 20]) := upd_same
      generalize upd D1 Dt2 (.lst [.int 20]) = D2 at DE2 DF2
      refine ⟨by show 1 ≤ sizeLine; decide, fun Dt3 Dh3 => ?_⟩
      have DE3 : Ex D2 (upd D2 Dt3 (.lst [.int 600])) := Ex.nw Dh3
      have DF3 : (upd D2 Dt3 (.lst [.int 600])) Dt3 = some (.lst [.int 600]) := upd_same
      generalize upd D2 Dt3 (.lst [.int 600]) = D3 at DE3 DF3
      refine ⟨by show 3 ≤ sizeLine; decide, fun Dt4 Dh4 => ?_⟩
      have DE4 : Ex D3 (upd D3 Dt4 (.lst [.ref Dt1, .ref Dt2, .ref Dt3])) := Ex.nw Dh4
      have DF4 : (upd D3 Dt4 (.lst [.ref Dt1, .ref Dt2, .ref Dt3])) Dt4 = some (.lst [.ref Dt1, .ref Dt2, .ref Dt3]) := upd_same
      generalize upd D3 Dt4 (.lst [.ref Dt1, .ref Dt2, .ref Dt3]) = D4 at DE4 DF4
      refine ⟨Nat.zero_le _, fun Dt5 Dh5 => ?_⟩
      have DE5 : Ex D4 (upd D4 Dt5 (.lst [])) := Ex.nw Dh5
      have DF5 : (upd D4 Dt5 (.lst [])) Dt5 = some (.lst []) := upd_same
      generalize upd D4 Dt5 (.lst []) = D5 at DE5 DF5
      refine ⟨by show 2 ≤ sizeLine; decide, fun Dt6 Dh6 => ?_⟩
      have DE6 : Ex D5 (upd D5 Dt6 (.lst [.ref Dt4, .ref Dt5])) := Ex.nw Dh6
      have DF6 : (upd D5 Dt6 (.lst [.ref Dt4, .ref Dt5])) Dt6 = some (.lst [.ref Dt4, .ref Dt5]) := upd_same
      generalize upd D5 Dt6 (.lst [.ref Dt4, .ref Dt5]) = D6 at DE6 DF6
      have DU6 : Ex D6 D6 := Ex.rfl
      have DU5 := DE6.tr DU6
      have DU4 := DE5.tr DU5
      have DU3 := DE4.tr DU4
      have DU2 := DE3.tr DU3
      have DU1 := DE2.tr DU2
      have DU0 := DE1.tr DU1
      have dT2 : Da K D6 (dTwo [[1], [20], [600]] []) (.ref Dt6) := ⟨Dt6, _, rfl, DU6 _ _ DF6, ⟨_, _, rfl, ⟨Dt4, _, rfl, DU4 _ _ DF4, ⟨_, _, rfl, ⟨Dt1, _, rfl, DU1 _ _ DF1, ⟨_, _, rfl, rfl, rfl⟩, by decide⟩, ⟨_, _, rfl, ⟨Dt2, _, rfl, DU2 _ _ DF2, ⟨_, _, rfl, rfl, rfl⟩, by decide⟩, ⟨_, _, rfl, ⟨Dt3, _, rfl, DU3 _ _ DF3, ⟨_, _, rfl, rfl, rfl⟩, by decide⟩, rfl⟩⟩⟩, by decide⟩, ⟨_, _, rfl, ⟨Dt5, _, rfl, DU5 _ _ DF5, rfl, by decide⟩, rfl⟩⟩, by decide⟩
      have nd : (dTwo [[1], [20], [600]] []).hasDict = false := by decide +kernel
      have shp : SeqAt.shaped (dTwo [[1], [20], [600]] []) = true := by decide +kernel
      have eqq : PyData.eqv (dTwo [[1], [20], [600]] []) (dTwo [[1], [20], [600]] []) = true := by decide +kernel
      refine ⟨_, _, (dT.up DU0).dp _ _ nd, dT2.dp _ _ nd, shp, shp, _, rfl, ?_⟩
      rw [eqq, if_pos rfl]
      refine ⟨Nat.zero_le _, fun Et1 Eh1 => ?_⟩
      have EE1 : Ex D6 (upd D6 Et1 (.lst [])) := Ex.nw Eh1
      have EF1 : (upd D6 Et1 (.lst [])) Et1 = some (.lst []) := upd_same
      generalize upd D6 Et1 (.lst []) = E1 at EE1 EF1
      refine ⟨Nat.zero_le _, fun Et2 Eh2 => ?_⟩
      have EE2 : Ex E1 (upd E1 Et2 (.lst [])) := Ex.nw Eh2
      have EF2 : (upd E1 Et2 (.lst [])) Et2 = some (.lst []) := upd_same
      generalize upd E1 Et2 (.lst []) = E2 at EE2 EF2
      refine ⟨by show 3 ≤ sizeLine; decide, fun Et3 Eh3 => ?_⟩
      have EE3 : Ex E2 (upd E2 Et3 (.tup [.int 1, .ref Et1, .ref Et2])) := Ex.nw Eh3
      have EF3 : (upd E2 Et3 (.tup [.int 1, .ref Et1, .ref Et2])) Et3 = some (.tup [.int 1, .ref Et1, .ref Et2]) := upd_same
      generalize upd E2 Et3 (.tup [.int 1, .ref Et1, .ref Et2]) = E3 at EE3 EF3
      refine ⟨Nat.zero_le _, fun Et4 Eh4 => ?_⟩
      have EE4 : Ex E3 (upd E3 Et4 (.lst [])) := Ex.nw Eh4
      have EF4 : (upd E3 Et4 (.lst [])) Et4 = some (.lst []) := upd_same
      generalize upd E3 Et4 (.lst []) = E4 at EE4 EF4
      refine ⟨Nat.zero_le _, fun Et5 Eh5 => ?_⟩
      have EE5 : Ex E4 (upd E4 Et5 (.lst [])) := Ex.nw Eh5
      have EF5 : (upd E4 Et5 (.lst [])) Et5 = some (.lst []) := upd_same
      generalize upd E4 Et5 (.lst []) = E5 at EE5 EF5
      refine ⟨by show 2 ≤ sizeLine; decide, fun Et6 Eh6 => ?_⟩
      have EE6 : Ex E5 (upd E5 Et6 (.tup [.ref Et4, .ref Et5])) := Ex.nw Eh6
      have EF6 : (upd E5 Et6 (.tup [.ref Et4, .ref Et5])) Et6 = some (.tup [.ref Et4, .ref Et5]) := upd_same
      generalize upd E5 Et6 (.tup [.ref Et4, .ref Et5]) = E6 at EE6 EF6
      refine ⟨by show 1 ≤ sizeLine; decide, fun Et7 Eh7 => ?_⟩
      have EE7 : Ex E6 (upd E6 Et7 (.lst [.int 5])) := Ex.nw Eh7
      have EF7 : (upd E6 Et7 (.lst [.int 5])) Et7 = some (.lst [.int 5]) := upd_same
      generalize upd E6 Et7 (.lst [.int 5]) = E7 at EE7 EF7
      have EU7 : Ex E7 E7 := Ex.rfl
      have EU6 := EE7.tr EU7
      have EU5 := EE6.tr EU6
      have EU4 := EE5.tr EU5
      have EU3 := EE4.tr EU4
      have EU2 := EE3.tr EU3
      have EU1 := EE2.tr EU2
      have EU0 := EE1.tr EU1
      have dW4 : Da K E7 (Wb.d ⟨1, [], []⟩) (.ref Et3) := ⟨Et3, _, rfl, EU3 _ _ EF3, ⟨_, _, rfl, rfl, ⟨_, _, rfl, ⟨Et1, _, rfl, EU1 _ _ EF1, rfl, by decide⟩, ⟨_, _, rfl, ⟨Et2, _, rfl, EU2 _ _ EF2, rfl, by decide⟩, rfl⟩⟩⟩⟩
      have dF4 : Da K E7 (Fl.d ⟨[], []⟩) (.ref Et6) := ⟨Et6, _, rfl, EU6 _ _ EF6, ⟨_, _, rfl, ⟨Et4, _, rfl, EU4 _ _ EF4, rfl, by decide⟩, ⟨_, _, rfl, ⟨Et5, _, rfl, EU5 _ _ EF5, rfl, by decide⟩, rfl⟩⟩⟩
      have dS4 : Da K E7 (dInts [5]) (.ref Et7) := ⟨Et7, _, rfl, EU7 _ _ EF7, ⟨_, _, rfl, rfl, rfl⟩, by decide⟩
      refine ⟨_, _, _, _, _, _, 2, rfl, dW4, hu0, dF4, hok0, dS4, rfl, by decide, fun L5 b5 G5 R5 => ?_⟩
      rw [v2] at R5
      refine ⟨Nat.zero_le _, fun Ft1 Fh1 => ?_⟩
      have FE1 : Ex G5 (upd G5 Ft1 (.lst [])) := Ex.nw Fh1
      have FF1 : (upd G5 Ft1 (.lst [])) Ft1 = some (.lst []) := upd_same
      generalize upd G5 Ft1 (.lst []) = F1 at FE1 FF1
      refine ⟨Nat.zero_le _, fun Ft2 Fh2 => ?_⟩
      have FE2 : Ex F1 (upd F1 Ft2 (.lst [])) := Ex.nw Fh2
      have FF2 : (upd F1 Ft2 (.lst [])) Ft2 = some (.lst []) := upd_same
      generalize upd F1 Ft2 (.lst []) = F2 at FE2 FF2
      refine ⟨by show 2 ≤ sizeLine; decide, fun Ft3 Fh3 => ?_⟩
      have FE3 : Ex F2 (upd F2 Ft3 (.lst [.ref Ft1, .ref Ft2])) := Ex.nw Fh3
      have FF3 : (upd F2 Ft3 (.lst [.ref Ft1, .ref Ft2])) Ft3 = some (.lst [.ref Ft1, .ref Ft2]) := upd_same
      generalize upd F2 Ft3 (.lst [.ref Ft1, .ref Ft2]) = F3 at FE3 FF3
      have FU3 : Ex F3 F3 := Ex.rfl
      have FU2 := FE3.tr FU3
      have FU1 := FE2.tr FU2
      have FU0 := FE1.tr FU1
      have d5 : Da K F3 (dRows [[], []]) (.ref L5) := (R5.da (by decide) (by decide)).up FU0
      have d6 : Da K F3 (dRows [[], []]) (.ref Ft3) := ⟨Ft3, _, rfl, FU3 _ _ FF3, ⟨_, _, rfl, ⟨Ft1, _, rfl, FU1 _ _ FF1, rfl, by decide⟩, ⟨_, _, rfl, ⟨Ft2, _, rfl, FU2 _ _ FF2, rfl, by decide⟩, rfl⟩⟩, by decide⟩
      refine ⟨_, _, d5.dRows, d6.dRows, sh_dRows _, sh_dRows _, ?_⟩
      rw [eqv_dRows, decide_eq_true rfl]
      exact q _ (e1.tr (BU0.tr (R1.ex.tr (CU0.tr (R2.ex.tr (eL.tr (DU0.tr (EU0.tr (R5.ex.tr FU0)))))))))
end

end K36
namespace K36
open PySem PySem.Spec PyProof.Rows L2 Nw
theorem all_mk {l : PySem.W.OpenLaw} {w : World} {K : PySem.W.Frag} {h : Heap} {mg : Str → Option Value} {fa : Addr} (X : K.In h) (G : h.Ns mainGlobals mg) (hfa : mg "law" = some (.ref fa))
    {f0 f1 f2 f3 f4 f5 f6 f7 f8 f9 f10 f11 f12 f13 f14 f15 f16 f17 f18 f19 f20 f21 f22 f23 f24 f25 f26 f27 f28 f29 f30 f31 : Addr} {od0 an0 od1 an1 od2 an2 od3 an3 od4 an4 od5 an5 od6 an6 od7 an7 od8 an8 od9 an9 od10 an10 od11 an11 od12 an12 od13 an13 od14 an14 od15 an15 od16 an16 od17 an17 od18 an18 od19 an19 od20 an20 od21 an21 od22 an22 od23 an23 od24 an24 od25 an25 od26 an26 od27 an27 od28 an28 od29 an29 od30 an30 od31 an31 : Option Addr} {sl0 sl1 sl2 sl3 sl4 sl5 sl6 sl7 sl8 sl9 sl10 sl11 sl12 sl13 sl14 sl15 sl16 sl17 sl18 sl19 sl20 sl21 sl22 sl23 sl24 sl25 sl26 sl27 sl28 sl29 sl30 sl31 : Array (Option Value)}
    {oc0 kV0 dc0 pm0 cd0 ct0 oc1 kV1 dc1 pm1 cd1 ct1 oc2 kV2 dc2 pm2 cd2 ct2 oc3 kV3 dc3 pm3 cd3 ct3 oc4 kV4 dc4 pm4 cd4 ct4 oc5 kV5 dc5 pm5 cd5 ct5 oc6 kV6 dc6 pm6 cd6 ct6 oc7 kV7 dc7 pm7 cd7 ct7 oc8 kV8 dc8 pm8 cd8 ct8 oc9 kV9 dc9 pm9 cd9 ct9 oc10 kV10 dc10 pm10 cd10 ct10 oc11 kV11 dc11 pm11 cd11 ct11 oc12 kV12 dc12 pm12 cd12 ct12 oc13 kV13 dc13 pm13 cd13 ct13 oc14 kV14 dc14 pm14 cd14 ct14 oc15 kV15 dc15 pm15 cd15 ct15 oc16 kV16 dc16 pm16 cd16 ct16 oc17 kV17 dc17 pm17 cd17 ct17 oc18 kV18 dc18 pm18 cd18 ct18 oc19 kV19 dc19 pm19 cd19 ct19 oc20 kV20 dc20 pm20 cd20 ct20 oc21 kV21 dc21 pm21 cd21 ct21 oc22 kV22 dc22 pm22 cd22 ct22 oc23 kV23 dc23 pm23 cd23 ct23 oc24 kV24 dc24 pm24 cd24 ct24 oc25 kV25 dc25 pm25 cd25 ct25 oc26 kV26 dc26 pm26 cd26 ct26 oc27 kV27 dc27 pm27 cd27 ct27 oc28 kV28 dc28 pm28 cd28 ct28 oc29 kV29 dc29 pm29 cd29 ct29 oc30 kV30 dc30 pm30 cd30 ct30 oc31 kV31 dc31 pm31 cd31 ct31 : Value}
    (a0 : PySem.W.nsIn K mainGlobals "is_integer" = some (some (.ref f0))) (l0 : K.lookup f0 = some ⟨oc0, od0, .func (PySem.W.fnOf "is_integer" "is_integer" (defArgs s_is_integer) (defBody s_is_integer) (defScope s_is_integer) .none kV0 dc0 pm0 an0 cd0 ct0), sl0⟩) (c0 : PySem.W.codeIn K cd0 "is_integer" = true) (k0 : PySem.W.keepIn K (.ref f0) = true)
    (a1 : PySem.W.nsIn K mainGlobals "is_number_below" = some (some (.ref f1))) (l1 : K.lookup f1 = some ⟨oc1, od1, .func (PySem.W.fnOf "is_number_below" "is_number_below" (defArgs s_is_number_below) (defBody s_is_number_below) (defScope s_is_number_below) .none kV1 dc1 pm1 an1 cd1 ct1), sl1⟩) (c1 : PySem.W.codeIn K cd1 "is_number_below" = true) (k1 : PySem.W.keepIn K (.ref f1) = true)
    (a2 : PySem.W.nsIn K mainGlobals "is_tuple_below" = some (some (.ref f2))) (l2 : K.lookup f2 = some ⟨oc2, od2, .func (PySem.W.fnOf "is_tuple_below" "is_tuple_below" (defArgs s_is_tuple_below) (defBody s_is_tuple_below) (defScope s_is_tuple_below) .none kV2 dc2 pm2 an2 cd2 ct2), sl2⟩) (c2 : PySem.W.codeIn K cd2 "is_tuple_below" = true) (k2 : PySem.W.keepIn K (.ref f2) = true)
    (a3 : PySem.W.nsIn K mainGlobals "are_ascending" = some (some (.ref f3))) (l3 : K.lookup f3 = some ⟨oc3, od3, .func (PySem.W.fnOf "are_ascending" "are_ascending" (defArgs s_are_ascending) (defBody s_are_ascending) (defScope s_are_ascending) .none kV3 dc3 pm3 an3 cd3 ct3), sl3⟩) (c3 : PySem.W.codeIn K cd3 "are_ascending" = true) (k3 : PySem.W.keepIn K (.ref f3) = true)
    (a4 : PySem.W.nsIn K mainGlobals "are_ascending_tuples" = some (some (.ref f4))) (l4 : K.lookup f4 = some ⟨oc4, od4, .func (PySem.W.fnOf "are_ascending_tuples" "are_ascending_tuples" (defArgs s_are_ascending_tuples) (defBody s_are_ascending_tuples) (defScope s_are_ascending_tuples) .none kV4 dc4 pm4 an4 cd4 ct4), sl4⟩) (c4 : PySem.W.codeIn K cd4 "are_ascending_tuples" = true) (k4 : PySem.W.keepIn K (.ref f4) = true)
    (a5 : PySem.W.nsIn K mainGlobals "are_below" = some (some (.ref f5))) (l5 : K.lookup f5 = some ⟨oc5, od5, .func (PySem.W.fnOf "are_below" "are_below" (defArgs s_are_below) (defBody s_are_below) (defScope s_are_below) .none kV5 dc5 pm5 an5 cd5 ct5), sl5⟩) (c5 : PySem.W.codeIn K cd5 "are_below" = true) (k5 : PySem.W.keepIn K (.ref f5) = true)
    (a6 : PySem.W.nsIn K mainGlobals "are_targets" = some (some (.ref f6))) (l6 : K.lookup f6 = some ⟨oc6, od6, .func (PySem.W.fnOf "are_targets" "are_targets" (defArgs s_are_targets) (defBody s_are_targets) (defScope s_are_targets) .none kV6 dc6 pm6 an6 cd6 ct6), sl6⟩) (c6 : PySem.W.codeIn K cd6 "are_targets" = true) (k6 : PySem.W.keepIn K (.ref f6) = true)
    (a7 : PySem.W.nsIn K mainGlobals "are_nudges" = some (some (.ref f7))) (l7 : K.lookup f7 = some ⟨oc7, od7, .func (PySem.W.fnOf "are_nudges" "are_nudges" (defArgs s_are_nudges) (defBody s_are_nudges) (defScope s_are_nudges) .none kV7 dc7 pm7 an7 cd7 ct7), sl7⟩) (c7 : PySem.W.codeIn K cd7 "are_nudges" = true) (k7 : PySem.W.keepIn K (.ref f7) = true)
    (a8 : PySem.W.nsIn K mainGlobals "has_web_shape" = some (some (.ref f8))) (l8 : K.lookup f8 = some ⟨oc8, od8, .func (PySem.W.fnOf "has_web_shape" "has_web_shape" (defArgs s_has_web_shape) (defBody s_has_web_shape) (defScope s_has_web_shape) .none kV8 dc8 pm8 an8 cd8 ct8), sl8⟩) (c8 : PySem.W.codeIn K cd8 "has_web_shape" = true) (k8 : PySem.W.keepIn K (.ref f8) = true)
    (a9 : PySem.W.nsIn K mainGlobals "check_web" = some (some (.ref f9))) (l9 : K.lookup f9 = some ⟨oc9, od9, .func (PySem.W.fnOf "check_web" "check_web" (defArgs s_check_web) (defBody s_check_web) (defScope s_check_web) .none kV9 dc9 pm9 an9 cd9 ct9), sl9⟩) (c9 : PySem.W.codeIn K cd9 "check_web" = true) (k9 : PySem.W.keepIn K (.ref f9) = true)
    (a10 : PySem.W.nsIn K mainGlobals "are_integers" = some (some (.ref f10))) (l10 : K.lookup f10 = some ⟨oc10, od10, .func (PySem.W.fnOf "are_integers" "are_integers" (defArgs s_are_integers) (defBody s_are_integers) (defScope s_are_integers) .none kV10 dc10 pm10 an10 cd10 ct10), sl10⟩) (c10 : PySem.W.codeIn K cd10 "are_integers" = true) (k10 : PySem.W.keepIn K (.ref f10) = true)
    (a11 : PySem.W.nsIn K mainGlobals "are_line_numbers" = some (some (.ref f11))) (l11 : K.lookup f11 = some ⟨oc11, od11, .func (PySem.W.fnOf "are_line_numbers" "are_line_numbers" (defArgs s_are_line_numbers) (defBody s_are_line_numbers) (defScope s_are_line_numbers) .none kV11 dc11 pm11 an11 cd11 ct11), sl11⟩) (c11 : PySem.W.codeIn K cd11 "are_line_numbers" = true) (k11 : PySem.W.keepIn K (.ref f11) = true)
    (a12 : PySem.W.nsIn K mainGlobals "has_filling_shape" = some (some (.ref f12))) (l12 : K.lookup f12 = some ⟨oc12, od12, .func (PySem.W.fnOf "has_filling_shape" "has_filling_shape" (defArgs s_has_filling_shape) (defBody s_has_filling_shape) (defScope s_has_filling_shape) .none kV12 dc12 pm12 an12 cd12 ct12), sl12⟩) (c12 : PySem.W.codeIn K cd12 "has_filling_shape" = true) (k12 : PySem.W.keepIn K (.ref f12) = true)
    (a13 : PySem.W.nsIn K mainGlobals "check_filling" = some (some (.ref f13))) (l13 : K.lookup f13 = some ⟨oc13, od13, .func (PySem.W.fnOf "check_filling" "check_filling" (defArgs s_check_filling) (defBody s_check_filling) (defScope s_check_filling) .none kV13 dc13 pm13 an13 cd13 ct13), sl13⟩) (c13 : PySem.W.codeIn K cd13 "check_filling" = true) (k13 : PySem.W.keepIn K (.ref f13) = true)
    (a14 : PySem.W.nsIn K mainGlobals "check_state" = some (some (.ref f14))) (l14 : K.lookup f14 = some ⟨oc14, od14, .func (PySem.W.fnOf "check_state" "check_state" (defArgs s_check_state) (defBody s_check_state) (defScope s_check_state) .none kV14 dc14 pm14 an14 cd14 ct14), sl14⟩) (c14 : PySem.W.codeIn K cd14 "check_state" = true) (k14 : PySem.W.keepIn K (.ref f14) = true)
    (a15 : PySem.W.nsIn K mainGlobals "all_lines" = some (some (.ref f15))) (l15 : K.lookup f15 = some ⟨oc15, od15, .func (PySem.W.fnOf "all_lines" "all_lines" (defArgs s_all_lines) (defBody s_all_lines) (defScope s_all_lines) .none kV15 dc15 pm15 an15 cd15 ct15), sl15⟩) (c15 : PySem.W.codeIn K cd15 "all_lines" = true) (k15 : PySem.W.keepIn K (.ref f15) = true)
    (a16 : PySem.W.nsIn K mainGlobals "all_numbers" = some (some (.ref f16))) (l16 : K.lookup f16 = some ⟨oc16, od16, .func (PySem.W.fnOf "all_numbers" "all_numbers" (defArgs s_all_numbers) (defBody s_all_numbers) (defScope s_all_numbers) .none kV16 dc16 pm16 an16 cd16 ct16), sl16⟩) (c16 : PySem.W.codeIn K cd16 "all_numbers" = true) (k16 : PySem.W.keepIn K (.ref f16) = true)
    (a17 : PySem.W.nsIn K mainGlobals "numbered_lines" = some (some (.ref f17))) (l17 : K.lookup f17 = some ⟨oc17, od17, .func (PySem.W.fnOf "numbered_lines" "numbered_lines" (defArgs s_numbered_lines) (defBody s_numbered_lines) (defScope s_numbered_lines) .none kV17 dc17 pm17 an17 cd17 ct17), sl17⟩) (c17 : PySem.W.codeIn K cd17 "numbered_lines" = true) (k17 : PySem.W.keepIn K (.ref f17) = true)
    (a18 : PySem.W.nsIn K mainGlobals "moved" = some (some (.ref f18))) (l18 : K.lookup f18 = some ⟨oc18, od18, .func (PySem.W.fnOf "moved" "moved" (defArgs s_moved) (defBody s_moved) (defScope s_moved) .none kV18 dc18 pm18 an18 cd18 ct18), sl18⟩) (c18 : PySem.W.codeIn K cd18 "moved" = true) (k18 : PySem.W.keepIn K (.ref f18) = true)
    (a19 : PySem.W.nsIn K mainGlobals "states_behind" = some (some (.ref f19))) (l19 : K.lookup f19 = some ⟨oc19, od19, .func (PySem.W.fnOf "states_behind" "states_behind" (defArgs s_states_behind) (defBody s_states_behind) (defScope s_states_behind) .none kV19 dc19 pm19 an19 cd19 ct19), sl19⟩) (c19 : PySem.W.codeIn K cd19 "states_behind" = true) (k19 : PySem.W.keepIn K (.ref f19) = true)
    (a20 : PySem.W.nsIn K mainGlobals "shown_at" = some (some (.ref f20))) (l20 : K.lookup f20 = some ⟨oc20, od20, .func (PySem.W.fnOf "shown_at" "shown_at" (defArgs s_shown_at) (defBody s_shown_at) (defScope s_shown_at) .none kV20 dc20 pm20 an20 cd20 ct20), sl20⟩) (c20 : PySem.W.codeIn K cd20 "shown_at" = true) (k20 : PySem.W.keepIn K (.ref f20) = true)
    (a21 : PySem.W.nsIn K mainGlobals "shown" = some (some (.ref f21))) (l21 : K.lookup f21 = some ⟨oc21, od21, .func (PySem.W.fnOf "shown" "shown" (defArgs s_shown) (defBody s_shown) (defScope s_shown) .none kV21 dc21 pm21 an21 cd21 ct21), sl21⟩) (c21 : PySem.W.codeIn K cd21 "shown" = true) (k21 : PySem.W.keepIn K (.ref f21) = true)
    (a22 : PySem.W.nsIn K mainGlobals "_law_well" = some (some (.ref f22))) (l22 : K.lookup f22 = some ⟨oc22, od22, .func (PySem.W.fnOf "_law_well" "_law_well" (defArgs s_well) (defBody s_well) (defScope s_well) .none kV22 dc22 pm22 an22 cd22 ct22), sl22⟩) (c22 : PySem.W.codeIn K cd22 "_law_well" = true) (k22 : PySem.W.keepIn K (.ref f22) = true)
    (a23 : PySem.W.nsIn K mainGlobals "_law_pick" = some (some (.ref f23))) (l23 : K.lookup f23 = some ⟨oc23, od23, .func (PySem.W.fnOf "_law_pick" "_law_pick" (defArgs s_pick) (defBody s_pick) (defScope s_pick) .none kV23 dc23 pm23 an23 cd23 ct23), sl23⟩) (c23 : PySem.W.codeIn K cd23 "_law_pick" = true) (k23 : PySem.W.keepIn K (.ref f23) = true)
    (a24 : PySem.W.nsIn K mainGlobals "_law_mixed" = some (some (.ref f24))) (l24 : K.lookup f24 = some ⟨oc24, od24, .func (PySem.W.fnOf "_law_mixed" "_law_mixed" (defArgs s_mixed) (defBody s_mixed) (defScope s_mixed) .none kV24 dc24 pm24 an24 cd24 ct24), sl24⟩) (c24 : PySem.W.codeIn K cd24 "_law_mixed" = true) (k24 : PySem.W.keepIn K (.ref f24) = true)
    (a25 : PySem.W.nsIn K mainGlobals "_law_web" = some (some (.ref f25))) (l25 : K.lookup f25 = some ⟨oc25, od25, .func (PySem.W.fnOf "_law_web" "_law_web" (defArgs s_web) (defBody s_web) (defScope s_web) .none kV25 dc25 pm25 an25 cd25 ct25), sl25⟩) (c25 : PySem.W.codeIn K cd25 "_law_web" = true) (k25 : PySem.W.keepIn K (.ref f25) = true)
    (a26 : PySem.W.nsIn K mainGlobals "_law_filling" = some (some (.ref f26))) (l26 : K.lookup f26 = some ⟨oc26, od26, .func (PySem.W.fnOf "_law_filling" "_law_filling" (defArgs s_filling) (defBody s_filling) (defScope s_filling) .none kV26 dc26 pm26 an26 cd26 ct26), sl26⟩) (c26 : PySem.W.codeIn K cd26 "_law_filling" = true) (k26 : PySem.W.keepIn K (.ref f26) = true)
    (a27 : PySem.W.nsIn K mainGlobals "_law_copy" = some (some (.ref f27))) (l27 : K.lookup f27 = some ⟨oc27, od27, .func (PySem.W.fnOf "_law_copy" "_law_copy" (defArgs s_copy) (defBody s_copy) (defScope s_copy) .none kV27 dc27 pm27 an27 cd27 ct27), sl27⟩) (c27 : PySem.W.codeIn K cd27 "_law_copy" = true) (k27 : PySem.W.keepIn K (.ref f27) = true)
    (a28 : PySem.W.nsIn K mainGlobals "_law_stepped" = some (some (.ref f28))) (l28 : K.lookup f28 = some ⟨oc28, od28, .func (PySem.W.fnOf "_law_stepped" "_law_stepped" (defArgs s_stepped) (defBody s_stepped) (defScope s_stepped) .none kV28 dc28 pm28 an28 cd28 ct28), sl28⟩) (c28 : PySem.W.codeIn K cd28 "_law_stepped" = true) (k28 : PySem.W.keepIn K (.ref f28) = true)
    (a29 : PySem.W.nsIn K mainGlobals "_law_due" = some (some (.ref f29))) (l29 : K.lookup f29 = some ⟨oc29, od29, .func (PySem.W.fnOf "_law_due" "_law_due" (defArgs s_due) (defBody s_due) (defScope s_due) .none kV29 dc29 pm29 an29 cd29 ct29), sl29⟩) (c29 : PySem.W.codeIn K cd29 "_law_due" = true) (k29 : PySem.W.keepIn K (.ref f29) = true)
    (a30 : PySem.W.nsIn K mainGlobals "_law_right" = some (some (.ref f30))) (l30 : K.lookup f30 = some ⟨oc30, od30, .func (PySem.W.fnOf "_law_right" "_law_right" (defArgs s_right) (defBody s_right) (defScope s_right) .none kV30 dc30 pm30 an30 cd30 ct30), sl30⟩) (c30 : PySem.W.codeIn K cd30 "_law_right" = true) (k30 : PySem.W.keepIn K (.ref f30) = true)
    (a31 : PySem.W.nsIn K mainGlobals "law" = some (some (.ref f31))) (l31 : K.lookup f31 = some ⟨oc31, od31, .func (PySem.W.fnOf "law" "law" (defArgs s_law) (defBody s_law) (defScope s_law) .none kV31 dc31 pm31 an31 cd31 ct31), sl31⟩) (c31 : PySem.W.codeIn K cd31 "law" = true) (k31 : PySem.W.keepIn K (.ref f31) = true)
    (z_isinstance : PySem.W.nsIn K mainGlobals "isinstance" = some none)
    (z_len : PySem.W.nsIn K mainGlobals "len" = some none)
    (z_all : PySem.W.nsIn K mainGlobals "all" = some none)
    (z_sum : PySem.W.nsIn K mainGlobals "sum" = some none)
    (z_repr : PySem.W.nsIn K mainGlobals "repr" = some none)
    (z_abs : PySem.W.nsIn K mainGlobals "abs" = some none)
    (z_max : PySem.W.nsIn K mainGlobals "max" = some none)
    (z_min : PySem.W.nsIn K mainGlobals "min" = some none)
    (z_sorted : PySem.W.nsIn K mainGlobals "sorted" = some none)
    (z_int : PySem.W.nsIn K mainGlobals "int" = some none)
    (z_bool : PySem.W.nsIn K mainGlobals "bool" = some none)
    (z_list : PySem.W.nsIn K mainGlobals "list" = some none)
    (z_tuple : PySem.W.nsIn K mainGlobals "tuple" = some none)
    (z_set : PySem.W.nsIn K mainGlobals "set" = some none)
    (z_range : PySem.W.nsIn K mainGlobals "range" = some none)
    (z_enumerate : PySem.W.nsIn K mainGlobals "enumerate" = some none)
    (z_zip : PySem.W.nsIn K mainGlobals "zip" = some none)
    {t_MOST_QUANTITIES : Tok} (v_MOST_QUANTITIES : PySem.W.nsIn K mainGlobals "MOST_QUANTITIES" = some (some (.int 20 t_MOST_QUANTITIES)))
    {t_MOST_NUDGES : Tok} (v_MOST_NUDGES : PySem.W.nsIn K mainGlobals "MOST_NUDGES" = some (some (.int 8 t_MOST_NUDGES)))
    {t_MOST_ROWS : Tok} (v_MOST_ROWS : PySem.W.nsIn K mainGlobals "MOST_ROWS" = some (some (.int 60 t_MOST_ROWS)))
    {t_GREATEST_NUMBER : Tok} (v_GREATEST_NUMBER : PySem.W.nsIn K mainGlobals "GREATEST_NUMBER" = some (some (.int 1000000 t_GREATEST_NUMBER)))
    : ∃ fd : FuncData, (∀ (s : Shared) (v : Value), BindsTo s fd ⟨[v], []⟩ [("_law_script", v)]) ∧ ∀ base : Heap, K.In base → base.Ns mainGlobals mg → FnG l.prog w K mg base CX0 10 fa fd ["_law_script"] (sp_law K) := by
  have e := hfa.symm.trans (PySem.W.mg_of X G a31)
  cases e
  have T : Txt K mg := ⟨PySem.W.mg_none_of X G z_isinstance, PySem.W.mg_none_of X G z_len, PySem.W.mg_none_of X G z_all, PySem.W.mg_none_of X G z_sum, PySem.W.mg_none_of X G z_repr, PySem.W.mg_none_of X G z_abs, PySem.W.mg_none_of X G z_max, PySem.W.mg_none_of X G z_min, PySem.W.mg_none_of X G z_sorted, PySem.W.mg_none_of X G z_int, PySem.W.mg_none_of X G z_bool, PySem.W.mg_none_of X G z_list, PySem.W.mg_none_of X G z_tuple, PySem.W.mg_none_of X G z_set, PySem.W.mg_none_of X G z_range, PySem.W.mg_none_of X G z_enumerate, PySem.W.mg_none_of X G z_zip, ⟨_, PySem.W.mg_of X G v_MOST_QUANTITIES⟩, ⟨_, PySem.W.mg_of X G v_MOST_NUDGES⟩, ⟨_, PySem.W.mg_of X G v_MOST_ROWS⟩, ⟨_, PySem.W.mg_of X G v_GREATEST_NUMBER⟩⟩
  refine ⟨PySem.W.fnOf "law" "law" (defArgs s_law) (defBody s_law) (defScope s_law) .none kV31 dc31 pm31 an31 cd31 ct31, fun s v => .of_eq rfl, fun base _ _ => ?_⟩
  have F0 := fun_mk (st := s_is_integer) l0 c0 k0
  have G0 := ok_is_integer (P := l.prog) (w := w) (base := base) T F0 
  have B0 := F0.binds (ps := P_is_integer) fun _ _ _ _ _ _ us hl => match us, hl with | [_], _ => rfl
  have D_is_integer : DefOk l.prog w K mg base CX0 1 "is_integer" P_is_integer (sp_is_integer K) := ⟨f0, _, G0, PySem.W.mg_of X G a0, k0, B0⟩
  have F1 := fun_mk (st := s_is_number_below) l1 c1 k1
  have G1 := ok_is_number_below (P := l.prog) (w := w) (base := base) T F1 D_is_integer
  have B1 := F1.binds (ps := P_is_number_below) fun _ _ _ _ _ _ us hl => match us, hl with | [_, _], _ => rfl
  have D_is_number_below : DefOk l.prog w K mg base CX0 2 "is_number_below" P_is_number_below (sp_is_number_below K) := ⟨f1, _, G1, PySem.W.mg_of X G a1, k1, B1⟩
  have F2 := fun_mk (st := s_is_tuple_below) l2 c2 k2
  have G2 := ok_is_tuple_below (P := l.prog) (w := w) (base := base) T F2 D_is_number_below
  have B2 := F2.binds (ps := P_is_tuple_below) fun _ _ _ _ _ _ us hl => match us, hl with | [_, _, _], _ => rfl
  have D_is_tuple_below : DefOk l.prog w K mg base CX0 3 "is_tuple_below" P_is_tuple_below (sp_is_tuple_below K) := ⟨f2, _, G2, PySem.W.mg_of X G a2, k2, B2⟩
  have F3 := fun_mk (st := s_are_ascending) l3 c3 k3
  have G3 := ok_are_ascending (P := l.prog) (w := w) (base := base) T F3 
  have B3 := F3.binds (ps := P_are_ascending) fun _ _ _ _ _ _ us hl => match us, hl with | [_], _ => rfl
  have D_are_ascending : DefOk l.prog w K mg base CX0 1 "are_ascending" P_are_ascending (sp_are_ascending K) := ⟨f3, _, G3, PySem.W.mg_of X G a3, k3, B3⟩
  have F4 := fun_mk (st := s_are_ascending_tuples) l4 c4 k4
  have G4 := ok_are_ascending_tuples (P := l.prog) (w := w) (base := base) T F4 D_is_tuple_below D_are_ascending
  have B4 := F4.binds (ps := P_are_ascending_tuples) fun _ _ _ _ _ _ us hl => match us, hl with | [_, _, _], _ => rfl
  have D_are_ascending_tuples : DefOk l.prog w K mg base CX0 4 "are_ascending_tuples" P_are_ascending_tuples (sp_are_ascending_tuples K) := ⟨f4, _, G4, PySem.W.mg_of X G a4, k4, B4⟩
  have F5 := fun_mk (st := s_are_below) l5 c5 k5
  have G5 := ok_are_below (P := l.prog) (w := w) (base := base) T F5 D_is_number_below
  have B5 := F5.binds (ps := P_are_below) fun _ _ _ _ _ _ us hl => match us, hl with | [_, _], _ => rfl
  have D_are_below : DefOk l.prog w K mg base CX0 3 "are_below" P_are_below (sp_are_below K) := ⟨f5, _, G5, PySem.W.mg_of X G a5, k5, B5⟩
  have F6 := fun_mk (st := s_are_targets) l6 c6 k6
  have G6 := ok_are_targets (P := l.prog) (w := w) (base := base) T F6 D_are_below D_are_ascending
  have B6 := F6.binds (ps := P_are_targets) fun _ _ _ _ _ _ us hl => match us, hl with | [_, _], _ => rfl
  have D_are_targets : DefOk l.prog w K mg base CX0 4 "are_targets" P_are_targets (sp_are_targets K) := ⟨f6, _, G6, PySem.W.mg_of X G a6, k6, B6⟩
  have F7 := fun_mk (st := s_are_nudges) l7 c7 k7
  have G7 := ok_are_nudges (P := l.prog) (w := w) (base := base) T F7 D_are_targets
  have B7 := F7.binds (ps := P_are_nudges) fun _ _ _ _ _ _ us hl => match us, hl with | [_, _], _ => rfl
  have D_are_nudges : DefOk l.prog w K mg base CX0 5 "are_nudges" P_are_nudges (sp_are_nudges K) := ⟨f7, _, G7, PySem.W.mg_of X G a7, k7, B7⟩
  have F8 := fun_mk (st := s_has_web_shape) l8 c8 k8
  have G8 := ok_has_web_shape (P := l.prog) (w := w) (base := base) T F8 D_is_integer D_are_ascending_tuples D_are_nudges
  have B8 := F8.binds (ps := P_has_web_shape) fun _ _ _ _ _ _ us hl => match us, hl with | [_], _ => rfl
  have D_has_web_shape : DefOk l.prog w K mg base CX0 6 "has_web_shape" P_has_web_shape (sp_has_web_shape K) := ⟨f8, _, G8, PySem.W.mg_of X G a8, k8, B8⟩
  have F9 := fun_mk (st := s_check_web) l9 c9 k9
  have G9 := ok_check_web (P := l.prog) (w := w) (base := base) T F9 D_has_web_shape
  have B9 := F9.binds (ps := P_check_web) fun _ _ _ _ _ _ us hl => match us, hl with | [_], _ => rfl
  have D_check_web : DefOk l.prog w K mg base CX0 7 "check_web" P_check_web (sp_check_web K) := ⟨f9, _, G9, PySem.W.mg_of X G a9, k9, B9⟩
  have F10 := fun_mk (st := s_are_integers) l10 c10 k10
  have G10 := ok_are_integers (P := l.prog) (w := w) (base := base) T F10 D_is_integer
  have B10 := F10.binds (ps := P_are_integers) fun _ _ _ _ _ _ us hl => match us, hl with | [_, _], _ => rfl
  have D_are_integers : DefOk l.prog w K mg base CX0 2 "are_integers" P_are_integers (sp_are_integers K) := ⟨f10, _, G10, PySem.W.mg_of X G a10, k10, B10⟩
  have F11 := fun_mk (st := s_are_line_numbers) l11 c11 k11
  have G11 := ok_are_line_numbers (P := l.prog) (w := w) (base := base) T F11 D_are_integers
  have B11 := F11.binds (ps := P_are_line_numbers) fun _ _ _ _ _ _ us hl => match us, hl with | [_, _], _ => rfl
  have D_are_line_numbers : DefOk l.prog w K mg base CX0 3 "are_line_numbers" P_are_line_numbers (sp_are_line_numbers K) := ⟨f11, _, G11, PySem.W.mg_of X G a11, k11, B11⟩
  have F12 := fun_mk (st := s_has_filling_shape) l12 c12 k12
  have G12 := ok_has_filling_shape (P := l.prog) (w := w) (base := base) T F12 D_are_line_numbers
  have B12 := F12.binds (ps := P_has_filling_shape) fun _ _ _ _ _ _ us hl => match us, hl with | [_, _], _ => rfl
  have D_has_filling_shape : DefOk l.prog w K mg base CX0 4 "has_filling_shape" P_has_filling_shape (sp_has_filling_shape K) := ⟨f12, _, G12, PySem.W.mg_of X G a12, k12, B12⟩
  have F13 := fun_mk (st := s_check_filling) l13 c13 k13
  have G13 := ok_check_filling (P := l.prog) (w := w) (base := base) T F13 D_has_filling_shape
  have B13 := F13.binds (ps := P_check_filling) fun _ _ _ _ _ _ us hl => match us, hl with | [_, _], _ => rfl
  have D_check_filling : DefOk l.prog w K mg base CX0 5 "check_filling" P_check_filling (sp_check_filling K) := ⟨f13, _, G13, PySem.W.mg_of X G a13, k13, B13⟩
  have F14 := fun_mk (st := s_check_state) l14 c14 k14
  have G14 := ok_check_state (P := l.prog) (w := w) (base := base) T F14 D_are_integers
  have B14 := F14.binds (ps := P_check_state) fun _ _ _ _ _ _ us hl => match us, hl with | [_, _], _ => rfl
  have D_check_state : DefOk l.prog w K mg base CX0 3 "check_state" P_check_state (sp_check_state K) := ⟨f14, _, G14, PySem.W.mg_of X G a14, k14, B14⟩
  have F15 := fun_mk (st := s_all_lines) l15 c15 k15
  have G15 := ok_all_lines (P := l.prog) (w := w) (base := base) T F15 
  have B15 := F15.binds (ps := P_all_lines) fun _ _ _ _ _ _ us hl => match us, hl with | [_], _ => rfl
  have D_all_lines : DefOk l.prog w K mg base CX0 1 "all_lines" P_all_lines (sp_all_lines K) := ⟨f15, _, G15, PySem.W.mg_of X G a15, k15, B15⟩
  have F16 := fun_mk (st := s_all_numbers) l16 c16 k16
  have G16 := ok_all_numbers (P := l.prog) (w := w) (base := base) T F16 
  have B16 := F16.binds (ps := P_all_numbers) fun _ _ _ _ _ _ us hl => match us, hl with | [_], _ => rfl
  have D_all_numbers : DefOk l.prog w K mg base CX0 1 "all_numbers" P_all_numbers (sp_all_numbers K) := ⟨f16, _, G16, PySem.W.mg_of X G a16, k16, B16⟩
  have F17 := fun_mk (st := s_numbered_lines) l17 c17 k17
  have G17 := ok_numbered_lines (P := l.prog) (w := w) (base := base) T F17 D_all_lines D_all_numbers
  have B17 := F17.binds (ps := P_numbered_lines) fun _ _ _ _ _ _ us hl => match us, hl with | [_, _], _ => rfl
  have D_numbered_lines : DefOk l.prog w K mg base CX0 2 "numbered_lines" P_numbered_lines (sp_numbered_lines K) := ⟨f17, _, G17, PySem.W.mg_of X G a17, k17, B17⟩
  have F18 := fun_mk (st := s_moved) l18 c18 k18
  have G18 := ok_moved (P := l.prog) (w := w) (base := base) T F18 
  have B18 := F18.binds (ps := P_moved) fun _ _ _ _ _ _ us hl => match us, hl with | [_, _, _, _], _ => rfl
  have D_moved : DefOk l.prog w K mg base CX0 1 "moved" P_moved (sp_moved K) := ⟨f18, _, G18, PySem.W.mg_of X G a18, k18, B18⟩
  have F19 := fun_mk (st := s_states_behind) l19 c19 k19
  have G19 := ok_states_behind (P := l.prog) (w := w) (base := base) T F19 D_numbered_lines D_moved
  have B19 := F19.binds (ps := P_states_behind) fun _ _ _ _ _ _ us hl => match us, hl with | [_, _, _, _], _ => rfl
  have D_states_behind : DefOk l.prog w K mg base CX0 3 "states_behind" P_states_behind (sp_states_behind K) := ⟨f19, _, G19, PySem.W.mg_of X G a19, k19, B19⟩
  have F20 := fun_mk (st := s_shown_at) l20 c20 k20
  have G20 := ok_shown_at (P := l.prog) (w := w) (base := base) T F20 
  have B20 := F20.binds (ps := P_shown_at) fun _ _ _ _ _ _ us hl => match us, hl with | [_, _, _], _ => rfl
  have D_shown_at : DefOk l.prog w K mg base CX0 1 "shown_at" P_shown_at (sp_shown_at K) := ⟨f20, _, G20, PySem.W.mg_of X G a20, k20, B20⟩
  have F21 := fun_mk (st := s_shown) l21 c21 k21
  have G21 := ok_shown (P := l.prog) (w := w) (base := base) T F21 D_is_number_below D_check_web D_check_filling D_check_state D_states_behind D_shown_at
  have B21 := F21.binds (ps := P_shown) fun _ _ _ _ _ _ us hl => match us, hl with | [_, _, _, _], _ => rfl
  have D_shown : DefOk l.prog w K mg base CX0 8 "shown" P_shown (sp_shown K) := ⟨f21, _, G21, PySem.W.mg_of X G a21, k21, B21⟩
  have F22 := fun_mk (st := s_well) l22 c22 k22
  have G22 := ok_well (P := l.prog) (w := w) (base := base) T F22 
  have B22 := F22.binds (ps := P_well) fun _ _ _ _ _ _ us hl => match us, hl with | [_, _], _ => rfl
  have D_well : DefOk l.prog w K mg base CX0 1 "_law_well" P_well (sp_well K) := ⟨f22, _, G22, PySem.W.mg_of X G a22, k22, B22⟩
  have F23 := fun_mk (st := s_pick) l23 c23 k23
  have G23 := ok_pick (P := l.prog) (w := w) (base := base) T F23 
  have B23 := F23.binds (ps := P_pick) fun _ _ _ _ _ _ us hl => match us, hl with | [_, _], _ => rfl
  have D_pick : DefOk l.prog w K mg base CX0 1 "_law_pick" P_pick (sp_pick K) := ⟨f23, _, G23, PySem.W.mg_of X G a23, k23, B23⟩
  have F24 := fun_mk (st := s_mixed) l24 c24 k24
  have G24 := ok_mixed (P := l.prog) (w := w) (base := base) T F24 D_pick
  have B24 := F24.binds (ps := P_mixed) fun _ _ _ _ _ _ us hl => match us, hl with | [_, _], _ => rfl
  have D_mixed : DefOk l.prog w K mg base CX0 2 "_law_mixed" P_mixed (sp_mixed K) := ⟨f24, _, G24, PySem.W.mg_of X G a24, k24, B24⟩
  have F25 := fun_mk (st := s_web) l25 c25 k25
  have G25 := ok_web (P := l.prog) (w := w) (base := base) T F25 D_pick D_mixed
  have B25 := F25.binds (ps := P_web) fun _ _ _ _ _ _ us hl => match us, hl with | [_, _, _], _ => rfl
  have D_web : DefOk l.prog w K mg base CX0 3 "_law_web" P_web (sp_web K) := ⟨f25, _, G25, PySem.W.mg_of X G a25, k25, B25⟩
  have F26 := fun_mk (st := s_filling) l26 c26 k26
  have G26 := ok_filling (P := l.prog) (w := w) (base := base) T F26 D_pick
  have B26 := F26.binds (ps := P_filling) fun _ _ _ _ _ _ us hl => match us, hl with | [_, _, _], _ => rfl
  have D_filling : DefOk l.prog w K mg base CX0 2 "_law_filling" P_filling (sp_filling K) := ⟨f26, _, G26, PySem.W.mg_of X G a26, k26, B26⟩
  have F27 := fun_mk (st := s_copy) l27 c27 k27
  have G27 := ok_copy (P := l.prog) (w := w) (base := base) T F27 
  have B27 := F27.binds (ps := P_copy) fun _ _ _ _ _ _ us hl => match us, hl with | [_, _], _ => rfl
  have D_copy : DefOk l.prog w K mg base CX0 1 "_law_copy" P_copy (sp_copy K) := ⟨f27, _, G27, PySem.W.mg_of X G a27, k27, B27⟩
  have F28 := fun_mk (st := s_stepped) l28 c28 k28
  have G28 := ok_stepped (P := l.prog) (w := w) (base := base) T F28 
  have B28 := F28.binds (ps := P_stepped) fun _ _ _ _ _ _ us hl => match us, hl with | [_, _, _, _], _ => rfl
  have D_stepped : DefOk l.prog w K mg base CX0 1 "_law_stepped" P_stepped (sp_stepped K) := ⟨f28, _, G28, PySem.W.mg_of X G a28, k28, B28⟩
  have F29 := fun_mk (st := s_due) l29 c29 k29
  have G29 := ok_due (P := l.prog) (w := w) (base := base) T F29 D_stepped
  have B29 := F29.binds (ps := P_due) fun _ _ _ _ _ _ us hl => match us, hl with | [_, _, _, _], _ => rfl
  have D_due : DefOk l.prog w K mg base CX0 2 "_law_due" P_due (sp_due K) := ⟨f29, _, G29, PySem.W.mg_of X G a29, k29, B29⟩
  have F30 := fun_mk (st := s_right) l30 c30 k30
  have G30 := ok_right (P := l.prog) (w := w) (base := base) T F30 D_shown D_pick D_web D_filling D_copy D_due
  have B30 := F30.binds (ps := P_right) fun _ _ _ _ _ _ us hl => match us, hl with | [_, _, _], _ => rfl
  have D_right : DefOk l.prog w K mg base CX0 9 "_law_right" P_right (sp_right K) := ⟨f30, _, G30, PySem.W.mg_of X G a30, k30, B30⟩
  have F31 := fun_mk (st := s_law) l31 c31 k31
  have G31 := ok_law (P := l.prog) (w := w) (base := base) T F31 D_shown D_well D_right
  exact G31
theorem walk {l : PySem.W.OpenLaw} {q : Program} {loose : List Str} {XP : (Str → Option Value) → Heap → Prop} {YP : World → Heap → Prop} {d : DefRec} {K : Params → PySem.W.Frag} (hn : l.most = some 63) (hdf : d.params.defaults = [])
    (hY : ∀ (w : World) (h : Heap), YP w h → (K w.params).In h)
    (F : ∀ (w : World) (mg : Str → Option Value) (fa : Addr) (h : Heap), (K w.params).In h → h.Ns mainGlobals mg → mg d.name = some (.ref fa) →
      ∃ fd : FuncData, (∀ (s : Shared) (u : Value), BindsTo s fd ⟨[u], []⟩ [("_law_script", u)]) ∧ ∀ base : Heap, (K w.params).In base → base.Ns mainGlobals mg → FnG l.prog w (K w.params) mg base CX0 10 fa fd ["_law_script"] (sp_law (K w.params))) :
    PySem.W.WalkO q loose XP YP l.row.toRowW d [] (fun f vs => PySem.call f vs) :=
  walkG (n := 63) (k := 10) (x := "_law_script") (CX := fun _ => CX0) (sp := fun w => sp_law (K w.params)) hn (by decide) hdf ⟨rfl, by decide, by decide⟩ hY F (fun _ H a ns hl _ hS => sp_law_start hl hS) fun _ _ _ _ _ z => z
end K36
open PySem PySem.W PyProof.Rows in
set_option maxRecDepth 100000 in
set_option maxHeartbeats 0 in
theorem PySem.Challenge.cw_nudgewebs_k36_shown_step_by_step_holds : PySem.Challenge.rw_nudgewebs_k36_shown_step_by_step.Holds := by
  w_on; o_law; k_head; (case hw => w_witness2)
  k_fill
  refine K36.walk (l := PySem.Challenge.rw_nudgewebs_k36_shown_step_by_step) rfl rfl (fun w h Y => PySem.W.kIn_of Y) ?F
  case F =>
    intro w mg fa h KX G hmg
    refine' K36.all_mk KX G hmg ?a0 ?l0 ?c0 ?k0 ?a1 ?l1 ?c1 ?k1 ?a2 ?l2 ?c2 ?k2 ?a3 ?l3 ?c3 ?k3 ?a4 ?l4 ?c4 ?k4 ?a5 ?l5 ?c5 ?k5 ?a6 ?l6 ?c6 ?k6 ?a7 ?l7 ?c7 ?k7 ?a8 ?l8 ?c8 ?k8 ?a9 ?l9 ?c9 ?k9 ?a10 ?l10 ?c10 ?k10 ?a11 ?l11 ?c11 ?k11 ?a12 ?l12 ?c12 ?k12 ?a13 ?l13 ?c13 ?k13 ?a14 ?l14 ?c14 ?k14 ?a15 ?l15 ?c15 ?k15 ?a16 ?l16 ?c16 ?k16 ?a17 ?l17 ?c17 ?k17 ?a18 ?l18 ?c18 ?k18 ?a19 ?l19 ?c19 ?k19 ?a20 ?l20 ?c20 ?k20 ?a21 ?l21 ?c21 ?k21 ?a22 ?l22 ?c22 ?k22 ?a23 ?l23 ?c23 ?k23 ?a24 ?l24 ?c24 ?k24 ?a25 ?l25 ?c25 ?k25 ?a26 ?l26 ?c26 ?k26 ?a27 ?l27 ?c27 ?k27 ?a28 ?l28 ?c28 ?k28 ?a29 ?l29 ?c29 ?k29 ?a30 ?l30 ?c30 ?k30 ?a31 ?l31 ?c31 ?k31 ?z_isinstance ?z_len ?z_all ?z_sum ?z_repr ?z_abs ?z_max ?z_min ?z_sorted ?z_int ?z_bool ?z_list ?z_tuple ?z_set ?z_range ?z_enumerate ?z_zip ?v_MOST_QUANTITIES ?v_MOST_NUDGES ?v_MOST_ROWS ?v_GREATEST_NUMBER
    (case a0 => k_is)
    (case l0 => k_is)
    (case c0 => k_is)
    (case k0 => k_is)
    (case a1 => k_is)
    (case l1 => k_is)
    (case c1 => k_is)
    (case k1 => k_is)
    (case a2 => k_is)
    (case l2 => k_is)
    (case c2 => k_is)
    (case k2 => k_is)
    (case a3 => k_is)
    (case l3 => k_is)
    (case c3 => k_is)
    (case k3 => k_is)
    (case a4 => k_is)
    (case l4 => k_is)
    (case c4 => k_is)
    (case k4 => k_is)
    (case a5 => k_is)
    (case l5 => k_is)
    (case c5 => k_is)
    (case k5 => k_is)
    (case a6 => k_is)
    (case l6 => k_is)
    (case c6 => k_is)
    (case k6 => k_is)
    (case a7 => k_is)
    (case l7 => k_is)
    (case c7 => k_is)
    (case k7 => k_is)
    (case a8 => k_is)
    (case l8 => k_is)
    (case c8 => k_is)
    (case k8 => k_is)
    (case a9 => k_is)
    (case l9 => k_is)
    (case c9 => k_is)
    (case k9 => k_is)
    (case a10 => k_is)
    (case l10 => k_is)
    (case c10 => k_is)
    (case k10 => k_is)
    (case a11 => k_is)
    (case l11 => k_is)
    (case c11 => k_is)
    (case k11 => k_is)
    (case a12 => k_is)
    (case l12 => k_is)
    (case c12 => k_is)
    (case k12 => k_is)
    (case a13 => k_is)
    (case l13 => k_is)
    (case c13 => k_is)
    (case k13 => k_is)
    (case a14 => k_is)
    (case l14 => k_is)
    (case c14 => k_is)
    (case k14 => k_is)
    (case a15 => k_is)
    (case l15 => k_is)
    (case c15 => k_is)
    (case k15 => k_is)
    (case a16 => k_is)
    (case l16 => k_is)
    (case c16 => k_is)
    (case k16 => k_is)
    (case a17 => k_is)
    (case l17 => k_is)
    (case c17 => k_is)
    (case k17 => k_is)
    (case a18 => k_is)
    (case l18 => k_is)
    (case c18 => k_is)
    (case k18 => k_is)
    (case a19 => k_is)
    (case l19 => k_is)
    (case c19 => k_is)
    (case k19 => k_is)
    (case a20 => k_is)
    (case l20 => k_is)
    (case c20 => k_is)
    (case k20 => k_is)
    (case a21 => k_is)
    (case l21 => k_is)
    (case c21 => k_is)
    (case k21 => k_is)
    (case a22 => k_is)
    (case l22 => k_is)
    (case c22 => k_is)
    (case k22 => k_is)
    (case a23 => k_is)
    (case l23 => k_is)
    (case c23 => k_is)
    (case k23 => k_is)
    (case a24 => k_is)
    (case l24 => k_is)
    (case c24 => k_is)
    (case k24 => k_is)
    (case a25 => k_is)
    (case l25 => k_is)
    (case c25 => k_is)
    (case k25 => k_is)
    (case a26 => k_is)
    (case l26 => k_is)
    (case c26 => k_is)
    (case k26 => k_is)
    (case a27 => k_is)
    (case l27 => k_is)
    (case c27 => k_is)
    (case k27 => k_is)
    (case a28 => k_is)
    (case l28 => k_is)
    (case c28 => k_is)
    (case k28 => k_is)
    (case a29 => k_is)
    (case l29 => k_is)
    (case c29 => k_is)
    (case k29 => k_is)
    (case a30 => k_is)
    (case l30 => k_is)
    (case c30 => k_is)
    (case k30 => k_is)
    (case a31 => k_is)
    (case l31 => k_is)
    (case c31 => k_is)
    (case k31 => k_is)
    (case z_isinstance => k_is)
    (case z_len => k_is)
    (case z_all => k_is)
    (case z_sum => k_is)
    (case z_repr => k_is)
    (case z_abs => k_is)
    (case z_max => k_is)
    (case z_min => k_is)
    (case z_sorted => k_is)
    (case z_int => k_is)
    (case z_bool => k_is)
    (case z_list => k_is)
    (case z_tuple => k_is)
    (case z_set => k_is)
    (case z_range => k_is)
    (case z_enumerate => k_is)
    (case z_zip => k_is)
    (case v_MOST_QUANTITIES => k_is)
    (case v_MOST_NUDGES => k_is)
    (case v_MOST_ROWS => k_is)
    (case v_GREATEST_NUMBER => k_is)
