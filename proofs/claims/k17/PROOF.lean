import PyProof.Rows.All
import Wide.All
import OpenK.AllK
import Wide.FinOn
import PyProof.EqAt
import PyProof.EqKinds
import PyProof.TupleCall
import PyProof.ReprReads
import HandS.ForMost
import HandS.Exc
import HandS.TryOnly
import HandS.ExcOwn
import HandS.WordsExc
import HandS.Wide
import HandS.IsInst
import HandS.Deep
import HandS.Style
import HandS.Conv
import HandS.Zip
import HandS.SortRule
import HandS.SortInts
import HandS.DictComp
import HandS.WideBits
import HandS.TupSets
import KE.KDictSum
import HandS.ExcValue
import HandS.SetFor
import HandS.Strs
import HandS.SetKeys
import HandS.Flow
import PyProof.NeKinds
import KE.KDictItemsList
import KE.KDictCopyH
import HandS.Iter
import PySem.Challenge.RW_nudgewebs_k17_fewest_single_nudges
set_option Elab.async false
set_option linter.all false
set_option maxRecDepth 100000
set_option maxHeartbeats 4000000
/-! The ground: defs that run where nothing is being shown (so that repr may be asked), calls by name, repr of data, powers. -/
namespace Nw
open PySem PySem.Spec PyProof.Rows L2

/-! ### defs that run where no repr is under way -/
abbrev Quiet (A : Around) : Prop := A.guards = some []
structure FnG (P : Program) (w : World) (K : PySem.W.Frag) (mg : Str → Option Value)
    (base : Heap) (CX : CXT) (k : Nat) (f : Addr) (fd : FuncData) (ps : List Str) (sp : Sp) : Prop where
  len : ∀ vs H Q E, sp vs H Q E → vs.length = ps.length
  run : ∀ (A : Around) (outer : List Env) (s : Shared) (H : Hp) (args : Args) (us : List Value) (vs : List V)
    (Q : VK) (E : XK), Room k A → Quiet A → Env0 P w K mg base A outer s H →
    BindsTo s fd args (ps.zip us) → Vals vs us → sp vs H Q E →
    codeAny (model P w) A (.call (.ref f) args) (CR CX outer P w H s Q E) s

section
variable {P : Program} {w : World} {K : PySem.W.Frag} {mg : Str → Option Value} {base : Heap} {CX : CXT}
theorem FnG.mono {j k : Nat} {f : Addr} {fd : FuncData} {ps : List Str} {sp : Sp}
    (F : FnG P w K mg base CX j f fd ps sp) (h : j ≤ k) : FnG P w K mg base CX k f fd ps sp :=
  ⟨F.len, fun A outer s H args us vs Q E hr =>
    F.run A outer s H args us vs Q E (hr.mono h)⟩

theorem fng_of {k : Nat} {f : Addr} {name qual : Str} {params : Arguments} {body : List Stmt} {scope : Scope}
    {dV kV doc pm cdv ct oc : Value} {an od : Option Addr} {osl : Array (Option Value)} {N ps : List Str} {sp : Sp}
    (lk : K.lookup f = some ⟨oc, od, .func (PySem.W.fnOf name qual params body scope dV kV doc pm an cdv ct), osl⟩)
    (hcd : PySem.W.codeIn K cdv qual = true) (S : FnScope N ps scope)
    (len : ∀ vs H Q E, sp vs H Q E → vs.length = ps.length)
    (hbody : ∀ (A : Around) (outer : List Env) (s : Shared) (H : Hp) (vs : List V) (Q : VK) (E : XK),
      Room k (A.deeper (envOfC qual scope s.heap.objs.size f cdv)) → Quiet A → sp vs H Q E →
      ∃ t, PSs (cxOf CX P w K mg base N qual scope f cdv A outer s H E) body t ∧
        t { nx := fun _ H' => Q .non H', rt := Q } (start N vs) H) :
    FnG P w K mg base CX (k + 1) f (PySem.W.fnOf name qual params body scope dV kV doc pm an cdv ct) ps sp := by
  refine ⟨len, ?_⟩
  intro A outer s H args us vs Q E hr hgd e0 hb r hsp
  have hl := len _ _ _ _ hsp
  have old := fun b o (e : base.get? b = some o) => (e0.bs b o e).1
  have kinds : ∀ y ∈ ps.zip us, scope.names.lookup y.1 = some .local ∨
      (scope.names.lookup y.1 = some .cell ∧ ((cellsFrom (s.heap.objs.size + 1) scope.names []).lookup y.1).isSome = true) := by
    rintro ⟨n, v⟩ hy
    rcases S.par n (List.of_mem_zip hy).1 with q | q
    · exact Or.inl q
    · exact Or.inr ⟨q, PySem.W.cellsFrom_some _ _ _ (Or.inl q)⟩
  refine codeAny_call_function hr.depth ((e0.mod.kin.keeps old) _ _ lk) rfl S.co S.gen rfl
    (PySem.W.codeRec_of (e0.mod.kin.keeps old) hcd) (hb _ _ _ _ ?_)
  refine wpAny_newFunctionEnv_cells S.kind kinds fun env he s1 x => ?_
  subst he
  refine ⟨(e0.mod.nolimit.keeps old).keeps x.toInCall.keep, codeAny_func ?_⟩
  obtain ⟨t, ht, hq⟩ := hbody A outer s H vs Q E (hr.deeper _) hgd hsp
  have I0 : Inv (cxOf CX P w K mg base N qual scope f cdv A outer s H E) [] (start N vs) H s1 :=
    inv_start S hr.hd e0 hl r x
  refine wpAny_mono (ht.run [] s1 (start N vs) H _ I0 hq) ?_ (fun e s' hs => hs)
  intro fl s' hs
  cases fl with
  | ret u =>
    obtain ⟨v, σ', H', J, rv, q⟩ := hs
    exact (show CE outer P w H s Q u s' from ⟨v, H', J.os, J.bare, J.base, J.hok, rv, q⟩)
  | next =>
    obtain ⟨σ', H', J, q⟩ := hs
    exact (show CE outer P w H s Q Value.none s' from ⟨V.non, H', J.os, J.bare, J.base, J.hok, rfl, q⟩)
  | brk =>
    obtain ⟨_, _, _, q⟩ := hs
    exact q.elim
  | cont =>
    obtain ⟨_, _, _, q⟩ := hs
    exact q.elim

/-- a def of the text, by its body -/
theorem okG {x qual : Str} {st : Stmt} {f : Addr} {fd : FuncData} {N ps : List Str} {k : Nat} {sp : Sp}
    (F : Fun K x qual st f fd) (S : FnScope N ps (defScope st)) (len : ∀ vs H Q E, sp vs H Q E → vs.length = ps.length)
    (hbody : ∀ (cdv : Value) (A : Around) (outer : List Env) (s : Shared) (H : Hp) (vs : List V) (Q : VK) (E : XK),
      Room k (A.deeper (envOfC qual (defScope st) s.heap.objs.size f cdv)) →
      Quiet (A.deeper (envOfC qual (defScope st) s.heap.objs.size f cdv)) → sp vs H Q E →
      ∃ t, PSs (cxOf CX P w K mg base N qual (defScope st) f cdv A outer s H E) (defBody st) t ∧
        t { nx := fun _ H' => Q .non H', rt := Q } (start N vs) H) : FnG P w K mg base CX (k + 1) f fd ps sp := by
  obtain ⟨oc, od, kV, doc, pm, an, cdv, ct, osl, rfl, lk, hcd⟩ := F.ex
  exact fng_of lk hcd S len fun A outer s H vs Q E hr hq hsp => hbody cdv A outer s H vs Q E hr hq hsp

/-- a def as its callers see it -/
structure DefOk (P : Program) (w : World) (K : PySem.W.Frag) (mg : Str → Option Value) (base : Heap) (CX : CXT)
    (k : Nat) (x : Str) (ps : List Str) (sp : Sp) : Prop where
  ex : ∃ f fd, FnG P w K mg base CX k f fd ps sp ∧ mg x = some (.ref f) ∧
    PySem.W.keepIn K (.ref f) = true ∧ Binds K fd ps []
theorem DefOk.mono {j k : Nat} {x : Str} {ps : List Str} {sp : Sp} (D : DefOk P w K mg base CX j x ps sp) (h : j ≤ k) :
    DefOk P w K mg base CX k x ps sp := by
  obtain ⟨f, fd, F, r⟩ := D.ex
  exact ⟨f, fd, F.mono h, r⟩
end

/-- f(e, ..) -/
def tCallD (sp : Sp) (E : XK) (t : TA) : TE := fun σ H Q => t σ H fun vs H1 => sp vs H1 Q E
section
variable {X : Cx} {CX : CXT} {k : Nat} {ps : List Str} {sp : Sp} {E : XK} {x : Str} {p pos : Pos} {e : Expr} {es : List Expr} {t : TA}
theorem run_fng {f : Addr} {fd : FuncData} {pins : List (Addr × Obj)} {σ : L2.St} {H : Hp} {s : Shared} {Q : VK} {us : List Value} {vs : List V}
    (F : FnG X.prog X.w X.K X.mg X.base CX k f fd ps sp) (hr : Room k X.A) (hgd : Quiet X.A) (hb : Binds X.K fd ps [])
    (hx : Passes CX X E) (I : Inv X pins σ H s) (r : Vals vs us) (h : sp vs H Q E) :
    wpAny (model X.prog X.w) X.A (call (.ref f) us) (EP X pins σ Q) X.xe s := by
  have hl : (us ++ ([] : List Value)).length = ps.length := by
    rw [List.append_nil, ← r.length]
    exact F.len _ _ _ _ h
  have hb2 := hb s us I.kIn hl
  rw [List.append_nil] at hb2
  refine wpAny_call (codeAny_mono (F.run X.A X.stack s H ⟨us, []⟩ us vs Q E hr hgd I.env0 hb2 r h) ?_)
  intro r s' hq
  cases r with
  | error e => exact hx pins σ H s e s' I hq
  | ok fl =>
    cases fl with
    | ret u => exact I.after hq
    | next => exact (show False from hq).elim
    | brk => exact (show False from hq).elim
    | cont => exact (show False from hq).elim

theorem pe_callD (D : DefOk X.prog X.w X.K X.mg X.base CX k x ps sp) (hr : Room k X.A) (hgd : Quiet X.A) (hx : Passes CX X E)
    (ha : PA X (e :: es) t) (hg : Gl X x := by rfl) (hdb : (x == ("__debug__" : Str)) = false := by decide)
    (he : starEach (e :: es) X.env = (false, eval e X.env) :: starEach es X.env := by rfl)
    (hpl : (backTo pos (starEach es X.env)).any (·.1) = false := by rfl) :
    PE X (.Call (.Name x p) (e :: es) [] pos) (tCallD sp E t) := by
  obtain ⟨f, fd, F, hm, hk, hb⟩ := D.ex
  refine ⟨fun pins s σ H Q I h => ?_⟩
  refine wpAny_Call_Name_kw (ld_glob I hg hm ?_ hdb)
  refine PySem.W.callWith_K (h₀ := X.base) I.ok.mod.kin hk (thn (ha.run pos pins s σ H _ I h) ?_) he hpl
  rintro us s1 ⟨vs, H1, I1, r, q⟩
  exact ⟨I1.kIn, run_fng F hr hgd hb hx I1 r q⟩
end

/-! ### the law's end -/
section
variable {P : Program} {w : World} {K : PySem.W.Frag}
theorem law_callG {mg mb : Str → Option Value} {CX : CXT} {k : Nat} {fa a : Addr} {fd : FuncData} {x : Str} {sp : Sp}
    {s1 : Shared} {vs : List Value} {ns : List Int}
    (KX : K.In s1.heap) (hns : s1.heap.Ns mainGlobals mg) (hb : s1.heap.Ns builtinsNs mb)
    (hbb : ∀ x : Str, x ≠ "__name__" → mb x = bootBuiltins x) (hlim : s1.heap.NoLimit) (hg : s1.gens = #[])
    (ha : s1.heap.get? a = some { cls := .type "list", data := .seq vs.toArray }) (hi : IntsAre vs ns)
    (hl : ns.length ≤ sizeLine) (hr : Room k callerA)
    (F : ∀ base : Heap, K.In base → base.Ns mainGlobals mg → FnG P w K mg base CX k fa fd [x] sp)
    (hbind : ∀ (s : Shared) (u : Value), BindsTo s fd ⟨[u], []⟩ [(x, u)])
    (hsp : ∀ H : Hp, Only H → SqL K H a (ns.map V.int) → sp [.ref a] H (fun v _ => v = .bl true) fun _ _ _ => False)
    (hCX : ∀ H e s', CX [] H s1 (fun _ _ _ => False) e s' → False) :
    codeAny (model P w) callerA (.call (.ref fa) ⟨[.ref a], []⟩)
      (fun r s' => r = .ok (.ret (.bool true)) ∧ OldK s1.heap s'.heap ∧ s'.os = s1.os ∧ AllBare s'.gens) s1 := by
  have rv := vals_ints hi
  have lenV := hi.length
  have core : ∀ H : Hp, Only H → SqL K H a (ns.map V.int) → HOk P w H s1.heap →
      (∀ b, H b ≠ none → b = a) → (H a ≠ none → K.lookup a = none) →
      codeAny (model P w) callerA (.call (.ref fa) ⟨[.ref a], []⟩)
        (fun r s' => r = .ok (.ret (.bool true)) ∧ OldK s1.heap s'.heap ∧ s'.os = s1.os ∧ AllBare s'.gens) s1 := by
    intro H hO hS hok hA hK
    have fromH : ∀ {b : Addr} {o : Obj}, s1.heap.get? b = some o → H b = none →
        (hidT s1.heap H).get? b = some o := fun e n => hidT_get e n
    have free : ∀ {b : Addr} {o : Obj} {es : Array DictEntry} {ep : Nat},
        s1.heap.get? b = some o → o.data = .dict es ep → H b = none := by
      intro b o es ep e d
      cases q : H b with
      | none => rfl
      | some u =>
        have e' : b = a := hA b (by rw [q]; exact fun z => nomatch z)
        subst e'
        rw [ha] at e
        cases e
        exact nomatch d
    have nsK : ∀ {b : Addr} {m : Str → Option Value}, s1.heap.Ns b m → (hidT s1.heap H).Ns b m := by
      rintro b m ⟨o, es, ep, e, d, r⟩
      exact ⟨o, es, ep, fromH e (free e d), d, r⟩
    have hKb : K.In (hidT s1.heap H) := by
      intro b o e
      refine fromH (KX b o e) ?_
      cases q : H b with
      | none => rfl
      | some u =>
        have e' : b = a := hA b (by rw [q]; exact fun z => nomatch z)
        subst e'
        rw [hK (by rw [q]; exact fun z => nomatch z)] at e
        cases e
    have hM : Mod K mg (hidT s1.heap H) := by
      obtain ⟨mc, h1, h2⟩ := hlim
      exact ⟨hKb, nsK hns, ⟨mb, nsK hb, hbb⟩, ⟨mc, nsK h1, h2⟩⟩
    have e0 : Env0 P w K mg (hidT s1.heap H) callerA [] s1 H :=
      ⟨rfl, hM, fun b o e => of_hidT e, Nat.le_of_eq (hidT_size _ _), trivial,
        fun b hb => (List.not_mem_nil hb).elim, hok, .of_eq hg⟩
    refine codeAny_mono ((F _ hKb (nsK hns)).run callerA [] s1 H ⟨[.ref a], []⟩ [.ref a] [.ref a] _ _ hr rfl e0
      (hbind s1 (.ref a)) (.cons rfl .nil) (hsp H hO hS)) ?_
    intro r s' h
    cases r with
    | error e => exact (hCX H e s' h).elim
    | ok fl =>
      cases fl with
      | next => exact (show False from h).elim
      | brk => exact (show False from h).elim
      | cont => exact (show False from h).elim
      | ret u =>
        obtain ⟨v, H', os, bare, un, hok', r', q⟩ := h
        have q' : v = .bl true := q
        subst q'
        obtain rfl : u = Value.bool true := r'
        refine ⟨rfl, OldK.of_keep ?_, os, bare⟩
        intro b o e
        cases q : H b with
        | none => exact un.keep b o e q (fun z => (List.not_mem_nil z).elim) (fun z => (List.not_mem_nil z).elim)
        | some u =>
          rcases hO b with z | ⟨ob, xs, z⟩
          · rw [q] at z
            cases z
          · obtain ⟨e1, _⟩ := hok b _ z
            obtain ⟨e2, _⟩ := hok' b _ (un.frzs b ob _ z)
            rw [e] at e1
            cases e1
            exact e2
  cases hk : K.lookup a with
  | some o =>
    have e := KX a o hk
    rw [ha] at e
    cases e
    exact core (fun _ => none) (fun _ => .inl rfl)
      (.inr ⟨_, vs.toArray, _, hk, rfl, rfl, rfl, by rw [List.size_toArray, lenV]; exact hl, by simpa using rv⟩)
      (fun b u z => nomatch z) (fun b z => (z rfl).elim) (fun z => (z rfl).elim)
  | none =>
    refine core (fun b => if b = a then some (.frz { cls := .type "list", data := .seq vs.toArray } (.lst (ns.map V.int))) else none)
      ?_ (.inl (.inr ⟨{ cls := .type "list", data := .seq vs.toArray }, if_pos rfl⟩)) ?_ ?_ (fun _ => hk)
    · intro b
      by_cases hb : b = a
      · exact .inr ⟨_, _, if_pos hb⟩
      · exact .inl (if_neg hb)
    · intro b u z
      by_cases hb : b = a
      · have z' := (if_pos hb).symm.trans z
        cases z'
        subst hb
        exact ⟨ha, by rw [List.length_map]; exact hl, vs, _, rv, ha⟩
      · have z' := (if_neg hb).symm.trans z
        cases z'
    · intro b z
      by_cases hb : b = a
      · exact hb
      · exact (z (if_neg hb)).elim
end

theorem walkG {l : PySem.W.OpenLaw} {n k : Nat} {q : Program} {loose : List Str} {XP : (Str → Option Value) → Heap → Prop}
    {YP : World → Heap → Prop} {d : DefRec} {K : Params → PySem.W.Frag} {CX : World → CXT} {sp : World → Sp} {x : Str}
    (hn : l.most = some n) (hn2 : n ≤ sizeLine) (hdf : d.params.defaults = []) (hr : Room k callerA)
    (hY : ∀ (w : World) (h : Heap), YP w h → (K w.params).In h)
    (F : ∀ (w : World) (mg : Str → Option Value) (fa : Addr) (h : Heap), (K w.params).In h → h.Ns mainGlobals mg →
      mg d.name = some (.ref fa) → ∃ fd : FuncData, (∀ (s : Shared) (u : Value), BindsTo s fd ⟨[u], []⟩ [(x, u)]) ∧
        ∀ base : Heap, (K w.params).In base → base.Ns mainGlobals mg →
          FnG l.prog w (K w.params) mg base (CX w) k fa fd [x] (sp w))
    (hsp : ∀ (w : World) (H : Hp) (a : Addr) (ns : List Int), ns.length ≤ n → Only H →
      SqL (K w.params) H a (ns.map V.int) → sp w [.ref a] H (fun v _ => v = .bl true) fun _ _ _ => False)
    (hCX : ∀ (w : World) (H : Hp) (s : Shared) (e : Value) (s' : Shared), CX w [] H s (fun _ _ _ => False) e s' → False) :
    PySem.W.WalkO q loose XP YP l.row.toRowW d [] (fun f vs => PySem.call f vs) := by
  refine Att.attach_call hn hdf ?_
  intro w s0 s1 mg mb fa o pm cd doc a vs ns G Y ho hd hcd hmg hobj hints hlen hg
  obtain ⟨fd, hb, hF⟩ := F w mg fa _ (hY w _ Y) G.T.g hmg
  exact law_callG (hY w _ Y) G.T.g G.T.b G.T.builtins G.T.nolimit hg hobj hints (Nat.le_trans hlen hn2) hr hF hb
    (fun H hO hS => hsp w H a ns hlen hO hS) (fun H e s' => hCX w H s1 e s')

/-! ### repr of data -/
section
variable {X : Cx}
mutual
theorem dp_noDict {K : PySem.W.Frag} {H : Hp} : ∀ (d : PyData) (v : V), Dp K H v d → d.hasDict = false
  | .none, _, _ => by simp only [PyData.hasDict]
  | .bool _, _, _ => by simp only [PyData.hasDict]
  | .int _, _, _ => by simp only [PyData.hasDict]
  | .str _, _, _ => by simp only [PyData.hasDict]
  | .list ds, _, h => by
    cases h with
    | lst _ ha =>
      simp only [PyData.hasDict]
      exact dp_noDictAll ds _ ha
  | .tuple ds, _, h => by
    cases h with
    | tup _ ha =>
      simp only [PyData.hasDict]
      exact dp_noDictAll ds _ ha
  | .dict _, _, h => by cases h
theorem dp_noDictAll {K : PySem.W.Frag} {H : Hp} : ∀ (ds : List PyData) (vs : List V), DpAll K H vs ds → PyData.hasDictAll ds = false
  | [], _, _ => by simp only [PyData.hasDictAll]
  | d :: ds, _, h => by
    cases h with
    | cons h1 h2 => simp only [PyData.hasDictAll, dp_noDict d _ h1, dp_noDictAll ds _ h2, Bool.or_self]
end
/-- repr(x), x any data without dicts -/
def rReprD (K : PySem.W.Frag) : List V → Hp → VK → Prop := fun xs H Q =>
  ∃ x d, xs = [x] ∧ Dp K H x d ∧ d.showable = true ∧ d.shown.length ≤ sizeLine ∧ d.depth ≤ 60 ∧ Q (.str d.shown) H
end
end Nw
/-! Data as trees over the abstract heap; what is asked of them. -/
namespace Nw
open PySem PySem.Spec PyProof.Rows L2

/-- what is known stays known -/
abbrev Ex (H H' : Hp) : Prop := ∀ b o, H b = some o → H' b = some o
theorem Ex.rfl {H : Hp} : Ex H H := fun _ _ h => h
theorem Ex.tr {H H1 H2 : Hp} (a : Ex H H1) (b : Ex H1 H2) : Ex H H2 := fun c o h => b c o (a c o h)
theorem Ex.nw {H : Hp} {p : Addr} {o : HO} (h : H p = none) : Ex H (upd H p o) := fun b u e => by
  rw [upd_ne (ne_of_none e h)]
  exact e
theorem Ex.nw2 {H H' : Hp} {p : Addr} {o : HO} (e : Ex H H') (h : H' p = none) : Ex H (upd H' p o) := e.tr (Ex.nw h)
theorem Ex.fr {H H' : Hp} (e : Ex H H') {l : Addr} (h : H' l = none) : H l = none := by
  cases q : H l with
  | none => exact Eq.refl _
  | some o =>
    rw [e l o q] at h
    cases h
/-- an object that H does not know may change -/
theorem Ex.wr {H H' : Hp} {p : Addr} {o : HO} (e : Ex H H') (h : H p = none) : Ex H (upd H' p o) := fun a u ha => by
  rw [upd_ne (ne_of_none ha h)]
  exact e a u ha
section
variable {K : PySem.W.Frag} {H H' : Hp}
theorem Ex.rd {a : Addr} {u : HO} (e : Ex H H') (h : Rd H a u) : Rd H' a u := by
  rcases h with h | ⟨o, h⟩
  · exact Or.inl (e a _ h)
  · exact Or.inr ⟨o, e a _ h⟩
theorem Ex.l {a : Addr} {xs : List V} (e : Ex H H') (h : SqL K H a xs) : SqL K H' a xs := by
  rcases h with h | h
  · exact Or.inl (e.rd h)
  · exact Or.inr h
theorem Ex.t {a : Addr} {xs : List V} (e : Ex H H') (h : SqT K H a xs) : SqT K H' a xs := by
  rcases h with h | h
  · exact Or.inl (e.rd h)
  · exact Or.inr h
end

/-! ### data -/
/-- a dict of ints and texts with plain values -/
def keyD : Key → PyData
  | .inl i => .int i
  | .inr x => .str x
mutual
def Da (K : PySem.W.Frag) (H : Hp) : PyData → V → Prop
  | .none, v => v = .non
  | .bool b, v => v = .bl b
  | .int i, v => v = .int i
  | .str x, v => v = .str x
  | .list ds, v => ∃ a xs, v = .ref a ∧ H a = some (.lst xs) ∧ DaAll K H ds xs ∧ ds.length ≤ 100000
  | .tuple ds, v => ∃ a xs, v = .ref a ∧ H a = some (.tup xs) ∧ DaAll K H ds xs
  | .dict kd, v => ∃ a kvs, v = .ref a ∧ H a = some (.dK kvs) ∧ (kvs.map fun kv => keyD kv.1) = kd.map (·.1) ∧ DaKv K H kd (kvs.map (·.2))
def DaAll (K : PySem.W.Frag) (H : Hp) : List PyData → List V → Prop
  | [], vs => vs = []
  | d :: ds, vs => ∃ x xs, vs = x :: xs ∧ Da K H d x ∧ DaAll K H ds xs
def DaKv (K : PySem.W.Frag) (H : Hp) : List (PyData × PyData) → List V → Prop
  | [], vs => vs = []
  | (_, d) :: ds, vs => ∃ x xs, vs = x :: xs ∧ Da K H d x ∧ DaKv K H ds xs
end
section
variable {K : PySem.W.Frag} {H H' : Hp}
mutual
theorem Da.mono (e : Ex H H') : ∀ (d : PyData) (v : V), Da K H d v → Da K H' d v
  | .none, _, h => h
  | .bool _, _, h => h
  | .int _, _, h => h
  | .str _, _, h => h
  | .list ds, v, h => by
    obtain ⟨a, xs, ev, hs, ha, hz⟩ := h
    exact ⟨a, xs, ev, e _ _ hs, DaAll.mono e ds xs ha, hz⟩
  | .tuple ds, v, h => by
    obtain ⟨a, xs, ev, hs, ha⟩ := h
    exact ⟨a, xs, ev, e _ _ hs, DaAll.mono e ds xs ha⟩
  | .dict kd, v, h => by
    obtain ⟨a, kvs, ev, hs, hk, hv⟩ := h
    exact ⟨a, kvs, ev, e _ _ hs, hk, DaKv.mono e kd _ hv⟩
theorem DaAll.mono (e : Ex H H') : ∀ (ds : List PyData) (vs : List V), DaAll K H ds vs → DaAll K H' ds vs
  | [], _, h => h
  | d :: ds, vs, h => by
    obtain ⟨x, xs, ev, h1, h2⟩ := h
    exact ⟨x, xs, ev, Da.mono e d x h1, DaAll.mono e ds xs h2⟩
theorem DaKv.mono (e : Ex H H') : ∀ (ds : List (PyData × PyData)) (vs : List V), DaKv K H ds vs → DaKv K H' ds vs
  | [], _, h => h
  | (_, d) :: ds, vs, h => by
    obtain ⟨x, xs, ev, h1, h2⟩ := h
    exact ⟨x, xs, ev, Da.mono e d x h1, DaKv.mono e ds xs h2⟩
end
theorem Da.up {d : PyData} {v : V} (h : Da K H d v) (e : Ex H H') : Da K H' d v := Da.mono e d v h
theorem DaAll.up {ds : List PyData} {vs : List V} (h : DaAll K H ds vs) (e : Ex H H') : DaAll K H' ds vs := DaAll.mono e ds vs h
mutual
theorem Da.dp : ∀ (d : PyData) (v : V), Da K H d v → d.hasDict = false → Dp K H v d
  | .none, _, h, _ => by
    obtain rfl := h
    exact .non
  | .bool b, _, h, _ => by
    obtain rfl := h
    exact .bl b
  | .int i, _, h, _ => by
    obtain rfl := h
    exact .int i
  | .str x, _, h, _ => by
    obtain rfl := h
    exact .str x
  | .list ds, v, h, hd => by
    obtain ⟨a, xs, rfl, hs, ha, _⟩ := h
    exact .lst (.inl (.inl hs)) (DaAll.dp ds xs ha (by simpa only [PyData.hasDict] using hd))
  | .tuple ds, v, h, hd => by
    obtain ⟨a, xs, rfl, hs, ha⟩ := h
    exact .tup (.inl (.inl hs)) (DaAll.dp ds xs ha (by simpa only [PyData.hasDict] using hd))
  | .dict kd, v, h, hd => by
    simp only [PyData.hasDict] at hd
    cases hd
theorem DaAll.dp : ∀ (ds : List PyData) (vs : List V), DaAll K H ds vs → PyData.hasDictAll ds = false → DpAll K H vs ds
  | [], _, h, _ => by
    obtain rfl := h
    exact .nil
  | d :: ds, vs, h, hd => by
    obtain ⟨x, xs, rfl, h1, h2⟩ := h
    simp only [PyData.hasDictAll, Bool.or_eq_false_iff] at hd
    exact .cons (Da.dp d x h1 hd.1) (DaAll.dp ds xs h2 hd.2)
end
theorem DaAll.len : ∀ {ds : List PyData} {vs : List V}, DaAll K H ds vs → ds.length = vs.length
  | [], _, h => by
    obtain rfl := h
    exact Eq.refl _
  | d :: ds, vs, h => by
    obtain ⟨x, xs, rfl, _, h2⟩ := h
    rw [List.length_cons, List.length_cons, DaAll.len h2]
theorem DaAll.at : ∀ {ds : List PyData} {vs : List V} {i : Nat} {d : PyData}, DaAll K H ds vs → ds[i]? = some d → ∃ x, vs[i]? = some x ∧ Da K H d x
  | [], _, _, _, _, e => by simp at e
  | d :: ds, vs, 0, _, h, e => by
    obtain ⟨x, xs, rfl, h1, _⟩ := h
    cases e
    exact ⟨x, Eq.refl _, h1⟩
  | d :: ds, vs, i + 1, _, h, e => by
    obtain ⟨x, xs, rfl, _, h2⟩ := h
    simp only [List.getElem?_cons_succ] at e ⊢
    exact DaAll.at h2 e
theorem DaAll.at' : ∀ {ds : List PyData} {vs : List V} {i : Nat} {x : V}, DaAll K H ds vs → vs[i]? = some x → ∃ d, ds[i]? = some d ∧ Da K H d x
  | [], _, _, _, h, e => by
    obtain rfl := h
    simp at e
  | d :: ds, vs, 0, _, h, e => by
    obtain ⟨x, xs, rfl, h1, _⟩ := h
    cases e
    exact ⟨d, Eq.refl _, h1⟩
  | d :: ds, vs, i + 1, _, h, e => by
    obtain ⟨x, xs, rfl, _, h2⟩ := h
    simp only [List.getElem?_cons_succ] at e ⊢
    exact DaAll.at' h2 e
theorem DaAll.app : ∀ {ds es : List PyData} {vs ws : List V}, DaAll K H ds vs → DaAll K H es ws → DaAll K H (ds ++ es) (vs ++ ws)
  | [], _, _, _, h, g => by
    obtain rfl := h
    exact g
  | d :: ds, es, vs, ws, h, g => by
    obtain ⟨x, xs, rfl, h1, h2⟩ := h
    exact ⟨x, xs ++ ws, Eq.refl _, h1, DaAll.app h2 g⟩
theorem DaAll.ints : ∀ {ns : List Int} {vs : List V}, DaAll K H (ns.map PyData.int) vs ↔ vs = ns.map V.int
  | [], vs => Iff.rfl
  | n :: ns, vs => by
    constructor
    · rintro ⟨x, xs, rfl, rfl, h2⟩
      rw [List.map_cons, DaAll.ints.mp h2]
    · rintro rfl
      exact ⟨_, _, Eq.refl _, Eq.refl _, DaAll.ints.mpr (Eq.refl _)⟩
theorem DaAll.mem : ∀ {ds : List PyData} {vs : List V}, DaAll K H ds vs → ∀ x ∈ vs, ∃ d ∈ ds, Da K H d x
  | [], _, h, x, hx => by
    obtain rfl := h
    cases hx
  | d :: ds, vs, h, x, hx => by
    obtain ⟨y, ys, rfl, h1, h2⟩ := h
    rcases List.mem_cons.mp hx with rfl | hx
    · exact ⟨d, List.mem_cons_self, h1⟩
    · obtain ⟨e, he, hd⟩ := DaAll.mem h2 x hx
      exact ⟨e, List.mem_cons_of_mem _ he, hd⟩

/-! ### types -/
theorem tyx_l {a : Addr} {xs : List V} (h : SqL K H a xs) : TyX K H (.ref a) (.type "list") := by
  rcases h with (h | ⟨o, h⟩) | ⟨o, its, n, e, c, _⟩
  · exact .base (.lst h)
  · exact .base (.frz h)
  · exact .kList e c
theorem tyx_t {a : Addr} {xs : List V} (h : SqT K H a xs) : TyX K H (.ref a) (.type "tuple") := by
  rcases h with (h | ⟨o, h⟩) | ⟨o, its, n, e, c, _⟩
  · exact .base (.tup h)
  · exact .fTuple h
  · exact .kTuple e c
/-- the name of a datum's type -/
def tyName : PyData → String
  | .none => "NoneType"
  | .bool _ => "bool"
  | .int _ => "int"
  | .str _ => "str"
  | .list _ => "list"
  | .tuple _ => "tuple"
  | .dict _ => "dict"
theorem Da.ty : ∀ {d : PyData} {v : V}, Da K H d v → TyX K H v (.type (tyName d))
  | .none, _, h => by
    obtain rfl := h
    exact .base .non
  | .bool b, _, h => by
    obtain rfl := h
    exact .base (.bl b)
  | .int i, _, h => by
    obtain rfl := h
    exact .base (.int i)
  | .str x, _, h => by
    obtain rfl := h
    exact .base (.str x)
  | .list ds, v, h => by
    obtain ⟨a, xs, rfl, hs, _⟩ := h
    exact tyx_l (.inl (.inl hs))
  | .tuple ds, v, h => by
    obtain ⟨a, xs, rfl, hs, _⟩ := h
    exact tyx_t (.inl (.inl hs))
  | .dict kd, v, h => by
    obtain ⟨a, kvs, rfl, hs, _⟩ := h
    exact .base (.dK hs)
/-- isinstance by the types' names -/
def isN (T n : String) : Bool := T == n || (T == "int" && n == "bool")
/-- isinstance of data: int, bool, list, tuple, str -/
def isA (T : String) (d : PyData) : Bool := isN T (tyName d)
theorem isN_ok (T : String) (hT : T = "int" ∨ T = "bool" ∨ T = "list" ∨ T = "tuple" ∨ T = "str") (n : String)
    (hn : n = "NoneType" ∨ n = "bool" ∨ n = "int" ∨ n = "str" ∨ n = "list" ∨ n = "tuple" ∨ n = "dict") :
    PySem.W.kitOne K (.type n) (.type T) = some (isN T n) := by
  rcases hT with rfl | rfl | rfl | rfl | rfl <;> rcases hn with rfl | rfl | rfl | rfl | rfl | rfl | rfl <;> exact kit_ty (by decide +kernel)
theorem isA_ok (T : String) (hT : T = "int" ∨ T = "bool" ∨ T = "list" ∨ T = "tuple" ∨ T = "str") (d : PyData) :
    PySem.W.kitOne K (.type (tyName d)) (.type T) = some (isA T d) := isN_ok T hT _ (by cases d <;> simp [tyName])
end

/-! ### rules -/
section
variable {X : Cx}
theorem call_reprD {k : Nat} (hq : Quiet X.A) (hr : Room k X.A) : CallR X (.builtin "repr") (rReprD X.K) := by
  intro pins s σ H xs us Q I r h
  obtain ⟨x, d, rfl, hd, hs, hz, hdp, q⟩ := h
  obtain ⟨u, rfl, rx⟩ := Vals.one r
  obtain ⟨as, rd⟩ := Dp.reads I d x u hd rx
  have nd := dp_noDict d x hd
  have hu : X.A.units + 200 < cLine := by have := hr.un; omega
  have fin : ∀ h' u' tk, (∀ b o, s.heap.get? b = some o → h'.get? b = some o) →
      EP X pins σ Q (.str d.shown u') { s with heap := h', toks := tk } :=
    fun h' u' tk hk => ⟨.str d.shown, H, I.kept hk, ⟨_, rfl⟩, q⟩
  cases d with
  | none =>
    cases hd
    obtain rfl : u = Value.none := rx
    exact PySem.P.repr_of_none (fin s.heap _ _ fun _ _ e => e)
  | bool b =>
    cases hd
    obtain rfl : u = Value.bool b := rx
    exact PySem.P.repr_of_bool (fin s.heap _ _ fun _ _ e => e)
  | int i =>
    cases hd
    obtain ⟨t, rfl⟩ := rx
    exact PySem.P.repr_of_int (by simpa only [PyData.showable, decide_eq_true_eq] using hs) (fin s.heap _ _ fun _ _ e => e)
  | str z =>
    cases hd
    obtain ⟨t, rfl⟩ := rx
    exact PySem.P.repr_of_str (fin s.heap _ _ fun _ _ e => e) (by simpa only [PyData.shown] using hz)
  | list ds =>
    cases hd with
    | lst h1 h2 =>
      cases rx
      exact repr_of_reads' rd hs (PyData.noDict_hsm nd) hq (by omega) (fun _ _ e => e) fin hz
  | tuple ds =>
    cases hd with
    | tup h1 h2 =>
      cases rx
      exact repr_of_reads' rd hs (PyData.noDict_hsm nd) hq (by omega) (fun _ _ e => e) fin hz
  | dict kd => cases hd

/-- a ** b of great numbers -/
def CPowW (i j : Int) : Prop := 0 ≤ j ∧ j ≤ 100 ∧ i.natAbs < 2 ^ 10000
theorem op_powW : OpR X (binaryOp .Pow) (rI CPowW fun i j => .int (i ^ j.toNat)) := opI fun i j t u s A E hc q => by
  obtain ⟨h0, h8, hi⟩ := hc
  refine pow_int h0 ?_ q
  have hb : Builtin.Int.intBits i ≤ 10000 := by
    unfold Builtin.Int.intBits
    split
    · omega
    · rename_i hn
      have hne : i.natAbs ≠ 0 := by
        intro e
        exact hn (by simpa using e)
      have := (Nat.log2_lt hne).mpr hi
      omega
  have h1 : (Builtin.Int.intBits i : Int) * j ≤ 10000 * 100 := Int.mul_le_mul (by omega) h8 h0 (by omega)
  omega
end
end Nw
namespace Nw
open PySem PySem.Spec PyProof.Rows L2
section
variable {P : Program} {w : World} {K : PySem.W.Frag} {mg : Str → Option Value} {base : Heap}
/-- a def that lets no exception out -/
theorem okG0 {x qual : Str} {st : Stmt} {f : Addr} {fd : FuncData} {N ps : List Str} {k : Nat} {sp : Sp}
    (F : Fun K x qual st f fd) (S : FnScope N ps (defScope st)) (len : ∀ vs H Q E, sp vs H Q E → vs.length = ps.length)
    (hbody : ∀ (cdv : Value) (A : Around) (outer : List Env) (s : Shared) (H : Hp) (vs : List V) (Q : VK) (E : XK),
      Room k (A.deeper (envOfC qual (defScope st) s.heap.objs.size f cdv)) →
      Quiet (A.deeper (envOfC qual (defScope st) s.heap.objs.size f cdv)) → sp vs H Q E →
      ∃ t, PSs (cxOf CX0 P w K mg base N qual (defScope st) f cdv A outer s H E).nox (defBody st) t ∧
        t { nx := fun _ H' => Q .non H', rt := Q } (start N vs) H) : FnG P w K mg base CX0 (k + 1) f fd ps sp :=
  okG F S len fun cdv A outer s H vs Q E hr hq hsp => by
    obtain ⟨t, h, q⟩ := hbody cdv A outer s H vs Q E hr hq hsp
    exact ⟨t, h.nox, q⟩
end
theorem pe_globI {X : Cx} {x : Str} {n : Int} {pos : Pos} (hm : ∃ t, X.mg x = some (.int n t)) (hg : Gl X x := by rfl)
    (hd : (x == ("__debug__" : Str)) = false := by decide) : PE X (.Name x pos) (tC (.int n)) := by
  obtain ⟨t, h⟩ := hm
  exact pe_glob hg h ⟨t, rfl⟩ hd
theorem pe_bty {X : Cx} {x : Str} {n : String} {pos : Pos} (hm : X.mg x = none) (hv : bootBuiltins x = some (.type n)) (hg : Gl X x := by rfl)
    (hn : x ≠ "__name__" := by decide) (hd : (x == ("__debug__" : Str)) = false := by decide) : PE X (.Name x pos) (tC (.ty n)) :=
  pe_bltn hg hm hv rfl hn hd
theorem bt_isinstance : bootBuiltins "isinstance" = some (.builtin "isinstance") := by decide +kernel
theorem bt_len : bootBuiltins "len" = some (.builtin "len") := by decide +kernel
theorem bt_all : bootBuiltins "all" = some (.builtin "all") := by decide +kernel
theorem bt_any : bootBuiltins "any" = some (.builtin "any") := by decide +kernel
theorem bt_sum : bootBuiltins "sum" = some (.builtin "sum") := by decide +kernel
theorem bt_repr : bootBuiltins "repr" = some (.builtin "repr") := by decide +kernel
theorem bt_abs : bootBuiltins "abs" = some (.builtin "abs") := by decide +kernel
theorem bt_max : bootBuiltins "max" = some (.builtin "max") := by decide +kernel
theorem bt_min : bootBuiltins "min" = some (.builtin "min") := by decide +kernel
theorem bt_sorted : bootBuiltins "sorted" = some (.builtin "sorted") := by decide +kernel
theorem bt_int : bootBuiltins "int" = some (.type "int") := by decide +kernel
theorem bt_bool : bootBuiltins "bool" = some (.type "bool") := by decide +kernel
theorem bt_str : bootBuiltins "str" = some (.type "str") := by decide +kernel
theorem bt_list : bootBuiltins "list" = some (.type "list") := by decide +kernel
theorem bt_tuple : bootBuiltins "tuple" = some (.type "tuple") := by decide +kernel
theorem bt_set : bootBuiltins "set" = some (.type "set") := by decide +kernel
/-- isinstance(x, T) of data -/
theorem isi_da {K : PySem.W.Frag} {H : Hp} {d : PyData} {v : V} {T : String} {Q : VK} (h : Da K H d v)
    (hT : T = "int" ∨ T = "bool" ∨ T = "list" ∨ T = "tuple" ∨ T = "str") (q : Q (.bl (isA T d)) H) : rIsi K [v, .ty T] H Q :=
  ⟨v, .ty T, _, _, _, rfl, .ty T, h.ty, isA_ok T hT d, q⟩
theorem start_eq {N : List Str} {vs : List V} : start N vs = vs.map some ++ List.replicate (N.length - vs.length) none := rfl
end Nw
/-! repr of data with dicts: sys.modules has to be told apart, which the top knows. -/
namespace Nw
open PySem PySem.Spec PyProof.Rows L2
abbrev SysAt (base : Heap) : Prop := ∃ mm, base.Ns sysModules mm
section
variable {X : Cx} {pins : List (Addr × Obj)} {σ : L2.St} {H : Hp} {s : Shared}
theorem sys_no_list (I : Inv X pins σ H s) (SM : SysAt X.base) {a : Addr} {o : Obj} {vs : Array Value} {n : Nat} (h : s.heap.get? a = some o) (hd : o.data = .seq vs n) : a ≠ sysModules := by
  rintro rfl
  obtain ⟨mm, o2, es, ep, e, d, _⟩ := SM
  have h2 := I.bk _ _ e
  rw [h] at h2
  cases h2
  rw [hd] at d
  cases d
theorem reads_keys : ∀ {kd : List PyData} {kvs : List (Key × V)} {vs : List (Key × Value)} {es : List DictEntry} {h : Heap} {P : Program} {w : World}, (kvs.map fun kv => keyD kv.1) = kd → KV kvs vs → Pairs (mixKind P w) es vs →
    ReadsAll h (es.map (·.key)) kd [] ∧ Vals (kvs.map (·.2)) (es.map (·.val))
  | [], [], _, _, _, _, _, _, .nil, .nil => ⟨.nil, .nil⟩
  | [], _ :: _, _, _, _, _, _, hk, _, _ => by simp at hk
  | _ :: _, [], _, _, _, _, _, hk, _, _ => by simp at hk
  | k :: kd, (k', v') :: kvs, _, _, h, P, w, hk, .cons (a := _) (b := q) ⟨e1, r1⟩ t, .cons (e := en) hk2 hv t2 => by
    simp only [List.map_cons, List.cons.injEq] at hk
    obtain ⟨rfl, hk3⟩ := hk
    obtain ⟨ih1, ih2⟩ := reads_keys (h := h) (P := P) (w := w) hk3 t t2
    simp only at e1 r1
    subst e1
    have hkey : Reads h en.key (keyD q.1) [] := by
      rcases keyIs_shape (show keyIs q.1 en.key = true from hk2) with ⟨i, t, e, e'⟩ | ⟨x, t, e, e'⟩
      · rw [e', e]
        exact .int i t
      · rw [e', e]
        exact .str x t
    simp only [List.map_cons]
    rw [hv]
    exact ⟨.cons (as := []) (bs := []) hkey ih1, .cons r1 ih2⟩
mutual
theorem Da.reads (I : Inv X pins σ H s) (SM : SysAt X.base) : ∀ (d : PyData) (v : V) (u : Value), Da X.K H d v → RelV v u → ∃ as, Reads s.heap u d as ∧ sysModules ∉ as
  | .none, _, _, h, r => by
    obtain rfl := h
    cases r
    exact ⟨_, .none, by simp⟩
  | .bool b, _, _, h, r => by
    obtain rfl := h
    cases r
    exact ⟨_, .bool b, by simp⟩
  | .int i, _, _, h, r => by
    obtain rfl := h
    obtain ⟨t, rfl⟩ := r
    exact ⟨_, .int i t, by simp⟩
  | .str x, _, _, h, r => by
    obtain rfl := h
    obtain ⟨t, rfl⟩ := r
    exact ⟨_, .str x t, by simp⟩
  | .list ds, _, _, h, r => by
    obtain ⟨a, xs, rfl, hs, ha, _⟩ := h
    cases r
    obtain ⟨its, rv, ⟨o, n, ho, hc, _, hd⟩, _⟩ := I.list (.inl (.inl hs))
    obtain ⟨as, hr, hn⟩ := Da.readsAll I SM ds _ its ha rv
    refine ⟨_, Reads.list ho hc hd hr, fun hm => ?_⟩
    rcases List.mem_cons.mp hm with e | hm
    · exact sys_no_list I SM ho hd e.symm
    · exact hn hm
  | .tuple ds, _, _, h, r => by
    obtain ⟨a, xs, rfl, hs, ha⟩ := h
    cases r
    obtain ⟨its, rv, ⟨o, ho, hc, n, hd⟩, _⟩ := I.tuple (.inl (.inl hs))
    obtain ⟨as, hr, hn⟩ := Da.readsAll I SM ds _ its ha rv
    exact ⟨_, Reads.tuple ho hc hd hr, hn⟩
  | .dict kd, _, _, h, r => by
    obtain ⟨a, kvs, rfl, hs, hk, hv⟩ := h
    cases r
    obtain ⟨_, lo, vs, rk, o, es, ep, h1, h2, h3, _, h5, _⟩ := dk_of I.hok hs
    obtain ⟨g1, g2⟩ := reads_keys (h := s.heap) hk rk h5
    obtain ⟨as, g3, g4⟩ := Da.readsKv I SM kd _ _ hv g2
    refine ⟨_, Reads.dict h1 h2.1 h3 g1 g3, fun hm => ?_⟩
    rcases List.mem_cons.mp hm with hm | hm
    · rw [← hm] at lo
      simp at lo
    · exact g4 hm
theorem Da.readsAll (I : Inv X pins σ H s) (SM : SysAt X.base) : ∀ (ds : List PyData) (vs : List V) (us : List Value), DaAll X.K H ds vs → Vals vs us → ∃ as, ReadsAll s.heap us ds as ∧ sysModules ∉ as
  | [], _, _, h, r => by
    obtain rfl := h
    cases r
    exact ⟨_, .nil, by simp⟩
  | d :: ds, _, _, h, r => by
    obtain ⟨x, xs, rfl, h1, h2⟩ := h
    cases r with
    | cons r1 r2 =>
      obtain ⟨as, q1, n1⟩ := Da.reads I SM d _ _ h1 r1
      obtain ⟨bs, q2, n2⟩ := Da.readsAll I SM ds _ _ h2 r2
      refine ⟨_, .cons q1 q2, fun hm => ?_⟩
      rcases List.mem_append.mp hm with hm | hm
      · exact n1 hm
      · exact n2 hm
theorem Da.readsKv (I : Inv X pins σ H s) (SM : SysAt X.base) : ∀ (ds : List (PyData × PyData)) (vs : List V) (us : List Value), DaKv X.K H ds vs → Vals vs us → ∃ as, ReadsAll s.heap us (ds.map (·.2)) as ∧ sysModules ∉ as
  | [], _, _, h, r => by
    obtain rfl := h
    cases r
    exact ⟨_, .nil, by simp⟩
  | (_, d) :: ds, _, _, h, r => by
    obtain ⟨x, xs, rfl, h1, h2⟩ := h
    cases r with
    | cons r1 r2 =>
      obtain ⟨as, q1, n1⟩ := Da.reads I SM d _ _ h1 r1
      obtain ⟨bs, q2, n2⟩ := Da.readsKv I SM ds _ _ h2 r2
      refine ⟨_, .cons q1 q2, fun hm => ?_⟩
      rcases List.mem_append.mp hm with hm | hm
      · exact n1 hm
      · exact n2 hm
end
end
/-- repr(x), x any data -/
def rReprS (K : PySem.W.Frag) : List V → Hp → VK → Prop := fun xs H Q =>
  ∃ x d, xs = [x] ∧ Da K H d x ∧ d.showable = true ∧ d.shown.length ≤ sizeLine ∧ d.depth ≤ 60 ∧ Q (.str d.shown) H
section
variable {X : Cx}
theorem call_reprS (K : PySem.W.Frag) {k : Nat} (hq : Quiet X.A) (hr : Room k X.A) (SM : SysAt X.base) (hK : X.K = K := by rfl) : CallR X (.builtin "repr") (rReprS K) := by
  subst hK
  intro pins s σ H xs us Q I r h
  obtain ⟨x, d, rfl, hd, hs, hz, hdp, q⟩ := h
  obtain ⟨u, rfl, rx⟩ := Vals.one r
  obtain ⟨as, rd, hn⟩ := Da.reads I SM d x u hd rx
  have hu : X.A.units + 200 < cLine := by have := hr.un; omega
  have fin : ∀ h' u' tk, (∀ b o, s.heap.get? b = some o → h'.get? b = some o) →
      EP X pins σ Q (.str d.shown u') { s with heap := h', toks := tk } :=
    fun h' u' tk hk => ⟨.str d.shown, H, I.kept hk, ⟨_, rfl⟩, q⟩
  cases d with
  | none =>
    obtain rfl := hd
    obtain rfl : u = Value.none := rx
    exact PySem.P.repr_of_none (fin s.heap _ _ fun _ _ e => e)
  | bool b =>
    obtain rfl := hd
    obtain rfl : u = Value.bool b := rx
    exact PySem.P.repr_of_bool (fin s.heap _ _ fun _ _ e => e)
  | int i =>
    obtain rfl := hd
    obtain ⟨t, rfl⟩ := rx
    exact PySem.P.repr_of_int (by simpa only [PyData.showable, decide_eq_true_eq] using hs) (fin s.heap _ _ fun _ _ e => e)
  | str z =>
    obtain rfl := hd
    obtain ⟨t, rfl⟩ := rx
    exact PySem.P.repr_of_str (fin s.heap _ _ fun _ _ e => e) (by simpa only [PyData.shown] using hz)
  | list ds =>
    obtain ⟨a, xs, rfl, _⟩ := hd
    cases rx
    exact repr_of_reads' rd hs (fun _ => hn) hq (by omega) (fun _ _ e => e) fin hz
  | tuple ds =>
    obtain ⟨a, xs, rfl, _⟩ := hd
    cases rx
    exact repr_of_reads' rd hs (fun _ => hn) hq (by omega) (fun _ _ e => e) fin hz
  | dict kd =>
    obtain ⟨a, xs, rfl, _⟩ := hd
    cases rx
    exact repr_of_reads' rd hs (fun _ => hn) hq (by omega) (fun _ _ e => e) fin hz
end
section
variable {P : Program} {w : World} {K : PySem.W.Frag}
theorem law_callS {mg mb : Str → Option Value} {CX : CXT} {k : Nat} {fa a : Addr} {fd : FuncData} {x : Str} {sp : Sp}
    {s1 : Shared} {vs : List Value} {ns : List Int}
    (KX : K.In s1.heap) (hns : s1.heap.Ns mainGlobals mg) (hb : s1.heap.Ns builtinsNs mb)
    (hbb : ∀ x : Str, x ≠ "__name__" → mb x = bootBuiltins x) (hlim : s1.heap.NoLimit) (hg : s1.gens = #[])
    (ha : s1.heap.get? a = some { cls := .type "list", data := .seq vs.toArray }) (hi : IntsAre vs ns)
    (hl : ns.length ≤ sizeLine) (hr : Room k callerA)
    (hsys : ∃ mm, s1.heap.Ns sysModules mm)
    (F : ∀ base : Heap, K.In base → base.Ns mainGlobals mg → SysAt base → FnG P w K mg base CX k fa fd [x] sp)
    (hbind : ∀ (s : Shared) (u : Value), BindsTo s fd ⟨[u], []⟩ [(x, u)])
    (hsp : ∀ H : Hp, Only H → SqL K H a (ns.map V.int) → sp [.ref a] H (fun v _ => v = .bl true) fun _ _ _ => False)
    (hCX : ∀ H e s', CX [] H s1 (fun _ _ _ => False) e s' → False) :
    codeAny (model P w) callerA (.call (.ref fa) ⟨[.ref a], []⟩)
      (fun r s' => r = .ok (.ret (.bool true)) ∧ OldK s1.heap s'.heap ∧ s'.os = s1.os ∧ AllBare s'.gens) s1 := by
  have rv := vals_ints hi
  have lenV := hi.length
  have core : ∀ H : Hp, Only H → SqL K H a (ns.map V.int) → HOk P w H s1.heap →
      (∀ b, H b ≠ none → b = a) → (H a ≠ none → K.lookup a = none) →
      codeAny (model P w) callerA (.call (.ref fa) ⟨[.ref a], []⟩)
        (fun r s' => r = .ok (.ret (.bool true)) ∧ OldK s1.heap s'.heap ∧ s'.os = s1.os ∧ AllBare s'.gens) s1 := by
    intro H hO hS hok hA hK
    have fromH : ∀ {b : Addr} {o : Obj}, s1.heap.get? b = some o → H b = none →
        (hidT s1.heap H).get? b = some o := fun e n => hidT_get e n
    have free : ∀ {b : Addr} {o : Obj} {es : Array DictEntry} {ep : Nat},
        s1.heap.get? b = some o → o.data = .dict es ep → H b = none := by
      intro b o es ep e d
      cases q : H b with
      | none => rfl
      | some u =>
        have e' : b = a := hA b (by rw [q]; exact fun z => nomatch z)
        subst e'
        rw [ha] at e
        cases e
        exact nomatch d
    have nsK : ∀ {b : Addr} {m : Str → Option Value}, s1.heap.Ns b m → (hidT s1.heap H).Ns b m := by
      rintro b m ⟨o, es, ep, e, d, r⟩
      exact ⟨o, es, ep, fromH e (free e d), d, r⟩
    have hKb : K.In (hidT s1.heap H) := by
      intro b o e
      refine fromH (KX b o e) ?_
      cases q : H b with
      | none => rfl
      | some u =>
        have e' : b = a := hA b (by rw [q]; exact fun z => nomatch z)
        subst e'
        rw [hK (by rw [q]; exact fun z => nomatch z)] at e
        cases e
    have hM : Mod K mg (hidT s1.heap H) := by
      obtain ⟨mc, h1, h2⟩ := hlim
      exact ⟨hKb, nsK hns, ⟨mb, nsK hb, hbb⟩, ⟨mc, nsK h1, h2⟩⟩
    have e0 : Env0 P w K mg (hidT s1.heap H) callerA [] s1 H :=
      ⟨rfl, hM, fun b o e => of_hidT e, Nat.le_of_eq (hidT_size _ _), trivial,
        fun b hb => (List.not_mem_nil hb).elim, hok, .of_eq hg⟩
    refine codeAny_mono ((F _ hKb (nsK hns) (by obtain ⟨mm, hm⟩ := hsys; exact ⟨mm, nsK hm⟩)).run callerA [] s1 H ⟨[.ref a], []⟩ [.ref a] [.ref a] _ _ hr rfl e0
      (hbind s1 (.ref a)) (.cons rfl .nil) (hsp H hO hS)) ?_
    intro r s' h
    cases r with
    | error e => exact (hCX H e s' h).elim
    | ok fl =>
      cases fl with
      | next => exact (show False from h).elim
      | brk => exact (show False from h).elim
      | cont => exact (show False from h).elim
      | ret u =>
        obtain ⟨v, H', os, bare, un, hok', r', q⟩ := h
        have q' : v = .bl true := q
        subst q'
        obtain rfl : u = Value.bool true := r'
        refine ⟨rfl, OldK.of_keep ?_, os, bare⟩
        intro b o e
        cases q : H b with
        | none => exact un.keep b o e q (fun z => (List.not_mem_nil z).elim) (fun z => (List.not_mem_nil z).elim)
        | some u =>
          rcases hO b with z | ⟨ob, xs, z⟩
          · rw [q] at z
            cases z
          · obtain ⟨e1, _⟩ := hok b _ z
            obtain ⟨e2, _⟩ := hok' b _ (un.frzs b ob _ z)
            rw [e] at e1
            cases e1
            exact e2
  cases hk : K.lookup a with
  | some o =>
    have e := KX a o hk
    rw [ha] at e
    cases e
    exact core (fun _ => none) (fun _ => .inl rfl)
      (.inr ⟨_, vs.toArray, _, hk, rfl, rfl, rfl, by rw [List.size_toArray, lenV]; exact hl, by simpa using rv⟩)
      (fun b u z => nomatch z) (fun b z => (z rfl).elim) (fun z => (z rfl).elim)
  | none =>
    refine core (fun b => if b = a then some (.frz { cls := .type "list", data := .seq vs.toArray } (.lst (ns.map V.int))) else none)
      ?_ (.inl (.inr ⟨{ cls := .type "list", data := .seq vs.toArray }, if_pos rfl⟩)) ?_ ?_ (fun _ => hk)
    · intro b
      by_cases hb : b = a
      · exact .inr ⟨_, _, if_pos hb⟩
      · exact .inl (if_neg hb)
    · intro b u z
      by_cases hb : b = a
      · have z' := (if_pos hb).symm.trans z
        cases z'
        subst hb
        exact ⟨ha, by rw [List.length_map]; exact hl, vs, _, rv, ha⟩
      · have z' := (if_neg hb).symm.trans z
        cases z'
    · intro b z
      by_cases hb : b = a
      · exact hb
      · exact (z (if_neg hb)).elim
end

theorem walkS {l : PySem.W.OpenLaw} {n k : Nat} {q : Program} {loose : List Str} {XP : (Str → Option Value) → Heap → Prop}
    {YP : World → Heap → Prop} {d : DefRec} {K : Params → PySem.W.Frag} {CX : World → CXT} {sp : World → Sp} {x : Str}
    (hi : PyProof.Rows.importsNone q = true) (hn : l.most = some n) (hn2 : n ≤ sizeLine) (hdf : d.params.defaults = []) (hr : Room k callerA)
    (hY : ∀ (w : World) (h : Heap), YP w h → (K w.params).In h)
    (F : ∀ (w : World) (mg : Str → Option Value) (fa : Addr) (h : Heap), (K w.params).In h → h.Ns mainGlobals mg →
      mg d.name = some (.ref fa) → ∃ fd : FuncData, (∀ (s : Shared) (u : Value), BindsTo s fd ⟨[u], []⟩ [(x, u)]) ∧
        ∀ base : Heap, (K w.params).In base → base.Ns mainGlobals mg → SysAt base →
          FnG l.prog w (K w.params) mg base (CX w) k fa fd [x] (sp w))
    (hsp : ∀ (w : World) (H : Hp) (a : Addr) (ns : List Int), ns.length ≤ n → Only H →
      SqL (K w.params) H a (ns.map V.int) → sp w [.ref a] H (fun v _ => v = .bl true) fun _ _ _ => False)
    (hCX : ∀ (w : World) (H : Hp) (s : Shared) (e : Value) (s' : Shared), CX w [] H s (fun _ _ _ => False) e s' → False) :
    PySem.W.WalkO q loose XP YP l.row.toRowW d [] (fun f vs => PySem.call f vs) := by
  refine Att.attach_call hn hdf ?_
  intro w s0 s1 mg mb fa o pm cd doc a vs ns G Y ho hd hcd hmg hobj hints hlen hg
  obtain ⟨fd, hb, hF⟩ := F w mg fa _ (hY w _ Y) G.T.g hmg
  exact law_callS (hY w _ Y) G.T.g G.T.b G.T.builtins G.T.nolimit hg hobj hints (Nat.le_trans hlen hn2) hr (by obtain ⟨mm, hm, _⟩ := (G.T.seer hi).mods; exact ⟨mm, hm⟩) hF hb
    (fun H hO hS => hsp w H a ns hlen hO hS) (fun H e s' => hCX w H s1 e s')

end Nw
/-! Walks of anything by one word. -/
namespace Nw
open PySem PySem.Spec PyProof.Rows L2

/-- what a comprehension's reading asks, D its new list -/
abbrev LcW (J : It) (g : TG) (tt : TT) (te : TE) (vs : List Nat) (σ : L2.St) (D : Addr) (H1 : Hp) (Qd : Hp → Prop) : Prop :=
  ∃ W : Nat → Nat → Hp → Prop, (∃ m, W 0 m (upd H1 D (.lst []))) ∧ ∀ i m H, W i m H →
    (J.stop i H ∧ Qd H) ∨ (J.go i H ∧ ∃ Nx : Hp → Prop, (∀ H', Nx H' → ∃ m', m' < m ∧ W (i + 1) m' H') ∧
      ∀ x H', J.yld i H x H' → g x (wipe σ vs) H' fun σ2 H2 => wipe σ2 vs = wipe σ vs ∧ tt σ2 H2 fun b H3 =>
        if b = true then te σ2 H3 fun y H4 => ∃ acc, H4 D = some (.lst acc) ∧ acc.length < sizeLine ∧
          Nx (upd H4 D (.lst (acc ++ [y]))) else Nx H3)
theorem lc_by {J : It} {g : TG} {tt : TT} {te : TE} {vs : List Nat} {σ : L2.St} {D : Addr} {H1 : Hp} {Qd : Hp → Prop}
    (n : Nat) (Pv : Nat → Hp → Prop) (h0 : Pv 0 (upd H1 D (.lst [])))
    (hgo : ∀ i H, i < n → Pv i H → J.go i H) (hst : ∀ H, Pv n H → J.stop n H)
    (hs : ∀ i H x H', i < n → Pv i H → J.yld i H x H' → g x (wipe σ vs) H' fun σ2 H2 => wipe σ2 vs = wipe σ vs ∧
      tt σ2 H2 fun b H3 => if b = true then te σ2 H3 fun y H4 => ∃ acc, H4 D = some (.lst acc) ∧ acc.length < sizeLine ∧
        Pv (i + 1) (upd H4 D (.lst (acc ++ [y]))) else Pv (i + 1) H3)
    (hd : ∀ H, Pv n H → Qd H) : LcW J g tt te vs σ D H1 Qd := by
  refine ⟨fun i m H => m = n - i ∧ i ≤ n ∧ Pv i H, ⟨n, by omega, Nat.zero_le _, h0⟩, ?_⟩
  rintro i m H ⟨rfl, hi, p⟩
  by_cases hlt : i < n
  · refine .inr ⟨hgo i H hlt p, Pv (i + 1), fun H' p' => ⟨n - (i + 1), by omega, rfl, hlt, p'⟩, ?_⟩
    intro x H' y
    exact hs i H x H' hlt p y
  · have e : i = n := by omega
    subst e
    exact .inl ⟨hst H p, hd H p⟩
theorem for_by {J : It} {g : TG} {tb : TS} {D : Ends} {σ : L2.St} {H1 : Hp} (n : Nat) (Pv : Nat → L2.St → Hp → Prop) (h0 : Pv 0 σ H1)
    (hgo : ∀ i σ H, i < n → Pv i σ H → J.go i H) (hst : ∀ σ H, Pv n σ H → J.stop n H)
    (hs : ∀ i σ H x H', i < n → Pv i σ H → J.yld i H x H' →
      g x σ H' fun σ2 H2 => tb { D with nx := Pv (i + 1), ct := Pv (i + 1), bk := D.nx } σ2 H2)
    (hd : ∀ σ H, Pv n σ H → D.nx σ H) :
    ∃ W : Nat → Nat → L2.St → Hp → Prop, (∃ m, W 0 m σ H1) ∧ ∀ i m σ H, W i m σ H →
      (J.stop i H ∧ D.nx σ H) ∨ (J.go i H ∧ ∃ N : L2.St → Hp → Prop, (∀ σ' H', N σ' H' → ∃ m', m' < m ∧ W (i + 1) m' σ' H') ∧
        ∀ x H', J.yld i H x H' → g x σ H' fun σ2 H2 => tb { D with nx := N, ct := N, bk := D.nx } σ2 H2) := by
  refine ⟨fun i m σ H => m = n - i ∧ i ≤ n ∧ Pv i σ H, ⟨n, by omega, Nat.zero_le _, h0⟩, ?_⟩
  rintro i m σ H ⟨rfl, hi, p⟩
  by_cases hlt : i < n
  · refine .inr ⟨hgo i σ H hlt p, Pv (i + 1), fun σ' H' p' => ⟨n - (i + 1), by omega, rfl, hlt, p'⟩, ?_⟩
    intro x H' y
    exact hs i σ H x H' hlt p y
  · have e : i = n := by omega
    subst e
    exact .inl ⟨hst σ H p, hd σ H p⟩

/-- what is known but at D stays known -/
abbrev ExD (D : Addr) (H H' : Hp) : Prop := ∀ b o, b ≠ D → H b = some o → H' b = some o
theorem Ex.d {D : Addr} {H H' : Hp} (e : Ex H H') : ExD D H H' := fun b o _ h => e b o h
theorem ExD.put {D : Addr} {H : Hp} {o : HO} : ExD D H (upd H D o) := fun b u n h => by
  rw [upd_ne n]
  exact h
theorem ExD.tr {D : Addr} {H H1 H2 : Hp} (a : ExD D H H1) (b : ExD D H1 H2) : ExD D H H2 := fun c o n h => b c o n (a c o n h)
/-- item by item over the turns that give -/
def Given (n : Nat) (f : Nat → Bool) (R : Nat → V → Prop) (ys : List V) : Prop := Paired R ((List.range n).filter f) ys
theorem Given.nil {f : Nat → Bool} {R : Nat → V → Prop} : Given 0 f R [] := Paired.nil
theorem paired_app {α β : Type} {F : α → β → Prop} : ∀ {as : List α} {bs : List β} {as' : List α} {bs' : List β}, Paired F as bs → Paired F as' bs' → Paired F (as ++ as') (bs ++ bs')
  | _, _, _, _, .nil, h => h
  | _, _, _, _, .cons r t, h => .cons r (paired_app t h)
theorem Given.yes {n : Nat} {f : Nat → Bool} {R : Nat → V → Prop} {ys : List V} {y : V} (h : Given n f R ys) (hf : f n = true) (r : R n y) : Given (n + 1) f R (ys ++ [y]) := by
  unfold Given
  rw [List.range_succ, List.filter_append, List.filter_cons, if_pos hf]
  exact paired_app h (Paired.cons r Paired.nil)
theorem Given.no {n : Nat} {f : Nat → Bool} {R : Nat → V → Prop} {ys : List V} (h : Given n f R ys) (hf : f n = false) : Given (n + 1) f R ys := by
  unfold Given
  rw [List.range_succ, List.filter_append, List.filter_cons, if_neg (by rw [hf]; decide)]
  rw [List.filter_nil, List.append_nil]
  exact h
theorem paired_imp {α β : Type} {F G : α → β → Prop} (h : ∀ a b, F a b → G a b) : ∀ {as : List α} {bs : List β}, Paired F as bs → Paired G as bs
  | _, _, .nil => .nil
  | _, _, .cons r t => .cons (h _ _ r) (paired_imp h t)
theorem Given.imp {n : Nat} {f : Nat → Bool} {R S : Nat → V → Prop} {ys : List V} (g : Given n f R ys) (h : ∀ i y, R i y → S i y) : Given n f S ys := paired_imp h g
theorem Given.len {n : Nat} {f : Nat → Bool} {R : Nat → V → Prop} {ys : List V} (g : Given n f R ys) : ys.length ≤ n := by
  have h := Paired.length g
  have h2 := List.length_filter_le f (List.range n)
  rw [List.length_range] at h2
  omega
theorem paired_eq {α β : Type} {v : α → β} : ∀ {as : List α} {bs : List β}, Paired (fun a b => b = v a) as bs → bs = as.map v
  | _, _, .nil => rfl
  | _, _, .cons r t => by
    rw [List.map_cons, ← r, ← paired_eq t]
/-- what each turn gives is told outright -/
theorem Given.eq {n : Nat} {f : Nat → Bool} {v : Nat → V} {ys : List V} (g : Given n f (fun i y => y = v i) ys) : ys = ((List.range n).filter f).map v := paired_eq g
theorem filter_true {α : Type} (l : List α) : l.filter (fun _ => true) = l := List.filter_eq_self.mpr fun _ _ => rfl
theorem Given.all {n : Nat} {v : Nat → V} {ys : List V} (g : Given n (fun _ => true) (fun i y => y = v i) ys) : ys = (List.range n).map v := by
  have h := g.eq
  rw [filter_true] at h
  exact h

/-- a comprehension that changes nothing that was there: f which turns give, R what (not hanging on D) -/
theorem lc_ev {J : It} {g : TG} {tt : TT} {te : TE} {vs : List Nat} {σ : L2.St} {D : Addr} {H1 : Hp} {Qd : Hp → Prop}
    (n : Nat) (f : Nat → Bool) (R : Nat → V → Hp → Prop) (hz : n ≤ 100000) (hD : H1 D = none)
    (mono : ∀ i y H H', ExD D H H' → R i y H → R i y H')
    (hgo : ∀ i H, i < n → Ex H1 H → J.go i H) (hst : ∀ H, Ex H1 H → J.stop n H)
    (hs : ∀ i H x H', i < n → Ex H1 H → (∃ acc, H D = some (.lst acc)) → J.yld i H x H' → ∀ (Q : V → Hp → Prop) (N : Hp → Prop),
      (f i = true → ∀ y H4, Ex H H4 → R i y H4 → Q y H4) → (f i = false → ∀ H4, Ex H H4 → N H4) →
      g x (wipe σ vs) H' fun σ2 H2 => wipe σ2 vs = wipe σ vs ∧ tt σ2 H2 fun b H3 => if b = true then te σ2 H3 Q else N H3)
    (hd : ∀ ys H, Ex H1 H → H D = some (.lst ys) → Given n f (fun i y => R i y H) ys → Qd H) : LcW J g tt te vs σ D H1 Qd := by
  refine lc_by n (fun i H => Ex H1 H ∧ ∃ ys, H D = some (.lst ys) ∧ Given i f (fun i y => R i y H) ys)
    ⟨Ex.nw hD, [], upd_same, .nil⟩ (fun i H hi p => hgo i H hi p.1) (fun H p => hst H p.1) ?_ ?_
  · rintro i H x H' hi ⟨e, ys, hy, gv⟩ y
    refine hs i H x H' hi e ⟨_, hy⟩ y _ _ ?_ ?_
    · intro hf z H4 e4 r
      refine ⟨ys, e4 D _ hy, by have := gv.len; have e1 : sizeLine = 16777216 := sizeLine_eq; omega, (e.tr e4).wr hD, _, upd_same, ?_⟩
      exact (gv.imp fun j y r' => mono j y _ _ (e4.d.tr ExD.put) r').yes hf (mono i z _ _ ExD.put r)
    · intro hf H4 e4
      exact ⟨e.tr e4, ys, e4 D _ hy, (gv.imp fun j y r' => mono j y _ _ e4.d r').no hf⟩
  · rintro H ⟨e, ys, hy, gv⟩
    exact hd ys H e hy gv
/-- turns over a list that stands -/
theorem itl_go {K : PySem.W.Frag} {H H' : Hp} {a : Addr} {xs : List V} (h : SqL K H a xs) (e : Ex H H') {i : Nat} (hi : i < xs.length) : (Itl K a).go i H' :=
  ⟨xs, xs[i], e.l h, List.getElem?_eq_getElem hi⟩
theorem itl_stop {K : PySem.W.Frag} {H H' : Hp} {a : Addr} {xs : List V} (h : SqL K H a xs) (e : Ex H H') : (Itl K a).stop xs.length H' :=
  ⟨xs, e.l h, Nat.le_refl _⟩
theorem itl_yld {K : PySem.W.Frag} {H H' H'' : Hp} {a : Addr} {xs : List V} {i : Nat} {x : V} (y : (Itl K a).yld i H' x H'') (h : SqL K H a xs) (e : Ex H H') : H'' = H' ∧ xs[i]? = some x :=
  ⟨y.1, y.2 xs (e.l h)⟩
theorem itz_go {K : PySem.W.Frag} {H H' : Hp} {a b : Addr} {xs ys : List V} (h : SqL K H a xs) (g : SqL K H b ys) (e : Ex H H') {i : Nat} (hi : i < min xs.length ys.length) : (Itz K a b).go i H' :=
  ⟨xs, ys, xs[i]'(by omega), ys[i]'(by omega), e.l h, e.l g, List.getElem?_eq_getElem _, List.getElem?_eq_getElem _⟩
theorem itz_stop {K : PySem.W.Frag} {H H' : Hp} {a b : Addr} {xs ys : List V} (h : SqL K H a xs) (g : SqL K H b ys) (e : Ex H H') : (Itz K a b).stop (min xs.length ys.length) H' :=
  ⟨xs, ys, e.l h, e.l g, by omega⟩
theorem ite_go {K : PySem.W.Frag} {H H' : Hp} {a : Addr} {xs : List V} (h : SqL K H a xs) (e : Ex H H') {i : Nat} (hi : i < xs.length) : (Ite K a).go i H' :=
  ⟨xs, xs[i], e.l h, List.getElem?_eq_getElem hi⟩
theorem ite_stop {K : PySem.W.Frag} {H H' : Hp} {a : Addr} {xs : List V} (h : SqL K H a xs) (e : Ex H H') : (Ite K a).stop xs.length H' :=
  ⟨xs, e.l h, Nat.le_refl _⟩
theorem cut1 (xs : List V) : cutV xs (some 1) none = xs.drop 1 := by
  unfold cutV
  rw [show HT.sIx xs.length 0 (some 1) = min 1 xs.length from HT.sIx_nat xs.length 0 1, HT.sIx_none]
  cases xs with
  | nil => rfl
  | cons x r =>
    have e : min 1 (x :: r).length = 1 := by
      rw [List.length_cons]
      omega
    rw [e]
    show List.take ((x :: r).length - 1) r = r
    rw [List.length_cons, Nat.add_sub_cancel]
    exact List.take_length
end Nw
namespace Nw
open PySem PySem.Spec PyProof.Rows L2
/-- the inner loop of a comprehension of two clauses -/
abbrev LcI (J1 : It) (g1 : TG) (tt1 : TT) (te : TE) (vs1 : List Nat) (σ2 : L2.St) (D : Addr) (H4 : Hp) (Nx : Hp → Prop) : Prop :=
  ∃ W1 : Nat → Nat → Hp → Prop, (∃ m, W1 0 m H4) ∧ ∀ j k H, W1 j k H →
    (J1.stop j H ∧ Nx H) ∨ (J1.go j H ∧ ∃ Nx1 : Hp → Prop, (∀ H', Nx1 H' → ∃ k', k' < k ∧ W1 (j + 1) k' H') ∧
      ∀ x H', J1.yld j H x H' → g1 x (wipe σ2 vs1) H' fun σ3 H5 => wipe σ3 vs1 = wipe σ2 vs1 ∧ tt1 σ3 H5 fun b H6 =>
        if b = true then te σ3 H6 fun y H7 => ∃ acc, H7 D = some (.lst acc) ∧ acc.length < sizeLine ∧
          Nx1 (upd H7 D (.lst (acc ++ [y]))) else Nx1 H6)
theorem lci_by {J1 : It} {g1 : TG} {tt1 : TT} {te : TE} {vs1 : List Nat} {σ2 : L2.St} {D : Addr} {H4 : Hp} {Nx : Hp → Prop}
    (n : Nat) (Pv : Nat → Hp → Prop) (h0 : Pv 0 H4) (hgo : ∀ i H, i < n → Pv i H → J1.go i H) (hst : ∀ H, Pv n H → J1.stop n H)
    (hs : ∀ i H x H', i < n → Pv i H → J1.yld i H x H' → g1 x (wipe σ2 vs1) H' fun σ3 H5 => wipe σ3 vs1 = wipe σ2 vs1 ∧
      tt1 σ3 H5 fun b H6 => if b = true then te σ3 H6 fun y H7 => ∃ acc, H7 D = some (.lst acc) ∧ acc.length < sizeLine ∧
        Pv (i + 1) (upd H7 D (.lst (acc ++ [y]))) else Pv (i + 1) H6)
    (hd : ∀ H, Pv n H → Nx H) : LcI J1 g1 tt1 te vs1 σ2 D H4 Nx := by
  refine ⟨fun i m H => m = n - i ∧ i ≤ n ∧ Pv i H, ⟨n, by omega, Nat.zero_le _, h0⟩, ?_⟩
  rintro i m H ⟨rfl, hi, p⟩
  by_cases hlt : i < n
  · refine .inr ⟨hgo i H hlt p, Pv (i + 1), fun H' p' => ⟨n - (i + 1), by omega, rfl, hlt, p'⟩, ?_⟩
    intro x H' y
    exact hs i H x H' hlt p y
  · have e : i = n := by omega
    subst e
    exact .inl ⟨hst H p, hd H p⟩
theorem lc2_by {J : It} {g : TG} {tt : TT} {wi1 : TI} {g1 : TG} {tt1 : TT} {te : TE} {vs vs1 : List Nat} {σ : L2.St} {D : Addr} {H1 : Hp} {Qd : Hp → Prop}
    (n : Nat) (Pv : Nat → Hp → Prop) (h0 : Pv 0 (upd H1 D (.lst [])))
    (hgo : ∀ i H, i < n → Pv i H → J.go i H) (hst : ∀ H, Pv n H → J.stop n H)
    (hs : ∀ i H x H', i < n → Pv i H → J.yld i H x H' → g x (wipe σ vs) H' fun σ2 H2 => wipe σ2 vs = wipe σ vs ∧
      tt σ2 H2 fun b H3 => if b = true then wi1 σ2 H3 fun J1 H4 => LcI J1 g1 tt1 te vs1 σ2 D H4 (Pv (i + 1)) else Pv (i + 1) H3)
    (hd : ∀ H, Pv n H → Qd H) :
    ∃ W : Nat → Nat → Hp → Prop, (∃ m, W 0 m (upd H1 D (.lst []))) ∧ ∀ i m H, W i m H →
      (J.stop i H ∧ Qd H) ∨ (J.go i H ∧ ∃ Nx : Hp → Prop, (∀ H', Nx H' → ∃ m', m' < m ∧ W (i + 1) m' H') ∧ ∀ x H', J.yld i H x H' →
        g x (wipe σ vs) H' fun σ2 H2 => wipe σ2 vs = wipe σ vs ∧ tt σ2 H2 fun b H3 =>
          if b = true then wi1 σ2 H3 fun J1 H4 => LcI J1 g1 tt1 te vs1 σ2 D H4 Nx else Nx H3) := by
  refine ⟨fun i m H => m = n - i ∧ i ≤ n ∧ Pv i H, ⟨n, by omega, Nat.zero_le _, h0⟩, ?_⟩
  rintro i m H ⟨rfl, hi, p⟩
  by_cases hlt : i < n
  · refine .inr ⟨hgo i H hlt p, Pv (i + 1), fun H' p' => ⟨n - (i + 1), by omega, rfl, hlt, p'⟩, ?_⟩
    intro x H' y
    exact hs i H x H' hlt p y
  · have e : i = n := by omega
    subst e
    exact .inl ⟨hst H p, hd H p⟩
end Nw
/-! Rules told over the written part by its own name, so that a comprehension's block may use them. -/
namespace Nw
open PySem PySem.Spec PyProof.Rows L2
section
variable {X : Cx} {K : PySem.W.Frag}
theorem op_eqDk (K : PySem.W.Frag) (hu : X.A.units + 64 < cLine) (hK : X.K = K := by rfl) : OpR X (compareOp .Eq) (rEqD K) := by
  subst hK
  exact op_eqD hu
theorem op_neDk (K : PySem.W.Frag) (hu : X.A.units + 64 < cLine) (hK : X.K = K := by rfl) : OpR X (compareOp .NotEq) (rNeD K) := by
  subst hK
  exact op_neD hu
theorem op_inK (K : PySem.W.Frag) (hK : X.K = K := by rfl) : OpR X (compareOp .In) (rIn K false) := by
  subst hK
  exact op_in_seq
theorem op_notInK (K : PySem.W.Frag) (hK : X.K = K := by rfl) : OpR X (compareOp .NotIn) (rIn K true) := by
  subst hK
  exact op_notIn_seq
theorem op_inDk (K : PySem.W.Frag) {k : Nat} (hr : Room k X.A) (hK : X.K = K := by rfl) : OpR X (compareOp .In) (rInD K) := by
  subst hK
  exact op_inD (by have := hr.un; omega)
theorem op_notInDk (K : PySem.W.Frag) {k : Nat} (hr : Room k X.A) (hK : X.K = K := by rfl) : OpR X (compareOp .NotIn) (rNotInD K) := by
  subst hK
  exact op_notInD (by have := hr.un; omega)
/-- < of ints, of tuples of ints -/
def rLtA (K : PySem.W.Frag) : R2 := fun x y H Q => (∃ i j, x = .int i ∧ y = .int j ∧ Q (.bl (decide (i < j))) H) ∨ rLtT K x y H Q
theorem op_ltA (K : PySem.W.Frag) (hu : X.A.units < cLine) (hK : X.K = K := by rfl) : OpR X (compareOp .Lt) (rLtA K) := by
  subst hK
  intro pins s σ H x y v u Q I rx ry q
  rcases q with q | q
  · exact op_lt pins s σ H x y v u Q I rx ry q
  · exact op_ltT hu pins s σ H x y v u Q I rx ry q
theorem op_catTk (K : PySem.W.Frag) (hK : X.K = K := by rfl) : OpR X (binaryOp .Add) (rCatT K) := by
  subst hK
  exact op_catT
theorem ix_listK (K : PySem.W.Frag) (hK : X.K = K := by rfl) : IxR X (rIxL K) := by
  subst hK
  exact ix_list
theorem ix_tupK (K : PySem.W.Frag) (hK : X.K = K := by rfl) : IxR X (rIxT K) := by
  subst hK
  exact ix_tup
theorem ix_seqK (K : PySem.W.Frag) (hK : X.K = K := by rfl) : IxR X (rIx K) := by
  subst hK
  exact ix_seq
theorem sl_listK (K : PySem.W.Frag) (hK : X.K = K := by rfl) : SlR X (rSlL K) := by
  subst hK
  exact sl_list
theorem sl_tupK (K : PySem.W.Frag) (hK : X.K = K := by rfl) : SlR X (rSlT K) := by
  subst hK
  exact sl_tup
def rLenQ (K : PySem.W.Frag) : List V → Hp → VK → Prop := fun xs H Q => ∃ p ys, xs = [.ref p] ∧ (SqL K H p ys ∨ SqT K H p ys) ∧ Q (.int ys.length) H
theorem call_lenK (K : PySem.W.Frag) (hK : X.K = K := by rfl) : CallR X (.builtin "len") (rLenQ K) := by
  subst hK
  exact call_len_seq
def rListQ (K : PySem.W.Frag) : List V → Hp → VK → Prop := fun xs H Q => ∃ p ys, xs = [.ref p] ∧ (SqL K H p ys ∨ SqT K H p ys) ∧ ∀ l, H l = none → Q (.ref l) (upd H l (.lst ys))
theorem call_listK (K : PySem.W.Frag) (hK : X.K = K := by rfl) : CallR X (.type "list") (rListQ K) := by
  subst hK
  exact call_list_of
theorem call_reprK (K : PySem.W.Frag) {k : Nat} (hq : Quiet X.A) (hr : Room k X.A) (hK : X.K = K := by rfl) : CallR X (.builtin "repr") (rReprD K) := by
  subst hK
  exact call_reprD hq hr
theorem call_isiK (K : PySem.W.Frag) (hK : X.K = K := by rfl) : CallR X (.builtin "isinstance") (rIsi K) := by
  subst hK
  exact call_isi
theorem cr_allK (K : PySem.W.Frag) (hc : X.calm = true) (hK : X.K = K := by rfl) : CallR X (.builtin "all") (rAll K) := by
  subst hK
  exact cr_all hc
theorem cr_anyK (K : PySem.W.Frag) (hc : X.calm = true) (hK : X.K = K := by rfl) : CallR X (.builtin "any") (rAny K) := by
  subst hK
  exact cr_any hc
theorem cr_sumK (K : PySem.W.Frag) (hc : X.calm = true) (hK : X.K = K := by rfl) : CallR X (.builtin "sum") (rSum K) := by
  subst hK
  exact cr_sum hc
theorem cr_maxK (K : PySem.W.Frag) (hc : X.calm = true) (hK : X.K = K := by rfl) : CallR X (.builtin "max") (rMax K) := by
  subst hK
  exact cr_max hc
theorem cr_minK' (K : PySem.W.Frag) (hc : X.calm = true) (hK : X.K = K := by rfl) : CallR X (.builtin "min") (rMin K) := by
  subst hK
  exact cr_min hc
theorem cr_sortedIk (K : PySem.W.Frag) (hK : X.K = K := by rfl) : CallR X (.builtin "sorted") (rSortedI K) := by
  subst hK
  exact cr_sortedI
theorem cr_sortedPOk (K : PySem.W.Frag) (hK : X.K = K := by rfl) : CallR X (.builtin "sorted") (rSortedPO K) := by
  subst hK
  exact cr_sortedPO
theorem pi_listK (K : PySem.W.Frag) {tg l : Expr} {tl : TE} (hl : PE X l tl) (hK : X.K = K := by rfl) : PI X tg l (iList K tl) := by
  subst hK
  exact pi_list hl
theorem pi_tupK (K : PySem.W.Frag) {tg l : Expr} {tl : TE} (hl : PE X l tl) (hK : X.K = K := by rfl) : PI X tg l (iTup K tl) := by
  subst hK
  exact pi_tup hl
theorem pg_tupK (K : PySem.W.Frag) {es : List Expr} {k : Nat} {pos : Pos} {t : TGs} {n : Nat} (hc : X.calm = true) (h : PGs X es t)
    (hn : (assignEach es X.env).length = n := by rfl)
    (hst : (assignEach es X.env).findIdx? (·.1) = none := by rfl) (hK : X.K = K := by rfl) : PG X (.Tuple es k pos) (gTup K n t) := by
  subst hK
  exact pg_tup hc h hn hst
end
end Nw
namespace Nw
open PySem PySem.Spec PyProof.Rows L2
theorem mil {n : Nat} (h : n ≤ 1000000) : n ≤ sizeLine := by
  rw [sizeLine_eq]
  omega
theorem mil' {n : Nat} (h : n < 1000000) : n < sizeLine := by
  rw [sizeLine_eq]
  omega
/-- xs + ys, lists that are read -/
def rCatS (K : PySem.W.Frag) : R2 := fun x y H Q => ∃ l b xs zs, x = .ref l ∧ y = .ref b ∧ SqL K H l xs ∧ SqL K H b zs ∧
  xs.length + zs.length ≤ 1000000 ∧ ∀ p, H p = none → Q (.ref p) (upd H p (.lst (xs ++ zs)))
theorem op_catS {X : Cx} (K : PySem.W.Frag) (hK : X.K = K := by rfl) : OpR X (binaryOp .Add) (rCatS K) := by
  subst hK
  intro pins s σ H x y v u Q I rx ry h
  obtain ⟨l, b, xs, zs, rfl, rfl, hH, hB, hz, q⟩ := h
  cases rx
  cases ry
  obtain ⟨its, r, ⟨⟨cls, dd, data, sl⟩, n, e, hc, hd0, hd⟩, _⟩ := I.list hH
  obtain ⟨its2, r2, ⟨⟨cls2, dd2, data2, sl2⟩, n2, e2, hc2, hd02, hd2⟩, _⟩ := I.list hB
  simp only at hc hd hc2 hd2
  subst hc hd hc2 hd2
  have l1 := r.length
  have l2 := r2.length
  have z : xs.length + zs.length ≤ sizeLine := mil hz
  refine concat_meets ⟨_, e, rfl⟩ ⟨_, e2, rfl⟩ noFill_list_add seq_list_add PySem.F.slot_list_add PySem.F.entry_list_add
    (PySem.F.args_list_add_2 _ _) (list_addW l b its.toArray its2.toArray n n2 dd dd2 sl sl2 (by simp only [List.size_toArray]; omega)) ⟨e, e2, ?_⟩
  have ea : its.toArray ++ its2.toArray = (its ++ its2).toArray := by simp
  rw [ea]
  exact ⟨.ref _, _, I.lnew (t' := s.toks) (r.append r2) (by rw [List.length_append]; omega), rfl, q _ I.fresh⟩
end Nw
/-! What the package's looks at values answer, on data. -/
namespace Nw
open PySem PySem.Spec PyProof.Rows L2

def isInt : PyData → Bool
  | .int _ => true
  | _ => false
theorem isInt_eq (d : PyData) : (isA "int" d && !isA "bool" d) = isInt d := by
  cases d <;> first | rfl | decide +kernel
/-- an int from 0 to m - 1 -/
def numB : PyData → Int → Bool
  | .int i, m => decide (0 ≤ i) && decide (i < m)
  | _, _ => false
def tupB : PyData → Int → Int → Bool
  | .tuple [a, b], m, n => numB a m && numB b n
  | _, _, _ => false
def listB : PyData → Int → Bool
  | .list ds, m => ds.all fun d => numB d m
  | _, _ => false
/-- ascending, by an order on the items -/
def ascB {α : Type} (lt : α → α → Bool) : List α → Bool
  | x :: y :: r => lt x y && ascB lt (y :: r)
  | _ => true
def ltIn (x y : Int) : Bool := decide (x < y)
def ltPr (x y : Int × Int) : Bool := HT.lexLt [x.1, x.2] [y.1, y.2]
def dPair (p : Int × Int) : PyData := .tuple [.int p.1, .int p.2]
/-- the ints of a list of ints, the pairs of a list of pairs -/
def intsOf : List PyData → Option (List Int)
  | [] => some []
  | .int i :: r => (intsOf r).map (i :: ·)
  | _ => none
def pairsOf : List PyData → Option (List (Int × Int))
  | [] => some []
  | .tuple [.int i, .int j] :: r => (pairsOf r).map ((i, j) :: ·)
  | _ => none
theorem intsOf_map : ∀ ns : List Int, intsOf (ns.map PyData.int) = some ns
  | [] => rfl
  | n :: ns => by
    simp only [List.map_cons, intsOf, intsOf_map ns, Option.map_some]
theorem pairsOf_map : ∀ ps : List (Int × Int), pairsOf (ps.map dPair) = some ps
  | [] => rfl
  | (a, b) :: ps => by
    simp only [List.map_cons, dPair, pairsOf, pairsOf_map ps, Option.map_some]
theorem ints_of_all {m : Int} : ∀ {ds : List PyData}, (ds.all fun d => numB d m) = true → ∃ ns : List Int, ds = ns.map PyData.int ∧ ∀ n ∈ ns, 0 ≤ n ∧ n < m
  | [], _ => ⟨[], rfl, fun _ h => nomatch h⟩
  | d :: ds, h => by
    simp only [List.all_cons, Bool.and_eq_true] at h
    obtain ⟨ns, rfl, hn⟩ := ints_of_all h.2
    cases d with
    | int i =>
      have h1 := h.1
      simp only [numB, Bool.and_eq_true, decide_eq_true_eq] at h1
      refine ⟨i :: ns, rfl, ?_⟩
      intro n hm
      rcases List.mem_cons.mp hm with rfl | hm
      · exact h1
      · exact hn n hm
    | _ =>
      have h1 := h.1
      simp [numB] at h1
theorem numB_inv {d : PyData} {m : Int} (h : numB d m = true) : ∃ i, d = .int i ∧ 0 ≤ i ∧ i < m := by
  cases d with
  | int i =>
    simp only [numB, Bool.and_eq_true, decide_eq_true_eq] at h
    exact ⟨i, rfl, h⟩
  | _ => simp [numB] at h
theorem tupB_inv {d : PyData} {m k : Int} (h : tupB d m k = true) : ∃ i j, d = dPair (i, j) ∧ (0 ≤ i ∧ i < m) ∧ (0 ≤ j ∧ j < k) := by
  match d, h with
  | .tuple [a, b], h =>
    simp only [tupB, Bool.and_eq_true] at h
    obtain ⟨i, rfl, hi⟩ := numB_inv h.1
    obtain ⟨j, rfl, hj⟩ := numB_inv h.2
    exact ⟨i, j, rfl, hi, hj⟩
theorem pairs_of_all {m k : Int} : ∀ {ds : List PyData}, (ds.all fun d => tupB d m k) = true →
    ∃ ps : List (Int × Int), ds = ps.map dPair ∧ ∀ p ∈ ps, (0 ≤ p.1 ∧ p.1 < m) ∧ (0 ≤ p.2 ∧ p.2 < k)
  | [], _ => ⟨[], rfl, fun _ h => nomatch h⟩
  | d :: ds, h => by
    simp only [List.all_cons, Bool.and_eq_true] at h
    obtain ⟨ps, rfl, hn⟩ := pairs_of_all h.2
    obtain ⟨i, j, rfl, hi, hj⟩ := tupB_inv h.1
    refine ⟨(i, j) :: ps, rfl, ?_⟩
    intro p hp
    rcases List.mem_cons.mp hp with rfl | hp
    · exact ⟨hi, hj⟩
    · exact hn p hp
def tuplesB : PyData → Int → Int → Bool
  | .list ds, m, n => (ds.all fun d => tupB d m n) && (match pairsOf ds with | some ps => ascB ltPr ps | none => false)
  | _, _, _ => false
def targetsB : PyData → Int → Bool
  | .list ds, m => (ds.all fun d => numB d m) && (decide (0 < ds.length) && (match intsOf ds with | some ns => ascB ltIn ns | none => false))
  | _, _ => false
def nudgesB : PyData → Int → Bool
  | .list ds, m => decide (ds.length ≤ 8) && ds.all fun d => targetsB d m
  | _, _ => false
def webB : PyData → Bool
  | .tuple [.int n, ps, ns] => (decide (1 ≤ n) && decide (n ≤ 20)) && (tuplesB ps n n && nudgesB ns n)
  | _ => false
/-- ascending, turn by turn -/
def ascAt {α : Type} (lt : α → α → Bool) (xs : List α) (i : Nat) : Bool :=
  match xs[i]?, xs[i + 1]? with
  | some x, some y => lt x y
  | _, _ => true
theorem ascB_range {α : Type} (lt : α → α → Bool) : ∀ xs : List α, ((List.range (xs.length - 1)).map fun i => ascAt lt xs i).all id = ascB lt xs
  | [] => rfl
  | [x] => rfl
  | x :: y :: r => by
    have ih := ascB_range lt (y :: r)
    have e : (x :: y :: r).length - 1 = ((y :: r).length - 1) + 1 := by
      simp only [List.length_cons]
      omega
    rw [e, List.range_succ_eq_map, List.map_cons, List.all_cons, List.map_map]
    show (lt x y && _) = (lt x y && ascB lt (y :: r))
    rw [← ih]
    rfl
theorem all_range_get {α : Type} (p : α → Bool) (d : α) : ∀ xs : List α, ((List.range xs.length).map fun i => p (xs.getD i d)).all id = xs.all p
  | [] => rfl
  | x :: xs => by
    rw [List.length_cons, List.range_succ_eq_map, List.map_cons, List.all_cons, List.map_map, List.all_cons]
    show (p x && _) = (p x && xs.all p)
    rw [← all_range_get p d xs]
    rfl
theorem given_bl {n : Nat} {f : Nat → Bool} : ((List.range n).map fun i => V.bl (f i)) = ((List.range n).map f).map V.bl := by
  rw [List.map_map]
  rfl
end Nw
namespace Nw
section
variable {K : PySem.W.Frag}
theorem isa_int (d : PySem.PyData) : PySem.W.kitOne K (.type (tyName d)) (.type "int") = some (isA "int" d) := isA_ok "int" (by simp) d
theorem isa_bool (d : PySem.PyData) : PySem.W.kitOne K (.type (tyName d)) (.type "bool") = some (isA "bool" d) := isA_ok "bool" (by simp) d
theorem isa_list (d : PySem.PyData) : PySem.W.kitOne K (.type (tyName d)) (.type "list") = some (isA "list" d) := isA_ok "list" (by simp) d
theorem isa_tuple (d : PySem.PyData) : PySem.W.kitOne K (.type (tyName d)) (.type "tuple") = some (isA "tuple" d) := isA_ok "tuple" (by simp) d
theorem isa_str (d : PySem.PyData) : PySem.W.kitOne K (.type (tyName d)) (.type "str") = some (isA "str" d) := isA_ok "str" (by simp) d
end
end Nw
namespace Nw
open PySem PySem.Spec PyProof.Rows L2
theorem map_at {α β : Type} {f : α → β} {l : List α} {i : Nat} {y : β} (h : (l.map f)[i]? = some y) : ∃ x, l[i]? = some x ∧ y = f x := by
  rw [List.getElem?_map] at h
  cases e : l[i]? with
  | none =>
    rw [e] at h
    cases h
  | some x =>
    rw [e] at h
    exact ⟨x, rfl, (Option.some.inj h).symm⟩
theorem drop1_at {α : Type} {l : List α} {i : Nat} {y : α} (h : (l.drop 1)[i]? = some y) : l[i + 1]? = some y := by
  rw [List.getElem?_drop, Nat.add_comm] at h
  exact h
theorem min_drop1 {α : Type} (l : List α) : min l.length (l.drop 1).length = l.length - 1 := by
  rw [List.length_drop]
  omega
/-- the pairs that a list of tuples of two ints holds -/
theorem pairs_at {K : PySem.W.Frag} {H : Hp} {ps : List (Int × Int)} {xs : List V} {i : Nat} {x : V} (h : DaAll K H (ps.map dPair) xs) (hx : xs[i]? = some x) :
    ∃ p, ps[i]? = some p ∧ ∃ a, x = .ref a ∧ SqT K H a [.int p.1, .int p.2] := by
  obtain ⟨d, hd, hdx⟩ := h.at' hx
  obtain ⟨p, hp, rfl⟩ := map_at hd
  obtain ⟨a, ys, rfl, hS, z1, r1, rfl, e1, z2, r2, rfl, e2, rfl⟩ := hdx
  obtain rfl := e1
  obtain rfl := e2
  exact ⟨p, hp, a, rfl, .inl (.inl hS)⟩
end Nw
namespace Nw
open PySem PySem.Spec PyProof.Rows L2
end Nw
/-! Webs as numbers. -/
namespace Nw
open PySem PySem.Spec PyProof.Rows L2
structure Wb where
  n : Int
  ps : List (Int × Int)
  ns : List (List Int)
  deriving DecidableEq
def dInts (r : List Int) : PyData := .list (r.map PyData.int)
def dPairs (ps : List (Int × Int)) : PyData := .list (ps.map dPair)
def dRows (ns : List (List Int)) : PyData := .list (ns.map dInts)
def Wb.d (w : Wb) : PyData := .tuple [.int w.n, dPairs w.ps, dRows w.ns]
structure Wb.Ok (w : Wb) : Prop where
  lo : 1 ≤ w.n
  hi : w.n ≤ 20
  ps : ∀ p ∈ w.ps, (0 ≤ p.1 ∧ p.1 < w.n) ∧ (0 ≤ p.2 ∧ p.2 < w.n)
  asc : ascB ltPr w.ps = true
  few : w.ns.length ≤ 8
  ns : ∀ r ∈ w.ns, r ≠ [] ∧ (∀ t ∈ r, 0 ≤ t ∧ t < w.n) ∧ ascB ltIn r = true
theorem targetsB_of {r : List Int} {m : Int} (h0 : r ≠ []) (h1 : ∀ t ∈ r, 0 ≤ t ∧ t < m) (h2 : ascB ltIn r = true) : targetsB (dInts r) m = true := by
  unfold dInts targetsB
  simp only [intsOf_map, h2, Bool.and_true, Bool.and_eq_true, decide_eq_true_eq, List.length_map]
  refine ⟨?_, List.length_pos_iff.mpr h0⟩
  simp only [List.all_map, List.all_eq_true]
  intro t ht
  have := h1 t ht
  simp [numB, this.1, this.2]
theorem tuplesB_of {ps : List (Int × Int)} {m n : Int} (h1 : ∀ p ∈ ps, (0 ≤ p.1 ∧ p.1 < m) ∧ (0 ≤ p.2 ∧ p.2 < n)) (h2 : ascB ltPr ps = true) : tuplesB (dPairs ps) m n = true := by
  unfold dPairs tuplesB
  simp only [pairsOf_map, h2, Bool.and_true]
  simp only [List.all_map, List.all_eq_true]
  intro p hp
  obtain ⟨⟨a, b⟩, c, d⟩ := h1 p hp
  simp [dPair, tupB, numB, a, b, c, d]
theorem Wb.Ok.web {w : Wb} (h : w.Ok) : webB w.d = true := by
  unfold Wb.d webB
  have h1 := h.lo
  have h2 := h.hi
  have h3 := tuplesB_of h.ps h.asc
  have h4 : nudgesB (dRows w.ns) w.n = true := by
    unfold dRows nudgesB
    simp only [List.length_map, h.few, decide_true, Bool.true_and]
    simp only [List.all_map, List.all_eq_true]
    intro r hr
    obtain ⟨a, b, c⟩ := h.ns r hr
    exact targetsB_of a b c
  simp [h1, h2, h3, h4]
/-- how long ascending rows of small numbers may be -/
theorem asc_len {m : Int} : ∀ (r : List Int) (lo : Int), (∀ t ∈ r, lo ≤ t ∧ t < m) → ascB ltIn r = true → (r.length : Int) ≤ max 0 (m - lo)
  | [], lo, _, _ => by
    simp only [List.length_nil]
    omega
  | [x], lo, h, _ => by
    have := h x (by simp)
    simp only [List.length_singleton]
    omega
  | x :: y :: r, lo, h, ha => by
    simp only [ascB, Bool.and_eq_true, ltIn, decide_eq_true_eq] at ha
    have hx := h x (by simp)
    have hy := h y (by simp)
    have key : ∀ (l : List Int) (a : Int), ascB ltIn (a :: l) = true → ∀ t ∈ l, a + 1 ≤ t := by
      intro l
      induction l with
      | nil =>
        intro a _ t ht
        cases ht
      | cons b l ih =>
        intro a hab t ht
        simp only [ascB, Bool.and_eq_true, ltIn, decide_eq_true_eq] at hab
        rcases List.mem_cons.mp ht with rfl | ht
        · omega
        · have := ih b hab.2 t ht
          omega
    have h' : ∀ t ∈ y :: r, x + 1 ≤ t ∧ t < m := by
      intro t ht
      refine ⟨?_, (h t (List.mem_cons_of_mem _ ht)).2⟩
      exact key (y :: r) x (by simp only [ascB, Bool.and_eq_true, ltIn, decide_eq_true_eq]; exact ha) t ht
    have ih := asc_len (y :: r) (x + 1) h' ha.2
    simp only [List.length_cons] at ih ⊢
    omega
theorem Wb.Ok.row {w : Wb} (h : w.Ok) {r : List Int} (hr : r ∈ w.ns) : r.length ≤ 20 := by
  obtain ⟨_, b, c⟩ := h.ns r hr
  have := asc_len r 0 b c
  have := h.hi
  have := h.lo
  omega
/-- the lines of a web -/
def pushedAt (n : Int) (i : Nat) (r : List Int) : List (Int × Int) := r.map fun t => (n + (i : Int), t)
def pushedFrom (n : Int) : Nat → List (List Int) → List (Int × Int)
  | _, [] => []
  | i, r :: rs => pushedAt n i r ++ pushedFrom n (i + 1) rs
def Wb.lines (w : Wb) : List (Int × Int) := w.ps ++ pushedFrom w.n 0 w.ns
theorem pushedFrom_take (n : Int) : ∀ (rs : List (List Int)) (i k : Nat) (r : List Int), rs[k]? = some r →
    pushedFrom n i (rs.take (k + 1)) = pushedFrom n i (rs.take k) ++ pushedAt n (i + k) r
  | [], _, _, _, h => by simp at h
  | a :: rs, i, 0, r, h => by
    obtain rfl : a = r := by simpa using h
    simp [pushedFrom]
  | a :: rs, i, k + 1, r, h => by
    have ih := pushedFrom_take n rs (i + 1) k r (by simpa using h)
    simp only [List.take_succ_cons, pushedFrom]
    rw [ih, List.append_assoc, show i + 1 + k = i + (k + 1) by omega]
theorem take_all {α : Type} (l : List α) : l.take l.length = l := List.take_length
end Nw
namespace Nw
open PySem PySem.Spec PyProof.Rows L2
theorem ltPr_iff {p q : Int × Int} : ltPr p q = true ↔ p.1 < q.1 ∨ (p.1 = q.1 ∧ p.2 < q.2) := by
  unfold ltPr
  rw [HT.lexLt_cons]
  by_cases h : p.1 = q.1
  · rw [if_pos h, HT.lexLt_cons]
    by_cases h2 : p.2 = q.2
    · rw [if_pos h2, HT.lexLt_nil_nil]
      constructor
      · intro e
        cases e
      · intro e
        omega
    · rw [if_neg h2, decide_eq_true_eq]
      omega
  · rw [if_neg h, decide_eq_true_eq]
    omega
theorem asc_code : ∀ {ps : List (Int × Int)}, (∀ p ∈ ps, 0 ≤ p.2 ∧ p.2 < 64) → ascB ltPr ps = true → ascB ltIn (ps.map fun p => 64 * p.1 + p.2) = true
  | [], _, _ => rfl
  | [_], _, _ => rfl
  | p :: q :: r, h, ha => by
    simp only [ascB, Bool.and_eq_true] at ha
    have hp := h p (by simp)
    have hq := h q (by simp)
    have h1 := ltPr_iff.mp ha.1
    have ih := asc_code (ps := q :: r) (fun z hz => h z (List.mem_cons_of_mem _ hz)) ha.2
    simp only [List.map_cons, ascB, Bool.and_eq_true, ltIn, decide_eq_true_eq] at ih ⊢
    exact ⟨by omega, ih⟩
theorem Wb.Ok.len {w : Wb} (h : w.Ok) : w.ps.length ≤ 1300 := by
  have h1 := asc_code (ps := w.ps) (fun p hp => by have := h.ps p hp; have := h.hi; omega) h.asc
  have h2 := asc_len _ 0 (m := 1300) (by
    intro t ht
    obtain ⟨p, hp, rfl⟩ := List.mem_map.mp ht
    have := h.ps p hp
    have := h.hi
    omega) h1
  rw [List.length_map] at h2
  omega
theorem pushed_len (n : Int) : ∀ (rs : List (List Int)) (i : Nat), (∀ r ∈ rs, r.length ≤ 20) → (pushedFrom n i rs).length ≤ 20 * rs.length
  | [], _, _ => by simp [pushedFrom]
  | r :: rs, i, h => by
    have h1 := h r (by simp)
    have h2 := pushed_len n rs (i + 1) (fun z hz => h z (List.mem_cons_of_mem _ hz))
    simp only [pushedFrom, pushedAt, List.length_append, List.length_map, List.length_cons]
    omega
theorem Wb.Ok.lines_len {w : Wb} (h : w.Ok) : w.lines.length ≤ 1500 := by
  have h1 := h.len
  have h2 := pushed_len w.n w.ns 0 (fun r hr => h.row hr)
  have h3 := h.few
  unfold Wb.lines
  rw [List.length_append]
  omega
/-- a web as it stands -/
theorem Wb.at {K : PySem.W.Frag} {H : Hp} {w : Wb} {v : V} (h : Da K H w.d v) : ∃ t x2 x3, v = .ref t ∧ SqT K H t [.int w.n, x2, x3] ∧ Da K H (dPairs w.ps) x2 ∧ Da K H (dRows w.ns) x3 := by
  obtain ⟨t, xs, rfl, hS, x1, r1, rfl, g1, x2, r2, rfl, g2, x3, r3, rfl, g3, rfl⟩ := h
  obtain rfl := g1
  exact ⟨t, x2, x3, rfl, .inl (.inl hS), g2, g3⟩
theorem dInts_at {K : PySem.W.Frag} {H : Hp} {r : List Int} {v : V} (h : Da K H (dInts r) v) : ∃ a, v = .ref a ∧ SqL K H a (r.map V.int) := by
  obtain ⟨a, xs, rfl, hS, hA, _⟩ := h
  obtain rfl := DaAll.ints.mp hA
  exact ⟨a, rfl, .inl (.inl hS)⟩
theorem dInts_of {K : PySem.W.Frag} {H : Hp} {r : List Int} {a : Addr} (h : H a = some (.lst (r.map V.int))) (hz : r.length ≤ 100000) : Da K H (dInts r) (.ref a) :=
  ⟨a, _, rfl, h, DaAll.ints.mpr rfl, by rw [List.length_map]; exact hz⟩
theorem dPair_of {K : PySem.W.Frag} {H : Hp} {p : Int × Int} {a : Addr} (h : H a = some (.tup [.int p.1, .int p.2])) : Da K H (dPair p) (.ref a) :=
  ⟨a, _, rfl, h, _, _, rfl, rfl, _, _, rfl, rfl, rfl⟩
end Nw
namespace Nw
open PySem PySem.Spec PyProof.Rows L2
theorem ExD.t {K : PySem.W.Frag} {D : Addr} {H H' : Hp} {a : Addr} {xs : List V} (e : ExD D H H') (n : a ≠ D) (h : SqT K H a xs) : SqT K H' a xs := by
  rcases h with (h | ⟨o, h⟩) | h
  · exact .inl (.inl (e a _ n h))
  · exact .inl (.inr ⟨o, e a _ n h⟩)
  · exact .inr h
theorem ExD.l {K : PySem.W.Frag} {D : Addr} {H H' : Hp} {a : Addr} {xs : List V} (e : ExD D H H') (n : a ≠ D) (h : SqL K H a xs) : SqL K H' a xs := by
  rcases h with (h | ⟨o, h⟩) | h
  · exact .inl (.inl (e a _ n h))
  · exact .inl (.inr ⟨o, e a _ n h⟩)
  · exact .inr h
/-- items that do not stand at D -/
abbrev OffD (D : Addr) (xs : List V) : Prop := ∀ x ∈ xs, ∃ b, x = .ref b ∧ b ≠ D
theorem OffD.nil {D : Addr} : OffD D [] := fun x h => by cases h
theorem OffD.snoc {D : Addr} {xs : List V} {b : Addr} (h : OffD D xs) (n : b ≠ D) : OffD D (xs ++ [.ref b]) := by
  intro x hx
  rcases List.mem_append.mp hx with hx | hx
  · exact h x hx
  · obtain rfl := List.mem_singleton.mp hx
    exact ⟨b, rfl, n⟩
theorem pairs_keep {K : PySem.W.Frag} {D : Addr} {H H' : Hp} (e : ExD D H H') : ∀ {L : List (Int × Int)} {acc : List V}, DaAll K H (L.map dPair) acc → OffD D acc → DaAll K H' (L.map dPair) acc
  | [], _, h, _ => h
  | p :: L, acc, h, o => by
    obtain ⟨x, xs, rfl, ⟨a, ys, rfl, hS, z1, r1, rfl, e1, z2, r2, rfl, e2, rfl⟩, h2⟩ := h
    obtain rfl := e1
    obtain rfl := e2
    obtain ⟨b, eb, nb⟩ := o (.ref a) (by simp)
    cases eb
    exact ⟨_, _, rfl, dPair_of (e _ _ nb hS), pairs_keep e h2 fun x hx => o x (List.mem_cons_of_mem _ hx)⟩
end Nw
namespace Nw
open PySem PySem.Spec PyProof.Rows L2
theorem pushed_ok {n : Int} {m : Int} : ∀ {rs : List (List Int)} {i : Nat}, (∀ r ∈ rs, ∀ t ∈ r, 0 ≤ t ∧ t < m) → ∀ l ∈ pushedFrom n i rs,
    (n + (i : Int) ≤ l.1 ∧ l.1 < n + (i : Int) + (rs.length : Int)) ∧ (0 ≤ l.2 ∧ l.2 < m)
  | [], _, _, l, hl => by cases hl
  | r :: rs, i, h, l, hl => by
    simp only [pushedFrom, List.mem_append] at hl
    simp only [List.length_cons]
    rcases hl with hl | hl
    · obtain ⟨t, ht, rfl⟩ := List.mem_map.mp hl
      have := h r (by simp) t ht
      exact ⟨⟨by simp, by simp; omega⟩, this⟩
    · have := pushed_ok (i := i + 1) (fun z hz => h z (List.mem_cons_of_mem _ hz)) l hl
      refine ⟨⟨by omega, by omega⟩, this.2⟩
theorem Wb.Ok.line {w : Wb} (h : w.Ok) : ∀ l ∈ w.lines, (0 ≤ l.1 ∧ l.1 < w.n + (w.ns.length : Int)) ∧ (0 ≤ l.2 ∧ l.2 < w.n) := by
  intro l hl
  have h1 := h.lo
  rcases List.mem_append.mp hl with hl | hl
  · have := h.ps l hl
    refine ⟨⟨this.1.1, by omega⟩, this.2⟩
  · have := pushed_ok (fun r hr => (h.ns r hr).2.1) l hl
    refine ⟨⟨by omega, by omega⟩, this.2⟩
/-- the targets that a list of lines gives a source -/
def rowOf (ls : List (Int × Int)) (s : Int) : List Int := (ls.filter fun l => l.1 == s).map (·.2)
theorem rowOf_nil (s : Int) : rowOf [] s = [] := rfl
theorem rowOf_app (a b : List (Int × Int)) (s : Int) : rowOf (a ++ b) s = rowOf a s ++ rowOf b s := by
  unfold rowOf
  rw [List.filter_append, List.map_append]
theorem rowOf_one (p : Int × Int) (s : Int) : rowOf [p] s = if p.1 = s then [p.2] else [] := by
  unfold rowOf
  by_cases h : p.1 = s
  · rw [if_pos h, List.filter_cons, if_pos (by simpa using h)]
    rfl
  · rw [if_neg h, List.filter_cons, if_neg (by simpa using h)]
    rfl
theorem rowOf_len (ls : List (Int × Int)) (s : Int) : (rowOf ls s).length ≤ ls.length := by
  unfold rowOf
  rw [List.length_map]
  exact List.length_filter_le _ _
theorem nodup_snoc {α : Type} {l : List α} {b : α} (h : l.Nodup) (n : b ∉ l) : (l ++ [b]).Nodup := by
  rw [List.nodup_append]
  refine ⟨h, by simp, ?_⟩
  intro a ha c hc e
  obtain rfl := List.mem_singleton.mp hc
  subst e
  exact n ha
theorem nodup_at {α : Type} {l : List α} (h : l.Nodup) {i j : Nat} {a b : α} (hi : l[i]? = some a) (hj : l[j]? = some b) (n : i ≠ j) : a ≠ b := by
  intro e
  subst e
  obtain ⟨h1, e1⟩ := List.getElem?_eq_some_iff.mp hi
  obtain ⟨h2, e2⟩ := List.getElem?_eq_some_iff.mp hj
  exact n ((List.getElem_inj h).mp (e1.trans e2.symm))
theorem atI_int {α : Type} {xs : List α} {s : Int} {v : α} (h0 : 0 ≤ s) (h : xs[s.toNat]? = some v) : atI xs s = some v := by
  have e := atI_nat h
  rw [Int.toNat_of_nonneg h0] at e
  exact e
theorem take_snoc {α : Type} {l : List α} {i : Nat} {x : α} (h : l[i]? = some x) : l.take (i + 1) = l.take i ++ [x] := by
  rw [List.take_add_one, h]
  rfl
end Nw
namespace Nw
open PySem PySem.Spec PyProof.Rows L2
/-- a tuple outlasts what is done to a list -/
theorem SqT.wr {K : PySem.W.Frag} {H : Hp} {b c : Addr} {xs ys : List V} {o : HO} (h : SqT K H b xs) (hc : H c = some (.lst ys)) : SqT K (upd H c o) b xs := by
  rcases h with (h | ⟨z, h⟩) | h
  · refine .inl (.inl ?_)
    rw [upd_ne (fun e => by rw [e, hc] at h; cases h)]
    exact h
  · refine .inl (.inr ⟨z, ?_⟩)
    rw [upd_ne (fun e => by rw [e, hc] at h; cases h)]
    exact h
  · exact .inr h
end Nw
namespace Nw
open PySem PySem.Spec PyProof.Rows L2
/-- the sources that a list of lines gives a quantity -/
def srcsOf (ls : List (Int × Int)) (t : Int) : List Int := (ls.filter fun l => l.2 == t).map (·.1)
theorem filter_range {α β : Type} (d : α) (p : α → Bool) (g : α → β) : ∀ ls : List α, ((List.range ls.length).filter fun i => p (ls.getD i d)).map (fun i => g (ls.getD i d)) = (ls.filter p).map g
  | [] => rfl
  | x :: ls => by
    have ih := filter_range d p g ls
    rw [List.length_cons, List.range_succ_eq_map, List.filter_cons, List.filter_map, List.filter_cons]
    have e : (fun i => p ((x :: ls).getD i d)) ∘ Nat.succ = fun i => p (ls.getD i d) := rfl
    rw [e]
    have e0 : (x :: ls).getD 0 d = x := rfl
    rw [e0]
    by_cases h : p x = true
    · rw [if_pos h, if_pos h, List.map_cons, List.map_cons, List.map_map, ← ih]
      rfl
    · rw [if_neg h, if_neg h, List.map_map, ← ih]
      rfl
theorem srcs_range (ls : List (Int × Int)) (z : Int) : ((List.range ls.length).filter fun i => (ls.getD i (0, 0)).2 == z).map (fun i => V.int (ls.getD i (0, 0)).1) = (srcsOf ls z).map V.int := by
  have h := filter_range (0, 0) (fun l : Int × Int => l.2 == z) (fun l => V.int l.1) ls
  rw [h]
  unfold srcsOf
  rw [List.map_map]
  rfl
end Nw
namespace Nw
open PySem PySem.Spec PyProof.Rows L2
/-- new rows at new places, apart from one another -/
structure RowsAt (H H' : Hp) (p : Addr) (as : List Addr) (n : Nat) (row : Nat → List Int) : Prop where
  new : H p = none
  ex : Ex H H'
  at_ : H' p = some (.lst (as.map V.ref))
  nd : as.Nodup
  off : ∀ b ∈ as, H b = none ∧ b ≠ p
  len : as.length = n
  row : ∀ s b, as[s]? = some b → H' b = some (.lst ((row s).map V.int))
theorem srcsOf_nil (s : Int) : srcsOf [] s = [] := rfl
theorem srcsOf_app (a b : List (Int × Int)) (s : Int) : srcsOf (a ++ b) s = srcsOf a s ++ srcsOf b s := by
  unfold srcsOf
  rw [List.filter_append, List.map_append]
theorem srcsOf_one (p : Int × Int) (s : Int) : srcsOf [p] s = if p.2 = s then [p.1] else [] := by
  unfold srcsOf
  by_cases h : p.2 = s
  · rw [if_pos h, List.filter_cons, if_pos (by simpa using h)]
    rfl
  · rw [if_neg h, List.filter_cons, if_neg (by simpa using h)]
    rfl
theorem srcsOf_len (ls : List (Int × Int)) (s : Int) : (srcsOf ls s).length ≤ ls.length := by
  unfold srcsOf
  rw [List.length_map]
  exact List.length_filter_le _ _
end Nw
/-! What draws are made of: a list of three numbers that each draw changes. -/
namespace Nw
open PySem PySem.Spec PyProof.Rows L2
/-- the heap without what stands at p -/
def rm (H : Hp) (p : Addr) : Hp := fun b => if b = p then none else H b
theorem rm_ex {H : Hp} {p : Addr} : Ex (rm H p) H := fun b o h => by
  unfold rm at h
  split at h
  · cases h
  · exact h
theorem rm_at {H : Hp} {p : Addr} : rm H p p = none := if_pos rfl
theorem rm_ne {H : Hp} {p b : Addr} (h : b ≠ p) : rm H p b = H b := if_neg h
theorem ExD.rm {p : Addr} {H H' : Hp} (e : ExD p H H') : Ex (rm H p) (rm H' p) := fun b o h => by
  by_cases n : b = p
  · subst n
    rw [rm_at] at h
    cases h
  · rw [rm_ne n] at h ⊢
    exact e b o n h
theorem Ex.rm {p : Addr} {H H' : Hp} (e : Ex H H') : Ex (rm H p) (rm H' p) := ExD.rm (Ex.d e)
theorem ExD.rfl {p : Addr} {H : Hp} : ExD p H H := fun _ _ _ h => h
theorem ExD.nw {p q : Addr} {H : Hp} {o : HO} (h : H q = none) : ExD p H (upd H q o) := (Ex.nw h).d
theorem ExD.wr {p q : Addr} {H H' : Hp} {o : HO} (e : ExD p H H') (h : H q = none) : ExD p H (upd H' q o) := fun a u n ha => by
  rw [upd_ne (ne_of_none ha h)]
  exact e a u n ha
theorem ExD.put2 {p : Addr} {H H' : Hp} {o : HO} (e : ExD p H H') : ExD p H (upd H' p o) := e.tr ExD.put
/-- what is new stands elsewhere than the purse -/
theorem ExD.fr {p q : Addr} {H H' : Hp} {o : HO} (e : ExD p H H') (hp : H' p = some o) (h : H' q = none) : H q = none := by
  cases z : H q with
  | none => exact Eq.refl _
  | some u =>
    by_cases n : q = p
    · subst n
      rw [hp] at h
      cases h
    · rw [e q u n z] at h
      cases h
structure Purse (H : Hp) (p : Addr) (m : Nat) : Prop where
  ex : ∃ b c e : Int, H p = some (.lst [.int b, .int c, .int e]) ∧ 0 ≤ b ∧ (0 ≤ c ∧ c < 10 ^ 42) ∧ (0 ≤ e ∧ e ≤ (m : Int))
theorem Purse.mono {H : Hp} {p : Addr} {m n : Nat} (h : Purse H p m) (l : m ≤ n) : Purse H p n := by
  obtain ⟨b, c, e, h1, h2, h3, h4⟩ := h.ex
  exact ⟨b, c, e, h1, h2, h3, h4.1, by omega⟩
theorem Purse.up {H H' : Hp} {p : Addr} {m : Nat} (h : Purse H p m) (e : Ex H H') : Purse H' p m := by
  obtain ⟨b, c, d, h1, h2⟩ := h.ex
  exact ⟨b, c, d, e _ _ h1, h2⟩
theorem Purse.off {H : Hp} {p : Addr} {m : Nat} (h : Purse H p m) {q : Addr} (n : H q = none) : q ≠ p := by
  obtain ⟨b, c, d, h1, h2⟩ := h.ex
  intro e
  rw [e, h1] at n
  cases n
theorem Purse.put {H : Hp} {p q : Addr} {m : Nat} {o : HO} (h : Purse H p m) (n : p ≠ q) : Purse (upd H q o) p m := by
  obtain ⟨b, c, d, h1, h2⟩ := h.ex
  exact ⟨b, c, d, by rw [upd_ne n]; exact h1, h2⟩
theorem Purse.fr {p q : Addr} {H H' : Hp} {m : Nat} (e : ExD p H H') (hp : Purse H' p m) (h : H' q = none) : H q = none := by
  obtain ⟨b, c, d, h1, _⟩ := hp.ex
  exact e.fr h1 h
/-- a remainder by a positive number -/
theorem fmod_in {a m : Int} (h : 0 < m) : 0 ≤ a.fmod m ∧ a.fmod m < m := by
  rw [Int.fmod_eq_emod_of_nonneg a (by omega)]
  exact ⟨Int.emod_nonneg a (by omega), Int.emod_lt_of_pos a h⟩
theorem div_in {a m : Int} (h0 : 0 ≤ a) (h : 0 < m) : 0 ≤ a / m := Int.ediv_nonneg h0 (by omega)
theorem pow_lt_of {i : Int} (h0 : 0 ≤ i) (h : i < 10 ^ 60) : i.natAbs < 2 ^ 10000 := by
  have h1 : (10 : Nat) ^ 60 < 2 ^ 10000 := by decide +kernel
  have h2 : i.natAbs < 10 ^ 60 := by omega
  omega
theorem small_div {m : Int} (h : 0 < m) (h2 : m < 1073741824) : CDivW 0 m := wide_div (b := 30) h (by omega) (by omega) (by omega)
theorem great_div {i m : Int} (h : 0 < m) (h2 : m < 1000000000000000000000000000000000000000000000000000000000000) : CDivW i m := wide_div (b := 200) h (by
  have e : (2 : Nat) ^ 200 = 1606938044258990275541962092341162602522202993782792835301376 := by decide +kernel
  rw [e]
  omega) (by omega) (by omega)
theorem small_div' {i m : Int} (h : 0 < m) (h2 : m < 1073741824) : CDivW i m := small_div h h2
end Nw
namespace Nw
open PySem PySem.Spec PyProof.Rows L2
theorem cpow10 {j : Int} (h0 : 0 ≤ j) (h1 : j ≤ 100) : CPowW 10 j := ⟨h0, h1, by
  show (10 : Nat) < 2 ^ 10000
  decide +kernel⟩
theorem cpow3 {i : Int} (h0 : 0 ≤ i) (h : i < 10 ^ 60) : CPowW i 3 := ⟨by decide, by decide, pow_lt_of h0 h⟩
theorem p18 : (10 : Int) ^ Int.toNat 18 = 1000000000000000000 := by decide +kernel
theorem p41 : (10 : Int) ^ Int.toNat 41 = 100000000000000000000000000000000000000000 := by decide +kernel
theorem p42 : (10 : Int) ^ 42 = 1000000000000000000000000000000000000000000 := by decide +kernel
theorem p43 : (10 : Int) ^ Int.toNat 43 = 10000000000000000000000000000000000000000000 := by decide +kernel
theorem p45 : (10 : Int) ^ Int.toNat 45 = 1000000000000000000000000000000000000000000000 := by decide +kernel
theorem p60 : (10 : Int) ^ 60 = 1000000000000000000000000000000000000000000000000000000000000 := by decide +kernel
theorem cube_nn {i : Int} (h : 0 ≤ i) : 0 ≤ i ^ Int.toNat 3 := Int.pow_nonneg h
theorem purse_new {a x k : Int} (hk : 0 ≤ k ∧ k ≤ 63) : 0 ≤ a.fmod (10 ^ Int.toNat 41 + 37) + 90001 * k + 17 ∧ a.fmod (10 ^ Int.toNat 41 + 37) + 90001 * k + 17 < 10 ^ 42 := by
  have h := fmod_in (a := a) (m := 10 ^ Int.toNat 41 + 37) (by rw [p41]; omega)
  rw [p41] at h ⊢
  rw [p42]
  omega
end Nw
namespace Nw
theorem ne41 : (10 : Int) ^ Int.toNat 41 + 37 ≠ 0 := by rw [p41]; decide
theorem ne43 : (10 : Int) ^ Int.toNat 43 + 29 ≠ 0 := by rw [p43]; decide
theorem ne45 : (10 : Int) ^ Int.toNat 45 + 9 ≠ 0 := by rw [p45]; decide
end Nw
/-! Data of webs compared and shown. -/
namespace Nw
open PySem PySem.Spec PyProof.Rows L2
theorem asc_snoc : ∀ {r : List Int} {x : Int}, ascB ltIn r = true → (∀ t ∈ r, t < x) → ascB ltIn (r ++ [x]) = true
  | [], _, _, _ => rfl
  | [a], x, _, h => by
    have := h a (by simp)
    simp [ascB, ltIn, this]
  | a :: b :: r, x, ha, h => by
    simp only [ascB, Bool.and_eq_true] at ha
    have ih := asc_snoc (r := b :: r) (x := x) ha.2 (fun t ht => h t (List.mem_cons_of_mem _ ht))
    simp only [List.cons_append, ascB, Bool.and_eq_true] at ih ⊢
    exact ⟨ha.1, ih⟩
theorem ascP_snoc : ∀ {r : List (Int × Int)} {x : Int × Int}, ascB ltPr r = true → (∀ t ∈ r, ltPr t x = true) → ascB ltPr (r ++ [x]) = true
  | [], _, _, _ => rfl
  | [a], x, _, h => by
    have := h a (by simp)
    simp [ascB, this]
  | a :: b :: r, x, ha, h => by
    simp only [ascB, Bool.and_eq_true] at ha
    have ih := ascP_snoc (r := b :: r) (x := x) ha.2 (fun t ht => h t (List.mem_cons_of_mem _ ht))
    simp only [List.cons_append, ascB, Bool.and_eq_true] at ih ⊢
    exact ⟨ha.1, ih⟩
/-! ### == -/
theorem eqv_ints : ∀ r s : List Int, PyData.eqvAll (r.map PyData.int) (s.map PyData.int) = decide (r = s)
  | [], [] => by simp [PyData.eqvAll]
  | [], _ :: _ => by simp [PyData.eqvAll]
  | _ :: _, [] => by simp [PyData.eqvAll]
  | a :: r, b :: s => by
    simp only [List.map_cons, PyData.eqvAll, eqv_ints r s, PyData.eqv]
    by_cases h : a = b
    · by_cases h2 : r = s <;> simp [h, h2]
    · simp [h]
theorem eqv_dInts (r s : List Int) : PyData.eqv (dInts r) (dInts s) = decide (r = s) := by
  unfold dInts
  simp only [PyData.eqv, eqv_ints]
theorem eqv_dPair (p q : Int × Int) : PyData.eqv (dPair p) (dPair q) = decide (p = q) := by
  obtain ⟨a, b⟩ := p
  obtain ⟨c, d⟩ := q
  unfold dPair
  simp only [PyData.eqv, PyData.eqvAll, Bool.and_true, Prod.mk.injEq]
  by_cases h : a = c <;> by_cases h2 : b = d <;> simp [h, h2]
theorem eqv_pairs : ∀ r s : List (Int × Int), PyData.eqvAll (r.map dPair) (s.map dPair) = decide (r = s)
  | [], [] => by simp [PyData.eqvAll]
  | [], _ :: _ => by simp [PyData.eqvAll]
  | _ :: _, [] => by simp [PyData.eqvAll]
  | a :: r, b :: s => by
    simp only [List.map_cons, PyData.eqvAll, eqv_pairs r s, eqv_dPair]
    by_cases h : a = b
    · by_cases h2 : r = s <;> simp [h, h2]
    · simp [h]
theorem eqv_dPairs (r s : List (Int × Int)) : PyData.eqv (dPairs r) (dPairs s) = decide (r = s) := by
  unfold dPairs
  simp only [PyData.eqv, eqv_pairs]
theorem eqv_rows : ∀ r s : List (List Int), PyData.eqvAll (r.map dInts) (s.map dInts) = decide (r = s)
  | [], [] => by simp [PyData.eqvAll]
  | [], _ :: _ => by simp [PyData.eqvAll]
  | _ :: _, [] => by simp [PyData.eqvAll]
  | a :: r, b :: s => by
    simp only [List.map_cons, PyData.eqvAll, eqv_rows r s, eqv_dInts]
    by_cases h : a = b
    · by_cases h2 : r = s <;> simp [h, h2]
    · simp [h]
theorem eqv_dRows (r s : List (List Int)) : PyData.eqv (dRows r) (dRows s) = decide (r = s) := by
  unfold dRows
  simp only [PyData.eqv, eqv_rows]
theorem eqv_web (u v : Wb) : PyData.eqv u.d v.d = decide (u = v) := by
  obtain ⟨a, b, c⟩ := u
  obtain ⟨d, e, f⟩ := v
  unfold Wb.d
  simp only [PyData.eqv, PyData.eqvAll, eqv_dPairs, eqv_dRows, Bool.and_true, Wb.mk.injEq]
  by_cases h : a = d <;> by_cases h2 : b = e <;> by_cases h3 : c = f <;> simp [h, h2, h3]
/-! ### shape -/
theorem shaped_of {d : PyData} (h : d.canLay0 = true) (h2 : d.depth ≤ 64) : SeqAt.shaped d = true := by
  unfold SeqAt.shaped
  rw [h, decide_eq_true h2]
  rfl
theorem lay_ints : ∀ r : List Int, PyData.canLayAll0 (r.map PyData.int) = true
  | [] => by simp [PyData.canLayAll0]
  | a :: r => by simp [PyData.canLayAll0, PyData.canLay0, lay_ints r]
theorem lay_pairs : ∀ r : List (Int × Int), PyData.canLayAll0 (r.map dPair) = true
  | [] => by simp [PyData.canLayAll0]
  | a :: r => by simp [PyData.canLayAll0, PyData.canLay0, dPair, lay_pairs r]
theorem lay_rows : ∀ r : List (List Int), PyData.canLayAll0 (r.map dInts) = true
  | [] => by simp [PyData.canLayAll0]
  | a :: r => by simp [PyData.canLayAll0, PyData.canLay0, dInts, lay_rows r, lay_ints]
theorem dep_ints : ∀ r : List Int, PyData.depthAll (r.map PyData.int) = 0
  | [] => by simp [PyData.depthAll]
  | a :: r => by simp [PyData.depthAll, PyData.depth, dep_ints r]
theorem dep_pairs : ∀ r : List (Int × Int), PyData.depthAll (r.map dPair) ≤ 1
  | [] => by simp [PyData.depthAll]
  | a :: r => by
    have := dep_pairs r
    simp [PyData.depthAll, PyData.depth, dPair]
    omega
theorem dep_rows : ∀ r : List (List Int), PyData.depthAll (r.map dInts) ≤ 1
  | [] => by simp [PyData.depthAll]
  | a :: r => by
    have := dep_rows r
    simp [PyData.depthAll, PyData.depth, dInts, dep_ints]
    omega
theorem lay_dInts (r : List Int) : (dInts r).canLay0 = true := by simp [dInts, PyData.canLay0, lay_ints]
theorem lay_dPairs (r : List (Int × Int)) : (dPairs r).canLay0 = true := by simp [dPairs, PyData.canLay0, lay_pairs]
theorem lay_dRows (r : List (List Int)) : (dRows r).canLay0 = true := by simp [dRows, PyData.canLay0, lay_rows]
theorem lay_dPair (p : Int × Int) : (dPair p).canLay0 = true := by simp [dPair, PyData.canLay0, PyData.canLayAll0]
theorem lay_web (u : Wb) : u.d.canLay0 = true := by simp [Wb.d, PyData.canLay0, PyData.canLayAll0, lay_dPairs, lay_dRows]
theorem dep_dInts (r : List Int) : (dInts r).depth ≤ 1 := by simp [dInts, PyData.depth, dep_ints]
theorem dep_dPair (p : Int × Int) : (dPair p).depth ≤ 1 := by simp [dPair, PyData.depth, PyData.depthAll]
theorem dep_dPairs (r : List (Int × Int)) : (dPairs r).depth ≤ 2 := by
  have := dep_pairs r
  simp [dPairs, PyData.depth]
  omega
theorem dep_dRows (r : List (List Int)) : (dRows r).depth ≤ 2 := by
  have := dep_rows r
  simp [dRows, PyData.depth]
  omega
theorem dep_web (u : Wb) : u.d.depth ≤ 3 := by
  have h1 := dep_dPairs u.ps
  have h2 := dep_dRows u.ns
  simp [Wb.d, PyData.depth, PyData.depthAll]
  omega
theorem sh_dInts (r : List Int) : SeqAt.shaped (dInts r) = true := shaped_of (lay_dInts r) (by have := dep_dInts r; omega)
theorem sh_dPair (r : Int × Int) : SeqAt.shaped (dPair r) = true := shaped_of (lay_dPair r) (by have := dep_dPair r; omega)
theorem sh_dPairs (r : List (Int × Int)) : SeqAt.shaped (dPairs r) = true := shaped_of (lay_dPairs r) (by have := dep_dPairs r; omega)
theorem sh_dRows (r : List (List Int)) : SeqAt.shaped (dRows r) = true := shaped_of (lay_dRows r) (by have := dep_dRows r; omega)
theorem sh_web (u : Wb) : SeqAt.shaped u.d = true := shaped_of (lay_web u) (by have := dep_web u; omega)
theorem nd_of_lay {d : PyData} (h : d.canLay0 = true) : d.hasDict = false := PyData.hasDict_of_canLay d h
section
variable {K : PySem.W.Frag} {H : Hp}
theorem Da.dInts {r : List Int} {v : V} (h : Da K H (dInts r) v) : Dp K H v (dInts r) := h.dp _ _ (nd_of_lay (lay_dInts r))
theorem Da.dPairs {r : List (Int × Int)} {v : V} (h : Da K H (dPairs r) v) : Dp K H v (dPairs r) := h.dp _ _ (nd_of_lay (lay_dPairs r))
theorem Da.dPair {r : Int × Int} {v : V} (h : Da K H (dPair r) v) : Dp K H v (dPair r) := h.dp _ _ (nd_of_lay (lay_dPair r))
theorem Da.dRows {r : List (List Int)} {v : V} (h : Da K H (dRows r) v) : Dp K H v (dRows r) := h.dp _ _ (nd_of_lay (lay_dRows r))
theorem Da.web {u : Wb} {v : V} (h : Da K H u.d v) : Dp K H v u.d := h.dp _ _ (nd_of_lay (lay_web u))
/-- a == b, a != b of lists of ints .. as the readings ask -/
theorem eqD_of {d e : PyData} {x y : V} {Q : VK} (hd : Dp K H x d) (he : Dp K H y e) (sd : SeqAt.shaped d = true) (se : SeqAt.shaped e = true) (q : Q (.bl (PyData.eqv d e)) H) : rEqD K x y H Q := ⟨d, e, hd, he, sd, se, q⟩
end
end Nw
namespace Nw
open PySem PySem.Spec PyProof.Rows L2
theorem ex_rm1 {H H' : Hp} {p : Addr} (h : ∀ b o, b ≠ p → H b = some o → H' b = some o) : Ex (rm H p) (rm H' p) := ExD.rm h
theorem ex_rm2 {H H' : Hp} {p q : Addr} (h : ∀ b o, b ≠ p → b ≠ q → H b = some o → H' b = some o) : Ex (rm (rm H p) q) (rm (rm H' p) q) :=
  ExD.rm fun b o n e => by
    by_cases n2 : b = p
    · subst n2
      rw [rm_at] at e
      cases e
    · rw [rm_ne n2] at e ⊢
      exact h b o n2 n e
theorem ex_rm3 {H H' : Hp} {p q r : Addr} (h : ∀ b o, b ≠ p → b ≠ q → b ≠ r → H b = some o → H' b = some o) : Ex (rm (rm (rm H p) q) r) (rm (rm (rm H' p) q) r) :=
  ExD.rm fun b o n e => by
    by_cases n2 : b = q
    · subst n2
      rw [rm_at] at e
      cases e
    · rw [rm_ne n2] at e ⊢
      by_cases n3 : b = p
      · subst n3
        rw [rm_at] at e
        cases e
      · rw [rm_ne n3] at e ⊢
        exact h b o n3 n2 n e
theorem asc_app : ∀ {a b : List (Int × Int)}, ascB ltPr a = true → ascB ltPr b = true → (∀ x ∈ a, ∀ y ∈ b, ltPr x y = true) → ascB ltPr (a ++ b) = true
  | [], _, _, hb, _ => hb
  | [x], [], _, _, _ => rfl
  | [x], y :: b, _, hb, h => by
    show (ltPr x y && ascB ltPr (y :: b)) = true
    rw [hb, h x (by simp) y (by simp)]
    rfl
  | x :: z :: a, b, ha, hb, h => by
    simp only [ascB, Bool.and_eq_true] at ha
    have ih := asc_app (a := z :: a) ha.2 hb (fun x hx => h x (List.mem_cons_of_mem _ hx))
    show (ltPr x z && ascB ltPr (z :: a ++ b)) = true
    rw [ha.1, ih]
    rfl
end Nw
namespace Nw
open PySem PySem.Spec PyProof.Rows L2
theorem rowOf_none {ls : List (Int × Int)} {s : Int} (h : ∀ l ∈ ls, l.1 ≠ s) : rowOf ls s = [] := by
  unfold rowOf
  rw [List.filter_eq_nil_iff.mpr (fun l hl => by simpa using h l hl)]
  rfl
theorem rowOf_pushedAt (n : Int) (i : Nat) (r : List Int) : rowOf (pushedAt n i r) (n + (i : Int)) = r := by
  unfold rowOf pushedAt
  rw [List.filter_eq_self.mpr]
  · rw [List.map_map]
    exact List.map_id _
  · intro l hl
    obtain ⟨t, _, rfl⟩ := List.mem_map.mp hl
    simp
/-- a quantity's row: from the pairs alone -/
theorem row_low {u : Wb} (h : u.Ok) {s : Int} (hs : s < u.n) : rowOf u.lines s = rowOf u.ps s := by
  unfold Wb.lines
  rw [rowOf_app, rowOf_none (ls := pushedFrom u.n 0 u.ns), List.append_nil]
  intro l hl
  have := pushed_ok (fun r hr => (h.ns r hr).2.1) l hl
  omega
theorem row_push {n : Int} {m : Int} : ∀ {rs : List (List Int)} {i k : Nat} {r : List Int}, (∀ r ∈ rs, ∀ t ∈ r, 0 ≤ t ∧ t < m) → rs[k]? = some r →
    rowOf (pushedFrom n i rs) (n + (i : Int) + (k : Int)) = r
  | [], _, _, _, _, e => by simp at e
  | a :: rs, i, 0, r, h, e => by
    obtain rfl : a = r := by simpa using e
    simp only [pushedFrom]
    rw [rowOf_app, show n + (i : Int) + ((0 : Nat) : Int) = n + (i : Int) by omega, rowOf_pushedAt, rowOf_none, List.append_nil]
    intro l hl
    have := pushed_ok (fun z hz => h z (List.mem_cons_of_mem _ hz)) l hl
    omega
  | a :: rs, i, k + 1, r, h, e => by
    simp only [pushedFrom]
    rw [rowOf_app, rowOf_none, List.nil_append]
    · have ih := row_push (n := n) (i := i + 1) (k := k) (r := r) (fun z hz => h z (List.mem_cons_of_mem _ hz)) (by simpa using e)
      rw [show n + (i : Int) + ((k + 1 : Nat) : Int) = n + ((i + 1 : Nat) : Int) + (k : Int) by omega]
      exact ih
    · intro l hl
      obtain ⟨t, _, rfl⟩ := List.mem_map.mp hl
      simp only
      omega
/-- a nudge's row -/
theorem row_high {u : Wb} (h : u.Ok) {k : Nat} {r : List Int} (hr : u.ns[k]? = some r) {s : Int} (hs : s = u.n + (k : Int)) : rowOf u.lines s = r := by
  subst hs
  unfold Wb.lines
  rw [rowOf_app, rowOf_none (ls := u.ps), List.nil_append]
  · have := row_push (n := u.n) (i := 0) (k := k) (fun r hr => (h.ns r hr).2.1) hr
    rw [show u.n + ((0 : Nat) : Int) + (k : Int) = u.n + (k : Int) by omega] at this
    exact this
  · intro l hl
    have := h.ps l hl
    omega
end Nw
/-! Data of webs shown, lines grouped and sorted. -/
namespace Nw
open PySem PySem.Spec PyProof.Rows L2
theorem short_small : ∀ n : Fin 64, ((PyData.shown (.int (n.val : Int))).length ≤ 8 ∧ (((n.val : Int)).natAbs.log2 < 1920) ∧ PyData.weight (.int (n.val : Int)) ≤ 6) := by decide +kernel
theorem short_int {i : Int} (h0 : 0 ≤ i) (h1 : i < 64) : (PyData.shown (.int i)).length ≤ 8 ∧ i.natAbs.log2 < 1920 ∧ PyData.weight (.int i) ≤ 6 := by
  have h := short_small ⟨i.toNat, by omega⟩
  simp only [Int.toNat_of_nonneg h0] at h
  exact h
abbrev Sm (i : Int) : Prop := 0 ≤ i ∧ i < 64
theorem sm_ints : ∀ {r : List Int}, (∀ t ∈ r, Sm t) → PyData.leavesShortAll 8 (r.map PyData.int) = true ∧ PyData.showableAll (r.map PyData.int) = true ∧ PyData.weightAll (r.map PyData.int) ≤ 7 * r.length
  | [], _ => by simp [PyData.leavesShortAll, PyData.showableAll, PyData.weightAll]
  | a :: r, h => by
    obtain ⟨h1, h2, h3⟩ := sm_ints (r := r) fun t ht => h t (List.mem_cons_of_mem _ ht)
    obtain ⟨s1, s2⟩ := h a (by simp)
    obtain ⟨g1, g2, g5⟩ := short_int s1 s2
    refine ⟨?_, ?_, ?_⟩
    · simp only [List.map_cons, PyData.leavesShortAll, PyData.leavesShort, h1, Bool.and_true, decide_eq_true_eq]
      exact g1
    · simp only [List.map_cons, PyData.showableAll, PyData.showable, h2, Bool.and_true, decide_eq_true_eq]
      exact g2
    · simp only [List.map_cons, PyData.weightAll, List.length_cons]
      omega
theorem sm_pairs : ∀ {r : List (Int × Int)}, (∀ t ∈ r, Sm t.1 ∧ Sm t.2) → PyData.leavesShortAll 8 (r.map dPair) = true ∧ PyData.showableAll (r.map dPair) = true ∧ PyData.weightAll (r.map dPair) ≤ 16 * r.length
  | [], _ => by simp [PyData.leavesShortAll, PyData.showableAll, PyData.weightAll]
  | a :: r, h => by
    obtain ⟨h1, h2, h3⟩ := sm_pairs (r := r) fun t ht => h t (List.mem_cons_of_mem _ ht)
    obtain ⟨s1, s2⟩ := h a (by simp)
    obtain ⟨g1, g2, g5⟩ := short_int s1.1 s1.2
    obtain ⟨g3, g4, g6⟩ := short_int s2.1 s2.2
    refine ⟨?_, ?_, ?_⟩
    · simp only [List.map_cons, dPair, PyData.leavesShortAll, PyData.leavesShort, h1, Bool.and_true, decide_eq_true_eq, Bool.and_eq_true]
      exact ⟨g1, g3⟩
    · simp only [List.map_cons, dPair, PyData.showableAll, PyData.showable, h2, Bool.and_true, decide_eq_true_eq, Bool.and_eq_true]
      exact ⟨g2, g4⟩
    · have e : PyData.weight (dPair a) = PyData.weight (.int a.1) + 1 + (PyData.weight (.int a.2) + 1 + 0) := by
        simp only [dPair, PyData.weight, PyData.weightAll]
      simp only [List.map_cons, PyData.weightAll, List.length_cons]
      omega
/-- what repr of a list of small ints asks -/
theorem show_ints {r : List Int} (hs : ∀ t ∈ r, Sm t) (hz : r.length ≤ 30000) : (dInts r).showable = true ∧ (dInts r).shown.length ≤ sizeLine ∧ (dInts r).depth ≤ 60 := by
  obtain ⟨h1, h2, h3⟩ := sm_ints hs
  refine ⟨?_, ?_, ?_⟩
  · simp only [dInts, PyData.showable, h2]
  · refine PyData.shown_fits (B := 8) (by omega) (by omega) ?_ ?_
    · simp only [dInts, PyData.leavesShort, h1]
    · simp only [dInts, PyData.weight]
      omega
  · have := dep_dInts r
    omega
/-- what repr of a list of pairs of small ints asks -/
theorem show_pairs {r : List (Int × Int)} (hs : ∀ t ∈ r, Sm t.1 ∧ Sm t.2) (hz : r.length ≤ 30000) : (dPairs r).showable = true ∧ (dPairs r).shown.length ≤ sizeLine ∧ (dPairs r).depth ≤ 60 := by
  obtain ⟨h1, h2, h3⟩ := sm_pairs hs
  refine ⟨?_, ?_, ?_⟩
  · simp only [dPairs, PyData.showable, h2]
  · refine PyData.shown_fits (B := 8) (by omega) (by omega) ?_ ?_
    · simp only [dPairs, PyData.leavesShort, h1]
    · simp only [dPairs, PyData.weight]
      omega
  · have := dep_dPairs r
    omega
/-! ### lines grouped -/
theorem asc_tail : ∀ {p : Int × Int} {r : List (Int × Int)}, ascB ltPr (p :: r) = true → (∀ q ∈ r, ltPr p q = true) ∧ ascB ltPr r = true
  | p, [], _ => ⟨fun q hq => (by cases hq), rfl⟩
  | p, q :: r, h => by
    simp only [ascB, Bool.and_eq_true] at h
    obtain ⟨h1, h2⟩ := asc_tail (p := q) (r := r) h.2
    refine ⟨fun z hz => ?_, h.2⟩
    rcases List.mem_cons.mp hz with rfl | hz
    · exact h.1
    · have a := ltPr_iff.mp h.1
      have b := ltPr_iff.mp (h1 z hz)
      refine ltPr_iff.mpr ?_
      omega
/-- rising lines, those of the first k sources -/
def upTo (ls : List (Int × Int)) (k : Int) : List (Int × Int) := ls.filter fun l => decide (l.1 < k)
theorem upTo_step : ∀ {ls : List (Int × Int)} (k : Int), ascB ltPr ls = true → upTo ls (k + 1) = upTo ls k ++ (rowOf ls k).map fun t => (k, t)
  | [], k, _ => rfl
  | p :: r, k, h => by
    obtain ⟨h1, h2⟩ := asc_tail h
    have ih := upTo_step (ls := r) k h2
    unfold upTo rowOf at ih ⊢
    by_cases a : p.1 < k
    · rw [List.filter_cons_of_pos (p := fun l : Int × Int => decide (l.1 < k + 1)) (by simp; omega), List.filter_cons_of_pos (p := fun l : Int × Int => decide (l.1 < k)) (by simpa using a),
        List.filter_cons_of_neg (p := fun l : Int × Int => l.1 == k) (by simp; omega), ih]
      rfl
    · have e0 : r.filter (fun l => decide (l.1 < k)) = [] := by
        refine List.filter_eq_nil_iff.mpr fun q hq => ?_
        have := ltPr_iff.mp (h1 q hq)
        simp
        omega
      rw [e0, List.nil_append] at ih
      rw [List.filter_cons_of_neg (p := fun l : Int × Int => decide (l.1 < k)) (by simpa using a), e0, List.nil_append]
      by_cases b : p.1 = k
      · rw [List.filter_cons_of_pos (p := fun l : Int × Int => decide (l.1 < k + 1)) (by simp; omega), List.filter_cons_of_pos (p := fun l : Int × Int => l.1 == k) (by simpa using b), ih, List.map_cons, List.map_cons]
        rw [← b]
      · rw [List.filter_cons_of_neg (p := fun l : Int × Int => decide (l.1 < k + 1)) (by simp; omega), List.filter_cons_of_neg (p := fun l : Int × Int => l.1 == k) (by simpa using b), ih]
theorem upTo_none {ls : List (Int × Int)} {k : Int} (h : ∀ l ∈ ls, k ≤ l.1) : upTo ls k = [] :=
  List.filter_eq_nil_iff.mpr fun l hl => by
    have := h l hl
    simp
    omega
theorem upTo_all {ls : List (Int × Int)} {k : Int} (h : ∀ l ∈ ls, l.1 < k) : upTo ls k = ls :=
  List.filter_eq_self.mpr fun l hl => by
    have := h l hl
    simp
    omega
theorem asc_pushedAt {n : Int} {i : Nat} : ∀ {r : List Int}, ascB ltIn r = true → ascB ltPr (pushedAt n i r) = true
  | [], _ => rfl
  | [x], _ => rfl
  | x :: y :: r, h => by
    simp only [ascB, Bool.and_eq_true, ltIn, decide_eq_true_eq] at h
    have ih := asc_pushedAt (n := n) (i := i) (r := y :: r) h.2
    unfold pushedAt at ih ⊢
    simp only [List.map_cons, ascB, Bool.and_eq_true] at ih ⊢
    exact ⟨ltPr_iff.mpr (.inr ⟨rfl, h.1⟩), ih⟩
theorem asc_pushed {n m : Int} : ∀ {rs : List (List Int)} {i : Nat}, (∀ r ∈ rs, (∀ t ∈ r, 0 ≤ t ∧ t < m) ∧ ascB ltIn r = true) → ascB ltPr (pushedFrom n i rs) = true
  | [], _, _ => rfl
  | r :: rs, i, h => by
    simp only [pushedFrom]
    refine asc_app (asc_pushedAt (h r (by simp)).2) (asc_pushed fun z hz => h z (List.mem_cons_of_mem _ hz)) ?_
    intro x hx y hy
    obtain ⟨t, _, rfl⟩ := List.mem_map.mp hx
    have := pushed_ok (fun z hz => (h z (List.mem_cons_of_mem _ hz)).1) y hy
    refine ltPr_iff.mpr (.inl ?_)
    simp only
    omega
theorem Wb.Ok.lines_asc {u : Wb} (h : u.Ok) : ascB ltPr u.lines = true := by
  refine asc_app h.asc (asc_pushed fun r hr => (h.ns r hr).2) ?_
  intro x hx y hy
  have a := h.ps x hx
  have b := pushed_ok (fun r hr => (h.ns r hr).2.1) y hy
  refine ltPr_iff.mpr (.inl ?_)
  omega
theorem Wb.Ok.sm {u : Wb} (h : u.Ok) : ∀ l ∈ u.lines, Sm l.1 ∧ Sm l.2 := by
  intro l hl
  have a := h.line l hl
  have b := h.hi
  have c := h.few
  refine ⟨⟨a.1.1, by omega⟩, ⟨a.2.1, by omega⟩⟩
theorem Wb.Ok.sm_row {u : Wb} (h : u.Ok) (s : Int) : ∀ t ∈ rowOf u.lines s, Sm t := by
  intro t ht
  obtain ⟨l, hl, rfl⟩ := List.mem_map.mp ht
  exact (h.sm l (List.mem_filter.mp hl).1).2
theorem Wb.Ok.sm_srcs {u : Wb} (h : u.Ok) (s : Int) : ∀ t ∈ srcsOf u.lines s, Sm t := by
  intro t ht
  obtain ⟨l, hl, rfl⟩ := List.mem_map.mp ht
  exact (h.sm l (List.mem_filter.mp hl).1).1
theorem srcs_len (ls : List (Int × Int)) (s : Int) : (srcsOf ls s).length ≤ ls.length := by
  unfold srcsOf
  rw [List.length_map]
  exact List.length_filter_le _ _
/-! ### sorted -/
/-- the two ints of a pair that is known -/
def keyOf (H : Hp) : V → Int × Int
  | .ref t => match H t with
    | some (.tup [.int a, .int b]) => (a, b)
    | _ => (0, 0)
  | _ => (0, 0)
theorem keyOf_at {H : Hp} {t : Addr} {p : Int × Int} (h : H t = some (.tup [.int p.1, .int p.2])) : keyOf H (.ref t) = p := by
  unfold keyOf
  simp only [h]
theorem keys_of {K : PySem.W.Frag} {H : Hp} : ∀ {L : List (Int × Int)} {xs : List V}, DaAll K H (L.map dPair) xs → (∀ x ∈ xs, ∃ t, x = V.ref t ∧ H t = some (.tup [.int (keyOf H x).1, .int (keyOf H x).2])) ∧ xs.map (keyOf H) = L
  | [], xs, h => by
    obtain rfl : xs = [] := h
    exact ⟨fun x hx => (by cases hx), rfl⟩
  | p :: L, xs, h => by
    obtain ⟨x, xs, rfl, ⟨a, ys, rfl, hS, z1, r1, rfl, e1, z2, r2, rfl, e2, rfl⟩, h2⟩ := h
    obtain rfl := e1
    obtain rfl := e2
    obtain ⟨g1, g2⟩ := keys_of h2
    have e := keyOf_at hS
    refine ⟨fun x hx => ?_, by rw [List.map_cons, e, g2]⟩
    rcases List.mem_cons.mp hx with rfl | hx
    · exact ⟨a, rfl, by rw [e]; exact hS⟩
    · exact g1 x hx
theorem srtd_of {k : V → Int × Int} : ∀ {xs : List V}, ascB ltPr (xs.map k) = true → SrtO.Srtd (ltP k) xs
  | [], _ => List.Pairwise.nil
  | x :: xs, h => by
    obtain ⟨h1, h2⟩ := asc_tail (p := k x) (r := xs.map k) h
    refine List.Pairwise.cons (fun y hy => ?_) (srtd_of h2)
    have a := ltPr_iff.mp (h1 (k y) (List.mem_map.mpr ⟨y, hy, rfl⟩))
    refine SrtO.lexB_no.mpr ?_
    omega
/-- sorted of what is sorted -/
theorem sorted_same {K : PySem.W.Frag} {H : Hp} {a : Addr} {xs : List V} {L : List (Int × Int)} {Q : VK} (hS : SqL K H a xs) (hA : DaAll K H (L.map dPair) xs) (ha : ascB ltPr L = true)
    (q : ∀ p, H p = none → Q (.ref p) (upd H p (.lst xs))) : rSortedPO K [.ref a] H Q := by
  obtain ⟨h1, h2⟩ := keys_of hA
  refine ⟨a, xs, keyOf H, rfl, hS, h1, fun ys p s1 s2 hp => ?_⟩
  have s3 : SrtO.Srtd (ltP (keyOf H)) xs := srtd_of (by rw [h2]; exact ha)
  rw [SrtO.stb_uniq (ltP_swo (keyOf H)) s1 s3 s2]
  exact q p hp
/-- pairs outlast what is done to a list -/
theorem pairs_wr {K : PySem.W.Frag} {H : Hp} {D : Addr} {ys : List V} {o : HO} (hD : H D = some (.lst ys)) : ∀ {L : List (Int × Int)} {acc : List V}, DaAll K H (L.map dPair) acc → DaAll K (upd H D o) (L.map dPair) acc
  | [], _, h => h
  | p :: L, acc, h => by
    obtain ⟨x, xs, rfl, ⟨a, zs, rfl, hS, z1, r1, rfl, e1, z2, r2, rfl, e2, rfl⟩, h2⟩ := h
    obtain rfl := e1
    obtain rfl := e2
    refine ⟨_, _, rfl, dPair_of ?_, pairs_wr hD h2⟩
    rw [upd_ne (fun e => by rw [e, hD] at hS; cases hS)]
    exact hS
end Nw
/-! Webs turned and renumbered. -/
namespace Nw
open PySem PySem.Spec PyProof.Rows L2
section
variable {X : Cx}
theorem mt_indexK (K : PySem.W.Frag) (hK : X.K = K := by rfl) : MtR X "list.index" (rIndex K) := by
  subst hK
  exact mt_index
theorem bmK (K : PySem.W.Frag) {T : String} {r : V → List V → Hp → VK → Prop} {to : TE} {t : TA} {e : Expr} (h : PE X e (tBM X.K T r to t)) (hK : X.K = K := by rfl) : PE X e (tBM K T r to t) := by
  subst hK
  exact h
theorem pe_dgetK {k : Nat} {o i : Expr} {td ty : TE} {pos : Pos} (hr : Room k X.A) (ho : PE X o td) (hi : PE X i ty) (hs : NoSl i) : PE X (.Subscript o i pos) (tDGet td ty) :=
  pe_dget (by have := hr.un; omega) ho hi hs
end
/-- what a dict comprehension's reading asks -/
theorem dc_by {J : It} {g : TG} {tt : TT} {tk tv : TE} {vs : List Nat} {σ : L2.St} {D : Addr} {H1 : Hp} {Qd : Hp → Prop}
    (n : Nat) (Pv : Nat → Hp → Prop) (h0 : Pv 0 (upd H1 D (.dK [])))
    (hgo : ∀ i H, i < n → Pv i H → J.go i H) (hst : ∀ H, Pv n H → J.stop n H)
    (hs : ∀ i H x H', i < n → Pv i H → J.yld i H x H' → g x (wipe σ vs) H' fun σ2 H2 => wipe σ2 vs = wipe σ vs ∧ tt σ2 H2 fun b H3 =>
      if b = true then tk σ2 H3 fun y H4 => tv σ2 H4 fun z H5 => ∃ kvs k, y = kV k ∧ H5 D = some (.dK kvs) ∧ kvs.length < sizeLine ∧ Pv (i + 1) (upd H5 D (.dK (putK kvs k z))) else Pv (i + 1) H3)
    (hd : ∀ H, Pv n H → Qd H) :
    ∃ W : Nat → Nat → Hp → Prop, (∃ m, W 0 m (upd H1 D (.dK []))) ∧ ∀ i m H, W i m H →
      (J.stop i H ∧ Qd H) ∨ (J.go i H ∧ ∃ Nx : Hp → Prop, (∀ H', Nx H' → ∃ m', m' < m ∧ W (i + 1) m' H') ∧ ∀ x H', J.yld i H x H' → g x (wipe σ vs) H' fun σ2 H2 => wipe σ2 vs = wipe σ vs ∧ tt σ2 H2 fun b H3 =>
        if b = true then tk σ2 H3 fun y H4 => tv σ2 H4 fun z H5 => ∃ kvs k, y = kV k ∧ H5 D = some (.dK kvs) ∧ kvs.length < sizeLine ∧ Nx (upd H5 D (.dK (putK kvs k z))) else Nx H3) := by
  refine ⟨fun i m H => m = n - i ∧ i ≤ n ∧ Pv i H, ⟨n, by omega, Nat.zero_le _, h0⟩, ?_⟩
  rintro i m H ⟨rfl, hi, p⟩
  by_cases hlt : i < n
  · refine .inr ⟨hgo i H hlt p, Pv (i + 1), fun H' p' => ⟨n - (i + 1), by omega, rfl, hlt, p'⟩, ?_⟩
    intro x H' y
    exact hs i H x H' hlt p y
  · have e : i = n := by omega
    subst e
    exact .inl ⟨hst H p, hd H p⟩
/-! ### lists told by their members -/
theorem pw_ext {α : Type} {lt : α → α → Bool} (irr : ∀ x, lt x x = false) (asym : ∀ x y, lt x y = true → lt y x = false) :
    ∀ {a b : List α}, a.Pairwise (fun x y => lt x y = true) → b.Pairwise (fun x y => lt x y = true) → (∀ x, x ∈ a ↔ x ∈ b) → a = b
  | [], [], _, _, _ => rfl
  | [], y :: b, _, _, h => by
    have := (h y).mpr (by simp)
    cases this
  | x :: a, [], _, _, h => by
    have := (h x).mp (by simp)
    cases this
  | x :: a, y :: b, ha, hb, h => by
    obtain ⟨a1, a2⟩ := List.pairwise_cons.mp ha
    obtain ⟨b1, b2⟩ := List.pairwise_cons.mp hb
    have e : x = y := by
      rcases List.mem_cons.mp ((h x).mp (by simp)) with e | hx
      · exact e
      rcases List.mem_cons.mp ((h y).mpr (by simp)) with e | hy
      · exact e.symm
      have z1 := b1 x hx
      have z2 := a1 y hy
      rw [asym _ _ z1] at z2
      cases z2
    subst e
    have nx : ∀ {l : List α}, (∀ z ∈ l, lt x z = true) → x ∉ l := fun hl hx => by
      have := hl x hx
      rw [irr] at this
      cases this
    rw [pw_ext irr asym a2 b2 fun z => ?_]
    constructor
    · intro hz
      rcases List.mem_cons.mp ((h z).mp (List.mem_cons_of_mem _ hz)) with e | hz'
      · subst e
        exact absurd hz (nx a1)
      · exact hz'
    · intro hz
      rcases List.mem_cons.mp ((h z).mpr (List.mem_cons_of_mem _ hz)) with e | hz'
      · subst e
        exact absurd hz (nx b1)
      · exact hz'
theorem ltPr_no {p q : Int × Int} (h : ¬ (p.1 < q.1 ∨ (p.1 = q.1 ∧ p.2 < q.2))) : ltPr p q = false := by
  cases e : ltPr p q with
  | false => rfl
  | true => exact absurd (ltPr_iff.mp e) h
theorem pw_asc : ∀ {l : List (Int × Int)}, ascB ltPr l = true → l.Pairwise fun x y => ltPr x y = true
  | [], _ => List.Pairwise.nil
  | x :: l, h => by
    obtain ⟨h1, h2⟩ := asc_tail h
    exact List.Pairwise.cons h1 (pw_asc h2)
theorem asc_pw {α : Type} {lt : α → α → Bool} : ∀ {l : List α}, l.Pairwise (fun x y => lt x y = true) → ascB lt l = true
  | [], _ => rfl
  | [x], _ => rfl
  | x :: y :: l, h => by
    obtain ⟨h1, h2⟩ := List.pairwise_cons.mp h
    show (lt x y && ascB lt (y :: l)) = true
    rw [h1 y (by simp), asc_pw h2]
    rfl
theorem ascI_tail : ∀ {p : Int} {r : List Int}, ascB ltIn (p :: r) = true → (∀ q ∈ r, ltIn p q = true) ∧ ascB ltIn r = true
  | p, [], _ => ⟨fun q hq => (by cases hq), rfl⟩
  | p, q :: r, h => by
    simp only [ascB, Bool.and_eq_true] at h
    obtain ⟨h1, h2⟩ := ascI_tail (p := q) (r := r) h.2
    refine ⟨fun z hz => ?_, h.2⟩
    rcases List.mem_cons.mp hz with rfl | hz
    · exact h.1
    · have a := of_decide_eq_true h.1
      have b := of_decide_eq_true (h1 z hz)
      exact decide_eq_true (by omega)
theorem pwI_asc : ∀ {l : List Int}, ascB ltIn l = true → l.Pairwise fun x y => ltIn x y = true
  | [], _ => List.Pairwise.nil
  | x :: l, h => by
    obtain ⟨h1, h2⟩ := ascI_tail h
    exact List.Pairwise.cons h1 (pwI_asc h2)
theorem asc_ext {a b : List (Int × Int)} (ha : ascB ltPr a = true) (hb : ascB ltPr b = true) (h : ∀ x, x ∈ a ↔ x ∈ b) : a = b :=
  pw_ext (fun x => ltPr_no (by omega)) (fun x y e => ltPr_no (by have := ltPr_iff.mp e; omega)) (pw_asc ha) (pw_asc hb) h
theorem ltIn_no {p q : Int} (h : ¬ p < q) : ltIn p q = false := by
  unfold ltIn
  exact decide_eq_false h
theorem ltIn_yes {p q : Int} (h : ltIn p q = true) : p < q := by
  unfold ltIn at h
  exact of_decide_eq_true h
theorem ascI_ext {a b : List Int} (ha : ascB ltIn a = true) (hb : ascB ltIn b = true) (h : ∀ x, x ∈ a ↔ x ∈ b) : a = b :=
  pw_ext (fun x => ltIn_no (by omega)) (fun x y e => ltIn_no (by have := ltIn_yes e; omega)) (pwI_asc ha) (pwI_asc hb) h
theorem nodup_asc {l : List (Int × Int)} (h : ascB ltPr l = true) : l.Nodup :=
  (pw_asc h).imp fun {a b} e n => by
    subst n
    have := ltPr_iff.mp e
    omega
theorem nodup_ascI {l : List Int} (h : ascB ltIn l = true) : l.Nodup :=
  (pwI_asc h).imp fun {a b} e n => by
    subst n
    have := of_decide_eq_true e
    omega
/-- sorted ints that are apart -/
theorem asc_sortedI {l m : List Int} (hp : m.Perm l) (hs : m.Pairwise (· ≤ ·)) (hn : l.Nodup) : ascB ltIn m = true := by
  refine asc_pw ?_
  have hm : m.Nodup := hp.nodup_iff.mpr hn
  have := hs.and hm
  exact this.imp fun {a b} h => decide_eq_true (by have := h.1; have := h.2; omega)
/-- sorted pairs that are apart -/
theorem sortedP {K : PySem.W.Frag} {H : Hp} {L : List (Int × Int)} {xs ys : List V} (hA : DaAll K H (L.map dPair) xs) (hn : L.Nodup)
    (s1 : SrtO.Srtd (ltP (keyOf H)) ys) (s2 : SrtO.Stb (ltP (keyOf H)) ys xs) : ∃ M : List (Int × Int), DaAll K H (M.map dPair) ys ∧ ascB ltPr M = true ∧ (∀ p, p ∈ M ↔ p ∈ L) ∧ M.length = L.length := by
  obtain ⟨k1, k2⟩ := keys_of hA
  have hp : (ys.map (keyOf H)).Perm L := by
    rw [← k2]
    exact s2.perm.map _
  refine ⟨ys.map (keyOf H), ?_, ?_, fun p => hp.mem_iff, hp.length_eq⟩
  · have hy : ∀ x ∈ ys, ∃ t, x = V.ref t ∧ H t = some (.tup [.int (keyOf H x).1, .int (keyOf H x).2]) := fun x hx => k1 x (s2.perm.mem_iff.mp hx)
    clear s1 s2 hp
    induction ys with
    | nil => rfl
    | cons y ys ih =>
      obtain ⟨t, rfl, ht⟩ := hy y (by simp)
      exact ⟨_, _, rfl, dPair_of ht, ih fun x hx => hy x (List.mem_cons_of_mem _ hx)⟩
  · have hm : (ys.map (keyOf H)).Nodup := hp.nodup_iff.mpr hn
    have hs : (ys.map (keyOf H)).Pairwise fun x y => SrtO.lexB y x = false := List.pairwise_map.mpr s1
    refine asc_pw ((hs.and hm).imp fun {a b} h => ltPr_iff.mpr ?_)
    have h1 := SrtO.lexB_no.mp h.1
    have h2 : ¬ (a.1 = b.1 ∧ a.2 = b.2) := fun e => h.2 (Prod.ext e.1 e.2)
    omega
/-! ### orders -/
abbrev iota (n : Int) : List Int := (List.range n.toNat).map fun i : Nat => (i : Int)
abbrev IsOrd (n : Int) (o : List Int) : Prop := o.Perm (iota n)
theorem mem_iota {n x : Int} : x ∈ iota n ↔ 0 ≤ x ∧ x < n := by
  constructor
  · intro h
    obtain ⟨i, hi, rfl⟩ := List.mem_map.mp h
    have := List.mem_range.mp hi
    omega
  · rintro ⟨h1, h2⟩
    exact List.mem_map.mpr ⟨x.toNat, List.mem_range.mpr (by omega), by omega⟩
theorem asc_iota_aux : ∀ n : Nat, ((List.range n).map fun i : Nat => (i : Int)).Pairwise fun x y => ltIn x y = true := fun n =>
  List.pairwise_map.mpr (List.pairwise_lt_range.imp fun {a b} h => decide_eq_true (by omega))
theorem asc_iota (n : Int) : ascB ltIn (iota n) = true := asc_pw (asc_iota_aux _)
theorem nodup_iota (n : Int) : (iota n).Nodup := nodup_ascI (asc_iota n)
theorem IsOrd.mem {n : Int} {o : List Int} (h : IsOrd n o) {x : Int} : x ∈ o ↔ 0 ≤ x ∧ x < n := h.mem_iff.trans mem_iota
theorem IsOrd.len {n : Int} {o : List Int} (h : IsOrd n o) : o.length = n.toNat := by
  rw [h.length_eq, List.length_map, List.length_range]
theorem IsOrd.nd {n : Int} {o : List Int} (h : IsOrd n o) : o.Nodup := h.nodup_iff.mpr (nodup_iota n)
/-- the place of a quantity in an order -/
def pl (o : List Int) (q : Int) : Int := (o.idxOf q : Int)
theorem pl_at {o : List Int} (h : o.Nodup) {i : Nat} {q : Int} (e : o[i]? = some q) : pl o q = (i : Int) := by
  obtain ⟨hi, rfl⟩ := List.getElem?_eq_some_iff.mp e
  unfold pl
  rw [h.idxOf_getElem i hi]
theorem pl_get {n : Int} {o : List Int} (h : IsOrd n o) {q : Int} (hq : 0 ≤ q ∧ q < n) : ∃ j : Nat, o[j]? = some q ∧ pl o q = (j : Int) ∧ (j : Int) < n := by
  have hm := h.mem.mpr hq
  have hl := List.idxOf_lt_length_iff.mpr hm
  refine ⟨o.idxOf q, ?_, rfl, ?_⟩
  · rw [List.getElem?_eq_getElem hl, List.getElem_idxOf]
  · have := h.len
    omega
theorem pl_lt {n : Int} {o : List Int} (h : IsOrd n o) {q : Int} (hq : 0 ≤ q ∧ q < n) : 0 ≤ pl o q ∧ pl o q < n := by
  obtain ⟨j, _, e, l⟩ := pl_get h hq
  omega
theorem pl_inj {n : Int} {o : List Int} (h : IsOrd n o) {a b : Int} (ha : 0 ≤ a ∧ a < n) (hb : 0 ≤ b ∧ b < n) (e : pl o a = pl o b) : a = b := by
  obtain ⟨j, g1, e1, _⟩ := pl_get h ha
  obtain ⟨k, g2, e2, _⟩ := pl_get h hb
  have : j = k := by omega
  subst this
  rw [g1] at g2
  exact Option.some.inj g2
theorem iota_at {n : Int} {i : Nat} (h : (i : Int) < n) : (iota n)[i]? = some (i : Int) := by
  rw [List.getElem?_map, List.getElem?_range (by omega)]
  rfl
theorem list_ext_at {α : Type} {a b : List α} (hl : a.length = b.length) (h : ∀ (i : Nat) (x : α), b[i]? = some x → a[i]? = some x) : a = b := by
  refine List.ext_getElem? fun i => ?_
  cases e : b[i]? with
  | some x => exact h i x e
  | none =>
    have := List.getElem?_eq_none_iff.mp e
    exact List.getElem?_eq_none_iff.mpr (by omega)
theorem IsOrd.back {n : Int} {o : List Int} (h : IsOrd n o) : IsOrd n ((iota n).map (pl o)) := by
  have e : o.map (pl o) = iota n := by
    refine list_ext_at (by rw [List.length_map, h.len, List.length_map, List.length_range]) fun i x hx => ?_
    have hi : (i : Int) < n := by
      obtain ⟨hi, _⟩ := List.getElem?_eq_some_iff.mp hx
      rw [List.length_map, List.length_range] at hi
      omega
    rw [iota_at hi] at hx
    obtain rfl := (Option.some.inj hx)
    have hl : i < o.length := by rw [h.len]; omega
    have := List.getElem?_eq_getElem hl
    rw [List.getElem?_map, this, Option.map_some, pl_at h.nd this]
  have p := h.map (pl o)
  rw [e] at p
  exact p.symm
theorem pl_back {n : Int} {o : List Int} (h : IsOrd n o) {q : Int} (hq : 0 ≤ q ∧ q < n) : pl ((iota n).map (pl o)) (pl o q) = q := by
  have e : ((iota n).map (pl o))[q.toNat]? = some (pl o q) := by
    rw [List.getElem?_map, iota_at (by omega), Option.map_some, Int.toNat_of_nonneg hq.1]
  rw [pl_at h.back.nd e, Int.toNat_of_nonneg hq.1]
theorem IsOrd.both {n : Int} {o s : List Int} (h : IsOrd n o) (g : IsOrd n s) : IsOrd n (s.map fun x => o.getD x.toNat 0) := by
  have e : (iota n).map (fun x => o.getD x.toNat 0) = o := by
    refine list_ext_at (by rw [List.length_map, h.len, List.length_map, List.length_range]) fun i x hx => ?_
    have hi : (i : Int) < n := by
      obtain ⟨hi, _⟩ := List.getElem?_eq_some_iff.mp hx
      rw [h.len] at hi
      omega
    rw [List.getElem?_map, iota_at hi, Option.map_some, Int.toNat_natCast, List.getD_eq_getElem?_getD, hx]
    rfl
  have p := g.map fun x => o.getD x.toNat 0
  rw [e] at p
  exact p.trans h
theorem pl_both {n : Int} {o s : List Int} (h : IsOrd n o) (g : IsOrd n s) {q : Int} (hq : 0 ≤ q ∧ q < n) : pl (s.map fun x => o.getD x.toNat 0) q = pl s (pl o q) := by
  obtain ⟨j, g1, e1, l1⟩ := pl_get h hq
  obtain ⟨k, g2, e2, l2⟩ := pl_get g (q := pl o q) (by omega)
  rw [e2]
  refine pl_at (h.both g).nd ?_
  rw [List.getElem?_map, g2, Option.map_some, e1, Int.toNat_natCast, List.getD_eq_getElem?_getD, g1]
  rfl
/-! ### webs renumbered -/
abbrev RowRen (f : Int → Int) (r s : List Int) : Prop := ∀ t, t ∈ s ↔ ∃ q ∈ r, t = f q
structure Ren (f : Int → Int) (u w : Wb) : Prop where
  n : w.n = u.n
  ps : ∀ p, p ∈ w.ps ↔ ∃ q ∈ u.ps, p = (f q.1, f q.2)
  len : w.ns.length = u.ns.length
  ns : ∀ (k : Nat) (r s : List Int), u.ns[k]? = some r → w.ns[k]? = some s → RowRen f r s
theorem Ren.uniq {f : Int → Int} {u w v : Wb} (h : Ren f u w) (g : Ren f u v) (hw : w.Ok) (hv : v.Ok) : w = v := by
  have e1 : w.n = v.n := h.n.trans g.n.symm
  have e2 : w.ps = v.ps := asc_ext hw.asc hv.asc fun x => (h.ps x).trans (g.ps x).symm
  have e3 : w.ns = v.ns := by
    refine list_ext_at (h.len.trans g.len.symm) fun i x hx => ?_
    have hi : i < u.ns.length := by
      obtain ⟨hi, _⟩ := List.getElem?_eq_some_iff.mp hx
      have := g.len
      omega
    have hy := List.getElem?_eq_getElem (l := w.ns) (i := i) (by have := h.len; omega)
    have hr := List.getElem?_eq_getElem hi
    rw [hy]
    refine congrArg some (ascI_ext (hw.ns _ (List.mem_of_getElem? hy)).2.2 (hv.ns _ (List.mem_of_getElem? hx)).2.2 fun t => ?_)
    exact (h.ns i _ _ hr hy t).trans (g.ns i _ _ hr hx t).symm
  obtain ⟨a, b, c⟩ := w
  obtain ⟨d, e, f⟩ := v
  simp only at e1 e2 e3
  rw [e1, e2, e3]
theorem Ren.comp {f g h : Int → Int} {u v w : Wb} (a : Ren f u v) (b : Ren g v w) (hu : u.Ok) (e : ∀ q, 0 ≤ q ∧ q < u.n → h q = g (f q)) : Ren h u w := by
  refine ⟨b.n.trans a.n, fun p => ?_, b.len.trans a.len, fun k r s hr hs t => ?_⟩
  · rw [b.ps]
    constructor
    · rintro ⟨q, hq, rfl⟩
      obtain ⟨z, hz, rfl⟩ := (a.ps q).mp hq
      have := hu.ps z hz
      exact ⟨z, hz, by rw [e _ this.1, e _ this.2]⟩
    · rintro ⟨z, hz, rfl⟩
      have := hu.ps z hz
      exact ⟨(f z.1, f z.2), (a.ps _).mpr ⟨z, hz, rfl⟩, by rw [e _ this.1, e _ this.2]⟩
  · have hk : k < v.ns.length := by
      obtain ⟨hi, _⟩ := List.getElem?_eq_some_iff.mp hs
      have := b.len
      omega
    have hm := List.getElem?_eq_getElem hk
    rw [b.ns k _ s hm hs]
    constructor
    · rintro ⟨q, hq, rfl⟩
      obtain ⟨z, hz, rfl⟩ := (a.ns k r _ hr hm q).mp hq
      exact ⟨z, hz, by rw [e _ ((hu.ns r (List.mem_of_getElem? hr)).2.1 z hz)]⟩
    · rintro ⟨z, hz, rfl⟩
      exact ⟨f z, (a.ns k r _ hr hm _).mpr ⟨z, hz, rfl⟩, by rw [e _ ((hu.ns r (List.mem_of_getElem? hr)).2.1 z hz)]⟩
theorem Ren.refl {h : Int → Int} {u : Wb} (hu : u.Ok) (e : ∀ q, 0 ≤ q ∧ q < u.n → h q = q) : Ren h u u := by
  refine ⟨rfl, fun p => ?_, rfl, fun k r s hr hs t => ?_⟩
  · constructor
    · intro hp
      have := hu.ps p hp
      exact ⟨p, hp, by rw [e _ this.1, e _ this.2]⟩
    · rintro ⟨z, hz, rfl⟩
      have := hu.ps z hz
      rw [e _ this.1, e _ this.2]
      exact hz
  · rw [hr] at hs
    cases hs
    have b := (hu.ns r (List.mem_of_getElem? hr)).2.1
    constructor
    · intro ht
      exact ⟨t, ht, by rw [e _ (b t ht)]⟩
    · rintro ⟨z, hz, rfl⟩
      rw [e _ (b z hz)]
      exact hz
theorem Ren.ok {n : Int} {o : List Int} {u w : Wb} (h : Ren (pl o) u w) (hu : u.Ok) (ho : IsOrd u.n o) (ha : ascB ltPr w.ps = true) (hr : ∀ r ∈ w.ns, ascB ltIn r = true) : w.Ok := by
  refine ⟨by rw [h.n]; exact hu.lo, by rw [h.n]; exact hu.hi, fun p hp => ?_, ha, by rw [h.len]; exact hu.few, fun r hr' => ?_⟩
  · obtain ⟨q, hq, rfl⟩ := (h.ps p).mp hp
    have := hu.ps q hq
    rw [h.n]
    exact ⟨pl_lt ho this.1, pl_lt ho this.2⟩
  · obtain ⟨k, hk⟩ := List.mem_iff_getElem?.mp hr'
    have hk2 : k < u.ns.length := by
      obtain ⟨hi, _⟩ := List.getElem?_eq_some_iff.mp hk
      have := h.len
      omega
    have hm := List.getElem?_eq_getElem hk2
    have hR := h.ns k _ r hm hk
    obtain ⟨z1, z2, z3⟩ := hu.ns _ (List.mem_of_getElem? hm)
    refine ⟨?_, fun t ht => ?_, hr r hr'⟩
    · intro e
      subst e
      cases hc : u.ns[k] with
      | nil => exact z1 hc
      | cons x l =>
        have := (hR (pl o x)).mpr ⟨x, by rw [hc]; simp, rfl⟩
        cases this
    · obtain ⟨q, hq, rfl⟩ := (hR t).mp ht
      rw [h.n]
      exact pl_lt ho (z2 q hq)
structure Trn (u w : Wb) : Prop where
  n : w.n = u.n
  ps : ∀ p, p ∈ w.ps ↔ (p.2, p.1) ∈ u.ps
  ns : w.ns = u.ns
theorem Trn.uniq {u w v : Wb} (h : Trn u w) (g : Trn u v) (hw : ascB ltPr w.ps = true) (hv : ascB ltPr v.ps = true) : w = v := by
  have e1 : w.n = v.n := h.n.trans g.n.symm
  have e2 : w.ps = v.ps := asc_ext hw hv fun x => (h.ps x).trans (g.ps x).symm
  have e3 : w.ns = v.ns := h.ns.trans g.ns.symm
  obtain ⟨a, b, c⟩ := w
  obtain ⟨d, e, f⟩ := v
  simp only at e1 e2 e3
  rw [e1, e2, e3]
theorem Trn.back {u w v : Wb} (h : Trn u w) (g : Trn w v) (hu : ascB ltPr u.ps = true) (hv : ascB ltPr v.ps = true) : v = u := by
  have e1 : v.n = u.n := g.n.trans h.n
  have e2 : v.ps = u.ps := asc_ext hv hu fun x => (g.ps x).trans (h.ps _)
  have e3 : v.ns = u.ns := g.ns.trans h.ns
  obtain ⟨a, b, c⟩ := v
  obtain ⟨d, e, f⟩ := u
  simp only at e1 e2 e3
  rw [e1, e2, e3]
theorem Trn.ok {u w : Wb} (h : Trn u w) (hu : u.Ok) (ha : ascB ltPr w.ps = true) : w.Ok := by
  refine ⟨by rw [h.n]; exact hu.lo, by rw [h.n]; exact hu.hi, fun p hp => ?_, ha, by rw [h.ns]; exact hu.few, ?_⟩
  · have := hu.ps _ ((h.ps p).mp hp)
    rw [h.n]
    exact ⟨this.2, this.1⟩
  · rw [h.ns, h.n]
    exact hu.ns
/-! ### whole webs shown -/
theorem sm_rows : ∀ {rs : List (List Int)}, (∀ r ∈ rs, (∀ t ∈ r, Sm t) ∧ r.length ≤ 20) → PyData.leavesShortAll 8 (rs.map dInts) = true ∧ PyData.showableAll (rs.map dInts) = true ∧ PyData.weightAll (rs.map dInts) ≤ 200 * rs.length
  | [], _ => by simp [PyData.leavesShortAll, PyData.showableAll, PyData.weightAll]
  | a :: r, h => by
    obtain ⟨h1, h2, h3⟩ := sm_rows (rs := r) fun t ht => h t (List.mem_cons_of_mem _ ht)
    obtain ⟨s1, s2⟩ := h a (by simp)
    obtain ⟨g1, g2, g3⟩ := sm_ints s1
    refine ⟨?_, ?_, ?_⟩
    · simp only [List.map_cons, dInts, PyData.leavesShortAll, PyData.leavesShort, g1, Bool.true_and]
      exact h1
    · simp only [List.map_cons, dInts, PyData.showableAll, PyData.showable, g2, Bool.true_and]
      exact h2
    · have e : PyData.weight (dInts a) = PyData.weightAll (a.map PyData.int) := by
        simp only [dInts, PyData.weight]
      simp only [List.map_cons, PyData.weightAll, List.length_cons]
      omega
theorem show_web {u : Wb} (hu : u.Ok) : u.d.showable = true ∧ u.d.shown.length ≤ sizeLine ∧ u.d.depth ≤ 60 := by
  have b1 := hu.lo
  have b2 := hu.hi
  have b3 := hu.few
  have b4 := hu.len
  obtain ⟨p1, p2, p3⟩ := sm_pairs (r := u.ps) fun t ht => by
    have := hu.ps t ht
    exact ⟨⟨this.1.1, by omega⟩, ⟨this.2.1, by omega⟩⟩
  obtain ⟨r1, r2, r3⟩ := sm_rows (rs := u.ns) fun r hr => ⟨fun t ht => by
    have := (hu.ns r hr).2.1 t ht
    exact ⟨this.1, by omega⟩, hu.row hr⟩
  obtain ⟨g1, g2, g3⟩ := short_int (i := u.n) (by omega) (by omega)
  refine ⟨?_, ?_, ?_⟩
  · simp only [Wb.d, dPairs, dRows, PyData.showable, PyData.showableAll, p2, r2, Bool.and_true, decide_eq_true_eq]
    exact g2
  · refine PyData.shown_fits (B := 8) (by omega) (by omega) ?_ ?_
    · simp only [Wb.d, dPairs, dRows, PyData.leavesShort, PyData.leavesShortAll, p1, r1, Bool.and_true, decide_eq_true_eq]
      exact g1
    · have e : u.d.weight = PyData.weight (.int u.n) + 1 + (PyData.weightAll (u.ps.map dPair) + 1 + (PyData.weightAll (u.ns.map dInts) + 1 + 0)) := by
        simp only [Wb.d, dPairs, dRows, PyData.weight, PyData.weightAll]
      omega
  · have := dep_web u
    omega
/-! ### new webs -/
/-- new rows -/
structure NewR (H H' : Hp) (ns : List (List Int)) (L : Addr) (bs : List Addr) : Prop where
  ex : Ex H H'
  new : H L = none
  at_ : H' L = some (.lst (bs.map V.ref))
  len : bs.length = ns.length
  row : ∀ (k : Nat) (b : Addr), bs[k]? = some b → (H b = none ∧ b ≠ L) ∧ ∃ r, ns[k]? = some r ∧ H' b = some (.lst (r.map V.int))
  nd : bs.Nodup
theorem rows_of {K : PySem.W.Frag} {H' : Hp} : ∀ {ns : List (List Int)} {bs : List Addr}, bs.length = ns.length → (∀ (k : Nat) (b : Addr), bs[k]? = some b → ∃ r, ns[k]? = some r ∧ H' b = some (.lst (r.map V.int)) ∧ r.length ≤ 100000) →
    DaAll K H' (ns.map dInts) (bs.map V.ref)
  | [], [], _, _ => rfl
  | [], _ :: _, h, _ => by simp at h
  | _ :: _, [], h, _ => by simp at h
  | r :: ns, b :: bs, h, g => by
    obtain ⟨r', e, h1, h2⟩ := g 0 b rfl
    obtain rfl : r = r' := by simpa using e
    exact ⟨_, _, rfl, dInts_of h1 h2, rows_of (by simpa using h) fun k b' hb => g (k + 1) b' (by simpa using hb)⟩
/-- a new web -/
structure NewW (K : PySem.W.Frag) (H H' : Hp) (w : Wb) (T L1 L2 : Addr) (xs : List V) (bs : List Addr) : Prop where
  ex : Ex H H'
  tup : H' T = some (.tup [.int w.n, .ref L1, .ref L2])
  new : H L1 = none
  at_ : H' L1 = some (.lst xs)
  ps : DaAll K H' (w.ps.map dPair) xs
  new2 : H L2 = none
  at2 : H' L2 = some (.lst (bs.map V.ref))
  len : bs.length = w.ns.length
  row : ∀ (k : Nat) (b : Addr), bs[k]? = some b → (H b = none ∧ b ≠ L2 ∧ b ≠ L1) ∧ ∃ r, w.ns[k]? = some r ∧ H' b = some (.lst (r.map V.int))
  nd : bs.Nodup
  ne : L1 ≠ L2
theorem pairs_rm {K : PySem.W.Frag} {H : Hp} {D : Addr} {ys : List V} (hD : H D = some (.lst ys)) : ∀ {L : List (Int × Int)} {acc : List V}, DaAll K H (L.map dPair) acc → DaAll K (rm H D) (L.map dPair) acc
  | [], _, h => h
  | p :: L, acc, h => by
    obtain ⟨x, xs, rfl, ⟨a, zs, rfl, hS, z1, r1, rfl, e1, z2, r2, rfl, e2, rfl⟩, h2⟩ := h
    obtain rfl := e1
    obtain rfl := e2
    refine ⟨_, _, rfl, dPair_of ?_, pairs_rm hD h2⟩
    rw [rm_ne (fun e => by rw [e, hD] at hS; cases hS)]
    exact hS
theorem NewW.da {K : PySem.W.Frag} {H H' : Hp} {w : Wb} {T L1 L2 : Addr} {xs : List V} {bs : List Addr} (h : NewW K H H' w T L1 L2 xs bs) (hw : w.Ok) : Da K H' w.d (.ref T) := by
  have l1 := hw.len
  have l2 := hw.few
  refine ⟨T, _, rfl, h.tup, _, _, rfl, rfl, _, _, rfl, ⟨L1, xs, rfl, h.at_, h.ps, by rw [List.length_map]; omega⟩, _, _, rfl, ⟨L2, _, rfl, h.at2, ?_, by rw [List.length_map]; omega⟩, rfl⟩
  refine rows_of h.len fun k b hb => ?_
  obtain ⟨_, r, e, g⟩ := h.row k b hb
  have := hw.row (List.mem_of_getElem? e)
  exact ⟨r, e, g, by omega⟩
/-- a new web has nothing to do with an old list -/
theorem NewW.off {K : PySem.W.Frag} {H H' : Hp} {w : Wb} {T L1 L2 p : Addr} {xs zs : List V} {bs : List Addr} (h : NewW K H H' w T L1 L2 xs bs) (hw : w.Ok) (hp : H p = some (.lst zs)) : Da K (rm H' p) w.d (.ref T) := by
  have hp' := h.ex _ _ hp
  have l1 := hw.len
  have l2 := hw.few
  refine ⟨T, _, rfl, ?_, _, _, rfl, rfl, _, _, rfl, ⟨L1, xs, rfl, ?_, pairs_rm hp' h.ps, by rw [List.length_map]; omega⟩, _, _, rfl, ⟨L2, bs.map V.ref, rfl, ?_, ?_, by rw [List.length_map]; omega⟩, rfl⟩
  · rw [rm_ne (fun e => by have := h.tup; rw [e, hp'] at this; cases this)]
    exact h.tup
  · rw [rm_ne (fun e => by have := h.new; rw [e, hp] at this; cases this)]
    exact h.at_
  · rw [rm_ne (fun e => by have := h.new2; rw [e, hp] at this; cases this)]
    exact h.at2
  · refine rows_of h.len fun k b hb => ?_
    obtain ⟨n, r, e, g⟩ := h.row k b hb
    have := hw.row (List.mem_of_getElem? e)
    refine ⟨r, e, ?_, by omega⟩
    rw [rm_ne (fun e => by have := n.1; rw [e, hp] at this; cases this)]
    exact g
theorem NewR.nil {H : Hp} {D : Addr} (hD : H D = none) : NewR H (upd H D (.lst [])) [] D [] :=
  ⟨Ex.nw hD, hD, upd_same, rfl, fun k b hb => by simp at hb, List.nodup_nil⟩
theorem NewR.snoc {H H1 H2 : Hp} {D l : Addr} {ss : List (List Int)} {s : List Int} {bs : List Addr} (h : NewR H H1 ss D bs) (e : Ex H1 H2) (hl : H1 l = none) (h2 : H2 l = some (.lst (s.map V.int))) :
    NewR H (upd H2 D (.lst (bs.map V.ref ++ [.ref l]))) (ss ++ [s]) D (bs ++ [l]) := by
  have lD : l ≠ D := fun x => by
    have := h.at_
    rw [← x, hl] at this
    cases this
  refine ⟨(h.ex.tr e).wr h.new, h.new, ?_, ?_, ?_, ?_⟩
  · rw [upd_same, List.map_append]
    rfl
  · rw [List.length_append, List.length_append, h.len]
    rfl
  · intro k b hb
    by_cases hk : k < bs.length
    · rw [List.getElem?_append_left hk] at hb
      obtain ⟨n1, r', n2, n3⟩ := h.row k b hb
      refine ⟨n1, r', ?_, ?_⟩
      · rw [List.getElem?_append_left (by rw [← h.len]; exact hk)]
        exact n2
      · rw [upd_ne n1.2]
        exact e _ _ n3
    · have hk' : k = bs.length := by
        obtain ⟨z, _⟩ := List.getElem?_eq_some_iff.mp hb
        rw [List.length_append, List.length_singleton] at z
        omega
      subst hk'
      rw [List.getElem?_concat_length] at hb
      cases hb
      refine ⟨⟨h.ex.fr hl, lD⟩, s, ?_, by rw [upd_ne lD]; exact h2⟩
      rw [h.len, List.getElem?_concat_length]
  · refine nodup_snoc h.nd fun hm => ?_
    obtain ⟨k, hk⟩ := List.mem_iff_getElem?.mp hm
    obtain ⟨_, r', _, h3⟩ := h.row k l hk
    rw [h3] at hl
    cases hl
theorem putK_len (kvs : List (Key × V)) (k : Key) (v : V) : (putK kvs k v).length ≤ kvs.length + 1 := by
  unfold putK
  split
  · rw [List.length_map]
    omega
  · rw [List.length_append, List.length_singleton]
    omega
/-- a dict of the places, as far as it is made -/
def PlTo (o : List Int) (i : Nat) (kvs : List (Key × V)) : Prop := kvs.length ≤ i ∧ ∀ (j : Nat) (q : Int), j < i → o[j]? = some q → valV kvs (.inl q) = some (.int (j : Int))
theorem PlTo.step {o : List Int} (hn : o.Nodup) {i : Nat} {kvs : List (Key × V)} (h : PlTo o i kvs) {q : Int} (hq : o[i]? = some q) : PlTo o (i + 1) (putK kvs (.inl q) (.int (i : Int))) := by
  refine ⟨Nat.le_trans (putK_len _ _ _) (by have := h.1; omega), fun j z hj hz => ?_⟩
  rw [valV_put]
  by_cases e : j = i
  · subst e
    rw [hq] at hz
    cases hz
    rw [if_pos rfl]
  · have ne : z ≠ q := nodup_at hn hz hq e
    rw [if_neg (fun x => ne (Sum.inl.inj x))]
    exact h.2 j z (by omega) hz
theorem PlTo.get {n : Int} {o : List Int} (ho : IsOrd n o) {kvs : List (Key × V)} (h : PlTo o o.length kvs) {q : Int} (hq : 0 ≤ q ∧ q < n) : valV kvs (.inl q) = some (.int (pl o q)) := by
  obtain ⟨j, g, e, l⟩ := pl_get ho hq
  rw [e]
  refine h.2 j q ?_ g
  obtain ⟨z, _⟩ := List.getElem?_eq_some_iff.mp g
  exact z
/-- the pairs of a web by the places -/
theorem ren_nodup {o : List Int} {u : Wb} (hu : u.Ok) (ho : IsOrd u.n o) : (u.ps.map fun q => (pl o q.1, pl o q.2)).Nodup := by
  refine (List.pairwise_map).mpr ?_
  have h := nodup_asc hu.asc
  have h2 : u.ps.Pairwise fun a b => a ∈ u.ps ∧ b ∈ u.ps ∧ a ≠ b := by
    refine List.Pairwise.imp_of_mem (fun {a b} ha hb n => ⟨ha, hb, n⟩) h
  refine h2.imp fun {a b} n e => n.2.2 ?_
  have ha := hu.ps a n.1
  have hb := hu.ps b n.2.1
  simp only [Prod.mk.injEq] at e
  exact Prod.ext (pl_inj ho ha.1 hb.1 e.1) (pl_inj ho ha.2 hb.2 e.2)
theorem row_nodup {n : Int} {o : List Int} {r : List Int} (hr : ∀ t ∈ r, 0 ≤ t ∧ t < n) (ha : ascB ltIn r = true) (ho : IsOrd n o) : (r.map (pl o)).Nodup := by
  refine (List.pairwise_map).mpr ?_
  have h2 : r.Pairwise fun a b => a ∈ r ∧ b ∈ r ∧ a ≠ b := List.Pairwise.imp_of_mem (fun {a b} ha hb n => ⟨ha, hb, n⟩) (nodup_ascI ha)
  exact h2.imp fun {a b} n e => n.2.2 (pl_inj ho (hr a n.1) (hr b n.2.1) e)
theorem row_ren {n : Int} {o : List Int} {r s : List Int} (hr : ∀ t ∈ r, 0 ≤ t ∧ t < n) (ha : ascB ltIn r = true) (ho : IsOrd n o) (hp : s.Perm (r.map (pl o))) (hw : s.Pairwise (· ≤ ·)) : ascB ltIn s = true ∧ RowRen (pl o) r s ∧ s.length = r.length := by
  refine ⟨asc_sortedI hp hw (row_nodup hr ha ho), fun t => hp.mem_iff.trans ?_, by rw [hp.length_eq, List.length_map]⟩
  rw [List.mem_map]
  constructor
  · rintro ⟨q, hq, rfl⟩
    exact ⟨q, hq, rfl⟩
  · rintro ⟨q, hq, rfl⟩
    exact ⟨q, hq, rfl⟩
theorem ren_of {o : List Int} {u : Wb} {M : List (Int × Int)} {ss : List (List Int)} (hM : ∀ p, p ∈ M ↔ p ∈ u.ps.map fun q => (pl o q.1, pl o q.2)) (hl : ss.length = u.ns.length)
    (hs : ∀ (k : Nat) (s : List Int), ss[k]? = some s → ∃ r, u.ns[k]? = some r ∧ RowRen (pl o) r s) : Ren (pl o) u ⟨u.n, M, ss⟩ := by
  refine ⟨rfl, fun p => ?_, hl, fun k r s hr hs' => ?_⟩
  · show p ∈ M ↔ _
    rw [hM, List.mem_map]
    constructor
    · rintro ⟨q, hq, rfl⟩
      exact ⟨q, hq, rfl⟩
    · rintro ⟨q, hq, rfl⟩
      exact ⟨q, hq, rfl⟩
  · obtain ⟨r', e, g⟩ := hs k s hs'
    rw [hr] at e
    cases e
    exact g
theorem pop_perm {α : Type} : ∀ {l : List α} {k : Nat} {x : α}, l[k]? = some x → (x :: l.eraseIdx k).Perm l
  | [], _, _, h => by simp at h
  | a :: l, 0, x, h => by
    obtain rfl : a = x := by simpa using h
    exact List.Perm.refl _
  | a :: l, k + 1, x, h => by
    have ih := pop_perm (l := l) (k := k) (x := x) (by simpa using h)
    rw [List.eraseIdx_cons_succ]
    exact (List.Perm.swap a x _).trans (ih.cons a)
theorem map_pop {α β : Type} (f : α → β) : ∀ (l : List α) (k : Nat), (l.map f).eraseIdx k = (l.eraseIdx k).map f
  | [], _ => rfl
  | a :: l, 0 => rfl
  | a :: l, k + 1 => by
    rw [List.map_cons, List.eraseIdx_cons_succ, List.eraseIdx_cons_succ, List.map_cons, map_pop f l k]
end Nw
/-! How long data is when shown: by the number of its nodes and the longest leaf. -/
namespace Nw
open PySem PySem.Spec PyProof.Rows L2
mutual
/-- each leaf's text has at most B signs -/
def lf (B : Nat) : PyData → Bool
  | .none | .bool _ => true
  | .int i => decide ((PyData.shown (.int i)).length ≤ B)
  | .str x => decide ((PyData.shown (.str x)).length ≤ B)
  | .list xs | .tuple xs => lfAll B xs
  | .dict kvs => lfKv B kvs
def lfAll (B : Nat) : List PyData → Bool
  | [] => true
  | x :: xs => lf B x && lfAll B xs
def lfKv (B : Nat) : List (PyData × PyData) → Bool
  | [] => true
  | (k, v) :: r => lf B k && lf B v && lfKv B r
end
mutual
def nodes : PyData → Nat
  | .none | .bool _ | .int _ | .str _ => 1
  | .list xs | .tuple xs => 1 + nodesAll xs
  | .dict kvs => 1 + nodesKv kvs
def nodesAll : List PyData → Nat
  | [] => 0
  | x :: xs => nodes x + nodesAll xs
def nodesKv : List (PyData × PyData) → Nat
  | [] => 0
  | (k, v) :: r => nodes k + nodes v + nodesKv r
end
mutual
theorem len_lf (B : Nat) (hB : 8 ≤ B) : ∀ d : PyData, lf B d = true → d.shown.length + 4 ≤ (B + 4) * nodes d
  | .none, _ => by
    have e : (PyData.shown .none).length = 4 := rfl
    simp only [nodes]
    omega
  | .bool b, _ => by
    have e : (PyData.shown (.bool b)).length ≤ 5 := by cases b <;> decide
    simp only [nodes]
    omega
  | .int i, h => by
    have e : (PyData.shown (.int i)).length ≤ B := by simpa only [lf, decide_eq_true_eq] using h
    simp only [nodes]
    omega
  | .str x, h => by
    have e : (PyData.shown (.str x)).length ≤ B := by simpa only [lf, decide_eq_true_eq] using h
    simp only [nodes]
    omega
  | .list xs, h => by
    have h1 := len_lfAll B hB xs (by simpa only [lf] using h)
    have h2 := listText_len_le (PyData.shownAll xs)
    have h3 := PyData.shownAll_length xs
    simp only [PyData.shown, nodes]
    rw [Nat.mul_add]
    omega
  | .tuple xs, h => by
    have h1 := len_lfAll B hB xs (by simpa only [lf] using h)
    have h2 := tupleText_len_le (PyData.shownAll xs)
    have h3 := PyData.shownAll_length xs
    simp only [PyData.shown, nodes]
    rw [Nat.mul_add]
    omega
  | .dict kvs, h => by
    have h1 := len_lfKv B hB kvs (by simpa only [lf] using h)
    have h2 := dictText_len_le (PyData.shownKv kvs)
    have h3 := PyData.shownKv_length kvs
    simp only [PyData.shown, nodes]
    rw [Nat.mul_add]
    omega
theorem len_lfAll (B : Nat) (hB : 8 ≤ B) : ∀ xs : List PyData, lfAll B xs = true → ((PyData.shownAll xs).map (·.length)).sum + 4 * xs.length ≤ (B + 4) * nodesAll xs
  | [], _ => by
    simp only [PyData.shownAll, nodesAll, List.map_nil, List.sum_nil, List.length_nil]
    omega
  | x :: xs, h => by
    have h' : lf B x = true ∧ lfAll B xs = true := by simpa only [lfAll, Bool.and_eq_true] using h
    have h1 := len_lf B hB x h'.1
    have h2 := len_lfAll B hB xs h'.2
    have h3 := Nat.mul_add (B + 4) (nodes x) (nodesAll xs)
    simp only [PyData.shownAll, nodesAll, List.map_cons, List.sum_cons, List.length_cons]
    omega
theorem len_lfKv (B : Nat) (hB : 8 ≤ B) : ∀ kvs : List (PyData × PyData), lfKv B kvs = true → ((PyData.shownKv kvs).map (·.length)).sum + 2 * kvs.length ≤ (B + 4) * nodesKv kvs
  | [], _ => by
    simp only [PyData.shownKv, nodesKv, List.map_nil, List.sum_nil, List.length_nil]
    omega
  | (k, v) :: r, h => by
    have h' : (lf B k = true ∧ lf B v = true) ∧ lfKv B r = true := by simpa only [lfKv, Bool.and_eq_true] using h
    have h1 := len_lf B hB k h'.1.1
    have h2 := len_lf B hB v h'.1.2
    have h3 := len_lfKv B hB r h'.2
    have e2 : (k.shown ++ ": " ++ v.shown).length = k.shown.length + 2 + v.shown.length := by
      rw [strLen_append, strLen_append]
      rfl
    have h5 := Nat.mul_add (B + 4) (nodes k + nodes v) (nodesKv r)
    have h6 := Nat.mul_add (B + 4) (nodes k) (nodes v)
    simp only [PyData.shownKv, nodesKv, List.map_cons, List.sum_cons, List.length_cons]
    rw [e2]
    omega
end
theorem fits_lf {B n : Nat} (hB : 8 ≤ B) {d : PyData} (h : lf B d = true) (hn : nodes d ≤ n) (hz : (B + 4) * n ≤ 16000000) : d.shown.length ≤ sizeLine := by
  have h1 := len_lf B hB d h
  have h2 := Nat.mul_le_mul_left (B + 4) hn
  rw [sizeLine_eq]
  omega
theorem lf_int {i : Int} {k : Nat} (hk : 0 < k) (h : i.natAbs < 10 ^ k) : lf (k + 1) (.int i) = true := by
  simp only [lf, decide_eq_true_eq]
  have e := int_text_length_le10 hk h
  show (Str.ofString (toString i)).length ≤ k + 1
  rw [PySem.ofString_length]
  exact e
theorem lfAll_of {B : Nat} : ∀ {xs : List PyData}, (∀ x ∈ xs, lf B x = true) → lfAll B xs = true
  | [], _ => rfl
  | x :: xs, h => by
    simp only [lfAll, h x (by simp), lfAll_of fun y hy => h y (List.mem_cons_of_mem _ hy), Bool.and_self]
theorem showAll_of : ∀ {xs : List PyData}, (∀ x ∈ xs, x.showable = true) → PyData.showableAll xs = true
  | [], _ => rfl
  | x :: xs, h => by
    simp only [PyData.showableAll, h x (by simp), showAll_of fun y hy => h y (List.mem_cons_of_mem _ hy), Bool.and_self]
theorem nodesAll_of {n : Nat} : ∀ {xs : List PyData}, (∀ x ∈ xs, nodes x ≤ n) → nodesAll xs ≤ n * xs.length
  | [], _ => by simp [nodesAll]
  | x :: xs, h => by
    have h1 := h x (by simp)
    have h2 := nodesAll_of fun y hy => h y (List.mem_cons_of_mem _ hy)
    simp only [nodesAll, List.length_cons, Nat.mul_succ]
    omega
theorem depthAll_of {n : Nat} : ∀ {xs : List PyData}, (∀ x ∈ xs, x.depth ≤ n) → PyData.depthAll xs ≤ n
  | [], _ => by simp [PyData.depthAll]
  | x :: xs, h => by
    have h1 := h x (by simp)
    have h2 := depthAll_of fun y hy => h y (List.mem_cons_of_mem _ hy)
    simp only [PyData.depthAll]
    omega
/-- what repr asks: shown in a few leaves -/
structure Sh (B n k : Nat) (d : PyData) : Prop where
  s : d.showable = true
  l : lf B d = true
  n : nodes d ≤ n
  k : d.depth ≤ k
theorem Sh.fit {B n k : Nat} {d : PyData} (h : Sh B n k d) (hB : 8 ≤ B) (hz : (B + 4) * n ≤ 16000000) : d.shown.length ≤ sizeLine := fits_lf hB h.l h.n hz
theorem Sh.list {B n k m : Nat} {xs : List PyData} (h : ∀ x ∈ xs, Sh B n k x) (hm : xs.length ≤ m) : Sh B (1 + n * m) (k + 1) (.list xs) := by
  refine ⟨?_, ?_, ?_, ?_⟩
  · simp only [PyData.showable, showAll_of fun x hx => (h x hx).s]
  · simp only [lf, lfAll_of fun x hx => (h x hx).l]
  · have h1 := nodesAll_of fun x hx => (h x hx).n
    have h2 := Nat.mul_le_mul_left n hm
    simp only [nodes]
    omega
  · have h1 := depthAll_of fun x hx => (h x hx).k
    simp only [PyData.depth]
    omega
theorem Sh.tuple {B n k m : Nat} {xs : List PyData} (h : ∀ x ∈ xs, Sh B n k x) (hm : xs.length ≤ m) : Sh B (1 + n * m) (k + 1) (.tuple xs) := by
  refine ⟨?_, ?_, ?_, ?_⟩
  · simp only [PyData.showable, showAll_of fun x hx => (h x hx).s]
  · simp only [lf, lfAll_of fun x hx => (h x hx).l]
  · have h1 := nodesAll_of fun x hx => (h x hx).n
    have h2 := Nat.mul_le_mul_left n hm
    simp only [nodes]
    omega
  · have h1 := depthAll_of fun x hx => (h x hx).k
    simp only [PyData.depth]
    omega
theorem Sh.mono {B C n m k j : Nat} {d : PyData} (h : Sh B n k d) (hn : n ≤ m) (hk : k ≤ j) : Sh B m j d := ⟨h.s, h.l, Nat.le_trans h.n hn, Nat.le_trans h.k hk⟩
theorem Sh.int {i : Int} {k : Nat} (hk : 0 < k) (h2 : i.natAbs < 2 ^ 1920) (h : i.natAbs < 10 ^ k) : Sh (k + 1) 1 0 (.int i) := by
  refine ⟨?_, lf_int hk h, by simp only [nodes]; omega, by simp only [PyData.depth]; omega⟩
  simp only [PyData.showable, decide_eq_true_eq]
  by_cases hne : i.natAbs = 0
  · rw [hne]
    decide
  · exact (Nat.log2_lt hne).mpr h2
end Nw
/-! Fillings: what the looks at them answer; lines with numbers, steps, rows of states. -/
namespace Nw
open PySem PySem.Spec PyProof.Rows L2
/-! ### an item of a list, set anew -/
def rGetL (K : PySem.W.Frag) : V → V → Hp → VK → Prop := fun o i H Q => ∃ p xs k v, o = .ref p ∧ i = .int k ∧ 0 ≤ k ∧ SqL K H p xs ∧ xs[k.toNat]? = some v ∧ Q v H
theorem get_list {X : Cx} (K : PySem.W.Frag) (hK : X.K = K := by rfl) : PGet X (rGetL K) := by
  subst hK
  intro pins s σ H o i ov iv Q I ro ri h
  obtain ⟨p, xs, k, v, rfl, rfl, h0, hq, he, q⟩ := h
  cases ro
  obtain ⟨t, rfl⟩ := ri
  obtain ⟨its, r, pl, hz⟩ := I.list hq
  obtain ⟨u, ew, rw'⟩ := r.get he
  have hl := r.length
  have hn := line63
  have hk : k.toNat < xs.length := (List.getElem?_eq_some_iff.mp he).1
  exact wpAny_getItem_list pl.isList h0 (by omega) (by simpa using ew) ⟨v, H, I, rw', q⟩
/-! ### lines with numbers -/
abbrev NL := (Int × Int) × Int
def dNum (l : NL) : PyData := .tuple [.int l.1.1, .int l.1.2, .int l.2]
def stp (vals acc : List Int) (l : NL) : List Int := acc.set l.1.2.toNat (acc.getD l.1.2.toNat 0 + l.2 * vals.getD l.1.1.toNat 0)
def mvs (vals : List Int) (ls : List NL) (acc : List Int) : List Int := ls.foldl (stp vals) acc
theorem mvs_snoc (vals : List Int) (ls : List NL) (acc : List Int) (l : NL) : mvs vals (ls ++ [l]) acc = stp vals (mvs vals ls acc) l := by
  unfold mvs
  rw [List.foldl_append]
  rfl
theorem mvs_app (vals : List Int) (ls ms : List NL) (acc : List Int) : mvs vals (ls ++ ms) acc = mvs vals ms (mvs vals ls acc) := by
  unfold mvs
  rw [List.foldl_append]
theorem mvs_len (vals : List Int) : ∀ (ls : List NL) (acc : List Int), (mvs vals ls acc).length = acc.length
  | [], _ => rfl
  | l :: ls, acc => by
    show (mvs vals ls (stp vals acc l)).length = acc.length
    rw [mvs_len vals ls]
    unfold stp
    rw [List.length_set]
def mv (n : Nat) (ls : List NL) (vals : List Int) : List Int := mvs vals ls (List.replicate n 0)
theorem mv_len {n : Nat} {ls : List NL} {vals : List Int} : (mv n ls vals).length = n := by
  unfold mv
  rw [mvs_len, List.length_replicate]
def Bd (M x : Int) : Prop := -M ≤ x ∧ x ≤ M
theorem Bd.mono {M N x : Int} (h : Bd M x) (l : M ≤ N) : Bd N x := ⟨by have := h.1; omega, by have := h.2; omega⟩
theorem bd_mul {M a b : Int} (ha : Bd 1000000 a) (hb : Bd M b) (hM : 0 ≤ M) : Bd (1000000 * M) (a * b) := by
  have h1 : a.natAbs ≤ 1000000 := by have := ha.1; have := ha.2; omega
  have h2 : b.natAbs ≤ M.toNat := by have := hb.1; have := hb.2; omega
  have h3 := Nat.mul_le_mul h1 h2
  rw [← Int.natAbs_mul] at h3
  have e : ((1000000 * M.toNat : Nat) : Int) = 1000000 * M := by omega
  unfold Bd
  omega
theorem mvs_bd {vals : List Int} {M : Int} (hM : 0 ≤ M) (hv : ∀ v ∈ vals, Bd M v) : ∀ (ls : List NL) (acc : List Int) (A : Int), 0 ≤ A → (∀ l ∈ ls, Bd 1000000 l.2) → (∀ a ∈ acc, Bd A a) →
    ∀ a ∈ mvs vals ls acc, Bd (A + ls.length * (1000000 * M)) a
  | [], acc, A, hA, _, ha => fun a h => (ha a h).mono (by simp only [List.length_nil]; omega)
  | l :: ls, acc, A, hA, hl, ha => by
    have key : ∀ a ∈ stp vals acc l, Bd (A + 1000000 * M) a := by
      intro a h
      unfold stp at h
      rcases List.mem_or_eq_of_mem_set h with h | rfl
      · exact (ha a h).mono (by omega)
      · have h1 : Bd A (acc.getD l.1.2.toNat 0) := by
          rw [List.getD_eq_getElem?_getD]
          cases e : acc[l.1.2.toNat]? with
          | none => exact ⟨by simp only [Option.getD_none]; omega, by simp only [Option.getD_none]; omega⟩
          | some x => exact ha x (List.mem_of_getElem? e)
        have h2 : Bd M (vals.getD l.1.1.toNat 0) := by
          rw [List.getD_eq_getElem?_getD]
          cases e : vals[l.1.1.toNat]? with
          | none => exact ⟨by simp only [Option.getD_none]; omega, by simp only [Option.getD_none]; omega⟩
          | some x => exact hv x (List.mem_of_getElem? e)
        have h3 := bd_mul (hl l (by simp)) h2 hM
        have := h1.1
        have := h1.2
        have := h3.1
        have := h3.2
        unfold Bd
        omega
    have ih := mvs_bd hM hv ls (stp vals acc l) (A + 1000000 * M) (by omega) (fun x hx => hl x (List.mem_cons_of_mem _ hx)) key
    intro a h
    refine (ih a h).mono ?_
    rw [List.length_cons]
    have e : ((ls.length + 1 : Nat) : Int) * (1000000 * M) = ls.length * (1000000 * M) + 1000000 * M := by
      rw [Int.natCast_add, Int.add_mul]
      omega
    omega
/-! ### fillings -/
structure Fl where
  xs : List Int
  ss : List (List Int)
  deriving DecidableEq
def Fl.d (f : Fl) : PyData := .tuple [dInts f.xs, dRows f.ss]
def NumOk (x : Int) : Prop := x ≠ 0 ∧ Bd 1000000 x
structure Fl.Ok (u : Wb) (f : Fl) : Prop where
  len : f.xs.length = u.ps.length
  num : ∀ x ∈ f.xs, NumOk x
  rows : f.ss.map List.length = u.ns.map List.length
  rnum : ∀ r ∈ f.ss, ∀ x ∈ r, NumOk x
theorem Fl.Ok.slen {u : Wb} {f : Fl} (h : f.Ok u) : f.ss.length = u.ns.length := by
  have e := congrArg List.length h.rows
  rw [List.length_map, List.length_map] at e
  exact e
theorem Fl.Ok.rlen {u : Wb} {f : Fl} (h : f.Ok u) {k : Nat} {r s : List Int} (hr : f.ss[k]? = some r) (hs : u.ns[k]? = some s) : r.length = s.length := by
  have e := congrArg (fun l => l[k]?) h.rows
  simp only [List.getElem?_map, hr, hs, Option.map_some] at e
  exact Option.some.inj e
/-- what the looks answer -/
def intsB : PyData → Int → Bool
  | .list ds, m => decide ((ds.length : Int) = m) && ds.all isInt
  | _, _ => false
def rowsB : PyData → Int → Bool
  | .list ds, m => decide (ds.length ≤ 60) && ds.all fun d => intsB d m
  | _, _ => false
def noB : PyData → Bool
  | .int i => decide (i ≠ 0) && decide ((if i < 0 then -i else i) ≤ 1000000)
  | _ => false
def lineB : PyData → Int → Bool
  | .list ds, m => intsB (.list ds) m && ds.all noB
  | _, _ => false
def fillB (u : Wb) : PyData → Bool
  | .tuple [a, .list rs] => lineB a u.ps.length && (decide (rs.length = u.ns.length) && (rs.zip u.ns).all fun p => lineB p.1 p.2.length)
  | _ => false
theorem intsB_of {r : List Int} {m : Int} (h : (r.length : Int) = m) : intsB (dInts r) m = true := by
  unfold dInts intsB
  simp only [List.length_map, h, decide_true, Bool.true_and, List.all_map, List.all_eq_true]
  intro x _
  rfl
theorem rowsB_of {rs : List (List Int)} {m : Int} (h : ∀ r ∈ rs, (r.length : Int) = m) (h2 : rs.length ≤ 60) : rowsB (dRows rs) m = true := by
  unfold dRows rowsB
  simp only [List.length_map, h2, decide_true, Bool.true_and, List.all_map, List.all_eq_true]
  intro x hx
  exact intsB_of (h x hx)
theorem lineB_of {r : List Int} {m : Int} (h : (r.length : Int) = m) (h2 : ∀ x ∈ r, NumOk x) : lineB (dInts r) m = true := by
  have h3 := intsB_of h
  unfold dInts at h3 ⊢
  unfold lineB
  simp only [h3, Bool.true_and, List.all_map, List.all_eq_true]
  intro x hx
  have h4 := h2 x hx
  have h5 := h4.2.1
  have h6 := h4.2.2
  simp only [Function.comp, noB, decide_eq_true h4.1, Bool.true_and, decide_eq_true_eq]
  split <;> omega
theorem zip_all {α β : Type} {p : α × β → Bool} {as : List α} {bs : List β} (h : ∀ (k : Nat) (a : α) (b : β), as[k]? = some a → bs[k]? = some b → p (a, b) = true) : (as.zip bs).all p = true := by
  rw [List.all_eq_true]
  rintro ⟨a, b⟩ hx
  obtain ⟨k, hk⟩ := List.mem_iff_getElem?.mp hx
  rw [List.getElem?_zip_eq_some] at hk
  exact h k a b hk.1 hk.2
theorem Fl.Ok.fill {u : Wb} {f : Fl} (h : f.Ok u) : fillB u f.d = true := by
  have h1 := lineB_of (m := u.ps.length) (by rw [h.len]) h.num
  unfold Fl.d dRows fillB
  simp only [h1, List.length_map, h.slen, decide_true, Bool.true_and]
  refine zip_all fun k a b ha hb => ?_
  obtain ⟨r, hr, rfl⟩ := map_at ha
  exact lineB_of (by rw [h.rlen hr hb]) (h.rnum r (List.mem_of_getElem? hr))
/-- a filling as it stands -/
theorem Fl.at {K : PySem.W.Frag} {H : Hp} {f : Fl} {v : V} (h : Da K H f.d v) : ∃ t x1 x2, v = .ref t ∧ SqT K H t [x1, x2] ∧ Da K H (dInts f.xs) x1 ∧ Da K H (dRows f.ss) x2 := by
  obtain ⟨t, xs, rfl, hS, x1, r1, rfl, g1, x2, r2, rfl, g2, rfl⟩ := h
  exact ⟨t, x1, x2, rfl, .inl (.inl hS), g1, g2⟩
/-! ### the numbered lines -/
def Fl.nums (f : Fl) : List Int := f.xs ++ f.ss.flatten
def nl (u : Wb) (f : Fl) : List NL := u.lines.zip f.nums
def blkAt (n : Int) (i : Nat) (r s : List Int) : List NL := (pushedAt n i r).zip s
def nlFrom (n : Int) : Nat → List (List Int) → List (List Int) → List NL
  | i, r :: rs, s :: ss => blkAt n i r s ++ nlFrom n (i + 1) rs ss
  | _, _, _ => []
theorem zip_pushed (n : Int) : ∀ (rs ss : List (List Int)) (i : Nat), ss.map List.length = rs.map List.length → (pushedFrom n i rs).zip ss.flatten = nlFrom n i rs ss
  | [], ss, i, _ => by simp [pushedFrom, nlFrom]
  | r :: rs, [], i, h => by simp at h
  | r :: rs, s :: ss, i, h => by
    simp only [List.map_cons, List.cons.injEq] at h
    simp only [pushedFrom, nlFrom, List.flatten_cons]
    rw [List.zip_append (by simp only [pushedAt, List.length_map]; exact h.1.symm), zip_pushed n rs ss (i + 1) h.2]
    rfl
theorem Fl.Ok.nl {u : Wb} {f : Fl} (h : f.Ok u) : nl u f = u.ps.zip f.xs ++ nlFrom u.n 0 u.ns f.ss := by
  unfold Nw.nl Wb.lines Fl.nums
  rw [List.zip_append h.len.symm, zip_pushed u.n u.ns f.ss 0 h.rows]
theorem nlFrom_take (n : Int) : ∀ (rs ss : List (List Int)) (i k : Nat) (r s : List Int), rs[k]? = some r → ss[k]? = some s →
    nlFrom n i (rs.take (k + 1)) ss = nlFrom n i (rs.take k) ss ++ blkAt n (i + k) r s
  | [], _, _, _, _, _, h, _ => by simp at h
  | _ :: _, [], _, _, _, _, _, h => by simp at h
  | a :: rs, b :: ss, i, 0, r, s, h, g => by
    obtain rfl : a = r := by simpa using h
    obtain rfl : b = s := by simpa using g
    simp [nlFrom]
  | a :: rs, b :: ss, i, k + 1, r, s, h, g => by
    have ih := nlFrom_take n rs ss (i + 1) k r s (by simpa using h) (by simpa using g)
    simp only [List.take_succ_cons, nlFrom]
    rw [ih, List.append_assoc, show i + 1 + k = i + (k + 1) by omega]
theorem nums_len {f : Fl} : f.nums.length = f.xs.length + (f.ss.map List.length).sum := by
  unfold Fl.nums
  rw [List.length_append, List.length_flatten]
theorem pushed_sum (n : Int) : ∀ (rs : List (List Int)) (i : Nat), (pushedFrom n i rs).length = (rs.map List.length).sum
  | [], _ => rfl
  | r :: rs, i => by
    simp only [pushedFrom, List.length_append, pushedAt, List.length_map, List.map_cons, List.sum_cons, pushed_sum n rs (i + 1)]
theorem Fl.Ok.nlen {u : Wb} {f : Fl} (h : f.Ok u) : f.nums.length = u.lines.length := by
  rw [nums_len, h.rows, h.len]
  unfold Wb.lines
  rw [List.length_append, pushed_sum]
theorem Fl.Ok.bd {u : Wb} {f : Fl} (h : f.Ok u) : ∀ x ∈ f.nums, NumOk x := by
  intro x hx
  rcases List.mem_append.mp hx with hx | hx
  · exact h.num x hx
  · obtain ⟨r, hr, hx⟩ := List.mem_flatten.mp hx
    exact h.rnum r hr x hx
theorem Fl.Ok.line {u : Wb} {f : Fl} (h : f.Ok u) (hu : u.Ok) : ∀ l ∈ Nw.nl u f, ((0 ≤ l.1.1 ∧ l.1.1 < u.n + (u.ns.length : Int)) ∧ (0 ≤ l.1.2 ∧ l.1.2 < u.n)) ∧ Bd 1000000 l.2 := by
  rintro ⟨a, b⟩ hl
  have h1 := List.of_mem_zip hl
  exact ⟨hu.line a h1.1, (h.bd b h1.2).2⟩
theorem Fl.Ok.nl_len {u : Wb} {f : Fl} (h : f.Ok u) (hu : u.Ok) : (Nw.nl u f).length ≤ 1500 := by
  unfold Nw.nl
  rw [List.length_zip]
  have := hu.lines_len
  omega
/-! ### rows of states -/
def rn (n : Nat) (ls : List NL) (st : List Int) (rows : List (List Int)) : List (List Int) := rows.foldl (fun acc g => acc ++ [mv n ls (acc.getLastD [] ++ g)]) [st]
theorem rn_snoc (n : Nat) (ls : List NL) (st : List Int) (rows : List (List Int)) (g : List Int) : rn n ls st (rows ++ [g]) = rn n ls st rows ++ [mv n ls ((rn n ls st rows).getLastD [] ++ g)] := by
  unfold rn
  rw [List.foldl_append]
  rfl
theorem rn_len (n : Nat) (ls : List NL) (st : List Int) (rows : List (List Int)) : ∀ k, k ≤ rows.length → (rn n ls st (rows.take k)).length = k + 1
  | 0, _ => by simp [rn]
  | k + 1, h => by
    have hk : k < rows.length := h
    rw [take_snoc (List.getElem?_eq_getElem hk), rn_snoc, List.length_append, rn_len n ls st rows k (by omega)]
    rfl
theorem getLastD_mem {α : Type} : ∀ {l : List α} {d : α}, l ≠ [] → l.getLastD d ∈ l
  | [], _, h => (h rfl).elim
  | [a], _, _ => by simp [List.getLastD]
  | a :: b :: s, d, _ => by
    rw [List.getLastD_cons]
    exact List.mem_cons_of_mem _ (getLastD_mem (l := b :: s) (by simp))
/-- how great the numbers of states grow -/
theorem rn_bd {n : Nat} {ls : List NL} {st : List Int} {rows : List (List Int)} {M : Int} (hM : 0 ≤ M) (hst : ∀ x ∈ st, Bd M x) (hr : ∀ r ∈ rows, ∀ x ∈ r, Bd M x) (hl : ∀ l ∈ ls, Bd 1000000 l.2) (hz : ls.length ≤ 1500) :
    ∀ k, k ≤ rows.length → ∀ s ∈ rn n ls st (rows.take k), ∀ x ∈ s, Bd (M * 1500000000 ^ k) x
  | 0, _, s, hs, x, hx => by
    obtain rfl : s = st := by simpa [rn] using hs
    simpa using hst x hx
  | k + 1, h, s, hs, x, hx => by
    have hk : k < rows.length := h
    have p1 : (1 : Int) ≤ 1500000000 ^ k := by
      have := Int.pow_pos (n := 1500000000) (m := k) (by decide)
      omega
    have p2 : M ≤ M * 1500000000 ^ k := by
      have := Int.mul_le_mul_of_nonneg_left p1 hM
      omega
    have p3 : M * 1500000000 ^ (k + 1) = 1500000000 * (M * 1500000000 ^ k) := by
      rw [Int.pow_succ, ← Int.mul_assoc, Int.mul_comm]
    have p4 : 0 ≤ M * 1500000000 ^ k := by omega
    have ih := rn_bd (n := n) hM hst hr hl hz k (by omega)
    rw [take_snoc (List.getElem?_eq_getElem hk), rn_snoc] at hs
    rw [p3]
    rcases List.mem_append.mp hs with hs | hs
    · exact (ih s hs x hx).mono (by omega)
    · obtain rfl := List.mem_singleton.mp hs
      have h1 := mvs_bd (vals := (rn n ls st (rows.take k)).getLastD [] ++ rows[k]) (M := M * 1500000000 ^ k) p4 (by
        intro v hv
        rcases List.mem_append.mp hv with hv | hv
        · refine ih _ (getLastD_mem ?_) v hv
          intro e
          have := rn_len n ls st rows k (by omega)
          rw [e] at this
          simp at this
        · exact (hr _ (List.getElem_mem hk) v hv).mono p2) ls (List.replicate n 0) 0 (by decide) hl (by
        intro a ha
        obtain ⟨_, rfl⟩ := List.mem_replicate.mp ha
        exact ⟨by decide, by decide⟩)
      refine (h1 x hx).mono ?_
      have h2 : (ls.length : Int) * (1000000 * (M * 1500000000 ^ k)) ≤ 1500 * (1000000 * (M * 1500000000 ^ k)) := Int.mul_le_mul_of_nonneg_right (by omega) (by omega)
      omega
theorem ixN_int {n : Nat} {k : Int} (h0 : 0 ≤ k) (h : k < n) : ixN n k = some k.toNat := by
  unfold ixN
  rw [if_pos h0, if_pos h]
theorem rep_int (m : Nat) : (List.replicate m [V.int 0]).flatten = (List.replicate m (0 : Int)).map V.int := by
  induction m with
  | zero => rfl
  | succ m ih =>
    rw [List.replicate_succ, List.flatten_cons, ih]
    rfl
theorem last_row {α : Type} : ∀ {ns : List α} {n : Nat} {r d : α}, ns[n]? = some r → ns.length = n + 1 → ns.getLastD d = r
  | [], _, _, _, h, _ => by simp at h
  | [a], 0, r, d, h, _ => by simpa [List.getLastD] using h
  | [a], n + 1, r, d, h, g => by simp at h
  | a :: b :: s, 0, r, d, h, g => by simp at g
  | a :: b :: s, n + 1, r, d, h, g => by
    rw [List.getLastD_cons]
    exact last_row (ns := b :: s) (n := n) (by simpa using h) (by simpa using g)
theorem stp_at {vals acc : List Int} {l : NL} {x y : Int} (hx : acc[l.1.2.toNat]? = some x) (hy : vals[l.1.1.toNat]? = some y) : (acc.map V.int).set l.1.2.toNat (V.int (x + l.2 * y)) = (stp vals acc l).map V.int := by
  unfold stp
  rw [List.getD_eq_getElem?_getD, hx, List.getD_eq_getElem?_getD, hy, List.map_set]
  rfl
theorem flat_take {α : Type} {ss : List (List α)} {i : Nat} {r : List α} (h : ss[i]? = some r) : (ss.take (i + 1)).flatten = (ss.take i).flatten ++ r := by
  rw [take_snoc h, List.flatten_append]
  simp
theorem flat_len {α : Type} {ss : List (List α)} {i : Nat} : ((ss.take i).flatten).length ≤ ss.flatten.length := by
  have h : ss.flatten = (ss.take i).flatten ++ (ss.drop i).flatten := by rw [← List.flatten_append, List.take_append_drop]
  rw [h, List.length_append]
  omega
theorem row_len_flat {α : Type} {ss : List (List α)} {r : List α} (h : r ∈ ss) : r.length ≤ ss.flatten.length := by
  obtain ⟨i, hi⟩ := List.mem_iff_getElem?.mp h
  have h1 := flat_len (ss := ss) (i := i + 1)
  rw [flat_take hi, List.length_append] at h1
  omega
theorem dNum_of {K : PySem.W.Frag} {H : Hp} {l : NL} {a : Addr} (h : H a = some (.tup [.int l.1.1, .int l.1.2, .int l.2])) : Da K H (dNum l) (.ref a) :=
  ⟨a, _, rfl, h, _, _, rfl, rfl, _, _, rfl, rfl, _, _, rfl, rfl, rfl⟩
theorem nums_at {K : PySem.W.Frag} {H : Hp} {ls : List NL} {xs : List V} {i : Nat} {x : V} (h : DaAll K H (ls.map dNum) xs) (hx : xs[i]? = some x) :
    ∃ l, ls[i]? = some l ∧ ∃ a, x = .ref a ∧ SqT K H a [.int l.1.1, .int l.1.2, .int l.2] := by
  obtain ⟨d, hd, hdx⟩ := h.at' hx
  obtain ⟨p, hp, rfl⟩ := map_at hd
  obtain ⟨a, ys, rfl, hS, z1, r1, rfl, e1, z2, r2, rfl, e2, z3, r3, rfl, e3, rfl⟩ := hdx
  obtain rfl := e1
  obtain rfl := e2
  obtain rfl := e3
  exact ⟨p, hp, a, rfl, .inl (.inl hS)⟩
end Nw
/-! Fillings, states and rows of states shown. -/
namespace Nw
open PySem PySem.Spec PyProof.Rows L2
theorem rn_rows {n : Nat} {ls : List NL} {st : List Int} {rows : List (List Int)} (h : st.length = n) : ∀ k, k ≤ rows.length → ∀ z ∈ rn n ls st (rows.take k), z.length = n
  | 0, _, z, hz => by
    obtain rfl : z = st := by simpa [rn] using hz
    exact h
  | k + 1, hk, z, hz => by
    rw [take_snoc (List.getElem?_eq_getElem (show k < rows.length from hk)), rn_snoc] at hz
    rcases List.mem_append.mp hz with hz | hz
    · exact rn_rows h k (by omega) z hz
    · obtain rfl := List.mem_singleton.mp hz
      exact mv_len
theorem NewR.da {K : PySem.W.Frag} {H H' : Hp} {ns : List (List Int)} {L : Addr} {bs : List Addr} (h : NewR H H' ns L bs) (h1 : ∀ r ∈ ns, r.length ≤ 100000) (h2 : ns.length ≤ 100000) : Da K H' (dRows ns) (.ref L) := by
  refine ⟨L, _, rfl, h.at_, rows_of h.len fun k b hb => ?_, by rw [List.length_map]; exact h2⟩
  obtain ⟨_, r, e, g⟩ := h.row k b hb
  exact ⟨r, e, g, h1 r (List.mem_of_getElem? e)⟩
theorem lay_fl (f : Fl) : f.d.canLay0 = true := by simp [Fl.d, PyData.canLay0, PyData.canLayAll0, lay_dInts, lay_dRows]
theorem Sh.ints {r : List Int} {k m : Nat} (hk : 0 < k) (h2 : ∀ x ∈ r, x.natAbs < 2 ^ 1920) (h : ∀ x ∈ r, x.natAbs < 10 ^ k) (hm : r.length ≤ m) : Sh (k + 1) (1 + m) 1 (dInts r) := by
  have e : Sh (k + 1) (1 + 1 * m) (0 + 1) (dInts r) := Sh.list (fun x hx => by
    obtain ⟨y, hy, rfl⟩ := List.mem_map.mp hx
    exact Sh.int hk (h2 y hy) (h y hy)) (by rw [List.length_map]; exact hm)
  exact ⟨e.s, e.l, by have := e.n; omega, e.k⟩
theorem Sh.rows {rs : List (List Int)} {k m j : Nat} (hk : 0 < k) (h2 : ∀ r ∈ rs, ∀ x ∈ r, x.natAbs < 2 ^ 1920) (h : ∀ r ∈ rs, ∀ x ∈ r, x.natAbs < 10 ^ k) (hm : ∀ r ∈ rs, r.length ≤ m) (hj : rs.length ≤ j) :
    Sh (k + 1) (1 + (1 + m) * j) 2 (dRows rs) := Sh.list (fun x hx => by
  obtain ⟨y, hy, rfl⟩ := List.mem_map.mp hx
  exact Sh.ints hk (h2 y hy) (h y hy) (hm y hy)) (by rw [List.length_map]; exact hj)
theorem p1920 : (2 : Nat) ^ 1920 < 10 ^ 580 := by decide +kernel
theorem p40_1920 : (10 : Nat) ^ 40 < 2 ^ 1920 := by decide +kernel
theorem p40 : (10 : Nat) ^ 40 = 10000000000000000000000000000000000000000 := by decide +kernel
theorem small40 {x : Int} (h : x.natAbs < 10000000000000000000000000000000000000000) : x.natAbs < 2 ^ 1920 ∧ x.natAbs < 10 ^ 40 := by
  have h1 : x.natAbs < 10 ^ 40 := by
    rw [p40]
    exact h
  exact ⟨Nat.lt_trans h1 p40_1920, h1⟩
theorem sm_40 {x : Int} (h : Sm x) : x.natAbs < 10000000000000000000000000000000000000000 := by
  have := h.1
  have := h.2
  omega
theorem Sh.pair {p : Int × Int} (h1 : Sm p.1) (h2 : Sm p.2) : Sh 41 3 1 (dPair p) := by
  have e : Sh 41 (1 + 1 * 2) (0 + 1) (dPair p) := Sh.tuple (fun x hx => by
    rcases List.mem_cons.mp hx with rfl | hx
    · exact Sh.int (k := 40) (by decide) (small40 (sm_40 h1)).1 (small40 (sm_40 h1)).2
    · obtain rfl := List.mem_singleton.mp hx
      exact Sh.int (k := 40) (by decide) (small40 (sm_40 h2)).1 (small40 (sm_40 h2)).2) (Nat.le_refl 2)
  exact e
theorem Sh.wide {B n k m j : Nat} {d : PyData} (h : Sh B n k d) (hn : n ≤ m) (hk : k ≤ j) : Sh B m j d := ⟨h.s, h.l, Nat.le_trans h.n hn, Nat.le_trans h.k hk⟩
theorem Wb.Ok.sh {u : Wb} (hu : u.Ok) : Sh 41 12000 3 u.d := by
  have b1 := hu.lo
  have b2 := hu.hi
  have e : Sh 41 (1 + 3901 * 3) (2 + 1) u.d := Sh.tuple (fun x hx => by
    rcases List.mem_cons.mp hx with rfl | hx
    · exact (Sh.int (k := 40) (by decide) (small40 (by omega)).1 (small40 (by omega)).2).wide (by decide) (by decide)
    rcases List.mem_cons.mp hx with rfl | hx
    · have e : Sh 41 (1 + 3 * 1300) (1 + 1) (dPairs u.ps) := Sh.list (fun x hx => by
        obtain ⟨y, hy, rfl⟩ := List.mem_map.mp hx
        have := hu.ps y hy
        exact Sh.pair ⟨this.1.1, by omega⟩ ⟨this.2.1, by omega⟩) (by rw [List.length_map]; exact hu.len)
      exact e
    · obtain rfl := List.mem_singleton.mp hx
      have hs : ∀ r ∈ u.ns, ∀ x ∈ r, x.natAbs < 10000000000000000000000000000000000000000 := by
        intro r hr x hx
        have := (hu.ns r hr).2.1 x hx
        omega
      exact (Sh.rows (k := 40) (m := 20) (j := 8) (by decide) (fun r hr x hx => (small40 (hs r hr x hx)).1) (fun r hr x hx => (small40 (hs r hr x hx)).2) (fun r hr => hu.row hr) hu.few).wide (by decide) (by decide)) (Nat.le_refl 3)
  exact e.wide (by decide) (by decide)
theorem Fl.Ok.sh {u : Wb} {f : Fl} (hu : u.Ok) (h : f.Ok u) : Sh 41 12000 3 f.d := by
  have b1 := hu.len
  have b2 := hu.few
  have hn : ∀ x : Int, NumOk x → x.natAbs < 10000000000000000000000000000000000000000 := by
    intro x hx
    have := hx.2.1
    have := hx.2.2
    omega
  have e : Sh 41 (1 + 1301 * 2) (2 + 1) f.d := Sh.tuple (fun x hx => by
    rcases List.mem_cons.mp hx with rfl | hx
    · exact (Sh.ints (k := 40) (m := 1300) (by decide) (fun x hx => (small40 (hn x (h.num x hx))).1) (fun x hx => (small40 (hn x (h.num x hx))).2) (by rw [h.len]; exact b1)).wide (by decide) (by decide)
    · obtain rfl := List.mem_singleton.mp hx
      refine (Sh.rows (k := 40) (m := 20) (j := 8) (by decide) (fun r hr x hx => (small40 (hn x (h.rnum r hr x hx))).1) (fun r hr x hx => (small40 (hn x (h.rnum r hr x hx))).2) (fun r hr => ?_) (by rw [h.slen]; exact b2)).wide (by decide) (by decide)
      obtain ⟨k, hk⟩ := List.mem_iff_getElem?.mp hr
      have hk2 : k < u.ns.length := by
        rw [← h.slen]
        exact (List.getElem?_eq_some_iff.mp hk).1
      rw [h.rlen hk (List.getElem?_eq_getElem hk2)]
      exact hu.row (List.getElem_mem hk2)) (Nat.le_refl 2)
  exact e.wide (by decide) (by decide)
/-- what repr asks of data that stands -/
theorem repr_of {K : PySem.W.Frag} {H : Hp} {d : PyData} {v : V} {B n k : Nat} (hd : Da K H d v) (hn : d.hasDict = false) (h : Sh B n k d) (hB : 8 ≤ B) (hz : (B + 4) * n ≤ 16000000) (hk : k ≤ 60) :
    Dp K H v d ∧ d.showable = true ∧ d.shown.length ≤ sizeLine ∧ d.depth ≤ 60 := ⟨hd.dp _ _ hn, h.s, h.fit hB hz, Nat.le_trans h.k hk⟩
theorem bd_abs {M x : Int} {N : Nat} (h : Bd M x) (hM : M.toNat < N) (h0 : 0 ≤ M) : x.natAbs < N := by
  have := h.1
  have := h.2
  omega
theorem pow1500 {w : Int} {k : Nat} (h0 : 0 ≤ w) {n : Nat} (hk : k ≤ n) : w * 1500000000 ^ k ≤ w * 1500000000 ^ n := by
  refine Int.mul_le_mul_of_nonneg_left ?_ h0
  have h1 : (1500000000 : Nat) ^ k ≤ 1500000000 ^ n := Nat.pow_le_pow_right (by decide) hk
  have h2 := Int.ofNat_le.mpr h1
  rw [Int.natCast_pow, Int.natCast_pow] at h2
  exact h2
end Nw
namespace Nw
open PySem PySem.Spec PyProof.Rows L2
theorem rn_pre {n : Nat} {ls : List NL} {st : List Int} {rows : List (List Int)} {k i : Nat} (hi : i ≤ k) : ∀ j, k ≤ j → j ≤ rows.length → (rn n ls st (rows.take j))[i]? = (rn n ls st (rows.take k))[i]?
  | 0, h, _ => by
    obtain rfl : k = 0 := by omega
    rfl
  | j + 1, h, hj => by
    by_cases e : k = j + 1
    · rw [e]
    · rw [take_snoc (List.getElem?_eq_getElem (show j < rows.length from hj)), rn_snoc, List.getElem?_append_left, rn_pre hi j (by omega) (by omega)]
      rw [rn_len n ls st rows j (by omega)]
      omega
theorem rn_one {n : Nat} {ls : List NL} {st r : List Int} {rows : List (List Int)} (h : rows[0]? = some r) : (rn n ls st rows)[1]? = some (mv n ls (st ++ r)) := by
  have hl : 0 < rows.length := (List.getElem?_eq_some_iff.mp h).1
  have e := rn_pre (n := n) (ls := ls) (st := st) (rows := rows) (k := 1) (i := 1) (by decide) rows.length (by omega) (by omega)
  rw [List.take_length] at e
  rw [e, show rows.take 1 = rows.take (0 + 1) from rfl, take_snoc h]
  rfl
theorem p6 : (10 : Int) ^ Int.toNat 6 = 1000000 := by decide +kernel
theorem p29 : (10 : Int) ^ Int.toNat 29 = 100000000000000000000000000000 := by decide +kernel
end Nw
/-! Any data of bounded size: put together, cut, looked up. -/
namespace Nw
open PySem PySem.Spec PyProof.Rows L2
def rTupQ (K : PySem.W.Frag) : List V → Hp → VK → Prop := fun xs H Q => ∃ p ys, xs = [.ref p] ∧ ((SqL K H p ys ∧ ∀ l, H l = none → Q (.ref l) (upd H l (.tup ys))) ∨ (SqT K H p ys ∧ Q (.ref p) H))
theorem call_tupleK {X : Cx} (K : PySem.W.Frag) (hK : X.K = K := by rfl) : CallR X (.type "tuple") (rTupQ K) := by
  subst hK
  exact call_tuple_of
def shB (n k : Nat) (d : PyData) : Bool := d.showable && (lf 41 d && (decide (nodes d ≤ n) && decide (d.depth ≤ k)))
theorem shB_sh {n k : Nat} {d : PyData} (h : shB n k d = true) : Sh 41 n k d := by
  simp only [shB, Bool.and_eq_true, decide_eq_true_eq] at h
  exact ⟨h.1, h.2.1, h.2.2.1, h.2.2.2⟩
theorem sh_all {n k : Nat} {ds : List PyData} (h : ds.all (shB n k) = true) : ∀ x ∈ ds, Sh 41 n k x := fun x hx => shB_sh (List.all_eq_true.mp h x hx)
section
variable {K : PySem.W.Frag} {H H' : Hp} {n k m j : Nat}
/-- some data of so many nodes, so deep -/
def Gd (K : PySem.W.Frag) (H : Hp) (n k : Nat) (v : V) : Prop := ∃ d, Da K H d v ∧ Sh 41 n k d
def GdAll (K : PySem.W.Frag) (H : Hp) (n k : Nat) (vs : List V) : Prop := ∃ ds, DaAll K H ds vs ∧ ∀ x ∈ ds, Sh 41 n k x
theorem Gd.up {v : V} (h : Gd K H n k v) (e : Ex H H') : Gd K H' n k v := by
  obtain ⟨d, h1, h2⟩ := h
  exact ⟨d, h1.up e, h2⟩
theorem GdAll.up {vs : List V} (h : GdAll K H n k vs) (e : Ex H H') : GdAll K H' n k vs := by
  obtain ⟨d, h1, h2⟩ := h
  exact ⟨d, h1.up e, h2⟩
theorem Gd.wide {v : V} (h : Gd K H n k v) (hn : n ≤ m) (hk : k ≤ j) : Gd K H m j v := by
  obtain ⟨d, h1, h2⟩ := h
  exact ⟨d, h1, h2.wide hn hk⟩
theorem GdAll.wide {vs : List V} (h : GdAll K H n k vs) (hn : n ≤ m) (hk : k ≤ j) : GdAll K H m j vs := by
  obtain ⟨d, h1, h2⟩ := h
  exact ⟨d, h1, fun x hx => (h2 x hx).wide hn hk⟩
theorem GdAll.nil : GdAll K H n k [] := ⟨[], rfl, fun x hx => by cases hx⟩
theorem GdAll.cons {v : V} {vs : List V} (h : Gd K H n k v) (t : GdAll K H n k vs) : GdAll K H n k (v :: vs) := by
  obtain ⟨d, h1, h2⟩ := h
  obtain ⟨ds, t1, t2⟩ := t
  refine ⟨d :: ds, ⟨_, _, rfl, h1, t1⟩, fun x hx => ?_⟩
  rcases List.mem_cons.mp hx with rfl | hx
  · exact h2
  · exact t2 x hx
theorem GdAll.at {vs : List V} {i : Nat} {x : V} (h : GdAll K H n k vs) (hx : vs[i]? = some x) : Gd K H n k x := by
  obtain ⟨ds, h1, h2⟩ := h
  obtain ⟨d, hd, hdx⟩ := h1.at' hx
  exact ⟨d, hdx, h2 d (List.mem_of_getElem? hd)⟩
theorem GdAll.app {vs ws : List V} (h : GdAll K H n k vs) (g : GdAll K H n k ws) : GdAll K H n k (vs ++ ws) := by
  obtain ⟨ds, h1, h2⟩ := h
  obtain ⟨es, g1, g2⟩ := g
  refine ⟨ds ++ es, h1.app g1, fun x hx => ?_⟩
  rcases List.mem_append.mp hx with hx | hx
  · exact h2 x hx
  · exact g2 x hx
theorem DaAll.of_mem : ∀ {ds : List PyData} {vs ws : List V}, DaAll K H ds vs → (∀ x ∈ ws, x ∈ vs) → ∃ es, DaAll K H es ws ∧ ∀ e ∈ es, e ∈ ds
  | ds, vs, [], _, _ => ⟨[], rfl, fun e he => by cases he⟩
  | ds, vs, w :: ws, h, hm => by
    obtain ⟨es, h1, h2⟩ := DaAll.of_mem h (ws := ws) fun x hx => hm x (List.mem_cons_of_mem _ hx)
    obtain ⟨d, hd, hdw⟩ := h.mem w (hm w (by simp))
    refine ⟨d :: es, ⟨_, _, rfl, hdw, h1⟩, fun e he => ?_⟩
    rcases List.mem_cons.mp he with rfl | he
    · exact hd
    · exact h2 e he
theorem GdAll.sub {vs ws : List V} (h : GdAll K H n k vs) (hm : ∀ x ∈ ws, x ∈ vs) : GdAll K H n k ws := by
  obtain ⟨ds, h1, h2⟩ := h
  obtain ⟨es, g1, g2⟩ := DaAll.of_mem h1 hm
  exact ⟨es, g1, fun x hx => h2 x (g2 x hx)⟩
theorem GdAll.cut {vs : List V} {lo hi : Option Int} (h : GdAll K H n k vs) : GdAll K H n k (cutV vs lo hi) := h.sub fun x hx => List.mem_of_mem_drop (List.mem_of_mem_take hx)
theorem GdAll.rev {vs : List V} (h : GdAll K H n k vs) : GdAll K H n k vs.reverse := h.sub fun x hx => List.mem_reverse.mp hx
theorem Gd.list {a : Addr} {vs : List V} (h : H a = some (.lst vs)) (g : GdAll K H n k vs) (hl : vs.length ≤ m) (hm : m ≤ 100000) : Gd K H (1 + n * m) (k + 1) (.ref a) := by
  obtain ⟨ds, h1, h2⟩ := g
  have e := h1.len
  exact ⟨.list ds, ⟨a, vs, rfl, h, h1, by omega⟩, Sh.list h2 (by omega)⟩
theorem Gd.tup {a : Addr} {vs : List V} (h : H a = some (.tup vs)) (g : GdAll K H n k vs) (hl : vs.length ≤ m) : Gd K H (1 + n * m) (k + 1) (.ref a) := by
  obtain ⟨ds, h1, h2⟩ := g
  have e := h1.len
  exact ⟨.tuple ds, ⟨a, vs, rfl, h, h1⟩, Sh.tuple h2 (by omega)⟩
theorem Gd.non : Gd K H (n + 1) k .non := ⟨.none, rfl, ⟨rfl, rfl, by simp only [nodes]; omega, by simp only [PyData.depth]; omega⟩⟩
theorem Gd.bl {b : Bool} : Gd K H (n + 1) k (.bl b) := ⟨.bool b, rfl, ⟨rfl, rfl, by simp only [nodes]; omega, by simp only [PyData.depth]; omega⟩⟩
theorem Gd.int {i : Int} (h : i.natAbs < 10000000000000000000000000000000000000000) : Gd K H (n + 1) k (.int i) :=
  ⟨.int i, rfl, (Sh.int (k := 40) (by decide) (small40 h).1 (small40 h).2).wide (by omega) (by omega)⟩
theorem Gd.str {x : Str} (h : (PyData.shown (.str x)).length ≤ 41) : Gd K H (n + 1) k (.str x) :=
  ⟨.str x, rfl, ⟨rfl, by simpa only [lf, decide_eq_true_eq] using h, by simp only [nodes]; omega, by simp only [PyData.depth]; omega⟩⟩
theorem Gd.dict0 {a : Addr} (h : H a = some (.dK [])) : Gd K H (n + 1) (k + 1) (.ref a) :=
  ⟨.dict [], ⟨a, [], rfl, h, rfl, rfl⟩, ⟨rfl, rfl, by simp only [nodes, nodesKv]; omega, by simp only [PyData.depth, PyData.depthKv]; omega⟩⟩
/-- a dict of one text and one value -/
theorem Gd.dict1 {a : Addr} {x : Str} {v : V} (h : H a = some (.dK [(Sum.inr x, v)])) (hx : (PyData.shown (.str x)).length ≤ 41) (g : Gd K H n k v) : Gd K H (n + 2) (k + 1) (.ref a) := by
  obtain ⟨d, h1, h2⟩ := g
  refine ⟨.dict [(.str x, d)], ⟨a, _, rfl, h, rfl, _, _, rfl, h1, rfl⟩, ⟨?_, ?_, ?_, ?_⟩⟩
  · have := h2.s
    simp only [PyData.showable, PyData.showableKv, this, Bool.and_true]
  · have := h2.l
    simp only [lf, lfKv, this, Bool.and_true, Bool.and_eq_true, decide_eq_true_eq]
    exact hx
  · have := h2.n
    simp only [nodes, nodesKv]
    omega
  · have := h2.k
    simp only [PyData.depth, PyData.depthKv]
    omega
theorem Gd.of {d : PyData} {v : V} (h : Da K H d v) (hs : Sh 41 n k d) : Gd K H n k v := ⟨d, h, hs⟩
end
end Nw
/-! What pairs lead to; rooms. -/
namespace Nw
open PySem PySem.Spec PyProof.Rows L2
inductive Rch (ps : List (Int × Int)) : Int → Int → Prop
  | here (a : Int) : Rch ps a a
  | step {a b c : Int} : (a, b) ∈ ps → Rch ps b c → Rch ps a c
theorem Rch.trans {ps : List (Int × Int)} {a b c : Int} (h : Rch ps a b) (g : Rch ps b c) : Rch ps a c := by
  induction h with
  | here => exact g
  | step e _ ih => exact .step e (ih g)
theorem Rch.snoc {ps : List (Int × Int)} {a b c : Int} (h : Rch ps a b) (g : (b, c) ∈ ps) : Rch ps a c := h.trans (.step g (.here c))
theorem Rch.inn {ps : List (Int × Int)} {n a b : Int} (hp : ∀ p ∈ ps, (0 ≤ p.1 ∧ p.1 < n) ∧ (0 ≤ p.2 ∧ p.2 < n)) (h : Rch ps a b) (ha : 0 ≤ a ∧ a < n) : 0 ≤ b ∧ b < n := by
  induction h with
  | here => exact ha
  | step e _ ih => exact ih (hp _ e).2
theorem Rch.inn' {ps : List (Int × Int)} {n a b : Int} (hp : ∀ p ∈ ps, (0 ≤ p.1 ∧ p.1 < n) ∧ (0 ≤ p.2 ∧ p.2 < n)) (h : Rch ps a b) (hb : 0 ≤ b ∧ b < n) : 0 ≤ a ∧ a < n := by
  cases h with
  | here => exact hb
  | step e _ => exact (hp _ e).1
theorem Rch.closed {ps : List (Int × Int)} {P : Int → Prop} (hc : ∀ a b, P a → (a, b) ∈ ps → P b) {a c : Int} (h : Rch ps a c) : P a → P c := by
  induction h with
  | here => exact fun h => h
  | step e _ ih => exact fun h => ih (hc _ _ h e)
/-- by at most k pairs -/
def RchN (ps : List (Int × Int)) : Nat → Int → Int → Prop
  | 0, a, c => a = c
  | k + 1, a, c => a = c ∨ ∃ b, (a, b) ∈ ps ∧ RchN ps k b c
theorem RchN.rch {ps : List (Int × Int)} : ∀ {k : Nat} {a c : Int}, RchN ps k a c → Rch ps a c
  | 0, a, _, h => by
    cases h
    exact .here a
  | k + 1, a, c, h => by
    rcases h with rfl | ⟨b, e, h⟩
    · exact .here a
    · exact .step e h.rch
theorem RchN.more {ps : List (Int × Int)} : ∀ {k : Nat} {a c : Int}, RchN ps k a c → RchN ps (k + 1) a c
  | 0, _, _, h => .inl h
  | k + 1, _, _, h => by
    rcases h with h | ⟨b, e, h⟩
    · exact .inl h
    · exact .inr ⟨b, e, h.more⟩
theorem RchN.le {ps : List (Int × Int)} {k m : Nat} {a c : Int} (h : RchN ps k a c) (l : k ≤ m) : RchN ps m a c := by
  induction m with
  | zero =>
    obtain rfl : k = 0 := by omega
    exact h
  | succ m ih =>
    by_cases e : k = m + 1
    · rw [← e]
      exact h
    · exact (ih (by omega)).more
theorem filter_grow {α : Type} {p q : α → Bool} (h : ∀ x, p x = true → q x = true) : ∀ {l : List α}, (l.filter p).length ≤ (l.filter q).length
  | [] => Nat.le_refl _
  | x :: l => by
    have ih := filter_grow (p := p) (q := q) h (l := l)
    rw [List.filter_cons, List.filter_cons]
    by_cases hp : p x = true
    · rw [if_pos hp, if_pos (h x hp)]
      exact Nat.succ_le_succ ih
    · rw [if_neg hp]
      split
      · rw [List.length_cons]
        omega
      · exact ih
theorem filter_more {α : Type} {p q : α → Bool} (h : ∀ x, p x = true → q x = true) : ∀ {l : List α} {y : α}, y ∈ l → q y = true → p y = false → (l.filter p).length < (l.filter q).length
  | [], _, hy, _, _ => by cases hy
  | x :: l, y, hy, hq, hp => by
    rw [List.filter_cons, List.filter_cons]
    rcases List.mem_cons.mp hy with rfl | hy
    · rw [if_pos hq, if_neg (by rw [hp]; decide), List.length_cons]
      have := filter_grow h (l := l)
      omega
    · have ih := filter_more h hy hq hp
      by_cases hx : p x = true
      · rw [if_pos hx, if_pos (h x hx), List.length_cons, List.length_cons]
        omega
      · rw [if_neg hx]
        split
        · rw [List.length_cons]
          omega
        · exact ih
section
open Classical
noncomputable def cntR (ps : List (Int × Int)) (n : Int) (c : Int) (k : Nat) : Nat := ((iota n).filter fun a => decide (RchN ps k a c)).length
theorem cntR_le (ps : List (Int × Int)) (n c : Int) (k : Nat) : cntR ps n c k ≤ n.toNat := by
  unfold cntR
  refine Nat.le_trans (List.length_filter_le _ _) ?_
  rw [List.length_map, List.length_range]
  exact Nat.le_refl _
/-- n pairs are enough -/
theorem Rch.few {ps : List (Int × Int)} {n : Int} (hp : ∀ p ∈ ps, (0 ≤ p.1 ∧ p.1 < n) ∧ (0 ≤ p.2 ∧ p.2 < n)) {a c : Int} (h : Rch ps a c) (hc : 0 ≤ c ∧ c < n) : RchN ps n.toNat a c := by
  have key : ∀ k, (∃ j, j ≤ k ∧ ∀ b, RchN ps (j + 1) b c → RchN ps j b c) ∨ k + 2 ≤ cntR ps n c (k + 1) := by
    intro k
    induction k with
    | zero =>
      by_cases st : ∀ b, RchN ps 1 b c → RchN ps 0 b c
      · exact .inl ⟨0, Nat.le_refl _, st⟩
      · obtain ⟨b, hb⟩ := Classical.not_forall.mp st
        obtain ⟨hb1, hb0⟩ := Classical.not_imp.mp hb
        refine .inr ?_
        have h1 : 1 ≤ cntR ps n c 0 := by
          unfold cntR
          refine List.length_pos_iff.mpr fun e => ?_
          have : c ∈ (iota n).filter fun a => decide (RchN ps 0 a c) := List.mem_filter.mpr ⟨mem_iota.mpr hc, decide_eq_true rfl⟩
          rw [e] at this
          cases this
        have hin := hb1.rch.inn' hp hc
        show 0 + 2 ≤ cntR ps n c 1
        have h2 : cntR ps n c 0 < cntR ps n c 1 := filter_more (fun x hx => decide_eq_true (of_decide_eq_true hx : RchN ps 0 x c).more) (mem_iota.mpr hin) (decide_eq_true hb1) (decide_eq_false hb0)
        omega
    | succ k ih =>
      rcases ih with ⟨j, hj, st⟩ | ih
      · exact .inl ⟨j, by omega, st⟩
      · by_cases st : ∀ b, RchN ps (k + 2) b c → RchN ps (k + 1) b c
        · exact .inl ⟨k + 1, Nat.le_refl _, st⟩
        · obtain ⟨b, hb⟩ := Classical.not_forall.mp st
          obtain ⟨hb1, hb0⟩ := Classical.not_imp.mp hb
          refine .inr ?_
          have hin := hb1.rch.inn' hp hc
          show k + 1 + 2 ≤ cntR ps n c (k + 2)
          have h2 : cntR ps n c (k + 1) < cntR ps n c (k + 2) := filter_more (fun x hx => decide_eq_true (of_decide_eq_true hx : RchN ps (k + 1) x c).more) (mem_iota.mpr hin) (decide_eq_true hb1) (decide_eq_false hb0)
          omega
  rcases key n.toNat with ⟨j, hj, st⟩ | h2
  · refine RchN.le (k := j) ?_ hj
    clear hj
    induction h with
    | here c =>
      cases j with
      | zero => exact rfl
      | succ j => exact .inl rfl
    | step e g ih => exact st _ (.inr ⟨_, e, ih hc key st⟩)
  · have := cntR_le ps n c (n.toNat + 1)
    omega
/-! ### rooms -/
def Mu (ps : List (Int × Int)) (a b : Int) : Prop := Rch ps a b ∧ Rch ps b a
noncomputable def roomOf (ps : List (Int × Int)) (n a : Int) : List Int := (iota n).filter fun b => decide (Mu ps a b)
theorem mem_room {ps : List (Int × Int)} {n a b : Int} : b ∈ roomOf ps n a ↔ (0 ≤ b ∧ b < n) ∧ Mu ps a b := by
  unfold roomOf
  rw [List.mem_filter, mem_iota, decide_eq_true_eq]
theorem asc_filter {l : List Int} {p : Int → Bool} (h : ascB ltIn l = true) : ascB ltIn (l.filter p) = true := asc_pw ((pwI_asc h).filter p)
theorem asc_room {ps : List (Int × Int)} {n a : Int} : ascB ltIn (roomOf ps n a) = true := asc_filter (asc_iota n)
theorem room_len {ps : List (Int × Int)} {n a : Int} : (roomOf ps n a).length ≤ n.toNat := by
  unfold roomOf
  refine Nat.le_trans (List.length_filter_le _ _) ?_
  rw [List.length_map, List.length_range]
  exact Nat.le_refl _
theorem room_self {ps : List (Int × Int)} {n a : Int} (h : 0 ≤ a ∧ a < n) : a ∈ roomOf ps n a := mem_room.mpr ⟨h, .here a, .here a⟩
/-- a room stands at its least quantity -/
noncomputable def isHead (ps : List (Int × Int)) (n a : Int) : Bool := decide ((roomOf ps n a).head? = some a)
noncomputable def roomsTo (ps : List (Int × Int)) (n : Int) (k : Nat) : List (List Int) := (((iota n).take k).filter (isHead ps n)).map (roomOf ps n)
noncomputable def roomsOf (ps : List (Int × Int)) (n : Int) : List (List Int) := roomsTo ps n n.toNat
theorem roomsTo_step {ps : List (Int × Int)} {n : Int} {k : Nat} (hk : (k : Int) < n) : roomsTo ps n (k + 1) = if isHead ps n (k : Int) = true then roomsTo ps n k ++ [roomOf ps n (k : Int)] else roomsTo ps n k := by
  unfold roomsTo
  rw [take_snoc (iota_at hk), List.filter_append, List.map_append, List.filter_cons, List.filter_nil]
  by_cases h : isHead ps n (k : Int) = true
  · rw [if_pos h, if_pos h]
    rfl
  · rw [if_neg h, if_neg h]
    simp
theorem mem_rooms {ps : List (Int × Int)} {n : Int} {k : Nat} {r : List Int} (h : r ∈ roomsTo ps n k) : ∃ a, (0 ≤ a ∧ a < n) ∧ r = roomOf ps n a := by
  obtain ⟨a, ha, rfl⟩ := List.mem_map.mp h
  exact ⟨a, mem_iota.mp (List.mem_of_mem_take (List.mem_filter.mp ha).1), rfl⟩
theorem roomsTo_len {ps : List (Int × Int)} {n : Int} {k : Nat} : (roomsTo ps n k).length ≤ k := by
  unfold roomsTo
  rw [List.length_map]
  refine Nat.le_trans (List.length_filter_le _ _) ?_
  rw [List.length_take]
  omega
theorem Mu.symm {ps : List (Int × Int)} {a b : Int} (h : Mu ps a b) : Mu ps b a := ⟨h.2, h.1⟩
theorem Mu.trans {ps : List (Int × Int)} {a b c : Int} (h : Mu ps a b) (g : Mu ps b c) : Mu ps a c := ⟨h.1.trans g.1, g.2.trans h.2⟩
/-- those into which no pair leads -/
def isFirst (ps : List (Int × Int)) (r : List Int) : Bool := (ps.filter fun p => r.contains p.2 && !r.contains p.1).isEmpty
noncomputable def firstOf (ps : List (Int × Int)) (n : Int) : List (List Int) := (roomsOf ps n).filter (isFirst ps)
def inOne (rs : List (List Int)) (s t : Int) : Bool := rs.any fun r => r.contains s && r.contains t
theorem one_room {ps : List (Int × Int)} {n s t : Int} {r : List Int} (hr : r ∈ roomsOf ps n) (ht : t ∈ r) : inOne (roomsOf ps n) s t = r.contains s := by
  rw [Bool.eq_iff_iff]
  unfold inOne
  rw [List.any_eq_true, List.contains_iff_mem]
  constructor
  · rintro ⟨r', hr', h⟩
    rw [Bool.and_eq_true, List.contains_iff_mem, List.contains_iff_mem] at h
    obtain ⟨a, ha, rfl⟩ := mem_rooms hr
    obtain ⟨b, hb, rfl⟩ := mem_rooms hr'
    have h1 := mem_room.mp ht
    have h2 := mem_room.mp h.1
    have h3 := mem_room.mp h.2
    exact mem_room.mpr ⟨h2.1, (h1.2.trans h3.2.symm).trans h2.2⟩
  · intro h
    exact ⟨r, hr, by rw [Bool.and_eq_true, List.contains_iff_mem, List.contains_iff_mem]; exact ⟨h, ht⟩⟩
theorem first_eq {ps : List (Int × Int)} {n : Int} {r : List Int} (hr : r ∈ roomsOf ps n) : isFirst ps r = !(r.any fun q => ((ps.filter fun p => !inOne (roomsOf ps n) p.1 p.2).map (·.2)).contains q) := by
  rw [Bool.eq_iff_iff, Bool.not_eq_true', ← Bool.not_eq_true, List.any_eq_true]
  unfold isFirst
  rw [List.isEmpty_iff, List.filter_eq_nil_iff]
  constructor
  · rintro h ⟨q, hq, hc⟩
    rw [List.contains_iff_mem] at hc
    obtain ⟨p, hp, rfl⟩ := List.mem_map.mp hc
    obtain ⟨hp1, hp2⟩ := List.mem_filter.mp hp
    rw [one_room hr hq] at hp2
    refine h p hp1 ?_
    rw [Bool.and_eq_true, List.contains_iff_mem]
    exact ⟨hq, hp2⟩
  · intro h p hp hc
    rw [Bool.and_eq_true, List.contains_iff_mem] at hc
    refine h ⟨p.2, hc.1, ?_⟩
    rw [List.contains_iff_mem]
    refine List.mem_map.mpr ⟨p, List.mem_filter.mpr ⟨hp, ?_⟩, rfl⟩
    rw [one_room hr hc.1]
    exact hc.2
theorem room_head {ps : List (Int × Int)} {n a m : Int} (hm : m ∈ roomOf ps n a) (hl : ∀ y ∈ roomOf ps n a, m ≤ y) : (roomOf ps n a).head? = some m := by
  have ha := asc_room (ps := ps) (n := n) (a := a)
  generalize roomOf ps n a = r at hm hl ha
  cases r with
  | nil => cases hm
  | cons x r =>
    obtain ⟨h1, _⟩ := ascI_tail ha
    rcases List.mem_cons.mp hm with rfl | hm
    · rfl
    · have h2 := ltIn_yes (h1 m hm)
      have h3 := hl x (by simp)
      omega
end
end Nw
/-! Rules for bits, dicts and sets of tuples as they are wanted here. -/
namespace Nw
open PySem PySem.Spec PyProof.Rows L2
section
variable {X : Cx}
theorem op_orB : OpR X (binaryOp .BitOr) (fun x y H Q => ∃ n m : Nat, x = .int (n : Int) ∧ y = .int (m : Int) ∧ Q (.int ((n ||| m : Nat) : Int)) H) := by
  intro pins s σ H x y v u Q I rx ry h
  obtain ⟨n, m, rfl, rfl, q⟩ := h
  refine op_or pins s σ H _ _ v u Q I rx ry ⟨_, _, rfl, rfl, ?_⟩
  show Q (.int (Builtin.bitOr (n : Int) (m : Int))) H
  rw [bitOr_nn (Int.natCast_nonneg _) (Int.natCast_nonneg _)]
  exact q
theorem ps_dputK {k : Nat} {o i value : Expr} {td ty tv : TE} {pos pos' : Pos} (hr : Room k X.A) (ho : PE X o td) (hi : PE X i ty) (hv : PE X value tv) (hs : swapsWith value (some (.Subscript o i pos')) pos.line X.env = pure false) :
    PS X (.Assign [.Subscript o i pos'] value pos) (sDPut td ty tv) := ps_dput (by have := hr.un; omega) ho hi hv hs
theorem pe_dIn {k : Nat} {o i : Expr} {td ty : TE} {pos : Pos} (hr : Room k X.A) (hi : PE X i ty) (ho : PE X o td) (hm : behindInMarks .In o = false := by rfl) : PE X (.Compare i [.In] [o] pos) (tDIn ty td) := pe_cmp (pc_din (by have := hr.un; omega) hi ho) hm
theorem pt_dIn {k : Nat} {o i : Expr} {td ty : TE} {pos : Pos} (hr : Room k X.A) (hi : PE X i ty) (ho : PE X o td) (hm : behindInMarks .In o = false := by rfl) : PT X (.Compare i [.In] [o] pos) (tB (tDIn ty td)) := pt_cmp (pc_din (by have := hr.un; omega) hi ho) hm
theorem pt_dNotIn {k : Nat} {o i : Expr} {td ty : TE} {pos : Pos} (hr : Room k X.A) (hi : PE X i ty) (ho : PE X o td) (hm : behindInMarks .NotIn o = false := by rfl) : PT X (.Compare i [.NotIn] [o] pos) (tB (tDNotIn ty td)) := pt_cmp (pc_dnotin (by have := hr.un; omega) hi ho) hm
end
/-- a dict that holds some ints -/
def visK (vis : List Int) : List (Key × V) := vis.map fun x => (Sum.inl x, V.bl true)
theorem visK_get {vis : List Int} {x : Int} : (valV (visK vis) (Sum.inl x)).isSome = vis.contains x := by
  unfold valV visK
  induction vis with
  | nil => rfl
  | cons y r ih =>
    rw [List.map_cons, List.find?_cons]
    by_cases h : y = x
    · subst h
      simp
    · have h1 : decide ((Sum.inl y : Key) = Sum.inl x) = false := decide_eq_false (fun e => h (Sum.inl.inj e))
      simp only [h1]
      rw [ih]
      have h2 : ¬ x = y := fun e => h e.symm
      simp [h2]
theorem visK_put {vis : List Int} {x : Int} (h : x ∉ vis) : putK (visK vis) (Sum.inl x) (V.bl true) = visK (vis ++ [x]) := by
  unfold putK visK
  rw [if_neg, List.map_append]
  · rfl
  · rw [Bool.not_eq_true, List.any_eq_false]
    intro kv hkv
    obtain ⟨y, hy, rfl⟩ := List.mem_map.mp hkv
    rw [decide_eq_true_eq]
    intro e
    exact h (Sum.inl.inj e ▸ hy)
end Nw
/-! What leads to what, by bits. -/
namespace Nw
open PySem PySem.Spec PyProof.Rows L2
theorem RchN.refl (ps : List (Int × Int)) (a : Int) : ∀ k, RchN ps k a a
  | 0 => rfl
  | _ + 1 => .inl rfl
def bitA (ms : List Nat) (a j : Nat) : Bool := (ms.getD a 0).testBit j
theorem bitA_set {ms : List Nat} {a b j m : Nat} (h : a < ms.length) : bitA (ms.set a m) b j = if a = b then m.testBit j else bitA ms b j := by
  unfold bitA
  rw [List.getD_eq_getElem?_getD, List.getElem?_set]
  by_cases e : a = b
  · subst e
    rw [if_pos rfl, if_pos rfl, if_pos h]
    rfl
  · rw [if_neg e, if_neg e, List.getD_eq_getElem?_getD]
structure Lead (ps : List (Int × Int)) (n k : Nat) (ms : List Nat) : Prop where
  len : ms.length = n
  snd : ∀ a j : Nat, a < n → bitA ms a j = true → Rch ps (a : Int) (j : Int)
  cmp : ∀ a j : Nat, a < n → RchN ps k (a : Int) (j : Int) → bitA ms a j = true
theorem Lead.zero (ps : List (Int × Int)) (n : Nat) : Lead ps n 0 ((List.range n).map fun a => 2 ^ a) := by
  have h : ∀ a j : Nat, a < n → bitA ((List.range n).map fun a => 2 ^ a) a j = decide (a = j) := fun a j ha => by
    unfold bitA
    rw [List.getD_eq_getElem?_getD, List.getElem?_map, List.getElem?_range ha]
    exact Nat.testBit_two_pow
  refine ⟨by rw [List.length_map, List.length_range], fun a j ha hb => ?_, fun a j ha hr => ?_⟩
  · rw [h a j ha, decide_eq_true_eq] at hb
    rw [hb]
    exact .here _
  · rw [h a j ha, decide_eq_true_eq]
    have : (a : Int) = (j : Int) := hr
    omega
structure LeadI (ps : List (Int × Int)) (n k i : Nat) (ms : List Nat) : Prop extends Lead ps n k ms where
  done : ∀ (l : Nat) (p : Int × Int), l < i → ps[l]? = some p → ∀ j : Nat, RchN ps k p.2 (j : Int) → bitA ms p.1.toNat j = true
theorem LeadI.zero {ps : List (Int × Int)} {n k : Nat} {ms : List Nat} (h : Lead ps n k ms) : LeadI ps n k 0 ms := ⟨h, fun l p hl => by omega⟩
theorem LeadI.step {ps : List (Int × Int)} {n k i : Nat} {ms : List Nat} (h : LeadI ps n k i ms) {p : Int × Int} (hp : ps[i]? = some p) (hr : (0 ≤ p.1 ∧ p.1 < (n : Int)) ∧ (0 ≤ p.2 ∧ p.2 < (n : Int))) :
    LeadI ps n k (i + 1) (ms.set p.1.toNat (ms.getD p.1.toNat 0 ||| ms.getD p.2.toNat 0)) := by
  have hl : p.1.toNat < ms.length := by
    rw [h.len]
    omega
  have e1 : ((p.1.toNat : Nat) : Int) = p.1 := Int.toNat_of_nonneg hr.1.1
  have e2 : ((p.2.toNat : Nat) : Int) = p.2 := Int.toNat_of_nonneg hr.2.1
  have grow : ∀ a j : Nat, bitA ms a j = true → bitA (ms.set p.1.toNat (ms.getD p.1.toNat 0 ||| ms.getD p.2.toNat 0)) a j = true := by
    intro a j hb
    rw [bitA_set hl]
    by_cases e : p.1.toNat = a
    · rw [if_pos e, Nat.testBit_or, Bool.or_eq_true]
      refine .inl ?_
      rw [e]
      exact hb
    · rw [if_neg e]
      exact hb
  refine ⟨⟨by rw [List.length_set, h.len], fun a j ha hb => ?_, fun a j ha hc => grow a j (h.cmp a j ha hc)⟩, fun l q hl' hq j hc => ?_⟩
  · rw [bitA_set hl] at hb
    by_cases e : p.1.toNat = a
    · rw [if_pos e, Nat.testBit_or, Bool.or_eq_true] at hb
      rcases hb with hb | hb
      · exact h.snd a j ha (by rw [e] at hb; exact hb)
      · have h2 := h.snd p.2.toNat j (by omega) hb
        rw [e2] at h2
        have : (a : Int) = p.1 := by omega
        rw [this]
        exact .step (List.mem_of_getElem? hp) h2
    · rw [if_neg e] at hb
      exact h.snd a j ha hb
  · by_cases e : l = i
    · subst e
      rw [hp] at hq
      cases hq
      rw [bitA_set hl, if_pos rfl, Nat.testBit_or, Bool.or_eq_true]
      refine .inr (h.cmp p.2.toNat j (by omega) ?_)
      rw [e2]
      exact hc
    · exact grow _ _ (h.done l q (by omega) hq j hc)
theorem LeadI.fin {ps : List (Int × Int)} {n k : Nat} {ms : List Nat} (h : LeadI ps n k ps.length ms) : Lead ps n (k + 1) ms := by
  refine ⟨h.len, h.snd, fun a j ha hc => ?_⟩
  rcases hc with e | ⟨b, e, hc⟩
  · refine h.cmp a j ha ?_
    rw [e]
    exact RchN.refl _ _ _
  · obtain ⟨l, hl⟩ := List.getElem?_of_mem e
    obtain ⟨hl', _⟩ := List.getElem?_eq_some_iff.mp hl
    have := h.done l _ hl' hl j hc
    rw [Int.toNat_natCast] at this
    exact this
theorem Lead.all {ps : List (Int × Int)} {n : Nat} {ms : List Nat} (hp : ∀ p ∈ ps, (0 ≤ p.1 ∧ p.1 < (n : Int)) ∧ (0 ≤ p.2 ∧ p.2 < (n : Int))) (h : Lead ps n n ms) {a j : Nat} (ha : a < n) (hj : j < n) :
    bitA ms a j = true ↔ Rch ps (a : Int) (j : Int) := by
  refine ⟨h.snd a j ha, fun r => h.cmp a j ha ?_⟩
  have := Rch.few hp r ⟨by omega, by omega⟩
  rw [Int.toNat_natCast] at this
  exact this
end Nw
/-! Sets of pairs, sorted. -/
namespace Nw
open PySem PySem.Spec PyProof.Rows L2
section
variable {X : Cx}
theorem cr_setOfTK (K : PySem.W.Frag) (P : Program) (w : World) (hc : X.calm = true) (hu : X.A.units + 64 < cLine) (hK : X.K = K := by rfl) (hP : X.prog = P := by rfl) (hw : X.w = w := by rfl) : CallR X (.type "set") (rSetOfT K P w) := by
  subst hK hP hw
  exact cr_setOfT hc hu
theorem cr_sortedTK (K : PySem.W.Frag) (P : Program) (w : World) (hc : X.calm = true) (hK : X.K = K := by rfl) (hP : X.prog = P := by rfl) (hw : X.w = w := by rfl) : CallR X (.builtin "sorted") (rSortedT K P w) := by
  subst hK hP hw
  exact cr_sortedT hc
end
def toP : List Int → Int × Int
  | [x, y] => (x, y)
  | _ => (0, 0)
theorem asc_codes {L : List (Addr × List Int)} (hL : ∀ q ∈ L, ∃ x y : Int, q.2 = [x, y] ∧ (0 ≤ x ∧ x < 64) ∧ (0 ≤ y ∧ y < 64)) (nd : (L.map (·.2)).Nodup) (hp : L.Pairwise fun q r => TS.code 64 q.2 ≤ TS.code 64 r.2) :
    ascB ltPr (L.map fun q => toP q.2) = true := by
  refine asc_pw (List.pairwise_map.mpr ?_)
  have h1 := (List.pairwise_map.mp nd).and hp
  refine h1.imp_of_mem fun {q r} hq hr h => ?_
  obtain ⟨x, y, e, hx, hy⟩ := hL q hq
  obtain ⟨x', y', e', hx', hy'⟩ := hL r hr
  obtain ⟨h2, h3⟩ := h
  rw [e, e'] at h2 h3 ⊢
  rw [code_pair, code_pair] at h3
  have h4 : ¬ (x = x' ∧ y = y') := fun ⟨a, b⟩ => h2 (by rw [a, b])
  show ltPr (x, y) (x', y') = true
  refine ltPr_iff.mpr ?_
  show x < x' ∨ (x = x' ∧ y < y')
  omega
/-- the one before, or the last -/
theorem atI_prev {r : List Int} {j : Nat} (h : j < r.length) : ∃ a ∈ r, atI (r.map V.int) (0 + (j : Int) - 1) = some (.int a) := by
  cases j with
  | zero =>
    rcases List.eq_nil_or_concat r with rfl | ⟨l, x, rfl⟩
    · simp at h
    · refine ⟨x, by simp, ?_⟩
      rw [List.concat_eq_append, List.map_append]
      exact atI_last _ _
  | succ j =>
    have h1 := List.getElem?_eq_getElem (show j < r.length by omega)
    refine ⟨r[j], List.getElem_mem _, ?_⟩
    refine atI_int (by omega) ?_
    rw [show (0 + ((j + 1 : Nat) : Int) - 1).toNat = j by omega, List.getElem?_map, h1]
    rfl
theorem cutV_map {o : List Int} {lo hi : Option Int} : cutV (o.map V.int) lo hi = ((o.drop (HT.sIx o.length 0 lo)).take (HT.sIx o.length o.length hi - HT.sIx o.length 0 lo)).map V.int := by
  unfold cutV
  rw [List.length_map, List.map_take, List.map_drop]
end Nw
/-! sorted of a dict whose keys are ints. -/
namespace Nw
open PySem PySem.Spec PyProof.Rows L2
/-- what sorted asks of such a dict -/
def rSortedD : List V → Hp → VK → Prop := fun vs H Q => ∃ (a : Addr) (kvs : List (Key × V)) (is : List Int), vs = [V.ref a] ∧ H a = some (.dK kvs) ∧ kvs.map (·.1) = is.map Sum.inl ∧
  ∀ (js : List Int) (p : Addr), js.Perm is → js.Pairwise (· ≤ ·) → H p = none → Q (.ref p) (upd H p (.lst (js.map V.int)))
theorem ints_by : ∀ {us : List Value} {is : List Int}, us.length = is.length → (∀ (j : Nat) (u : Value) (i : Int), us[j]? = some u → is[j]? = some i → ∃ t, u = Value.int i t) → IntsAre us is
  | [], [], _, _ => .nil
  | [], _ :: _, h, _ => by simp at h
  | _ :: _, [], h, _ => by simp at h
  | u :: us, i :: is, h, f => by
    obtain ⟨t, rfl⟩ := f 0 u i rfl rfl
    exact .cons i t (ints_by (by simpa using h) fun j v k h1 h2 => f (j + 1) v k (by simpa using h1) (by simpa using h2))
section
variable {X : Cx}
theorem cr_sortedDK (hc : X.calm = true) : CallR X (.builtin "sorted") rSortedD := by
  intro pins s σ H vs us Q I r h
  obtain ⟨a, kvs, is, rfl, ha, hv, q⟩ := h
  rw [Vals.ref1 r]
  obtain ⟨hz, lo, es, rk, hd⟩ := (show ObjOk X.prog X.w H s.heap a (.dK kvs) from I.hok a _ ha)
  obtain ⟨ep, hat⟩ := hd.dictAt
  have hl : kvs.length = es.length := Paired.length rk
  have hkeys : es.map (·.1) = is.map Sum.inl := (KV.keys rk).symm.trans hv
  have hil : is.length = es.length := by
    have e := congrArg List.length hkeys
    rw [List.length_map, List.length_map] at e
    exact e.symm
  apply Calls.call_function_entry (kind_sorted) (plain_sorted) (entry_sorted) (args_sorted1 _)
  unfold Builtin.«sorted»
  apply wpAny_bind (m := checkCount "sorted" 1 1 _)
  apply wpAny_pure
  apply wpAny_bind
  refine PySem.W.kdu_collect (PySem.W.kdl_dict (knd := mixKind X.prog X.w) (kvs := es) (ep := ep) lo) (I.ok.hd hc) hat (by rw [← hl]; exact hz) (fun h1 tk acc hk hacc => ?_)
  have hlen : acc.toList.length = is.length := by
    rw [Array.length_toList, hacc.1, hil]
  have hi : IntsAre acc.toList is := ints_by hlen (fun j u i e1 e2 => by
    obtain ⟨k, x, hx, hkk⟩ := hacc.2 j u (by rw [← Array.getElem?_toList]; exact e1)
    have e3 : (es.map (·.1))[j]? = some k := by
      rw [List.getElem?_map, hx]
      rfl
    rw [hkeys, List.getElem?_map, e2] at e3
    cases e3
    exact Value.isInt_shape (k := i) (v := u) hkk)
  have hz1 : acc.toList.length ≤ sizeLine := by
    rw [hlen, hil, ← hl]
    exact hz
  apply wpAny_bind
  refine wpAny_newList ?_ hz1
  have hob : (h1.push (seqObj "list" acc.toList.toArray 0)).get? h1.objs.size = some (seqObj "list" acc.toList.toArray 0) := Heap.get?_push_size _ rfl
  apply wpAny_bind
  apply wpAny_holding
  refine wpAny_call_entry (slot_list_sort) ⟨_, hob, rfl⟩ (entry_list_sort) (SrtO.list_sort_ord SrtO.swo_int hob hz1 (fun h2 => SrtO.ints_sortable hi h2) (fun out o1 o2 => ⟨_, rfl, ?_⟩)) (args_list_sort _)
  obtain ⟨k1, k2, k3⟩ := SrtO.ints_out hi o1 o2
  obtain ⟨ec, hec⟩ := sortedHeap_at (vs := acc.toList) (out := out.toArray) hob
  have hll : ((out.map SrtO.iv).map V.int).length ≤ sizeLine := by
    rw [List.length_map, k2.length_eq, ← hlen]
    exact hz1
  have keep : ∀ b u, s.heap.get? b = some u → (sortedHeap (h1.push (seqObj "list" acc.toList.toArray 0)) h1.objs.size acc.toList out.toArray).get? b = some u := by
    intro b u e
    have e1 := hk b u e
    have hlt := Heap.lt_size e1
    rw [sortedHeap_old (Nat.ne_of_lt hlt) (by rw [size_push']; exact Nat.lt_succ_of_lt hlt)]
    exact Heap.get?_push_of_some _ e1
  have hno : s.heap.get? h1.objs.size = none := by
    cases e : s.heap.get? h1.objs.size with
    | none => rfl
    | some u =>
      exact absurd (Heap.lt_size (hk _ _ e)) (Nat.lt_irrefl _)
  apply wpAny_pure
  exact ⟨_, rfl, .ref _, upd H h1.objs.size (.lst ((out.map SrtO.iv).map V.int)), I.laidN (t' := tk) keep hno (I.hok.gone hno) ⟨hll, out, ec, vals_of_ints k1, hec⟩, rfl, q _ _ k2 k3 (I.hok.gone hno)⟩
end
end Nw
/-! set(xs) of a list of ints, its length, and sorted of it. -/
namespace Nw
open PySem PySem.Spec PyProof.Rows L2
abbrev bareSet (w : World) : Obj := ⟨.type "set", none, .set #[] 0 (.fresh 0 0 (!w.params.followText "set-order")), #[]⟩
section
variable {P : Program} {w : World} {A : Around} {E : Value → Shared → Prop} {s : Shared}
theorem set_of_ints {l : Addr} {xs : Array Value} (ks : List Int) {Q : Value → Shared → Prop} (ah : A.handled = none) (il : s.heap.IsList l xs) (ik : IntsAre xs.toList ks) (few : ks.length + 1 < scanBound)
    (q : ∀ (g : Heap) (k c : Nat), SetR w g s.heap.objs.size (fun j => decide (j ∈ ks)) c → (∀ b u, s.heap.get? b = some u → g.get? b = some u) → Q (.ref s.heap.objs.size) { s with heap := g, toks := k }) :
    wpAny (model P w) A (call (.type "set") [.ref l]) Q E s := by
  have sz : xs.size = ks.length := by have q := IntsAre.length ik; rwa [Array.length_toList] at q
  obtain ⟨c, tl, mro⟩ := PySem.F.called_set.mro
  have made := PySem.F.called_set.made; have sub := PySem.F.called_set.sub
  refine wpAny_call (codeAny_of_tree ?_); show wpAny _ _ (callAny (.type "set") _) _ _ _
  refine wpAny_pure ⟨Code.quiet_builtin _ (by decide +kernel), codeAny_builtin PySem.F.entry_type_call ?_⟩
  rw [Around.under_plain (weight_type_call_type "set" [.ref l] []) rfl]
  have t1 := PySem.F.called_set.notType; have t2 := PySem.F.called_set.canCreate; have t3 := PySem.F.typeCall_set_1 (.ref l)
  repeat (any_goals (first | assumption | wp_step))
  refine codeAny_mono (code_set_led1 (.ref l) (E := E) (Q₁ := fun ob z => ob = .ref s.heap.objs.size ∧ z = { s with heap := s.heap.push (bareSet w) }) ⟨rfl, rfl⟩) fun r z hr => ?_
  match r, hr with
  | .error _, hr => exact hr
  | .ok .next, hr => exact hr.elim
  | .ok .brk, hr => exact hr.elim
  | .ok .cont, hr => exact hr.elim
  | .ok (.ret ob), hr =>
    obtain ⟨rfl, rfl⟩ := hr
    have g0 : (s.heap.push (bareSet w)).get? s.heap.objs.size = some (bareSet w) := Heap.get?_push_size _ rfl
    have ty : Shared.TypeIs { s with heap := s.heap.push (bareSet w) } (.ref s.heap.objs.size) "set" := ⟨_, g0, rfl⟩
    have i1 := PySem.F.called_set.init.lookup; have i2 := PySem.F.called_set.init.bind (.ref s.heap.objs.size)
    repeat (any_goals (first | assumption | wp_step))
    refine codeAny_mono (codeAny_call_builtin (R := wants (fun r z => r = .none ∧ ∃ g k c, z = { s with heap := g, toks := k } ∧ SetR w g s.heap.objs.size (fun j => decide (j ∈ ks)) c ∧ (∀ b u, s.heap.get? b = some u → g.get? b = some u)) E)
      PySem.F.called_set.init.plain PySem.F.entry_set_init (check_set_init_1 ty ?_)) fun r z hr => ?_
    · obtain ⟨⟨oc, od, oe, osl⟩, ho, e1, n, e2⟩ := il
      simp only at e1 e2; subst e1; subst e2
      have lt : l < s.heap.objs.size := Heap.lt_size ho
      have h2 : (s.heap.push (bareSet w)).get? l = some ⟨.type "list", od, .seq xs n, osl⟩ := Heap.get?_push_of_some _ ho
      have sl := PySem.F.sub_list_set; have sf := PySem.F.sub_list_frozenset; have ne : (Value.type "list" == Value.type "dict") = false := by decide
      have il2 : (s.heap.push (bareSet w)).IsList l xs := ⟨_, h2, rfl, n, rfl⟩
      have s1 : (s.heap.push (bareSet w)).objs.size = s.heap.objs.size + 1 := Heap.size_push ..
      unfold Builtin.«set.__init__» noKeywords Builtin.Frozenset.updateFrom
      generalize hy : pyIter = Y
      wp_walk
      subst hy
      refine wpAny_pyIter_list il2 (wpAny_bind (wpAny_runValue ?_))
      have ah3 : A.in1.in1.in1.handled = none := by simp [ah]
      have nI : l ≠ (s.heap.push (bareSet w)).objs.size := fun z => absurd (z.trans s1) (Nat.ne_of_lt (Nat.lt_succ_of_lt lt))
      have nS : s.heap.objs.size ∉ [(s.heap.push (bareSet w)).objs.size, l] := fun z => by
        rw [s1] at z
        rcases List.mem_cons.mp z with z | z
        · exact absurd z (Nat.ne_of_lt (Nat.lt_succ_self _))
        · exact absurd (List.mem_singleton.mp z) (Nat.ne_of_gt lt)
      refine set_update_ints ((Walks.list ah3 _ l nI xs).toS) s.heap.objs.size nS ks sz few (fun i v hv => ?_) (xs.size - 0) 0 _ (by omega) (Nat.zero_le _) ⟨⟨_, Heap.get?_push_size _ rfl, rfl, rfl⟩, (il2.push _)⟩ ⟨0, Nat.le_refl 0, setR_new_at (Heap.get?_push_of_some _ g0)⟩ ?_
      · have hv' : xs[i]? = some v := hv
        have hi : i < ks.length := by rw [← sz]; exact (Array.getElem?_eq_some_iff.mp hv').1
        obtain ⟨t, e⟩ := IntsAre.int_at ik i v (by rw [Array.getElem?_toList]; exact hv')
        refine ⟨ks[i], t, List.getElem?_eq_getElem hi, ?_⟩
        rw [e, List.getD_eq_getElem?_getD, List.getElem?_eq_getElem hi]; rfl
      · intro z c hm _ hz
        obtain ⟨g, gs, dr, tk, os⟩ := z
        obtain rfl : gs = s.gens := hm.gens
        obtain rfl : dr = s.drawn := hm.drawn
        obtain rfl : os = s.os := hm.os
        show wpAny _ _ _ _ _ _
        refine wpAny_pure ?_; show wpAny _ _ (ret Value.none) _ _ _
        refine wpAny_pure ⟨rfl, g, tk, c, rfl, hz, fun b u e => ?_⟩
        have bl := Heap.lt_size e
        refine hm.heap b u ?_ (Heap.get?_push_of_some _ (Heap.get?_push_of_some _ e))
        intro z
        rcases List.mem_cons.mp z with z | z
        · exact absurd z (Nat.ne_of_lt bl)
        · exact absurd ((List.mem_singleton.mp z).trans s1) (Nat.ne_of_lt (Nat.lt_succ_of_lt bl))
    · match r, hr with
      | .error _, hr => exact hr
      | .ok .next, hr => exact hr.elim
      | .ok .brk, hr => exact hr.elim
      | .ok .cont, hr => exact hr.elim
      | .ok (.ret _), hr =>
        obtain ⟨rfl, g, k, c, rfl, hz, hk⟩ := hr
        repeat (any_goals (first | assumption | wp_step))
        exact q _ _ _ hz hk
end
/-- how many there are -/
def Cnt (S : Int → Bool) (n : Nat) : Prop := ∃ L : List Int, L.Nodup ∧ (∀ k, k ∈ L ↔ S k = true) ∧ L.length = n
theorem SetR.cnt {w : World} {h : Heap} {a : Addr} {S : Int → Bool} {n : Nat} (R : SetR w h a S n) : Cnt S n := by
  obtain ⟨o, es, ep, t, _, _, _, _, nd, hm, _, _, hn, _⟩ := R
  exact ⟨_, nd, fun k => (hm k).symm, by rw [List.length_map, Array.length_toList]; exact hn⟩
def rSetI (K : PySem.W.Frag) (w : World) : List V → Hp → VK → Prop := fun vs H Q => ∃ (l : Addr) (ks : List Int), vs = [.ref l] ∧ SqL K H l (ks.map V.int) ∧ ks.length ≤ 2000 ∧
  ∀ p n, H p = none → Cnt (fun j => decide (j ∈ ks)) n → Q (.ref p) (upd H p (SetO w p (fun j => decide (j ∈ ks)) n))
section
variable {X : Cx}
theorem cr_setI (hc : X.calm = true) : CallR X (.type "set") (rSetI X.K X.w) := by
  intro pins s σ H vs us Q I r h
  obtain ⟨l, ks, rfl, hl, hz, q⟩ := h
  rw [Vals.ref1 r]
  obtain ⟨its, rv, ⟨⟨cls, dd, data, sl⟩, n, e, hc0, _, hd⟩, _⟩ := I.list hl
  simp only at hc0 hd
  subst hc0; subst hd
  refine set_of_ints ks (I.ok.hd hc) ⟨_, e, rfl, n, rfl⟩ (by simpa using ints_of_vals rv) (by unfold scanBound; omega) fun g k c R hk => ?_
  have hn : H s.heap.objs.size = none := I.fresh
  have hno : s.heap.get? s.heap.objs.size = none := by
    cases e2 : s.heap.get? s.heap.objs.size with
    | none => rfl
    | some u => exact absurd (Heap.lt_size e2) (Nat.lt_irrefl _)
  exact ⟨.ref _, _, I.laidN (t' := k) hk hno hn (setO_new R), rfl, q _ _ hn (SetR.cnt R)⟩
end
end Nw
/-! Forcing, as numbers: what a source can force, what is left in the end, the rounds, the rows. -/
namespace Nw
open PySem PySem.Spec PyProof.Rows L2
def kindS (st : Bool) : Str := if st = true then "steady" else "still"
def aimB (u : Wb) (st : Bool) (s t : Int) : Bool := u.lines.contains (s, t) || (st && decide (s = t))
/-- the aims of a source -/
def aims (u : Wb) (st : Bool) (s : Int) : List Int := (iota u.n).filter (aimB u st s)
/-- a quantity that acts on itself, for the kind steady -/
def ownB (u : Wb) (st : Bool) (s : Int) : Bool := st && u.ps.contains (s, s)
/-- what a source can force while some are open -/
def fcd (u : Wb) (st : Bool) (l : List Int) (s : Int) : Option Int :=
  match (aims u st s).filter l.contains with
  | [x] => if ownB u st s = true ∧ x = s then none else some x
  | _ => none
abbrev srcN (u : Wb) : Nat := (u.n + (u.ns.length : Int)).toNat
theorem mem_rowOf {ls : List (Int × Int)} {s t : Int} : t ∈ rowOf ls s ↔ (s, t) ∈ ls := by
  unfold rowOf
  rw [List.mem_map]
  constructor
  · rintro ⟨⟨a, b⟩, h, rfl⟩
    obtain ⟨h1, h2⟩ := List.mem_filter.mp h
    obtain rfl : a = s := by simpa using h2
    exact h1
  · intro h
    exact ⟨(s, t), List.mem_filter.mpr ⟨h, by simp⟩, rfl⟩
theorem asc_rowOf {ls : List (Int × Int)} (h : ascB ltPr ls = true) (s : Int) : ascB ltIn (rowOf ls s) = true := by
  unfold rowOf
  refine asc_pw (List.pairwise_map.mpr ?_)
  refine ((pw_asc h).filter _).imp_of_mem fun {p q} hp hq hl => ?_
  have h1 := (List.mem_filter.mp hp).2
  have h2 := (List.mem_filter.mp hq).2
  have e1 : p.1 = s := by simpa using h1
  have e2 : q.1 = s := by simpa using h2
  have h3 := ltPr_iff.mp hl
  unfold ltIn
  rw [decide_eq_true_eq]
  omega
theorem mem_aims {u : Wb} {st : Bool} {s t : Int} : t ∈ aims u st s ↔ (0 ≤ t ∧ t < u.n) ∧ aimB u st s t = true := by
  unfold aims
  rw [List.mem_filter, mem_iota]
theorem asc_aims {u : Wb} {st : Bool} {s : Int} : ascB ltIn (aims u st s) = true := asc_filter (asc_iota _)
theorem nd_aims {u : Wb} {st : Bool} {s : Int} : (aims u st s).Nodup := nodup_ascI asc_aims
theorem aims_len {u : Wb} (hu : u.Ok) {st : Bool} {s : Int} : (aims u st s).length ≤ 20 := by
  have h := List.length_filter_le (aimB u st s) (iota u.n)
  rw [List.length_map, List.length_range] at h
  have := hu.hi
  unfold aims
  omega
/-- the rows as they stand are the aims of the kind still, and of a nudge -/
theorem aims_row {u : Wb} (hu : u.Ok) {st : Bool} {s : Int} (h : st = false ∨ u.n ≤ s ∨ s ∈ rowOf u.lines s) : rowOf u.lines s = aims u st s := by
  refine ascI_ext (asc_rowOf hu.lines_asc s) asc_aims fun t => ?_
  rw [mem_aims, mem_rowOf]
  unfold aimB
  rw [Bool.or_eq_true, List.contains_iff_mem, Bool.and_eq_true, decide_eq_true_eq]
  constructor
  · intro ht
    exact ⟨(hu.line _ ht).2, .inl ht⟩
  · rintro ⟨ht, h1 | ⟨h1, h2⟩⟩
    · exact h1
    · rcases h with h | h | h
      · rw [h] at h1
        cases h1
      · omega
      · rw [← h2]
        exact mem_rowOf.mp h
theorem aims_own {u : Wb} (hu : u.Ok) {s : Int} (hs : 0 ≤ s ∧ s < u.n) (h : s ∉ rowOf u.lines s) {m : List Int} (hp : m.Perm (rowOf u.lines s ++ [s])) (hw : m.Pairwise (· ≤ ·)) : m = aims u true s := by
  have nd : (rowOf u.lines s ++ [s]).Nodup := nodup_snoc (nodup_ascI (asc_rowOf hu.lines_asc s)) h
  refine ascI_ext (asc_sortedI hp hw nd) asc_aims fun t => ?_
  rw [mem_aims, hp.mem_iff, List.mem_append, List.mem_singleton, mem_rowOf]
  unfold aimB
  rw [Bool.or_eq_true, List.contains_iff_mem, Bool.and_eq_true, decide_eq_true_eq]
  constructor
  · rintro (ht | rfl)
    · exact ⟨(hu.line _ ht).2, .inl ht⟩
    · exact ⟨hs, .inr ⟨rfl, rfl⟩⟩
  · rintro ⟨ht, h1 | ⟨h1, h2⟩⟩
    · exact .inl h1
    · exact .inr h2.symm
theorem own_row {u : Wb} (hu : u.Ok) {s : Int} (hs : s < u.n) : u.ps.contains (s, s) = (rowOf u.lines s).contains s := by
  rw [row_low hu hs, Bool.eq_iff_iff, List.contains_iff_mem, List.contains_iff_mem, mem_rowOf]
theorem own_no {u : Wb} (hu : u.Ok) {st : Bool} {s : Int} (hs : u.n ≤ s) : ownB u st s = false := by
  unfold ownB
  have h : u.ps.contains (s, s) = false := by
    rw [Bool.eq_false_iff]
    intro h
    have := (hu.ps _ (List.contains_iff_mem.mp h)).1
    simp at this
    omega
  rw [h, Bool.and_false]
/-! ### one by one -/
theorem nd_two {α : Type} {l : List α} (nd : l.Nodup) {x : α} (h : ∀ y ∈ l, y = x) (hx : x ∈ l) : l = [x] := by
  match l, nd, h, hx with
  | [y], _, h, _ => rw [h y (by simp)]
  | y :: z :: r, nd, h, _ =>
    have h1 := h y (by simp)
    have h2 := h z (by simp)
    rw [h1, h2] at nd
    simp at nd
theorem fcd_some {u : Wb} {st : Bool} {l : List Int} {s x : Int} : fcd u st l s = some x ↔ (x ∈ aims u st s ∧ x ∈ l ∧ ∀ y, y ∈ aims u st s → y ∈ l → y = x) ∧ ¬ (ownB u st s = true ∧ x = s) := by
  have nd : ((aims u st s).filter l.contains).Nodup := nd_aims.filter _
  have mem : ∀ y, y ∈ (aims u st s).filter l.contains ↔ y ∈ aims u st s ∧ y ∈ l := fun y => by rw [List.mem_filter, List.contains_iff_mem]
  unfold fcd
  constructor
  · intro h
    match e : (aims u st s).filter l.contains, h with
    | [y], h =>
      simp only at h
      split at h
      · cases h
      · rename_i hn
        obtain rfl : y = x := Option.some.inj h
        have m1 : ∀ z, (z ∈ aims u st s ∧ z ∈ l) ↔ z = y := fun z => (mem z).symm.trans (by rw [e]; exact List.mem_singleton)
        refine ⟨⟨((m1 y).mpr rfl).1, ((m1 y).mpr rfl).2, fun z h1 h2 => (m1 z).mp ⟨h1, h2⟩⟩, hn⟩
  · rintro ⟨⟨h1, h2, h3⟩, hn⟩
    have e : (aims u st s).filter l.contains = [x] := nd_two nd (fun y hy => h3 y ((mem y).mp hy).1 ((mem y).mp hy).2) ((mem x).mpr ⟨h1, h2⟩)
    rw [e]
    simp only
    rw [if_neg hn]
abbrev InSrc (u : Wb) (s : Int) : Prop := 0 ≤ s ∧ s < u.n + (u.ns.length : Int)
/-- no source can force anything -/
def Stk (u : Wb) (st : Bool) (l : List Int) : Prop := ∀ s, InSrc u s → fcd u st l s = none
theorem fcd_sub {u : Wb} {st : Bool} {l F : List Int} {s x : Int} (h : fcd u st l s = some x) (sub : ∀ y ∈ F, y ∈ l) (hx : x ∈ F) : fcd u st F s = some x := by
  obtain ⟨⟨h1, h2, h3⟩, hn⟩ := fcd_some.mp h
  exact fcd_some.mpr ⟨⟨h1, hx, fun y hy hF => h3 y hy (sub y hF)⟩, hn⟩
theorem Stk.keep {u : Wb} {st : Bool} {l F : List Int} (hF : Stk u st F) (sub : ∀ y ∈ F, y ∈ l) {s x : Int} (hs : InSrc u s) (h : fcd u st l s = some x) : x ∉ F := fun hx => by
  have h1 := fcd_sub h sub hx
  rw [hF s hs] at h1
  cases h1
/-- what is left: as much as any that no source can force -/
structure Rest (u : Wb) (st : Bool) (l : List Int) : Prop where
  asc : ascB ltIn l = true
  inn : ∀ x ∈ l, 0 ≤ x ∧ x < u.n
  most : ∀ F : List Int, (∀ x ∈ F, 0 ≤ x ∧ x < u.n) → Stk u st F → ∀ x ∈ F, x ∈ l
theorem Rest.all {u : Wb} {st : Bool} : Rest u st (iota u.n) := ⟨asc_iota _, fun x hx => mem_iota.mp hx, fun F hF _ x hx => mem_iota.mpr (hF x hx)⟩
theorem Rest.len {u : Wb} (hu : u.Ok) {st : Bool} {l : List Int} (h : Rest u st l) : l.length ≤ 20 := by
  have h1 := asc_len l 0 h.inn h.asc
  have := hu.hi
  omega
theorem Rest.nd {u : Wb} {st : Bool} {l : List Int} (h : Rest u st l) : l.Nodup := nodup_ascI h.asc
theorem Rest.uniq {u : Wb} {st : Bool} {l m : List Int} (h : Rest u st l) (g : Rest u st m) (hl : Stk u st l) (hm : Stk u st m) : l = m :=
  ascI_ext h.asc g.asc fun x => ⟨fun hx => g.most l h.inn hl x hx, fun hx => h.most m g.inn hm x hx⟩
theorem Rest.minus {u : Wb} {st : Bool} {l : List Int} (h : Rest u st l) {p : Int → Bool} (hp : ∀ x ∈ l, p x = false → ∃ s, InSrc u s ∧ fcd u st l s = some x) : Rest u st (l.filter p) := by
  refine ⟨asc_filter h.asc, fun x hx => h.inn x (List.mem_filter.mp hx).1, fun F hF sF x hx => ?_⟩
  have hl := h.most F hF sF
  refine List.mem_filter.mpr ⟨hl x hx, ?_⟩
  cases e : p x with
  | true => rfl
  | false =>
    obtain ⟨s, hs, hf⟩ := hp x (hl x hx) e
    exact absurd hx (sF.keep hl hs hf)
theorem erase_filter {l : List Int} (nd : l.Nodup) (x : Int) : l.erase x = l.filter fun y => decide (y ≠ x) := by
  rw [nd.erase_eq_filter]
  refine List.filter_congr fun y _ => ?_
  by_cases h : y = x
  · subst h
    simp
  · simp [h]
theorem Rest.erase {u : Wb} {st : Bool} {l : List Int} (h : Rest u st l) {s x : Int} (hs : InSrc u s) (hf : fcd u st l s = some x) : Rest u st (l.erase x) := by
  rw [erase_filter h.nd]
  refine h.minus fun y _ hy => ⟨s, hs, ?_⟩
  have : y = x := by simpa using hy
  rw [this]
  exact hf
theorem stk_nil {u : Wb} {st : Bool} : Stk u st [] := fun s _ => by
  cases h : fcd u st [] s with
  | none => rfl
  | some x =>
    have := (fcd_some.mp h).1.2.1
    cases this
/-! ### who can force what -/
/-- the sources that can force one of those that are open, each with it -/
def able (u : Wb) (st : Bool) (l : List Int) : Nat → List (Int × Int)
  | 0 => []
  | i + 1 => match fcd u st l (i : Int) with
    | none => able u st l i
    | some q => able u st l i ++ [((i : Int), q)]
theorem mem_able {u : Wb} {st : Bool} {l : List Int} {s q : Int} : ∀ {i : Nat}, (s, q) ∈ able u st l i ↔ (0 ≤ s ∧ s < (i : Int)) ∧ fcd u st l s = some q
  | 0 => by
    unfold able
    simp
    omega
  | i + 1 => by
    have ih := mem_able (u := u) (st := st) (l := l) (s := s) (q := q) (i := i)
    unfold able
    by_cases e : s = (i : Int)
    · subst e
      cases h : fcd u st l (i : Int) with
      | none =>
        simp only
        rw [ih]
        simp [h]
      | some r =>
        simp only
        rw [List.mem_append, ih, List.mem_singleton, Prod.mk.injEq]
        simp [h]
        constructor
        · intro h1
          exact ⟨by omega, h1.symm⟩
        · intro h1
          exact h1.2.symm
    · cases h : fcd u st l (i : Int) with
      | none =>
        simp only
        rw [ih]
        constructor
        · rintro ⟨h1, h2⟩
          exact ⟨by omega, h2⟩
        · rintro ⟨h1, h2⟩
          exact ⟨by omega, h2⟩
      | some r =>
        simp only
        rw [List.mem_append, ih, List.mem_singleton, Prod.mk.injEq]
        constructor
        · rintro (⟨h1, h2⟩ | ⟨h1, _⟩)
          · exact ⟨by omega, h2⟩
          · exact absurd h1 e
        · rintro ⟨h1, h2⟩
          exact .inl ⟨by omega, h2⟩
theorem able_len {u : Wb} {st : Bool} {l : List Int} : ∀ {i : Nat}, (able u st l i).length ≤ i
  | 0 => Nat.le_refl _
  | i + 1 => by
    have ih := able_len (u := u) (st := st) (l := l) (i := i)
    unfold able
    split
    · omega
    · rw [List.length_append, List.length_singleton]
      omega
theorem src_cast (u : Wb) (hu : u.Ok) : ((srcN u : Nat) : Int) = u.n + (u.ns.length : Int) := by
  have := hu.lo
  unfold srcN
  omega
abbrev ableA (u : Wb) (st : Bool) (l : List Int) : List (Int × Int) := able u st l (srcN u)
theorem mem_ableA {u : Wb} (hu : u.Ok) {st : Bool} {l : List Int} {s q : Int} : (s, q) ∈ ableA u st l ↔ InSrc u s ∧ fcd u st l s = some q := by
  unfold ableA
  rw [mem_able, src_cast u hu]
theorem able_stk {u : Wb} (hu : u.Ok) {st : Bool} {l : List Int} : ableA u st l = [] ↔ Stk u st l := by
  constructor
  · intro h s hs
    cases e : fcd u st l s with
    | none => rfl
    | some q =>
      have := (mem_ableA hu).mpr ⟨hs, e⟩
      rw [h] at this
      cases this
  · intro h
    rw [List.eq_nil_iff_forall_not_mem]
    rintro ⟨s, q⟩ hm
    obtain ⟨h1, h2⟩ := (mem_ableA hu).mp hm
    rw [h s h1] at h2
    cases h2
/-- all that can be forced at once -/
def rnd (u : Wb) (st : Bool) (l : List Int) : List Int := (iota u.n).filter fun q => (ableA u st l).any fun p => p.2 == q
theorem mem_rnd {u : Wb} (hu : u.Ok) {st : Bool} {l : List Int} {q : Int} : q ∈ rnd u st l ↔ ∃ s, (s, q) ∈ ableA u st l := by
  unfold rnd
  rw [List.mem_filter, List.any_eq_true, mem_iota]
  constructor
  · rintro ⟨_, ⟨s, q'⟩, h, e⟩
    obtain rfl : q' = q := by simpa using e
    exact ⟨s, h⟩
  · rintro ⟨s, h⟩
    have h1 := (fcd_some.mp ((mem_ableA hu).mp h).2).1.1
    exact ⟨(mem_aims.mp h1).1, (s, q), h, by simp⟩
theorem asc_rnd {u : Wb} {st : Bool} {l : List Int} : ascB ltIn (rnd u st l) = true := asc_filter (asc_iota _)
theorem rnd_nil {u : Wb} (hu : u.Ok) {st : Bool} {l : List Int} : rnd u st l = [] ↔ ableA u st l = [] := by
  constructor
  · intro h
    rw [List.eq_nil_iff_forall_not_mem]
    rintro ⟨s, q⟩ hm
    have := (mem_rnd hu).mpr ⟨s, hm⟩
    rw [h] at this
    cases this
  · intro h
    rw [List.eq_nil_iff_forall_not_mem]
    intro q hq
    obtain ⟨s, hs⟩ := (mem_rnd hu).mp hq
    rw [h] at hs
    cases hs
theorem rnd_in {u : Wb} (hu : u.Ok) {st : Bool} {l : List Int} {q : Int} (h : q ∈ rnd u st l) : (0 ≤ q ∧ q < u.n) ∧ q ∈ l := by
  obtain ⟨s, hs⟩ := (mem_rnd hu).mp h
  have h1 := (fcd_some.mp ((mem_ableA hu).mp hs).2).1
  exact ⟨(mem_aims.mp h1.1).1, h1.2.1⟩
/-- without them -/
def less (u : Wb) (st : Bool) (l : List Int) : List Int := l.filter fun q => !(rnd u st l).contains q
theorem Rest.less {u : Wb} (hu : u.Ok) {st : Bool} {l : List Int} (h : Rest u st l) : Rest u st (less u st l) := by
  refine h.minus fun x _ hx => ?_
  have hx' : x ∈ rnd u st l := by simpa using hx
  obtain ⟨s, hs⟩ := (mem_rnd hu).mp hx'
  exact ⟨s, (mem_ableA hu).mp hs⟩
theorem less_lt {u : Wb} (hu : u.Ok) {st : Bool} {l : List Int} (h : rnd u st l ≠ []) : (less u st l).length < l.length := by
  obtain ⟨q, hq⟩ := List.exists_mem_of_ne_nil _ h
  have h1 := (rnd_in hu hq).2
  have := filter_more (p := fun q => !(rnd u st l).contains q) (q := fun _ => true) (fun _ _ => rfl) h1 rfl (by simpa using hq)
  rw [filter_true] at this
  exact this
/-- the rounds -/
inductive Rnds (u : Wb) (st : Bool) : List Int → List (List Int) → Prop
  | nil {l : List Int} : rnd u st l = [] → Rnds u st l []
  | cons {l : List Int} {ds : List (List Int)} : rnd u st l ≠ [] → Rnds u st (less u st l) ds → Rnds u st l (rnd u st l :: ds)
theorem Rnds.uniq {u : Wb} {st : Bool} {l : List Int} {ds es : List (List Int)} (h : Rnds u st l ds) (g : Rnds u st l es) : ds = es := by
  induction h generalizing es with
  | nil e =>
    cases g with
    | nil _ => rfl
    | cons e2 _ => exact absurd e e2
  | cons e _ ih =>
    cases g with
    | nil e2 => exact absurd e2 e
    | cons _ g => rw [ih g]
/-- the row with the least ones -/
def IsLeast (P : Int → Prop) (x : Int) : Prop := P x ∧ ∀ y, P y → x ≤ y
theorem IsLeast.uniq {P : Int → Prop} {x y : Int} (h : IsLeast P x) (g : IsLeast P y) : x = y := by
  have h1 := h.2 y g.1
  have h2 := g.2 x h.1
  omega
structure Pick (u : Wb) (st : Bool) (l : List Int) (s q : Int) : Prop where
  qq : IsLeast (fun (y : Int) => ∃ z : Int, (z, y) ∈ ableA u st l) q
  ss : IsLeast (fun (z : Int) => (z, q) ∈ ableA u st l) s
inductive LRow (u : Wb) (st : Bool) : List Int → List (Int × Int) → Prop
  | nil {l : List Int} : ableA u st l = [] → LRow u st l []
  | cons {l : List Int} {s q : Int} {row : List (Int × Int)} : Pick u st l s q → LRow u st (l.erase q) row → LRow u st l ((s, q) :: row)
theorem LRow.uniq {u : Wb} {st : Bool} {l : List Int} {a b : List (Int × Int)} (h : LRow u st l a) (g : LRow u st l b) : a = b := by
  induction h generalizing b with
  | nil e =>
    cases g with
    | nil _ => rfl
    | cons p _ =>
      have := p.ss.1
      rw [e] at this
      cases this
  | cons p _ ih =>
    cases g with
    | nil e =>
      have := p.ss.1
      rw [e] at this
      cases this
    | cons p2 g =>
      have e1 := p.qq.uniq p2.qq
      subst e1
      have e2 := p.ss.uniq p2.ss
      subst e2
      rw [ih g]
/-- any row: each can force its quantity while those ahead are forced -/
inductive VRow (u : Wb) (st : Bool) : List Int → List (Int × Int) → List Int → Prop
  | nil {l : List Int} : VRow u st l [] l
  | cons {l m : List Int} {s q : Int} {row : List (Int × Int)} : (s, q) ∈ ableA u st l → VRow u st (l.erase q) row m → VRow u st l ((s, q) :: row) m
theorem VRow.snoc {u : Wb} {st : Bool} {l m : List Int} {row : List (Int × Int)} (h : VRow u st l row m) {s q : Int} (g : (s, q) ∈ ableA u st m) : VRow u st l (row ++ [(s, q)]) (m.erase q) := by
  induction h with
  | nil => exact .cons g .nil
  | cons e _ ih => exact .cons e (ih g)
theorem VRow.rest {u : Wb} (hu : u.Ok) {st : Bool} {l m : List Int} {row : List (Int × Int)} (h : VRow u st l row m) (hl : Rest u st l) : Rest u st m := by
  induction h with
  | nil => exact hl
  | cons e _ ih =>
    obtain ⟨h1, h2⟩ := (mem_ableA hu).mp e
    exact ih (hl.erase h1 h2)
theorem LRow.vrow {u : Wb} {st : Bool} {l : List Int} {row : List (Int × Int)} (h : LRow u st l row) : ∃ m, VRow u st l row m ∧ ableA u st m = [] := by
  induction h with
  | nil e => exact ⟨_, .nil, e⟩
  | cons p _ ih =>
    obtain ⟨m, h1, h2⟩ := ih
    exact ⟨m, .cons p.ss.1 h1, h2⟩
/-- the pair that a datum is -/
def prOf : PyData → Option (Int × Int)
  | .tuple [.int a, .int b] => some (a, b)
  | _ => none
theorem prOf_some {d : PyData} {p : Int × Int} (h : prOf d = some p) : d = dPair p := by
  unfold prOf at h
  split at h
  · cases h
    rfl
  · cases h
theorem prOf_pair (p : Int × Int) : prOf (dPair p) = some p := rfl
theorem tupB_none {d : PyData} {m n : Int} (h : prOf d = none) : tupB d m n = false := by
  cases e : tupB d m n with
  | false => rfl
  | true =>
    obtain ⟨i, j, rfl, _⟩ := tupB_inv e
    cases h
theorem tupB_pair {p : Int × Int} {m n : Int} : tupB (dPair p) m n = (decide (0 ≤ p.1 ∧ p.1 < m) && decide (0 ≤ p.2 ∧ p.2 < n)) := by
  unfold dPair tupB numB
  simp [Bool.decide_and]
/-- whether any value is a forcing row -/
def frowD (u : Wb) (st : Bool) : List Int → List PyData → Bool
  | l, [] => l.isEmpty
  | l, d :: ds => match prOf d with
    | some p => (decide (InSrc u p.1) && (fcd u st l p.1 == some p.2)) && frowD u st (l.erase p.2) ds
    | none => false
def frowB (u : Wb) (st : Bool) : PyData → Bool
  | .list ds => frowD u st (iota u.n) ds
  | _ => false
theorem frow_of {u : Wb} (hu : u.Ok) {st : Bool} {l m : List Int} {row : List (Int × Int)} (h : VRow u st l row m) : frowD u st l (row.map dPair) = m.isEmpty := by
  induction h with
  | nil => rfl
  | cons e _ ih =>
    obtain ⟨h1, h2⟩ := (mem_ableA hu).mp e
    show ((decide _ && _) && frowD u st _ _) = _
    rw [ih, decide_eq_true h1, h2]
    simp
end Nw
/-! Rules of sets of ints and of dicts, by the written part's own name. -/
namespace Nw
open PySem PySem.Spec PyProof.Rows L2
section
variable {X : Cx}
theorem cr_setIK (K : PySem.W.Frag) (w : World) (hc : X.calm = true) (hK : X.K = K := by rfl) (hw : X.w = w := by rfl) : CallR X (.type "set") (rSetI K w) := by
  subst hK hw
  exact cr_setI hc
theorem cr_sortedSetK (w : World) (hc : X.calm = true) (hw : X.w = w := by rfl) : CallR X (.builtin "sorted") (rSortedSet w) := by
  subst hw
  exact cr_sortedSet hc
theorem pe_dget1K {k : Nat} {o e : Expr} {td ty : TE} {apos cpos : Pos} (hr : Room k X.A) (ho : PE X o td) (he : PE X e ty) (m : M1 X o "get" apos e cpos) : PE X (.Call (.Attribute o "get" apos) [e] [] cpos) (tDGet1 td ty) := pe_dget1 (by have := hr.un; omega) ho he m
end
theorem inV_int {q : Int} {r : List Int} : inV (.int q) (r.map V.int) = r.contains q := by
  rw [Bool.eq_iff_iff]
  unfold inV
  rw [List.any_map, List.any_eq_true, List.contains_iff_mem]
  constructor
  · rintro ⟨y, hy, h⟩
    have : y = q := by simpa [eqV] using h
    rw [← this]
    exact hy
  · intro h
    exact ⟨q, h, by simp [eqV]⟩
theorem in_int {q : Int} {r : List Int} : (if false = true then !inV (.int q) (r.map V.int) else inV (.int q) (r.map V.int)) = r.contains q := inV_int
theorem notin_int {q : Int} {r : List Int} : (if true = true then !inV (.int q) (r.map V.int) else inV (.int q) (r.map V.int)) = !r.contains q := congrArg not inV_int
theorem flat_ints {r : List Int} : (r.map V.int).all flatV = true := by
  rw [List.all_map, List.all_eq_true]
  intro x _
  rfl
/-- what sorted(set(xs)) gives: ascending, the same members -/
theorem sortedSet_of {ks ns : List Int} (h1 : ns.Pairwise (· < ·)) (h2 : ∀ k : Int, k ∈ ns ↔ decide (k ∈ ks) = true) : ascB ltIn ns = true ∧ ∀ k, k ∈ ns ↔ k ∈ ks :=
  ⟨asc_pw (h1.imp fun h => by unfold ltIn; rw [decide_eq_true_eq]; exact h), fun k => (h2 k).trans decide_eq_true_iff⟩
/-- the quantities that can be forced, each with the least source, in the sequence of the sources -/
def lsq (u : Wb) (st : Bool) (l : List Int) : Nat → List (Int × Int)
  | 0 => []
  | i + 1 => match fcd u st l (i : Int) with
    | none => lsq u st l i
    | some q => if (lsq u st l i).any (fun p => p.1 == q) = true then lsq u st l i else lsq u st l i ++ [(q, (i : Int))]
def kvI (ps : List (Int × Int)) : List (Key × V) := ps.map fun p => (Sum.inl p.1, V.int p.2)
theorem kvI_get : ∀ {ps : List (Int × Int)} {q : Int}, valV (kvI ps) (Sum.inl q) = (ps.find? fun p => p.1 == q).map fun p => V.int p.2
  | [], _ => rfl
  | p :: ps, q => by
    have ih := kvI_get (ps := ps) (q := q)
    unfold valV kvI at ih ⊢
    rw [List.map_cons, List.find?_cons, List.find?_cons]
    by_cases h : p.1 = q
    · subst h
      simp
    · have h1 : decide ((Sum.inl p.1 : Key) = Sum.inl q) = false := decide_eq_false fun e => h (Sum.inl.inj e)
      have h2 : (p.1 == q) = false := by simpa using h
      simp only [h1, h2]
      exact ih
theorem find_none {ps : List (Int × Int)} {q : Int} : (ps.find? fun p => p.1 == q) = none ↔ ps.any (fun p => p.1 == q) = false := by
  rw [List.find?_eq_none, List.any_eq_false]
theorem kvI_put {ps : List (Int × Int)} {q : Int} {s : Int} (h : ps.any (fun p => p.1 == q) = false) : putK (kvI ps) (Sum.inl q) (V.int s) = kvI (ps ++ [(q, s)]) := by
  unfold putK kvI
  rw [if_neg, List.map_append]
  · rfl
  · rw [Bool.not_eq_true, List.any_map, ← h]
    refine List.any_congr rfl fun p => ?_
    show decide ((Sum.inl p.1 : Key) = Sum.inl q) = (p.1 == q)
    by_cases e : p.1 = q
    · simp [e]
    · rw [decide_eq_false fun z => e (Sum.inl.inj z)]
      simp [e]
theorem kvI_keys (ps : List (Int × Int)) : (kvI ps).map (·.1) = (ps.map (·.1)).map Sum.inl := by
  unfold kvI
  rw [List.map_map, List.map_map]
  rfl
theorem lsq_keys {u : Wb} {st : Bool} {l : List Int} : ∀ {i : Nat}, ((lsq u st l i).map (·.1)).Nodup
  | 0 => List.nodup_nil
  | i + 1 => by
    have ih := lsq_keys (u := u) (st := st) (l := l) (i := i)
    unfold lsq
    split
    · exact ih
    · split
      · exact ih
      · rename_i q _ h
        rw [List.map_append]
        refine nodup_snoc ih fun hm => h ?_
        obtain ⟨p, hp, e⟩ := List.mem_map.mp hm
        exact List.any_eq_true.mpr ⟨p, hp, by simpa using e⟩
theorem lsq_len {u : Wb} {st : Bool} {l : List Int} : ∀ {i : Nat}, (lsq u st l i).length ≤ i
  | 0 => Nat.le_refl _
  | i + 1 => by
    have ih := lsq_len (u := u) (st := st) (l := l) (i := i)
    unfold lsq
    split
    · omega
    · split
      · omega
      · rw [List.length_append, List.length_singleton]
        omega
theorem mem_lsq {u : Wb} {st : Bool} {l : List Int} {q s : Int} : ∀ {i : Nat}, (q, s) ∈ lsq u st l i ↔ IsLeast (fun z => (z, q) ∈ able u st l i) s
  | 0 => by
    unfold lsq IsLeast able
    simp
  | i + 1 => by
    have ih := mem_lsq (u := u) (st := st) (l := l) (q := q) (s := s) (i := i)
    have low : ∀ z q, (z, q) ∈ able u st l i → z < (i : Int) := fun z q h => (mem_able.mp h).1.2
    have key : ∀ y, (lsq u st l i).any (fun p => p.1 == y) = true ↔ ∃ z, (z, y) ∈ able u st l i := fun y => by
      rw [List.any_eq_true]
      constructor
      · rintro ⟨⟨a, b⟩, h, e⟩
        obtain rfl : a = y := by simpa using e
        have h1 := (mem_lsq (u := u) (st := st) (l := l) (q := a) (s := b) (i := i)).mp h
        exact ⟨b, h1.1⟩
      · rintro ⟨z, hz⟩
        have : ∃ m, IsLeast (fun z => (z, y) ∈ able u st l i) m := by
          have h0 := (mem_able.mp hz).1
          have hex : ∃ k : Nat, ((k : Int), y) ∈ able u st l i := ⟨z.toNat, by rw [Int.toNat_of_nonneg h0.1]; exact hz⟩
          have hmin : ∃ k : Nat, ((k : Int), y) ∈ able u st l i ∧ ∀ j : Nat, j < k → ((j : Int), y) ∉ able u st l i := by
            obtain ⟨k, hk⟩ := hex
            induction k using Nat.strongRecOn with
            | ind k ihk =>
              by_cases hj : ∃ j : Nat, j < k ∧ ((j : Int), y) ∈ able u st l i
              · obtain ⟨j, h1, h2⟩ := hj
                exact ihk j h1 h2
              · exact ⟨k, hk, fun j hjk hm => hj ⟨j, hjk, hm⟩⟩
          obtain ⟨k, hk, hl⟩ := hmin
          refine ⟨k, hk, fun m hm => ?_⟩
          have h1 := (mem_able.mp hm).1
          by_cases hlt : m < (k : Int)
          · exact absurd (by rw [Int.toNat_of_nonneg h1.1]; exact hm) (hl m.toNat (by omega))
          · omega
        obtain ⟨m, hm⟩ := this
        exact ⟨(y, m), (mem_lsq (u := u) (st := st) (l := l) (q := y) (s := m) (i := i)).mpr hm, by simp⟩
    unfold lsq
    have e : able u st l (i + 1) = match fcd u st l (i : Int) with
      | none => able u st l i
      | some q => able u st l i ++ [((i : Int), q)] := rfl
    rw [e]
    cases hf : fcd u st l (i : Int) with
    | none => exact ih
    | some r =>
      simp only
      by_cases hk : (lsq u st l i).any (fun p => p.1 == r) = true
      · rw [if_pos hk, ih]
        obtain ⟨z0, hz0⟩ := (key r).mp hk
        have hlt := low _ _ hz0
        unfold IsLeast
        constructor
        · rintro ⟨h1, h2⟩
          refine ⟨List.mem_append.mpr (.inl h1), fun y hy => ?_⟩
          rcases List.mem_append.mp hy with hy | hy
          · exact h2 y hy
          · have e2 := List.mem_singleton.mp hy
            rw [Prod.mk.injEq] at e2
            have := low _ _ h1
            omega
        · rintro ⟨h1, h2⟩
          rcases List.mem_append.mp h1 with h1 | h1
          · exact ⟨h1, fun y hy => h2 y (List.mem_append.mpr (.inl hy))⟩
          · have e2 := List.mem_singleton.mp h1
            rw [Prod.mk.injEq] at e2
            have h3 := h2 z0 (List.mem_append.mpr (.inl (by rw [e2.2]; exact hz0)))
            omega
      · rw [if_neg hk, List.mem_append, ih, List.mem_singleton, Prod.mk.injEq]
        have hno : ∀ z, (z, r) ∉ able u st l i := fun z hz => hk ((key r).mpr ⟨z, hz⟩)
        unfold IsLeast
        constructor
        · rintro (⟨h1, h2⟩ | ⟨rfl, rfl⟩)
          · refine ⟨List.mem_append.mpr (.inl h1), fun y hy => ?_⟩
            rcases List.mem_append.mp hy with hy | hy
            · exact h2 y hy
            · have e2 := List.mem_singleton.mp hy
              rw [Prod.mk.injEq] at e2
              have := low _ _ h1
              omega
          · refine ⟨List.mem_append.mpr (.inr (by simp)), fun y hy => ?_⟩
            rcases List.mem_append.mp hy with hy | hy
            · exact absurd hy (hno y)
            · have e2 := List.mem_singleton.mp hy
              rw [Prod.mk.injEq] at e2
              omega
        · rintro ⟨h1, h2⟩
          rcases List.mem_append.mp h1 with h1 | h1
          · exact .inl ⟨h1, fun y hy => h2 y (List.mem_append.mpr (.inl hy))⟩
          · have e2 := List.mem_singleton.mp h1
            rw [Prod.mk.injEq] at e2
            exact .inr ⟨e2.2, e2.1⟩
/-- the same when all sources are gone through -/
theorem lsq_rnd {u : Wb} (hu : u.Ok) {st : Bool} {l : List Int} {q : Int} : q ∈ (lsq u st l (srcN u)).map (·.1) ↔ q ∈ rnd u st l := by
  rw [mem_rnd hu, List.mem_map]
  constructor
  · rintro ⟨⟨a, b⟩, h, rfl⟩
    exact ⟨b, (mem_lsq.mp h).1⟩
  · rintro ⟨s, hs⟩
    have h0 := (mem_able.mp hs).1
    have : ∃ m, IsLeast (fun z => (z, q) ∈ able u st l (srcN u)) m := by
      have hmin : ∀ k : Nat, ((k : Int), q) ∈ able u st l (srcN u) → ∃ k : Nat, ((k : Int), q) ∈ able u st l (srcN u) ∧ ∀ j : Nat, j < k → ((j : Int), q) ∉ able u st l (srcN u) := fun k => by
        induction k using Nat.strongRecOn with
        | ind k ihk =>
          intro hk
          by_cases hj : ∃ j : Nat, j < k ∧ ((j : Int), q) ∈ able u st l (srcN u)
          · obtain ⟨j, h1, h2⟩ := hj
            exact ihk j h1 h2
          · exact ⟨k, hk, fun j hjk hm => hj ⟨j, hjk, hm⟩⟩
      obtain ⟨k, hk, hl⟩ := hmin s.toNat (by rw [Int.toNat_of_nonneg h0.1]; exact hs)
      refine ⟨k, hk, fun m hm => ?_⟩
      have h1 := (mem_able.mp hm).1
      by_cases hlt : m < (k : Int)
      · exact absurd (by rw [Int.toNat_of_nonneg h1.1]; exact hm) (hl m.toNat (by omega))
      · omega
    obtain ⟨m, hm⟩ := this
    exact ⟨(q, m), mem_lsq.mpr hm, rfl⟩
theorem lsq_nil {u : Wb} (hu : u.Ok) {st : Bool} {l : List Int} : lsq u st l (srcN u) = [] ↔ ableA u st l = [] := by
  rw [← rnd_nil hu, List.eq_nil_iff_forall_not_mem, List.eq_nil_iff_forall_not_mem]
  constructor
  · intro h q hq
    obtain ⟨p, hp, _⟩ := List.mem_map.mp ((lsq_rnd hu).mpr hq)
    exact h p hp
  · intro h p hp
    exact h p.1 ((lsq_rnd hu).mp (List.mem_map.mpr ⟨p, hp, rfl⟩))
end Nw
/-! How many apart there can be. -/
namespace Nw
open PySem PySem.Spec PyProof.Rows L2
theorem apart_le : ∀ (k : Nat) (l : List Int), l.Nodup → (∀ b ∈ l, 0 ≤ b ∧ b < (k : Int)) → l.length ≤ k
  | 0, l, _, h => by
    cases l with
    | nil => exact Nat.le_refl _
    | cons x r =>
      have := h x (by simp)
      omega
  | k + 1, l, nd, h => by
    have h1 := apart_le k (l.erase (k : Int)) (nd.erase _) fun b hb => by
      have h2 := h b (List.mem_of_mem_erase hb)
      have h3 : b ≠ (k : Int) := fun e => by
        rw [e] at hb
        exact (nd.mem_erase_iff.mp hb).1 rfl
      omega
    rw [List.length_erase] at h1
    split at h1
    · omega
    · omega
theorem apart_few {l : List Int} {n : Int} (nd : l.Nodup) (h : ∀ b ∈ l, 0 ≤ b ∧ b < n) : l.length ≤ n.toNat :=
  apart_le n.toNat l nd fun b hb => by
    have := h b hb
    omega
theorem Cnt.few {ks : List Int} {c : Nat} {n : Int} (h : Cnt (fun j => decide (j ∈ ks)) c) (hk : ∀ k ∈ ks, 0 ≤ k ∧ k < n) : c ≤ n.toNat := by
  obtain ⟨L, nd, hm, rfl⟩ := h
  exact apart_few nd fun b hb => hk b (of_decide_eq_true ((hm b).mp hb))
/-- as many as the list has that is told apart -/
theorem Cnt.of {ks ns : List Int} {c : Nat} (h : Cnt (fun j => decide (j ∈ ks)) c) (nd : ns.Nodup) (hk : ∀ k, k ∈ ns ↔ k ∈ ks) : c = ns.length := by
  obtain ⟨L, nl, hm, rfl⟩ := h
  have hp : L.Perm ns := by
    refine (List.perm_ext_iff_of_nodup nl nd).mpr fun a => ?_
    rw [hm, hk, decide_eq_true_iff]
  exact hp.length_eq
theorem any_pairs {ps : List (Int × Int)} {p : Int × Int} : ((ps.map dPair).any fun z => PyData.eqv z (dPair p)) = ps.contains p := by
  rw [Bool.eq_iff_iff, List.any_map, List.any_eq_true, List.contains_iff_mem]
  constructor
  · rintro ⟨q, hq, h⟩
    have h1 : decide (q = p) = true := by
      rw [← eqv_dPair]
      exact h
    rw [← of_decide_eq_true h1]
    exact hq
  · intro h
    refine ⟨p, h, ?_⟩
    show PyData.eqv (dPair p) (dPair p) = true
    rw [eqv_dPair]
    exact decide_eq_true rfl
end Nw
/-! What is known apart from some lists that may change. -/
namespace Nw
open PySem PySem.Spec PyProof.Rows L2
def mskL (H : Hp) (M : List Addr) : Hp := fun b => if b ∈ M then none else H b
theorem msk_at {H : Hp} {M : List Addr} {b : Addr} (h : b ∉ M) : mskL H M b = H b := if_neg h
theorem msk_no {H : Hp} {M : List Addr} {b : Addr} (h : b ∈ M) : mskL H M b = none := if_pos h
theorem msk_ex {H : Hp} {M : List Addr} : Ex (mskL H M) H := fun b o h => by
  unfold mskL at h
  split at h
  · cases h
  · exact h
theorem Ex.msk {H H' : Hp} {M : List Addr} (e : Ex H H') : Ex (mskL H M) (mskL H' M) := fun b o h => by
  by_cases n : b ∈ M
  · rw [msk_no n] at h
    cases h
  · rw [msk_at n] at h ⊢
    exact e b o h
/-- what was there before those lists -/
theorem msk_old {H H' : Hp} {M : List Addr} (hM : ∀ m ∈ M, H m = none) (e : Ex H H') : Ex H (mskL H' M) := fun b o h => by
  rw [msk_at fun hm => by
    rw [hM b hm] at h
    cases h]
  exact e b o h
/-- only those lists are changed -/
theorem msk_to {H H' : Hp} {M : List Addr} (h : ∀ b o, b ∉ M → H b = some o → H' b = some o) : Ex (mskL H M) H' := fun b o hb => by
  by_cases n : b ∈ M
  · rw [msk_no n] at hb
    cases hb
  · rw [msk_at n] at hb
    exact h b o n hb
theorem pairs_msk {K : PySem.W.Frag} {H : Hp} {M : List Addr} (hM : ∀ m ∈ M, ∃ ys, H m = some (.lst ys)) : ∀ {L : List (Int × Int)} {acc : List V}, DaAll K H (L.map dPair) acc → DaAll K (mskL H M) (L.map dPair) acc
  | [], _, h => h
  | p :: L, acc, h => by
    obtain ⟨x, xs, rfl, ⟨a, ys, rfl, hS, z1, r1, rfl, e1, z2, r2, rfl, e2, rfl⟩, h2⟩ := h
    obtain rfl := e1
    obtain rfl := e2
    refine ⟨_, _, rfl, dPair_of ?_, pairs_msk hM h2⟩
    rw [msk_at fun hm => by
      obtain ⟨zs, hz⟩ := hM a hm
      rw [hz] at hS
      cases hS]
    exact hS
theorem rows_msk {K : PySem.W.Frag} {H H1 H2 : Hp} {M : List Addr} {ns : List (List Int)} {L : Addr} {bs : List Addr} (h : NewR H H1 ns L bs) (e : Ex H1 H2) (hM : ∀ m ∈ M, ∃ o, H m = some o) (h1 : ∀ r ∈ ns, r.length ≤ 100000) (h2 : ns.length ≤ 100000) : Da K (mskL H2 M) (dRows ns) (.ref L) := by
  have off : ∀ b, H b = none → b ∉ M := fun b hb hm => by
    obtain ⟨o, ho⟩ := hM b hm
    rw [hb] at ho
    cases ho
  refine ⟨L, _, rfl, by rw [msk_at (off L h.new)]; exact e _ _ h.at_, rows_of h.len fun k b hb => ?_, by rw [List.length_map]; exact h2⟩
  obtain ⟨n1, r, n2, n3⟩ := h.row k b hb
  exact ⟨r, n2, by rw [msk_at (off b n1.1)]; exact e _ _ n3, h1 r (List.mem_of_getElem? n2)⟩
/-- a list of three -/
def dThree (a b c : PyData) : PyData := .list [a, b, c]
theorem three_of {K : PySem.W.Frag} {H : Hp} {a b c : PyData} {x y z : V} {T : Addr} (h : H T = some (.lst [x, y, z])) (ha : Da K H a x) (hb : Da K H b y) (hc : Da K H c z) : Da K H (dThree a b c) (.ref T) :=
  ⟨T, _, rfl, h, ⟨_, _, rfl, ha, _, _, rfl, hb, _, _, rfl, hc, rfl⟩, by show 3 ≤ 100000; decide⟩
theorem lay_three {a b c : PyData} (ha : a.canLay0 = true) (hb : b.canLay0 = true) (hc : c.canLay0 = true) : (dThree a b c).canLay0 = true := by simp [dThree, PyData.canLay0, PyData.canLayAll0, ha, hb, hc]
end Nw
namespace Nw
open PySem PySem.Spec PyProof.Rows L2
theorem Sh.none : Sh 41 1 0 .none := ⟨by simp only [PyData.showable], by simp only [lf], by simp only [nodes]; omega, by simp only [PyData.depth]; omega⟩
theorem Sh.three {B n k : Nat} {a b c : PyData} (ha : Sh B n k a) (hb : Sh B n k b) (hc : Sh B n k c) : Sh B (1 + n * 3) (k + 1) (dThree a b c) := Sh.list (fun x hx => by
  rcases List.mem_cons.mp hx with rfl | hx
  · exact ha
  rcases List.mem_cons.mp hx with rfl | hx
  · exact hb
  · obtain rfl := List.mem_singleton.mp hx
    exact hc) (by show 3 ≤ 3; decide)
theorem Sh.small {r : List Int} (h : ∀ x ∈ r, 0 ≤ x ∧ x < 64) (hl : r.length ≤ 20) : Sh 41 21 1 (dInts r) :=
  (Sh.ints (k := 40) (m := 20) (by decide) (fun x hx => (small40 (by have := h x hx; omega)).1) (fun x hx => (small40 (by have := h x hx; omega)).2) hl).wide (by decide) (by decide)
theorem Sh.smalls {rs : List (List Int)} (h : ∀ r ∈ rs, r.length ≤ 20 ∧ ∀ x ∈ r, 0 ≤ x ∧ x < 64) (hl : rs.length ≤ 20) : Sh 41 500 2 (dRows rs) := by
  have hs : ∀ r ∈ rs, ∀ x ∈ r, x.natAbs < 10000000000000000000000000000000000000000 := fun r hr x hx => by
    have := (h r hr).2 x hx
    omega
  exact (Sh.rows (k := 40) (m := 20) (j := 20) (by decide) (fun r hr x hx => (small40 (hs r hr x hx)).1) (fun r hr x hx => (small40 (hs r hr x hx)).2) (fun r hr => (h r hr).1) hl).wide (by decide) (by decide)
theorem Sh.pairs {ps : List (Int × Int)} {m : Nat} (h : ∀ p ∈ ps, Sm p.1 ∧ Sm p.2) (hl : ps.length ≤ m) : Sh 41 (1 + 3 * m) 2 (dPairs ps) := Sh.list (fun x hx => by
  obtain ⟨p, hp, rfl⟩ := List.mem_map.mp hx
  exact Sh.pair (h p hp).1 (h p hp).2) (by rw [List.length_map]; exact hl)
end Nw
/-! xs == [], whatever stands in the list. -/
namespace Nw
open PySem PySem.Spec PyProof.Rows L2
def rEqNil (K : PySem.W.Frag) : R2 := fun x y H Q => ∃ a b xs, x = .ref a ∧ y = .ref b ∧ SqL K H a xs ∧ SqL K H b [] ∧ Q (.bl xs.isEmpty) H
theorem op_eqNil {X : Cx} (K : PySem.W.Frag) {k : Nat} (hr : Room k X.A) (hK : X.K = K := by rfl) : OpR X (compareOp .Eq) (rEqNil K) := by
  subst hK
  intro pins s σ H x y v u Q I rx ry h
  obtain ⟨a, b, xs, rfl, rfl, ha, hb, q⟩ := h
  cases rx
  cases ry
  obtain ⟨its, r, p1, _⟩ := I.list ha
  obtain ⟨its2, r2, p2, _⟩ := I.list hb
  cases r2
  have hu : X.A.units < cLine := hr.units0
  obtain ⟨o1, n1, g1, c1, _, d1⟩ := p1
  obtain ⟨o2, n2, g2, c2, _, d2⟩ := p2
  have il : s.heap.IsList a its.toArray := ⟨o1, g1, c1, n1, d1⟩
  have ib : s.heap.IsList b #[] := ⟨o2, g2, c2, n2, d2⟩
  cases r with
  | nil =>
    exact PySem.SeqAt.eq_listAt (e := fun _ => true) il ib rfl hu (fun j h1 _ => by simp at h1) ⟨.bl true, H, I, rfl, q⟩
  | cons r1 rr =>
    exact PySem.SeqAt.eq_list_lengthsAt il ib (by simp) hu ⟨.bl false, H, I, rfl, q⟩
def rNeNil (K : PySem.W.Frag) : R2 := fun x y H Q => ∃ a b xs, x = .ref a ∧ y = .ref b ∧ SqL K H a xs ∧ SqL K H b [] ∧ Q (.bl (!xs.isEmpty)) H
theorem op_neNil {X : Cx} (K : PySem.W.Frag) {k : Nat} (hr : Room k X.A) (hK : X.K = K := by rfl) : OpR X (compareOp .NotEq) (rNeNil K) := by
  subst hK
  intro pins s σ H x y v u Q I rx ry h
  obtain ⟨a, b, xs, rfl, rfl, ha, hb, q⟩ := h
  cases rx
  cases ry
  obtain ⟨its, r, p1, _⟩ := I.list ha
  obtain ⟨its2, r2, p2, _⟩ := I.list hb
  cases r2
  have hu : X.A.units < cLine := hr.units0
  obtain ⟨o1, n1, g1, c1, _, d1⟩ := p1
  obtain ⟨o2, n2, g2, c2, _, d2⟩ := p2
  have il : s.heap.IsList a its.toArray := ⟨o1, g1, c1, n1, d1⟩
  have ib : s.heap.IsList b #[] := ⟨o2, g2, c2, n2, d2⟩
  cases r with
  | nil => exact PySem.SeqAt.RcNeAt.lists (e := fun _ => true) il ib rfl hu (fun j h1 _ => by simp at h1) _ _ _ _ ⟨.bl false, H, I, rfl, q⟩
  | cons r1 rr => exact PySem.SeqAt.RcNeAt.lists_lengths il ib (by simp) hu _ _ _ _ ⟨.bl true, H, I, rfl, q⟩
theorem srcN_le {u : Wb} (hu : u.Ok) : srcN u ≤ 28 := by
  have := hu.hi
  have := hu.few
  unfold srcN
  omega
theorem rgV_iota (n : Int) : rgV 0 n = (iota n).map V.int := by
  unfold rgV iota
  rw [List.map_map, show (n - 0) = n by omega]
  refine List.map_congr_left fun i _ => ?_
  show V.int (0 + (i : Int)) = V.int (i : Int)
  rw [Int.zero_add]
theorem ne_new {H : Hp} {a b : Addr} {o : HO} (h : H a = some o) (h' : H b = none) : a ≠ b := ne_of_none h h'
theorem erase_at : ∀ {l : List Int} {x : Int}, x ∈ l → ∃ j : Nat, l[j]? = some x ∧ (∀ m : Nat, m < j → l[m]? ≠ some x) ∧ l.eraseIdx j = l.erase x
  | [], _, h => by cases h
  | y :: l, x, h => by
    by_cases e : y = x
    · subst e
      refine ⟨0, rfl, fun m hm => by omega, ?_⟩
      simp
    · obtain ⟨j, h1, h2, h3⟩ := erase_at (l := l) (x := x) (by
        rcases List.mem_cons.mp h with h | h
        · exact absurd h.symm e
        · exact h)
      refine ⟨j + 1, h1, fun m hm => ?_, ?_⟩
      · cases m with
        | zero =>
          intro z
          exact e (Option.some.inj z)
        | succ m => exact h2 m (by omega)
      · rw [List.eraseIdx_cons_succ, h3, List.erase_cons_tail (by simpa using e)]
theorem isA_list {d : PyData} : isA "list" d = (match d with | .list _ => true | _ => false) := by
  cases d <;> first | rfl | decide +kernel
theorem rm_upd {H : Hp} {p D : Addr} {o : HO} (h : D ≠ p) : rm (upd H D o) p = upd (rm H p) D o := by
  funext b
  by_cases e : b = D
  · subst e
    rw [rm_ne h, upd_same, upd_same]
  · rw [upd_ne e]
    by_cases n : b = p
    · subst n
      rw [rm_at, rm_at]
    · rw [rm_ne n, rm_ne n, upd_ne e]
/-- pairs outlast what is done to another list, apart from the tap too -/
theorem pairs_wrm {K : PySem.W.Frag} {H : Hp} {p D : Addr} {ys : List V} {o : HO} {L : List (Int × Int)} {acc : List V} (hD : H D = some (.lst ys)) (n : D ≠ p) (h : DaAll K (rm H p) (L.map dPair) acc) : DaAll K (rm (upd H D o) p) (L.map dPair) acc := by
  rw [rm_upd n]
  exact pairs_wr (by rw [rm_ne n]; exact hD) h
end Nw
/-! Flat items of drawn values. -/
namespace Nw
open PySem PySem.Spec PyProof.Rows L2
def FlatV (v : V) : Prop := (∃ b, v = .bl b) ∨ ∃ i : Int, v = .int i ∧ 0 ≤ i ∧ i < 64
theorem flat_snoc {ys : List V} {v : V} (h : ∀ y ∈ ys, FlatV y) (hv : FlatV v) : ∀ y ∈ ys ++ [v], FlatV y := fun y hy => by
  rcases List.mem_append.mp hy with hy | hy
  · exact h y hy
  · rw [List.mem_singleton.mp hy]
    exact hv
theorem gd_flat {K : PySem.W.Frag} {H : Hp} : ∀ {ys : List V}, (∀ y ∈ ys, FlatV y) → GdAll K H 1 0 ys
  | [], _ => GdAll.nil
  | y :: ys, h => GdAll.cons (by
      rcases h y (by simp) with ⟨b, rfl⟩ | ⟨i, rfl, h1, h2⟩
      · exact Gd.bl
      · exact Gd.int (by omega)) (gd_flat fun z hz => h z (List.mem_cons_of_mem _ hz))
theorem gd_ints {K : PySem.W.Frag} {H : Hp} {l : List Int} (h : ∀ x ∈ l, 0 ≤ x ∧ x < 20) : GdAll K H 1 0 (l.map V.int) := gd_flat fun y hy => by
  obtain ⟨x, hx, rfl⟩ := List.mem_map.mp hy
  have := h x hx
  exact .inr ⟨x, rfl, by omega, by omega⟩
theorem small_strF : ∀ n : Fin 64, (PyData.shown (.str (toString (n.val : Int)))).length ≤ 41 ∧ ((n.val : Int)).natAbs.log2 < 1920 := by decide +kernel
theorem small_str {i : Int} (h0 : 0 ≤ i) (h1 : i < 64) : (PyData.shown (.str (toString i))).length ≤ 41 ∧ i.natAbs.log2 < 1920 := by
  have h := small_strF ⟨i.toNat, by omega⟩
  have e : ((i.toNat : Nat) : Int) = i := Int.toNat_of_nonneg h0
  rw [show ((⟨i.toNat, by omega⟩ : Fin 64).val : Int) = i from e] at h
  exact h
theorem gd_lists {K : PySem.W.Frag} {H : Hp} {n d m : Nat} (hm : m ≤ 100000) : ∀ {ys : List V}, (∀ y ∈ ys, ∃ b zs, y = V.ref b ∧ H b = some (.lst zs) ∧ zs.length ≤ m ∧ GdAll K H n d zs) → GdAll K H (1 + n * m) (d + 1) ys
  | [], _ => GdAll.nil
  | y :: ys, h => GdAll.cons (by
      obtain ⟨b, zs, rfl, h1, h2, h3⟩ := h y (by simp)
      exact Gd.list h1 h3 h2 hm) (gd_lists hm fun z hz => h z (List.mem_cons_of_mem _ hz))
end Nw
/-! len of a set. -/
namespace Nw
open PySem PySem.Spec PyProof.Rows L2
def rLenS (w : World) : List V → Hp → VK → Prop := fun vs H Q => ∃ a S n, vs = [.ref a] ∧ H a = some (SetO w a S n) ∧ Q (.int ((n : Nat) : Int)) H
theorem cr_lenSet {X : Cx} (w : World) (hw : X.w = w := by rfl) : CallR X (.builtin "len") (rLenS w) := by
  subst hw
  intro pins s σ H vs us Q I r h
  obtain ⟨a, S, n, rfl, ha, q⟩ := h
  rw [Vals.ref1 r]
  have hs : SetR X.w s.heap a S n := setO_get I ha
  obtain ⟨o, es, ep, t, h1, h2, h3, h4, h5, h6, h7, h8, rfl, _⟩ := hs
  have hz : ((es.size : Nat) : Int) < 2 ^ 63 := by
    unfold scanBound at h7
    omega
  refine call_len_set h1 h2 h3 h8 hz ⟨.int _, H, ⟨I.ok, I.os, I.bare, I.base, I.loc, I.cell, I.free, I.freeC, I.pin, I.hok, I.len⟩, ⟨_, rfl⟩, q⟩
theorem nd_len : ∀ (L r : List Int), L.Nodup → (∀ k ∈ L, k ∈ r) → L.length ≤ r.length
  | [], _, _, _ => Nat.zero_le _
  | x :: L, r, nl, sub => by
    have hx := sub x (by simp)
    have nl' := List.nodup_cons.mp nl
    have := nd_len L (r.erase x) nl'.2 fun k hk => (List.mem_erase_of_ne fun e => nl'.1 (by rw [← e]; exact hk)).mpr (sub k (List.mem_cons_of_mem _ hk))
    rw [List.length_erase_of_mem hx] at this
    have := List.length_pos_of_mem hx
    rw [List.length_cons]
    omega
theorem nodup_full : ∀ (ks L : List Int), L.Nodup → (∀ k ∈ L, k ∈ ks) → ks.length ≤ L.length → ks.Nodup
  | [], _, _, _, _ => List.nodup_nil
  | x :: r, L, nl, sub, hl => by
    rw [List.length_cons] at hl
    by_cases hx : x ∈ L
    · have h1 : ∀ k ∈ L.erase x, k ∈ r := fun k hk => by
        have := (nl.mem_erase_iff.mp hk)
        exact (List.mem_cons.mp (sub k this.2)).resolve_left this.1
      have h2 := List.length_erase_of_mem hx
      refine List.nodup_cons.mpr ⟨fun hxr => ?_, nodup_full r _ (nl.erase x) h1 (by omega)⟩
      have := nd_len L r nl fun k hk => (List.mem_cons.mp (sub k hk)).elim (fun e => e ▸ hxr) id
      omega
    · have := nd_len L r nl fun k hk => (List.mem_cons.mp (sub k hk)).resolve_left fun e => hx (e ▸ hk)
      omega
/-- how many apart a list has -/
theorem Cnt.all {ks : List Int} {n : Nat} (h : Cnt (fun j => decide (j ∈ ks)) n) : n = ks.length ↔ ks.Nodup := by
  obtain ⟨L, nl, hm, rfl⟩ := h
  have sub : L ⊆ ks := fun k hk => of_decide_eq_true ((hm k).mp hk)
  have sub2 : ks ⊆ L := fun k hk => (hm k).mpr (decide_eq_true hk)
  constructor
  · intro e
    exact nodup_full ks L nl sub (Nat.le_of_eq e.symm)
  · intro nd
    exact ((List.perm_ext_iff_of_nodup nl nd).mpr fun a => ⟨fun h => sub h, fun h => sub2 h⟩).length_eq
theorem Cnt.le {ks : List Int} {n : Nat} (h : Cnt (fun j => decide (j ∈ ks)) n) : n ≤ ks.length := by
  obtain ⟨L, nl, hm, rfl⟩ := h
  exact nd_len L ks nl fun k hk => of_decide_eq_true ((hm k).mp hk)
/-- each once -/
def und : List Int → List Int
  | [] => []
  | x :: r => if r.contains x then und r else x :: und r
theorem mem_und : ∀ {l : List Int} {k : Int}, k ∈ und l ↔ k ∈ l
  | [], _ => Iff.rfl
  | x :: r, k => by
    have ih := mem_und (l := r) (k := k)
    unfold und
    split
    · rename_i h
      rw [ih, List.mem_cons]
      constructor
      · exact .inr
      · rintro (rfl | h2)
        · exact List.contains_iff_mem.mp h
        · exact h2
    · rw [List.mem_cons, List.mem_cons, ih]
theorem und_nodup : ∀ (l : List Int), (und l).Nodup
  | [] => List.nodup_nil
  | x :: r => by
    have ih := und_nodup r
    unfold und
    split
    · exact ih
    · rename_i h
      refine List.nodup_cons.mpr ⟨fun hx => h (List.contains_iff_mem.mpr (mem_und.mp hx)), ih⟩
theorem Cnt.und {ks : List Int} {c : Nat} (h : Cnt (fun j => decide (j ∈ ks)) c) : c = (und ks).length := h.of (und_nodup ks) fun _ => mem_und
theorem und_full {ks : List Int} : (und ks).length = ks.length ↔ ks.Nodup := by
  constructor
  · intro e
    exact nodup_full ks (und ks) (und_nodup ks) (fun k hk => mem_und.mp hk) (Nat.le_of_eq e.symm)
  · intro nd
    exact ((List.perm_ext_iff_of_nodup (und_nodup ks) nd).mpr fun a => mem_und).length_eq
end Nw
/-! Pairings of sources with quantities, by the rows of sources: when none is greater, and whom one of them leaves out. -/
namespace Nw
open PySem PySem.Spec PyProof.Rows L2
/-! ### one value put into a dict of ints -/
def putI (ps : List (Int × Int)) (q s : Int) : List (Int × Int) := if ps.any (fun p => p.1 == q) then ps.map (fun p => if p.1 == q then (q, s) else p) else ps ++ [(q, s)]
theorem kvI_putI {ps : List (Int × Int)} {q s : Int} : putK (kvI ps) (Sum.inl q) (V.int s) = kvI (putI ps q s) := by
  unfold putI
  cases h : ps.any (fun p => p.1 == q) with
  | false =>
    rw [if_neg (by decide)]
    exact kvI_put h
  | true =>
    rw [if_pos rfl]
    unfold putK kvI
    rw [if_pos, List.map_map, List.map_map]
    · refine List.map_congr_left fun p _ => ?_
      show (if (Sum.inl p.1 : Key) = Sum.inl q then ((Sum.inl p.1 : Key), V.int s) else (Sum.inl p.1, V.int p.2)) = (Sum.inl (if p.1 == q then (q, s) else p).1, V.int (if p.1 == q then (q, s) else p).2)
      by_cases e : p.1 = q
      · rw [if_pos (by rw [e]), if_pos (by simpa using e), e]
      · rw [if_neg (fun z => e (Sum.inl.inj z)), if_neg (by simpa using e)]
    · rw [List.any_map, ← h]
      refine List.any_congr rfl fun p => ?_
      show decide ((Sum.inl p.1 : Key) = Sum.inl q) = (p.1 == q)
      by_cases e : p.1 = q
      · rw [e]; simp
      · rw [decide_eq_false (fun z => e (Sum.inl.inj z))]
        exact (beq_eq_false_iff_ne.mpr e).symm
theorem mem_putI {ps : List (Int × Int)} {q s : Int} {p : Int × Int} : p ∈ putI ps q s ↔ p = (q, s) ∨ (p.1 ≠ q ∧ p ∈ ps) := by
  unfold putI
  cases h : ps.any (fun p => p.1 == q) with
  | false =>
    rw [if_neg (by decide), List.mem_append, List.mem_singleton]
    constructor
    · rintro (h1 | h1)
      · refine .inr ⟨fun e => ?_, h1⟩
        have := List.any_eq_false.mp h p h1
        simp [e] at this
      · exact .inl h1
    · rintro (h1 | h1)
      · exact .inr h1
      · exact .inl h1.2
  | true =>
    rw [if_pos rfl, List.mem_map]
    obtain ⟨p0, h1, h2⟩ := List.any_eq_true.mp h
    constructor
    · rintro ⟨p', h3, rfl⟩
      by_cases e : p'.1 = q
      · rw [if_pos (by simpa using e)]
        exact .inl rfl
      · rw [if_neg (by simpa using e)]
        exact .inr ⟨e, h3⟩
    · rintro (h3 | ⟨h3, h4⟩)
      · exact ⟨p0, h1, by rw [if_pos h2, h3]⟩
      · exact ⟨p, h4, if_neg (by simpa using h3)⟩
theorem putI_keys {ps : List (Int × Int)} {q s : Int} (nd : (ps.map (·.1)).Nodup) : ((putI ps q s).map (·.1)).Nodup := by
  unfold putI
  cases h : ps.any (fun p => p.1 == q) with
  | false =>
    rw [if_neg (by decide), List.map_append]
    refine nodup_snoc nd fun hm => ?_
    obtain ⟨p, hp, e⟩ := List.mem_map.mp hm
    have := List.any_eq_false.mp h p hp
    simp at this
    exact this e
  | true =>
    rw [if_pos rfl, List.map_map]
    have : (ps.map ((fun x => x.1) ∘ fun p => if p.1 == q then (q, s) else p)) = ps.map (·.1) := by
      refine List.map_congr_left fun p _ => ?_
      show (if p.1 == q then (q, s) else p).1 = p.1
      by_cases e : p.1 = q
      · rw [if_pos (by simpa using e)]
        exact e.symm
      · rw [if_neg (by simpa using e)]
    rw [this]
    exact nd
/-- the source s acts on the quantity q -/
def Act (rows : List (List Int)) (s q : Int) : Prop := 0 ≤ q ∧ ∃ r, rows[q.toNat]? = some r ∧ s ∈ r
structure Mt (rows : List (List Int)) (k : Int) (ps : List (Int × Int)) : Prop where
  kn : (ps.map (·.1)).Nodup
  vn : (ps.map (·.2)).Nodup
  rg : ∀ p ∈ ps, p.2 < k
  ed : ∀ p ∈ ps, Act rows p.1 p.2
/-- what acts on C is paired into C -/
def Cl (rows : List (List Int)) (ps : List (Int × Int)) (C : Int → Prop) : Prop := ∀ q s, C q → Act rows s q → ∃ c, C c ∧ (s, c) ∈ ps
/-- left out, below k -/
def Un (k : Int) (ps : List (Int × Int)) (q : Int) : Prop := 0 ≤ q ∧ q < k ∧ ∀ p ∈ ps, p.2 ≠ q
/-- no pairing below k is greater -/
structure Top (rows : List (List Int)) (k : Int) (ps : List (Int × Int)) : Prop where
  mt : Mt rows k ps
  cl : ∃ C : Int → Prop, Cl rows ps C ∧ ∀ q, Un k ps q → C q
theorem rel_len {α β : Type} [DecidableEq β] {R : α → β → Prop} : ∀ {l' : List α} {l : List β}, l'.Nodup → (∀ a ∈ l', ∀ b ∈ l', ∀ x, R a x → R b x → a = b) → (∀ a ∈ l', ∃ x ∈ l, R a x) → l'.length ≤ l.length
  | [], _, _, _, _ => Nat.zero_le _
  | a :: l', l, nd, inj, h => by
    rw [List.nodup_cons] at nd
    obtain ⟨x, hx, hr⟩ := h a (by simp)
    have ih := rel_len (R := R) (l := l.erase x) nd.2 (fun b hb c hc => inj b (List.mem_cons_of_mem _ hb) c (List.mem_cons_of_mem _ hc)) fun b hb => by
      obtain ⟨y, hy, hs⟩ := h b (List.mem_cons_of_mem _ hb)
      have ne : y ≠ x := fun e => by
        subst e
        have := inj a (by simp) b (List.mem_cons_of_mem _ hb) y hr hs
        subst this
        exact nd.1 hb
      exact ⟨y, (List.mem_erase_of_ne ne).mpr hy, hs⟩
    have := List.length_erase_of_mem hx
    have := List.length_pos_of_mem hx
    rw [List.length_cons]
    omega
theorem fst_eq {ps : List (Int × Int)} (nd : (ps.map (·.1)).Nodup) {p p' : Int × Int} (h : p ∈ ps) (h' : p' ∈ ps) (e : p.1 = p'.1) : p = p' := by
  induction ps with
  | nil => cases h
  | cons x ps ih =>
    rw [List.map_cons, List.nodup_cons] at nd
    rcases List.mem_cons.mp h with rfl | h1
    · rcases List.mem_cons.mp h' with rfl | h2
      · rfl
      · exact absurd (List.mem_map.mpr ⟨_, h2, e.symm⟩) nd.1
    · rcases List.mem_cons.mp h' with rfl | h2
      · exact absurd (List.mem_map.mpr ⟨_, h1, e⟩) nd.1
      · exact ih nd.2 h1 h2
theorem snd_eq {ps : List (Int × Int)} (nd : (ps.map (·.2)).Nodup) {p p' : Int × Int} (h : p ∈ ps) (h' : p' ∈ ps) (e : p.2 = p'.2) : p = p' := by
  induction ps with
  | nil => cases h
  | cons x ps ih =>
    rw [List.map_cons, List.nodup_cons] at nd
    rcases List.mem_cons.mp h with rfl | h1
    · rcases List.mem_cons.mp h' with rfl | h2
      · rfl
      · exact absurd (List.mem_map.mpr ⟨_, h2, e.symm⟩) nd.1
    · rcases List.mem_cons.mp h' with rfl | h2
      · exact absurd (List.mem_map.mpr ⟨_, h1, e⟩) nd.1
      · exact ih nd.2 h1 h2
theorem nodup_fst {ps : List (Int × Int)} (nd : (ps.map (·.1)).Nodup) : ps.Nodup := (List.pairwise_map.mp nd).imp fun h e => h (by rw [e])
theorem nodup_inj {ps : List (Int × Int)} (nd : ps.Nodup) (h : ∀ p ∈ ps, ∀ p' ∈ ps, p.2 = p'.2 → p = p') : (ps.map (·.2)).Nodup :=
  List.pairwise_map.mpr (List.Pairwise.imp_of_mem (fun {a b} ha hb hab e => hab (h a ha b hb e)) nd)
section
variable {rows : List (List Int)} {k : Int} {ps ps' : List (Int × Int)} {C : Int → Prop}
theorem Mt.lo (m : Mt rows k ps) {p : Int × Int} (h : p ∈ ps) : 0 ≤ p.2 := (m.ed p h).1
/-- how a pairing goes into one with a closed lot -/
def Into (C : Int → Prop) (p' p : Int × Int) : Prop := (C p'.2 ∧ p.1 = p'.1 ∧ C p.2) ∨ (¬ C p'.2 ∧ p.2 = p'.2)
theorem into_inj (m : Mt rows k ps') : ∀ a ∈ ps', ∀ b ∈ ps', ∀ x, Into C a x → Into C b x → a = b := fun a ha b hb x h1 h2 => by
  rcases h1 with ⟨a1, a2, a3⟩ | ⟨a1, a2⟩
  · rcases h2 with ⟨b1, b2, b3⟩ | ⟨b1, b2⟩
    · exact fst_eq m.kn ha hb (a2.symm.trans b2)
    · rw [b2] at a3
      exact absurd a3 b1
  · rcases h2 with ⟨b1, b2, b3⟩ | ⟨b1, b2⟩
    · rw [a2] at b3
      exact absurd b3 a1
    · exact snd_eq m.vn ha hb (a2.symm.trans b2)
theorem into_ex (hc : Cl rows ps C) (hu : ∀ q, Un k ps q → C q) (m : Mt rows k ps') {p' : Int × Int} (h : p' ∈ ps') : ∃ p ∈ ps, Into C p' p := by
  by_cases c : C p'.2
  · obtain ⟨q, h1, h2⟩ := hc p'.2 p'.1 c (m.ed p' h)
    exact ⟨_, h2, .inl ⟨c, rfl, h1⟩⟩
  · have : ∃ p ∈ ps, p.2 = p'.2 := by
      refine Classical.byContradiction fun z => c (hu _ ⟨m.lo h, m.rg p' h, fun p hp e => z ⟨p, hp, e⟩⟩)
    obtain ⟨p, h1, h2⟩ := this
    exact ⟨p, h1, .inr ⟨c, h2⟩⟩
theorem Top.le (t : Top rows k ps) (m : Mt rows k ps') : ps'.length ≤ ps.length := by
  obtain ⟨C, hc, hu⟩ := t.cl
  exact rel_len (R := Into C) (nodup_fst m.kn) (into_inj m) fun a ha => into_ex hc hu m ha
/-- a pairing that leaves out one who is not in the closed lot is less -/
theorem cl_lt (hc : Cl rows ps C) (hu : ∀ q, Un k ps q → C q) (m : Mt rows k ps') {one : Int} (h0 : 0 ≤ one ∧ one < k) (h1 : ¬ C one) (h2 : ∀ p ∈ ps', p.2 ≠ one) : ps'.length < ps.length := by
  have : ∃ p ∈ ps, p.2 = one := by
    refine Classical.byContradiction fun z => h1 (hu _ ⟨h0.1, h0.2, fun p hp e => z ⟨p, hp, e⟩⟩)
  obtain ⟨p, hp, rfl⟩ := this
  have h := rel_len (R := Into C) (l := ps.erase p) (nodup_fst m.kn) (into_inj m) fun a ha => by
    obtain ⟨x, hx, hr⟩ := into_ex hc hu m ha
    refine ⟨x, (List.mem_erase_of_ne fun e => ?_).mpr hx, hr⟩
    subst e
    rcases hr with ⟨_, _, a3⟩ | ⟨_, a2⟩
    · exact h1 a3
    · exact h2 a ha a2.symm
  have h3 := List.length_erase_of_mem hp
  have h4 := List.length_pos_of_mem hp
  omega
theorem Top.eq (t : Top rows k ps) (t' : Top rows k ps') : ps.length = ps'.length := Nat.le_antisymm (t'.le t.mt) (t.le t'.mt)
/-- those who are led to from one who is left out, in the order in which they are found -/
structure Found (rows : List (List Int)) (k : Int) (ps : List (Int × Int)) (F : List Int) : Prop where
  nd : F.Nodup
  rg : ∀ f ∈ F, 0 ≤ f ∧ f < k
  from_ : ∀ (j : Nat) (f : Int), F[j]? = some f → Un k ps f ∨ ∃ (s : Int) (i : Nat) (g : Int), i < j ∧ F[i]? = some g ∧ (s, f) ∈ ps ∧ Act rows s g
theorem nd_at' {l : List Int} (nd : l.Nodup) {i j : Nat} {x : Int} (hi : l[i]? = some x) (hj : l[j]? = some x) : i = j := by
  obtain ⟨h1, h2⟩ := List.getElem?_eq_some_iff.mp hi
  obtain ⟨h3, h4⟩ := List.getElem?_eq_some_iff.mp hj
  exact (List.getElem_inj nd).mp (h2.trans h4.symm)
theorem Found.avoid (m : Mt rows k ps) {F : List Int} (h : Found rows k ps F) : ∀ (j : Nat) (f : Int), F[j]? = some f → ∃ ps', Mt rows k ps' ∧ ps'.length = ps.length ∧ (∀ p ∈ ps', p.2 ≠ f) ∧ ∀ t ∈ ps, (∀ i, i ≤ j → F[i]? ≠ some t.2) → t ∈ ps' := by
  intro j
  induction j using Nat.strongRecOn with
  | _ j ih =>
    intro f hf
    rcases h.from_ j f hf with hu | ⟨s, i, g, hij, hg, hs, ha⟩
    · exact ⟨ps, m, rfl, hu.2.2, fun t ht _ => ht⟩
    · obtain ⟨pi, mi, li, ai, ki⟩ := ih i hij g hg
      have fg : f ≠ g := fun e => by
        rw [← e] at hg
        have := nd_at' h.nd hg hf
        omega
      have hsi : (s, f) ∈ pi := ki _ hs fun i' hi' e => by
        have := nd_at' h.nd e hf
        omega
      have kne : ∀ t ∈ pi.erase (s, f), t.1 ≠ s := fun t ht e => by
        have h1 := List.mem_of_mem_erase ht
        have := fst_eq mi.kn h1 hsi e
        rw [this] at ht
        exact ((nodup_fst mi.kn).mem_erase_iff.mp ht).1 rfl
      have vne : ∀ t ∈ pi.erase (s, f), t.2 ≠ f := fun t ht e => by
        have h1 := List.mem_of_mem_erase ht
        have := snd_eq mi.vn h1 hsi e
        rw [this] at ht
        exact ((nodup_fst mi.kn).mem_erase_iff.mp ht).1 rfl
      have sub := List.erase_sublist (l := pi) (a := (s, f))
      have hgr := h.rg g (List.mem_of_getElem? hg)
      refine ⟨(s, g) :: pi.erase (s, f), ⟨?_, ?_, fun p hp => ?_, fun p hp => ?_⟩, ?_, fun p hp => ?_, fun t ht hn => ?_⟩
      · rw [List.map_cons, List.nodup_cons]
        refine ⟨fun hm => ?_, mi.kn.sublist (sub.map _)⟩
        obtain ⟨t, ht, e⟩ := List.mem_map.mp hm
        exact kne t ht e
      · rw [List.map_cons, List.nodup_cons]
        refine ⟨fun hm => ?_, mi.vn.sublist (sub.map _)⟩
        obtain ⟨t, ht, e⟩ := List.mem_map.mp hm
        exact ai t (List.mem_of_mem_erase ht) e
      · rcases List.mem_cons.mp hp with rfl | hp
        · exact hgr.2
        · exact mi.rg p (List.mem_of_mem_erase hp)
      · rcases List.mem_cons.mp hp with rfl | hp
        · exact ha
        · exact mi.ed p (List.mem_of_mem_erase hp)
      · have h3 := List.length_erase_of_mem hsi
        have h4 := List.length_pos_of_mem hsi
        rw [List.length_cons]
        omega
      · rcases List.mem_cons.mp hp with rfl | hp
        · exact fun e => fg e.symm
        · exact vne p hp
      · have h1 := ki t ht fun i' hi' => hn i' (by omega)
        refine List.mem_cons_of_mem _ ((List.mem_erase_of_ne fun e => ?_).mpr h1)
        subst e
        exact hn j (Nat.le_refl _) hf
end
/-! ### one row less -/
section
variable {rows : List (List Int)} {one : Nat}
/-- the number of a quantity when the row `one` is left out, and back -/
def dn (one : Nat) (q : Int) : Int := if q < one then q else q - 1
def up1 (one : Nat) (q : Int) : Int := if q < one then q else q + 1
theorem dn_up (q : Int) : dn one (up1 one q) = q := by
  unfold dn up1
  by_cases h : q < one
  · rw [if_pos h, if_pos h]
  · rw [if_neg h, if_neg (by omega)]
    omega
theorem up_dn {q : Int} (h : q ≠ one) : up1 one (dn one q) = q := by
  unfold dn up1
  by_cases h' : q < one
  · rw [if_pos h', if_pos h']
  · rw [if_neg h', if_neg (by omega)]
    omega
theorem up_ne (q : Int) : up1 one q ≠ one := by
  unfold up1
  split <;> omega
theorem act_up {s q : Int} (h : Act (rows.eraseIdx one) s q) : Act rows s (up1 one q) := by
  obtain ⟨h0, r, hr, hs⟩ := h
  rw [List.getElem?_eraseIdx] at hr
  unfold up1
  split
  · rename_i hq
    rw [if_pos (by omega)] at hr
    exact ⟨h0, r, hr, hs⟩
  · rename_i hq
    rw [if_neg (by omega)] at hr
    exact ⟨by omega, r, by rw [show (q + 1).toNat = q.toNat + 1 by omega]; exact hr, hs⟩
theorem act_dn {s q : Int} (h : Act rows s q) (hn : q ≠ one) : Act (rows.eraseIdx one) s (dn one q) := by
  obtain ⟨h0, r, hr, hs⟩ := h
  unfold dn
  split
  · rename_i hq
    refine ⟨h0, r, ?_, hs⟩
    rw [List.getElem?_eraseIdx, if_pos (by omega)]
    exact hr
  · rename_i hq
    refine ⟨by omega, r, ?_, hs⟩
    rw [List.getElem?_eraseIdx, if_neg (by omega), show (q - 1).toNat + 1 = q.toNat by omega]
    exact hr
theorem mt_up {k : Int} {ps : List (Int × Int)} (h1 : (one : Int) < k + 1) (m : Mt (rows.eraseIdx one) k ps) : Mt rows (k + 1) (ps.map fun p => (p.1, up1 one p.2)) := by
  refine ⟨?_, ?_, fun p hp => ?_, fun p hp => ?_⟩
  · rw [List.map_map]
    exact m.kn
  · rw [List.map_map]
    refine List.pairwise_map.mpr ((List.pairwise_map.mp m.vn).imp fun {a b} h e => h ?_)
    have := congrArg (dn one) e
    simp only [Function.comp, dn_up] at this
    exact this
  · obtain ⟨p, hp', rfl⟩ := List.mem_map.mp hp
    have := m.rg p hp'
    show up1 one p.2 < k + 1
    unfold up1
    split <;> omega
  · obtain ⟨p, hp', rfl⟩ := List.mem_map.mp hp
    exact act_up (m.ed p hp')
theorem mt_dn {k : Int} {ps : List (Int × Int)} (h1 : (one : Int) < k + 1) (m : Mt rows (k + 1) ps) (h : ∀ p ∈ ps, p.2 ≠ one) : Mt (rows.eraseIdx one) k (ps.map fun p => (p.1, dn one p.2)) := by
  refine ⟨?_, ?_, fun p hp => ?_, fun p hp => ?_⟩
  · rw [List.map_map]
    exact m.kn
  · rw [List.map_map]
    refine List.pairwise_map.mpr (List.Pairwise.imp_of_mem (fun {a b} ha hb h' e => h' ?_) (List.pairwise_map.mp m.vn))
    have := congrArg (up1 one) e
    simp only [Function.comp, up_dn (h a ha), up_dn (h b hb)] at this
    exact this
  · obtain ⟨p, hp', rfl⟩ := List.mem_map.mp hp
    have h1 := m.rg p hp'
    have h2 := h p hp'
    show dn one p.2 < k
    unfold dn
    split <;> omega
  · obtain ⟨p, hp', rfl⟩ := List.mem_map.mp hp
    exact act_dn (m.ed p hp') (h p hp')
end
/-! ### the search -/
/-- what is known ahead of the search for a source of q: F are the sources whose pairs are being changed -/
structure Fr (rows : List (List Int)) (k : Int) (F : List Int) (ps : List (Int × Int)) (q : Int) : Prop where
  kn : (ps.map (·.1)).Nodup
  inj : ∀ p ∈ ps, ∀ p' ∈ ps, p.1 ∉ F → p'.1 ∉ F → p.2 = p'.2 → p = p'
  nq : ∀ p ∈ ps, p.1 ∉ F → p.2 ≠ q
  ed : ∀ p ∈ ps, p.1 ∉ F → Act rows p.1 p.2 ∧ p.2 < k
/-- a source was found -/
structure Got (rows : List (List Int)) (k : Int) (F : List Int) (ps : List (Int × Int)) (q : Int) (ps' : List (Int × Int)) : Prop where
  kn : (ps'.map (·.1)).Nodup
  inj : ∀ p ∈ ps', ∀ p' ∈ ps', p.1 ∉ F → p'.1 ∉ F → p.2 = p'.2 → p = p'
  ed : ∀ p ∈ ps', p.1 ∉ F → Act rows p.1 p.2 ∧ p.2 < k
  fz : ∀ p, p.1 ∈ F → (p ∈ ps' ↔ p ∈ ps)
  vals : ∀ v, (∃ p ∈ ps', p.1 ∉ F ∧ p.2 = v) ↔ (v = q ∨ ∃ p ∈ ps, p.1 ∉ F ∧ p.2 = v)
  cl : ∀ C : Int → Prop, Cl rows ps C → ¬ C q ∧ ∀ s c, C c → Act rows s c → ∀ v, (s, v) ∈ ps → (s, v) ∈ ps'
/-- none was found: what was tried -/
structure Miss (rows : List (List Int)) (ps : List (Int × Int)) (q : Int) (T T' : List Int) : Prop where
  nd : T'.Nodup
  sub : ∀ s ∈ T, s ∈ T'
  row : ∀ s, Act rows s q → s ∈ T'
  cl : ∀ s ∈ T', s ∈ T ∨ ∃ r, (s, r) ∈ ps ∧ ∀ s', Act rows s' r → s' ∈ T'
section
variable {rows : List (List Int)} {k : Int} {F T : List Int} {ps ps1 : List (Int × Int)} {q s r : Int}
/-- a source that is free -/
theorem Fr.free (f : Fr rows k F ps q) (hs : s ∉ F) (hn : ∀ p ∈ ps, p.1 ≠ s) (ha : Act rows s q) (hq : q < k) : Got rows k F ps q (ps ++ [(s, q)]) := by
  have mm : ∀ {p}, p ∈ ps ++ [(s, q)] → p ∈ ps ∨ p = (s, q) := fun h => by
    rcases List.mem_append.mp h with h | h
    · exact .inl h
    · exact .inr (List.mem_singleton.mp h)
  refine ⟨?_, fun p hp p' hp' h1 h2 e => ?_, fun p hp h1 => ?_, fun p h1 => ⟨fun h => ?_, fun h => List.mem_append_left _ h⟩, fun v => ⟨?_, ?_⟩, fun C hc => ⟨fun hC => ?_, fun s' c _ _ v hv => List.mem_append_left _ hv⟩⟩
  · rw [List.map_append]
    exact nodup_snoc f.kn fun hm => by
      obtain ⟨p, hp, e⟩ := List.mem_map.mp hm
      exact hn p hp e
  · rcases mm hp with h | rfl
    · rcases mm hp' with h' | rfl
      · exact f.inj p h p' h' h1 h2 e
      · exact absurd e (f.nq p h h1)
    · rcases mm hp' with h' | rfl
      · exact absurd e.symm (f.nq p' h' h2)
      · rfl
  · rcases mm hp with h | rfl
    · exact f.ed p h h1
    · exact ⟨ha, hq⟩
  · rcases mm h with h | rfl
    · exact h
    · exact absurd h1 hs
  · rintro ⟨p, hp, h1, rfl⟩
    rcases mm hp with h | rfl
    · exact .inr ⟨p, h, h1, rfl⟩
    · exact .inl rfl
  · rintro (rfl | ⟨p, hp, h1, rfl⟩)
    · exact ⟨(s, v), by simp, hs, rfl⟩
    · exact ⟨p, List.mem_append_left _ hp, h1, rfl⟩
  · obtain ⟨c, _, h⟩ := hc q s hC ha
    exact hn _ h rfl
/-- ahead of the search for another source of r -/
theorem Fr.deep (f : Fr rows k F ps q) (hs : s ∉ F) (hr : (s, r) ∈ ps) : Fr rows k (s :: F) ps r := by
  refine ⟨f.kn, fun p hp p' hp' h1 h2 => f.inj p hp p' hp' (fun h => h1 (List.mem_cons_of_mem _ h)) fun h => h2 (List.mem_cons_of_mem _ h), fun p hp h1 e => ?_, fun p hp h1 => f.ed p hp fun h => h1 (List.mem_cons_of_mem _ h)⟩
  have := f.inj p hp _ hr (fun h => h1 (List.mem_cons_of_mem _ h)) hs e
  rw [this] at h1
  exact h1 (by simp)
theorem Fr.found (f : Fr rows k F ps q) (hs : s ∉ F) (hr : (s, r) ∈ ps) (ha : Act rows s q) (hq : q < k) (g : Got rows k (s :: F) ps r ps1) : Got rows k F ps q (putI ps1 s q) := by
  have rq : r ≠ q := f.nq _ hr hs
  have out : ∀ {p : Int × Int}, p.1 ∉ F → p.1 ≠ s → p.1 ∉ s :: F := fun h1 h2 h => by
    rcases List.mem_cons.mp h with h | h
    · exact h2 h
    · exact h1 h
  have old : ∀ p ∈ ps1, p.1 ∉ F → p.1 ≠ s → p.2 ≠ q := fun p hp h1 h2 e => by
    rcases (g.vals p.2).mp ⟨p, hp, out h1 h2, rfl⟩ with h | ⟨p', hp', h3, h4⟩
    · exact rq (h.symm.trans e)
    · exact f.nq p' hp' (fun h => h3 (List.mem_cons_of_mem _ h)) (h4.trans e)
  have inC : ∀ {C : Int → Prop}, Cl rows ps C → ∀ c, C c → Act rows s c → C r := fun hc c hC hac => by
    obtain ⟨c', h1, h2⟩ := hc c s hC hac
    have e : (s, c') = (s, r) := fst_eq f.kn h2 hr rfl
    have := (Prod.mk.inj e).2
    subst this
    exact h1
  refine ⟨putI_keys g.kn, fun p hp p' hp' h1 h2 e => ?_, fun p hp h1 => ?_, fun p h1 => ?_, fun v => ⟨?_, ?_⟩, fun C hc => ⟨fun hC => ?_, fun s' c hC hac v hv => ?_⟩⟩
  · rcases mem_putI.mp hp with rfl | ⟨h3, h4⟩
    · rcases mem_putI.mp hp' with rfl | ⟨h5, h6⟩
      · rfl
      · exact absurd e.symm (old p' h6 h2 h5)
    · rcases mem_putI.mp hp' with rfl | ⟨h5, h6⟩
      · exact absurd e (old p h4 h1 h3)
      · exact g.inj p h4 p' h6 (out h1 h3) (out h2 h5) e
  · rcases mem_putI.mp hp with rfl | ⟨h3, h4⟩
    · exact ⟨ha, hq⟩
    · exact g.ed p h4 (out h1 h3)
  · have hps : p.1 ≠ s := fun e => hs (e ▸ h1)
    rw [← g.fz p (List.mem_cons_of_mem _ h1)]
    constructor
    · intro h
      rcases mem_putI.mp h with rfl | ⟨_, h4⟩
      · exact absurd rfl hps
      · exact h4
    · exact fun h => mem_putI.mpr (.inr ⟨hps, h⟩)
  · rintro ⟨p, hp, h1, rfl⟩
    rcases mem_putI.mp hp with rfl | ⟨h3, h4⟩
    · exact .inl rfl
    · rcases (g.vals p.2).mp ⟨p, h4, out h1 h3, rfl⟩ with h | ⟨p', hp', h5, h6⟩
      · exact .inr ⟨_, hr, hs, h.symm⟩
      · exact .inr ⟨p', hp', fun h => h5 (List.mem_cons_of_mem _ h), h6⟩
  · rintro (rfl | ⟨p, hp, h1, rfl⟩)
    · exact ⟨(s, v), mem_putI.mpr (.inl rfl), hs, rfl⟩
    · have : ∃ p1 ∈ ps1, p1.1 ∉ s :: F ∧ p1.2 = p.2 := by
        by_cases e : p.1 = s
        · have e2 : p = (s, r) := fst_eq f.kn hp hr e
          exact (g.vals p.2).mpr (.inl (by rw [e2]))
        · exact (g.vals p.2).mpr (.inr ⟨p, hp, out h1 e, rfl⟩)
      obtain ⟨p1, h2, h3, h4⟩ := this
      exact ⟨p1, mem_putI.mpr (.inr ⟨fun e => h3 (by rw [e]; simp), h2⟩), fun h => h3 (List.mem_cons_of_mem _ h), h4⟩
  · exact (g.cl C hc).1 (inC hc q hC ha)
  · have h1 := (g.cl C hc).2 s' c hC hac v hv
    refine mem_putI.mpr (.inr ⟨fun e => ?_, h1⟩)
    have e' : s' = s := e
    subst e'
    exact (g.cl C hc).1 (inC hc c hC hac)
end
section
variable {rows : List (List Int)} {ps ps' : List (Int × Int)} {q : Int}
theorem Top.fr (t : Top rows q ps) : Fr rows (q + 1) [] ps q := by
  refine ⟨t.mt.kn, fun p hp p' hp' _ _ e => snd_eq t.mt.vn hp hp' e, fun p hp _ e => ?_, fun p hp _ => ⟨t.mt.ed p hp, ?_⟩⟩
  · have := t.mt.rg p hp
    omega
  · have := t.mt.rg p hp
    omega
theorem Top.got (t : Top rows q ps) (g : Got rows (q + 1) [] ps q ps') : Top rows (q + 1) ps' := by
  refine ⟨⟨g.kn, nodup_inj (nodup_fst g.kn) fun p hp p' hp' e => g.inj p hp p' hp' List.not_mem_nil List.not_mem_nil e, fun p hp => (g.ed p hp List.not_mem_nil).2, fun p hp => (g.ed p hp List.not_mem_nil).1⟩, ?_⟩
  obtain ⟨C, hc, hu⟩ := t.cl
  refine ⟨C, fun q1 s hC ha => ?_, fun v hv => hu v ⟨hv.1, ?_, fun p hp e => ?_⟩⟩
  · obtain ⟨c, h1, h2⟩ := hc q1 s hC ha
    exact ⟨c, h1, (g.cl C hc).2 s q1 hC ha c h2⟩
  · have : v ≠ q := fun e => by
      obtain ⟨p, hp, _, h⟩ := (g.vals q).mpr (.inl rfl)
      exact hv.2.2 p hp (h.trans e.symm)
    have := hv.2.1
    omega
  · obtain ⟨p', hp', _, h⟩ := (g.vals v).mpr (.inr ⟨p, hp, List.not_mem_nil, e⟩)
    exact hv.2.2 p' hp' h
/-- q stays out -/
theorem Top.out (t : Top rows q ps) {R : Int → Prop} (hR : Cl rows ps R) (hq : R q) : Top rows (q + 1) ps := by
  obtain ⟨C, hc, hu⟩ := t.cl
  refine ⟨⟨t.mt.kn, t.mt.vn, fun p hp => ?_, t.mt.ed⟩, fun v => C v ∨ R v, fun q1 s h ha => ?_, fun v hv => ?_⟩
  · have := t.mt.rg p hp
    omega
  · rcases h with h | h
    · obtain ⟨c, h1, h2⟩ := hc q1 s h ha
      exact ⟨c, .inl h1, h2⟩
    · obtain ⟨c, h1, h2⟩ := hR q1 s h ha
      exact ⟨c, .inr h1, h2⟩
  · by_cases e : v = q
    · subst e
      exact .inr hq
    · have := hv.2.1
      exact .inl (hu v ⟨hv.1, by omega, hv.2.2⟩)
theorem Top.miss (t : Top rows q ps) {T' : List Int} (m : Miss rows ps q [] T') : Top rows (q + 1) ps := by
  have part : ∀ s ∈ T', ∃ r, (s, r) ∈ ps ∧ ∀ s', Act rows s' r → s' ∈ T' := fun s hs => (m.cl s hs).resolve_left List.not_mem_nil
  refine t.out (R := fun v => v = q ∨ ∃ s ∈ T', (s, v) ∈ ps) (fun v s h ha => ?_) (.inl rfl)
  have hs : s ∈ T' := by
    rcases h with rfl | ⟨s0, h0, h1⟩
    · exact m.row s ha
    · obtain ⟨r, h2, h3⟩ := part s0 h0
      have := (Prod.mk.inj (fst_eq t.mt.kn h1 h2 rfl)).2
      subst this
      exact h3 s ha
  obtain ⟨r, h2, h3⟩ := part s hs
  exact ⟨r, .inr ⟨s, hs, h2⟩, h2⟩
theorem top0 (rows : List (List Int)) : Top rows 0 [] := ⟨⟨List.nodup_nil, List.nodup_nil, fun p hp => (by cases hp), fun p hp => (by cases hp)⟩, fun _ => False, fun _ _ h => h.elim, fun q h => by
  have := h.1
  have := h.2.1
  omega⟩
end
end Nw
/-! The values and the items of a dict, as lists; how many it has. -/
namespace Nw
open PySem PySem.Spec PyProof.Rows L2
theorem nd_any {α : Type} {l : List α} (nd : l.Nodup) {i j : Nat} {x : α} (hi : l[i]? = some x) (hj : l[j]? = some x) : i = j := by
  obtain ⟨h1, h2⟩ := List.getElem?_eq_some_iff.mp hi
  obtain ⟨h3, h4⟩ := List.getElem?_eq_some_iff.mp hj
  exact (List.getElem_inj nd).mp (h2.trans h4.symm)
theorem no_get {h : Heap} {a : Addr} (ha : h.objs.size ≤ a) : h.get? a = none := by
  cases e : h.get? a with
  | none => rfl
  | some o => exact absurd (Heap.lt_size e) (Nat.not_lt.mpr ha)
/-- a view of the dict at d -/
def vwO (T : String) (p d : Addr) : HO := .ext fun h => h.get? p = some { cls := .type T, data := .fields #[.ref d] }
theorem vwO_ok {P : Program} {w : World} {H : Hp} {h : Heap} {T : String} {p d : Addr} (e : h.get? p = some { cls := .type T, data := .fields #[.ref d] }) : ObjOk P w H h p (vwO T p d) := ⟨e, ⟨_, e⟩, fun h1 h2 q k => k _ q⟩
def tView (T : String) (td : TE) : TE := fun σ H Q => td σ H fun x H1 => ∃ d kvs, x = .ref d ∧ H1 d = some (.dK kvs) ∧ ∀ p, H1 p = none → Q (.ref p) (upd H1 p (vwO T p d))
section
variable {X : Cx} {e : Expr} {td : TE} {apos cpos : Pos}
theorem pe_valuesK (he : PE X e td) (hbase : attributeBase e "values" X.env (eval e X.env) = eval e X.env := by rfl) (hline : (apos.endLine == cpos.line) = true := by rfl) :
    PE X (.Call (.Attribute e "values" apos) [] [] cpos) (tView "dict_values" td) := by
  refine ⟨fun pins s σ H Q I h => ?_⟩
  refine wpAny_Call_method (T := "dict") (id := "dict.values") hbase rfl hline F.plainAttrs_dict F.slot_dict_values F.type_dict_values (thn (he.run pins s σ H _ I h) fun u s1 ⟨x, H1, I1, rx, d, kvs, ex, hd, q⟩ => ?_)
  subst ex
  obtain rfl : u = Value.ref d := rx
  obtain ⟨hz, hs, vs, kv, hm⟩ := (show ObjOk X.prog X.w H1 s1.heap d (.dK kvs) from I1.hok d _ hd)
  refine ⟨hm.typeIs, hm.mapOf.noDict, ?_⟩
  have I2 : Inv X pins σ (upd H1 s1.heap.objs.size (vwO "dict_values" s1.heap.objs.size d)) { s1 with heap := s1.heap.push { cls := .type "dict_values", data := .fields #[.ref d] } } :=
    I1.laid (t' := s1.toks) (fun b ob q => Heap.get?_push_of_some _ q) (Nat.le_refl _) (vwO_ok (Heap.get?_push_size _ rfl))
  show wpAny _ _ (callWith cpos (.builtin "dict.values") [.ref d] [] []) _ X.xe s1
  exact method_meetsIn F.slot_dict_values F.entry_dict_values rfl (PySem.evalArgs_none ⟨rfl, hm.typeIs, F.args_dict_values_1 _, _, meets_dict_values (mixKind X.prog X.w) d hs, ⟨vs, hm⟩, ⟨.ref _, _, I2, rfl, q _ (I1.hok.fresh (Nat.le_refl _))⟩⟩)
theorem pe_itemsK (he : PE X e td) (hbase : attributeBase e "items" X.env (eval e X.env) = eval e X.env := by rfl) (hline : (apos.endLine == cpos.line) = true := by rfl) :
    PE X (.Call (.Attribute e "items" apos) [] [] cpos) (tView "dict_items" td) := by
  refine ⟨fun pins s σ H Q I h => ?_⟩
  refine wpAny_Call_method (T := "dict") (id := "dict.items") hbase rfl hline F.plainAttrs_dict F.slot_dict_items F.type_dict_items (thn (he.run pins s σ H _ I h) fun u s1 ⟨x, H1, I1, rx, d, kvs, ex, hd, q⟩ => ?_)
  subst ex
  obtain rfl : u = Value.ref d := rx
  obtain ⟨hz, hs, vs, kv, hm⟩ := (show ObjOk X.prog X.w H1 s1.heap d (.dK kvs) from I1.hok d _ hd)
  refine ⟨hm.typeIs, hm.mapOf.noDict, ?_⟩
  have I2 : Inv X pins σ (upd H1 s1.heap.objs.size (vwO "dict_items" s1.heap.objs.size d)) { s1 with heap := s1.heap.push { cls := .type "dict_items", data := .fields #[.ref d] } } :=
    I1.laid (t' := s1.toks) (fun b ob q => Heap.get?_push_of_some _ q) (Nat.le_refl _) (vwO_ok (Heap.get?_push_size _ rfl))
  show wpAny _ _ (callWith cpos (.builtin "dict.items") [.ref d] [] []) _ X.xe s1
  exact method_meetsIn F.slot_dict_items F.entry_dict_items rfl (PySem.evalArgs_none ⟨rfl, hm.typeIs, F.args_dict_items_1 _, _, meets_dict_items (mixKind X.prog X.w) d hs, ⟨vs, hm⟩, ⟨.ref _, _, I2, rfl, q _ (I1.hok.fresh (Nat.le_refl _))⟩⟩)
/-- list(d.values()) -/
def rListV : List V → Hp → VK → Prop := fun xs H Q => ∃ p d kvs, xs = [.ref p] ∧ H p = some (vwO "dict_values" p d) ∧ H d = some (.dK kvs) ∧ ∀ l, H l = none → Q (.ref l) (upd H l (.lst (kvs.map (·.2))))
theorem call_listVK (hc : X.calm = true) : CallR X (.type "list") rListV := by
  intro pins s σ H xs us Q I r h
  obtain ⟨p, d, kvs, rfl, hp, hd, q⟩ := h
  obtain ⟨u, rfl, rx⟩ := vals1 r
  obtain rfl : u = Value.ref p := rx
  obtain ⟨hz, hs, vs, kv, hm⟩ := (show ObjOk X.prog X.w H s.heap d (.dK kvs) from I.hok d _ hd)
  have hv := (show ObjOk X.prog X.w H s.heap p (vwO "dict_values" p d) from I.hok p _ hp).1
  obtain ⟨es, ep, hraw, hsz, hent⟩ := hm.raw
  have hl : kvs.length = vs.length := Paired.length kv
  refine PySem.W.kdl_call (prog := X.prog) (w := X.w) PySem.KdlSrc.rawValues (I.ok.hd hc) ⟨⟨_, hv, rfl, rfl⟩, hraw⟩ (by rw [hsz, ← hl]; exact hz) fun h' tk acc' c' hkeep hS hacc => ?_
  refine ⟨.ref s.heap.objs.size, upd H s.heap.objs.size (.lst (kvs.map (·.2))), I.laid hkeep (Nat.le_refl _) (show ObjOk X.prog X.w _ _ _ (.lst (kvs.map (·.2))) from ⟨?_, acc'.toList, c', ?_, ?_⟩), rfl, q _ (I.hok.fresh (Nat.le_refl _))⟩
  · rw [List.length_map]
    exact hz
  · have el : acc'.toList.length = acc'.size := by simp
    refine vals_of_at (by rw [List.length_map, el, hacc.1, hsz, hl]) fun j x w h1 h2 => ?_
    obtain ⟨hj, rfl⟩ := hacc.2 j w (by rw [← Array.getElem?_toList]; exact h2)
    obtain ⟨⟨k, v⟩, hkv, rfl⟩ := map_at h1
    obtain ⟨u, hu, ru⟩ := kv_get kv hkv
    rw [(hent j hj k u hu).2]
    exact ru
  · rw [Array.toArray_toList]
    exact hS
/-- list(d.items()) -/
def rListI : List V → Hp → VK → Prop := fun xs H Q => ∃ p d kvs, xs = [.ref p] ∧ H p = some (vwO "dict_items" p d) ∧ H d = some (.dK kvs) ∧
  ∀ (l : Addr) (as : List Addr) H', Ex H H' → H l = none → H' l = some (.lst (as.map V.ref)) → as.length = kvs.length → (∀ (j : Nat) (k : Key) (v : V) (b : Addr), kvs[j]? = some (k, v) → as[j]? = some b → H b = none ∧ H' b = some (.tup [kV k, v])) → Q (.ref l) H'
theorem call_listIK (hc : X.calm = true) : CallR X (.type "list") rListI := by
  intro pins s σ H xs us Q I r h
  obtain ⟨p, d, kvs, rfl, hp, hd, q⟩ := h
  obtain ⟨u, rfl, rx⟩ := vals1 r
  obtain rfl : u = Value.ref p := rx
  obtain ⟨hz, hs, vs, kv, hm⟩ := (show ObjOk X.prog X.w H s.heap d (.dK kvs) from I.hok d _ hd)
  have hv := (show ObjOk X.prog X.w H s.heap p (vwO "dict_items" p d) from I.hok p _ hp).1
  obtain ⟨es, ep, hraw, hsz, hent⟩ := hm.raw
  have hl : kvs.length = vs.length := Paired.length kv
  refine PySem.W.dil_call (prog := X.prog) (w := X.w) (I.ok.hd hc) ⟨_, hv, rfl, rfl⟩ hraw (by rw [hsz, ← hl]; exact hz) fun h' tk acc c as hkeep hS hal hG hacc => ?_
  have nd : as.Nodup := hG.rise.imp fun h => Nat.ne_of_lt h
  have new : ∀ a ∈ as, s.heap.get? a = none := fun a ha => no_get (Nat.le_of_lt (hG.above a ha))
  have step : ∀ i, i ≤ as.length → ∃ (G : Heap) (H' : Hp), Inv X pins σ H' { s with heap := G, toks := tk } ∧ (∀ b o, G.get? b = some o → h'.get? b = some o) ∧ Ex H H' ∧ (∀ b, b ∉ as.take i → G.get? b = s.heap.get? b) ∧ (∀ b, b ∉ as.take i → H' b = H b) ∧
      ∀ (j : Nat) (k : Key) (v : V) (b : Addr), j < i → kvs[j]? = some (k, v) → as[j]? = some b → H' b = some (.tup [kV k, v]) := by
    intro i
    induction i with
    | zero => exact fun _ => ⟨s.heap, H, I.tok _, hkeep, Ex.rfl, fun b _ => rfl, fun b _ => rfl, fun j k v b hj => absurd hj (Nat.not_lt_zero _)⟩
    | succ i ih =>
      intro hi
      obtain ⟨G, H1, I1, g1, e1, n1, m1, t1⟩ := ih (by omega)
      obtain ⟨a, ha⟩ : ∃ a, as[i]? = some a := ⟨_, List.getElem?_eq_getElem (by omega)⟩
      obtain ⟨⟨k, v⟩, hkv⟩ : ∃ p, kvs[i]? = some p := ⟨_, List.getElem?_eq_getElem (by omega)⟩
      have out : a ∉ as.take i := fun hm => by
        obtain ⟨j, hj⟩ := List.getElem?_of_mem hm
        rw [List.getElem?_take] at hj
        split at hj
        · rename_i hji
          have := nd_any nd hj ha
          omega
        · cases hj
      have gn : G.get? a = none := (n1 a out).trans (new a (List.mem_of_getElem? ha))
      have hn : H1 a = none := (m1 a out).trans (I.hok.fresh (Nat.le_of_lt (hG.above a (List.mem_of_getElem? ha))))
      obtain ⟨G', r1, r2⟩ := restrict h' fun b => (G.get? b).isSome || decide (b = a)
      obtain ⟨hj, hobj⟩ := hG.pairs i a ha
      obtain ⟨u, hu, ru⟩ := kv_get kv hkv
      obtain ⟨h1, h2⟩ := hent i hj k u hu
      have ga : G'.get? a = some { cls := .type "tuple", data := .seq #[es[i].key, es[i].val] } := (r1 a (by simp)).trans hobj
      have J := I1.laidN (h' := G') (a := a) (o := .tup [kV k, v]) (t' := tk) (fun b o hb => by
        rw [r1 b (by rw [hb]; rfl)]
        exact g1 b o hb) gn hn ⟨by show 2 ≤ sizeLine; decide, [es[i].key, es[i].val], .cons (keyIs_rel h1) (.cons (by rw [h2]; exact ru) .nil), ⟨_, ga, rfl, _, rfl⟩⟩
      have tk1 : ∀ b, b ∈ as.take (i + 1) ↔ b ∈ as.take i ∨ b = a := fun b => by
        rw [take_snoc ha, List.mem_append, List.mem_singleton]
      refine ⟨G', _, J, fun b o hb => ?_, e1.tr (Ex.nw hn), fun b hb => ?_, fun b hb => ?_, fun j k' v' b hj hk hb => ?_⟩
      · by_cases hc' : ((G.get? b).isSome || decide (b = a)) = true
        · rw [r1 b hc'] at hb
          exact hb
        · rw [r2 b (by simpa using hc')] at hb
          cases hb
      · have nb : b ∉ as.take i := fun h => hb ((tk1 b).mpr (.inl h))
        have na : b ≠ a := fun h => hb ((tk1 b).mpr (.inr h))
        cases hg : G.get? b with
        | none =>
          rw [r2 b (by rw [hg]; simpa using na), ← n1 b nb, hg]
        | some o =>
          rw [r1 b (by rw [hg]; rfl), g1 b o hg, ← n1 b nb, hg]
      · rw [upd_ne fun h => hb ((tk1 b).mpr (.inr h))]
        exact m1 b fun h => hb ((tk1 b).mpr (.inl h))
      · by_cases hji : j < i
        · have : b ≠ a := fun e => by
            subst e
            have := nd_any nd hb ha
            omega
          rw [upd_ne this]
          exact t1 j k' v' b hji hk hb
        · obtain rfl : j = i := by omega
          rw [hkv] at hk
          rw [ha] at hb
          obtain rfl := Option.some.inj hb
          obtain ⟨rfl, rfl⟩ := Prod.mk.inj (Option.some.inj hk)
          exact upd_same
  obtain ⟨G, H1, I1, g1, e1, n1, m1, t1⟩ := step as.length (Nat.le_refl _)
  rw [List.take_length] at n1 m1
  have sout : s.heap.objs.size ∉ as := fun h => Nat.lt_irrefl _ (hG.above _ h)
  have sn : G.get? s.heap.objs.size = none := (n1 _ sout).trans (no_get (Nat.le_refl _))
  have sh : H1 s.heap.objs.size = none := (m1 _ sout).trans (I.hok.fresh (Nat.le_refl _))
  have J := I1.laidN (h' := h') (a := s.heap.objs.size) (o := .lst (as.map V.ref)) (t' := tk) g1 sn sh ⟨by rw [List.length_map, hal, hsz, ← hl]; exact hz, as.map Value.ref, c, vals_refs _, by rw [← hacc, Array.toArray_toList]; exact hS⟩
  refine ⟨.ref s.heap.objs.size, _, J, rfl, q _ as _ (e1.tr (Ex.nw sh)) (I.hok.fresh (Nat.le_refl _)) upd_same (by rw [hal, hsz, hl]) fun j k v b hk hb => ⟨I.hok.fresh (Nat.le_of_lt (hG.above b (List.mem_of_getElem? hb))), ?_⟩⟩
  rw [upd_ne fun e => sout (by rw [← e]; exact List.mem_of_getElem? hb)]
  exact t1 j k v b (List.getElem?_eq_some_iff.mp hb).1 hk hb
end
/-- len(d) -/
def rLenD : List V → Hp → VK → Prop := fun xs H Q => ∃ d kvs, xs = [.ref d] ∧ H d = some (.dK kvs) ∧ Q (.int (kvs.length : Int)) H
theorem call_lenDK {X : Cx} (K : PySem.W.Frag) (hK : X.K = K := by rfl) : CallR X (.builtin "len") rLenD := by
  intro pins s σ H xs us Q I r h
  obtain ⟨d, kvs, rfl, hd, q⟩ := h
  obtain ⟨u, rfl, rx⟩ := vals1 r
  obtain rfl : u = Value.ref d := rx
  exact d_len I (.inl hd) fun t s' I' => ⟨.int _, H, I', ⟨t, rfl⟩, q⟩
end Nw
namespace K17
open PySem PySem.Spec PyProof.Rows L2 Nw
def topS (i : Nat) : Stmt := PySem.Challenge.pw_nudgewebs_k17_fewest_single_nudges.main.body.getD i (.Pass ⟨0, 0, 0, 0⟩)
structure Txt (K : PySem.W.Frag) (mg : Str → Option Value) : Prop where
  b_isinstance : mg "isinstance" = none
  b_len : mg "len" = none
  b_all : mg "all" = none
  b_any : mg "any" = none
  b_abs : mg "abs" = none
  b_max : mg "max" = none
  b_min : mg "min" = none
  b_sorted : mg "sorted" = none
  b_int : mg "int" = none
  b_bool : mg "bool" = none
  b_list : mg "list" = none
  b_tuple : mg "tuple" = none
  b_set : mg "set" = none
  b_range : mg "range" = none
  b_enumerate : mg "enumerate" = none
  b_zip : mg "zip" = none
  c_MOST_QUANTITIES : ∃ t, mg "MOST_QUANTITIES" = some (.int 20 t)
  c_MOST_NUDGES : ∃ t, mg "MOST_NUDGES" = some (.int 8 t)
/-! is_integer: slots 0 value -/
abbrev s_is_integer : Stmt := topS 6
abbrev N_is_integer : List Str := ["value"]
abbrev P_is_integer : List Str := ["value"]
theorem sc_is_integer : FnScope N_is_integer P_is_integer (defScope s_is_integer) := ⟨rfl, rfl, rfl, by decide +kernel, rfl, by decide +kernel, by decide +kernel⟩
def sp_is_integer (K : PySem.W.Frag) : Sp := fun vs H Q _ => ∃ v d, vs = [v] ∧ Da K H d v ∧ Q (.bl (isInt d)) H
section
variable {P : Program} {w : World} {K : PySem.W.Frag} {mg : Str → Option Value} {base : Heap}
theorem ok_is_integer {f : Addr} {fd : FuncData} (T : Txt K mg) (F : Fun K "is_integer" "is_integer" s_is_integer f fd) :
    FnG P w K mg base CX0 1 f fd P_is_integer (sp_is_integer K) := by
  refine okG0 F sc_is_integer (fun vs H Q E h => ?_) (fun cdv A outer s H vs Q E hr hq h => ?_)
  · obtain ⟨v, d, rfl, _⟩ := h
    rfl
  · obtain ⟨v, d, rfl, hd, q⟩ := h
    refine ⟨_, (pss_one (ps_ret (pe_and (pe_callB (call_isiK K) (by rfl) T.b_isinstance bt_isinstance (pa_cons (pv 0) (pa_cons (pe_bty T.b_int bt_int) pa_nil))) (pe_one (pe_not (pe_callB (call_isiK K) (by rfl) T.b_isinstance bt_isinstance (pa_cons (pv 0) (pa_cons (pe_bty T.b_bool bt_bool) pa_nil)))))))), ?_⟩
    refine ⟨_, rfl, _, _, _, _, _, rfl, .ty _, hd.ty, isa_int d, _, rfl, ?_⟩
    rw [← isInt_eq] at q
    refine ite2 (fun h1 => ?_) (fun h1 => ?_)
    · refine ⟨_, rfl, _, _, _, _, _, rfl, .ty _, hd.ty, isa_bool d, _, rfl, ?_⟩
      rw [h1, Bool.true_and] at q
      exact q
    · rw [Bool.not_eq_true] at h1
      rw [h1, Bool.false_and] at q
      exact q
end

/-! is_number_below: slots 0 value, 1 limit -/
abbrev s_is_number_below : Stmt := topS 7
abbrev N_is_number_below : List Str := ["value", "limit"]
abbrev P_is_number_below : List Str := ["value", "limit"]
theorem sc_is_number_below : FnScope N_is_number_below P_is_number_below (defScope s_is_number_below) := ⟨rfl, rfl, rfl, by decide +kernel, rfl, by decide +kernel, by decide +kernel⟩
def sp_is_number_below (K : PySem.W.Frag) : Sp := fun vs H Q _ => ∃ v d m, vs = [v, .int m] ∧ Da K H d v ∧ Q (.bl (numB d m)) H
section
variable {P : Program} {w : World} {K : PySem.W.Frag} {mg : Str → Option Value} {base : Heap}
theorem ok_is_number_below {f : Addr} {fd : FuncData} (T : Txt K mg) (F : Fun K "is_number_below" "is_number_below" s_is_number_below f fd)
    (D_is_integer : DefOk P w K mg base CX0 1 "is_integer" P_is_integer (sp_is_integer K)) :
    FnG P w K mg base CX0 2 f fd P_is_number_below (sp_is_number_below K) := by
  refine okG0 F sc_is_number_below (fun vs H Q E h => ?_) (fun cdv A outer s H vs Q E hr hq h => ?_)
  · obtain ⟨v, d, m, rfl, _⟩ := h
    rfl
  · obtain ⟨v, d, m, rfl, hd, q⟩ := h
    refine ⟨_, (pss_one (ps_ret (pe_and (pe_callD D_is_integer (hr.mono (by decide)) hq pass0 (pa_cons (pv 0) pa_nil)) (pe_one (pe_chain op_le op_lt pe_int (pv 0) (pv 1)))))), ?_⟩
    refine ⟨_, rfl, _, _, rfl, hd, _, rfl, ?_⟩
    cases d with
    | int i =>
      obtain rfl := hd
      refine ⟨_, rfl, _, _, rfl, rfl, _, rfl, ?_⟩
      refine ite2 (fun h1 => ?_) (fun h1 => ?_)
      · refine ⟨_, rfl, _, _, rfl, rfl, ?_⟩
        simp only [numB, h1, Bool.true_and] at q
        exact q
      · rw [Bool.not_eq_true] at h1
        simp only [numB, h1, Bool.false_and] at q
        exact q
    | _ => exact q
end

/-! is_tuple_below: slots 0 value, 1 first_limit, 2 second_limit -/
abbrev s_is_tuple_below : Stmt := topS 8
abbrev N_is_tuple_below : List Str := ["value", "first_limit", "second_limit"]
abbrev P_is_tuple_below : List Str := ["value", "first_limit", "second_limit"]
theorem sc_is_tuple_below : FnScope N_is_tuple_below P_is_tuple_below (defScope s_is_tuple_below) := ⟨rfl, rfl, rfl, by decide +kernel, rfl, by decide +kernel, by decide +kernel⟩
def sp_is_tuple_below (K : PySem.W.Frag) : Sp := fun vs H Q _ => ∃ v d m n, vs = [v, .int m, .int n] ∧ Da K H d v ∧ Q (.bl (tupB d m n)) H
section
variable {P : Program} {w : World} {K : PySem.W.Frag} {mg : Str → Option Value} {base : Heap}
theorem ok_is_tuple_below {f : Addr} {fd : FuncData} (T : Txt K mg) (F : Fun K "is_tuple_below" "is_tuple_below" s_is_tuple_below f fd)
    (D_is_number_below : DefOk P w K mg base CX0 2 "is_number_below" P_is_number_below (sp_is_number_below K)) :
    FnG P w K mg base CX0 3 f fd P_is_tuple_below (sp_is_tuple_below K) := by
  refine okG0 F sc_is_tuple_below (fun vs H Q E h => ?_) (fun cdv A outer s H vs Q E hr hq h => ?_)
  · obtain ⟨v, d, m, n, rfl, _⟩ := h
    rfl
  · obtain ⟨v, d, m, n, rfl, hd, q⟩ := h
    refine ⟨_, (pss_cons (ps_if (PW.pt (pw_or (pt_not (pt_val (pe_callB (call_isiK K) (by rfl) T.b_isinstance bt_isinstance (pa_cons (pv 0) (pa_cons (pe_bty T.b_tuple bt_tuple) pa_nil))))) (pw_or1 (pt_cmpR op_ne (pe_callB (call_lenK K) (by rfl) T.b_len bt_len (pa_cons (pv 0) pa_nil)) pe_int (nomark _))))) (pss_one (ps_ret pe_bl)) pss_nil)
      (pss_one (ps_ret (pe_and (pe_callD D_is_number_below (hr.mono (by decide)) hq pass0 (pa_cons (pe_ix (ix_seqK K) (pv 0) pe_int (fun _ _ => rfl)) (pa_cons (pv 1) pa_nil))) (pe_one (pe_callD D_is_number_below (hr.mono (by decide)) hq pass0 (pa_cons (pe_ix (ix_seqK K) (pv 0) pe_int (fun _ _ => rfl)) (pa_cons (pv 2) pa_nil)))))))), ?_⟩
    refine ⟨_, rfl, _, _, _, _, _, rfl, .ty _, hd.ty, isa_tuple d, _, rfl, ?_⟩
    cases d with
    | tuple ds =>
      obtain ⟨a, xs, rfl, hS0, hA⟩ := hd
      have hS : SqT K _ a xs := .inl (.inl hS0)
      have hl := hA.len
      refine ⟨_, rfl, a, _, rfl, .inr hS, rfl, _, rfl, ?_⟩
      refine ite2 (fun h1 => ?_) (fun h1 => ?_)
      · have e : tupB (.tuple ds) m n = false := by
          unfold tupB
          split
          · rename_i heq
            cases heq
            rw [← hl] at h1
            simp at h1
          · rfl
        rw [e] at q
        exact q
      · have h2 : ds.length = 2 := by
          simp at h1
          omega
        obtain ⟨d1, d2, rfl⟩ : ∃ d1 d2, ds = [d1, d2] := by
          match ds, h2 with
          | [d1, d2], _ => exact ⟨d1, d2, rfl⟩
        obtain ⟨x1, r1, rfl, g1, x2, r2, rfl, g2, rfl⟩ := hA
        refine ⟨_, rfl, .inr (.inl ⟨a, _, 0, x1, rfl, rfl, hS, rfl, _, rfl, _, _, _, rfl, g1, _, rfl, ?_⟩)⟩
        refine ite2 (fun h3 => ?_) (fun h3 => ?_)
        · refine ⟨_, rfl, .inr (.inl ⟨a, _, 1, x2, rfl, rfl, hS, rfl, _, rfl, _, _, _, rfl, g2, ?_⟩)⟩
          simp only [tupB, h3, Bool.true_and] at q
          exact q
        · rw [Bool.not_eq_true] at h3
          simp only [tupB, h3, Bool.false_and] at q
          exact q
    | _ => exact q
end

/-! are_below: slots 0 value, 1 limit, 2 one -/
abbrev s_are_below : Stmt := topS 9
abbrev N_are_below : List Str := ["value", "limit", "one"]
abbrev P_are_below : List Str := ["value", "limit"]
theorem sc_are_below : FnScope N_are_below P_are_below (defScope s_are_below) := ⟨rfl, rfl, rfl, by decide +kernel, rfl, by decide +kernel, by decide +kernel⟩
def sp_are_below (K : PySem.W.Frag) : Sp := fun vs H Q _ => ∃ v d m, vs = [v, .int m] ∧ Da K H d v ∧ ∀ H', Ex H H' → Q (.bl (listB d m)) H'
section
variable {P : Program} {w : World} {K : PySem.W.Frag} {mg : Str → Option Value} {base : Heap}
theorem ok_are_below {f : Addr} {fd : FuncData} (T : Txt K mg) (F : Fun K "are_below" "are_below" s_are_below f fd)
    (D_is_number_below : DefOk P w K mg base CX0 2 "is_number_below" P_is_number_below (sp_is_number_below K)) :
    FnG P w K mg base CX0 3 f fd P_are_below (sp_are_below K) := by
  refine okG0 F sc_are_below (fun vs H Q E h => ?_) (fun cdv A outer s H vs Q E hr hq h => ?_)
  · obtain ⟨v, d, m, rfl, _⟩ := h
    rfl
  · obtain ⟨v, d, m, rfl, hd, q⟩ := h
    refine ⟨_, (pss_one (ps_ret (pe_and (pe_callB (call_isiK K) (by rfl) T.b_isinstance bt_isinstance (pa_cons (pv 0) (pa_cons (pe_bty T.b_list bt_list) pa_nil))) (pe_one (pe_callB (cr_allK K rfl) (by rfl) T.b_all bt_all (pa_cons (pe_lc (own := [("one", 2)]) rfl sc_are_below.nd (pi_listK K (pv 0)) (blkOk_by (N := N_are_below) (sc := defScope s_are_below) (by decide +kernel)) (fun _ _ _ _ _ => (pg_name (i := 2) sc_are_below.nd rfl (by first | exact .inl rfl | exact .inr rfl))) (fun _ _ _ _ _ => pts_nil) (fun _ _ _ _ _ => (pe_callD D_is_number_below (hr.mono (by decide)) hq pass0 (pa_cons (pv 2) (pa_cons (pv 1) pa_nil))))) pa_nil)))))), ?_⟩
    refine ⟨_, rfl, _, _, _, _, _, rfl, .ty _, hd.ty, isa_list d, _, rfl, ?_⟩
    cases d with
    | list ds =>
      obtain ⟨a, xs, rfl, hS0, hA, hz⟩ := hd
      have hS : SqL K _ a xs := .inl (.inl hS0)
      have hl := hA.len
      refine ⟨_, rfl, a, rfl, ⟨_, hS⟩, fun D hD => ?_⟩
      refine lc_ev xs.length (fun _ => true) (fun i y _ => y = .bl (numB (ds.getD i .none) m)) (by omega) hD (fun _ _ _ _ _ h => h)
        (fun i H' hi e => itl_go hS e hi) (fun H' e => itl_stop hS e) ?_ ?_
      · intro i H' x H'' hi e _ y Q' N' hQ _
        obtain ⟨rfl, hx⟩ := itl_yld y hS e
        obtain ⟨d, hd, hx'⟩ := hA.at' hx
        refine ⟨rfl, _, rfl, _, rfl, _, _, _, rfl, hx'.up e, ?_⟩
        refine hQ rfl _ _ Ex.rfl ?_
        rw [List.getD_eq_getElem?_getD, hd]
        rfl
      · intro ys H' e hy gv
        refine ⟨D, (List.range xs.length).map fun i => numB (ds.getD i .none) m, rfl, .inl (.inl ?_), ?_⟩
        · rw [hy, gv.all, given_bl]
        · rw [← hl, all_range_get (fun d => numB d m) .none ds]
          exact q _ e
    | _ => exact q _ Ex.rfl
end

/-! are_ascending: slots 0 values, 1 one, 2 following -/
abbrev s_are_ascending : Stmt := topS 10
abbrev N_are_ascending : List Str := ["values", "one", "following"]
abbrev P_are_ascending : List Str := ["values"]
theorem sc_are_ascending : FnScope N_are_ascending P_are_ascending (defScope s_are_ascending) := ⟨rfl, rfl, rfl, by decide +kernel, rfl, by decide +kernel, by decide +kernel⟩
def sp_are_ascending (K : PySem.W.Frag) : Sp := fun vs H Q _ => ∃ v, vs = [v] ∧
  ((∃ ns : List Int, Da K H (.list (ns.map PyData.int)) v ∧ ∀ H', Ex H H' → Q (.bl (ascB ltIn ns)) H') ∨
   (∃ ps : List (Int × Int), Da K H (.list (ps.map dPair)) v ∧ ∀ H', Ex H H' → Q (.bl (ascB ltPr ps)) H'))
section
variable {P : Program} {w : World} {K : PySem.W.Frag} {mg : Str → Option Value} {base : Heap}
theorem ok_are_ascending {f : Addr} {fd : FuncData} (T : Txt K mg) (F : Fun K "are_ascending" "are_ascending" s_are_ascending f fd) :
    FnG P w K mg base CX0 1 f fd P_are_ascending (sp_are_ascending K) := by
  refine okG0 F sc_are_ascending (fun vs H Q E h => ?_) (fun cdv A outer s H vs Q E hr hq h => ?_)
  · obtain ⟨v, rfl, _⟩ := h
    rfl
  · obtain ⟨v, rfl, h⟩ := h
    refine ⟨_, (pss_one (ps_ret (pe_callB (cr_allK K rfl) (by rfl) T.b_all bt_all (pa_cons (pe_lc (own := [("one", 1), ("following", 2)]) rfl sc_are_ascending.nd (pi_zip (by rfl) T.b_zip (pa_cons (pv 0) (pa_cons (pe_slice (sl_listK K) (pv 0) (po_some pe_int) po_none) pa_nil))) (blkOk_by (N := N_are_ascending) (sc := defScope s_are_ascending) (by decide +kernel)) (fun _ _ _ _ _ => (pg_tupK (n := 2) K rfl (pgs_cons (pg_name (i := 1) sc_are_ascending.nd rfl (by first | exact .inl rfl | exact .inr rfl)) (pgs_cons (pg_name (i := 2) sc_are_ascending.nd rfl (by first | exact .inl rfl | exact .inr rfl)) pgs_nil)))) (fun _ _ _ _ _ => pts_nil) (fun _ _ _ _ _ => (pe_cmpR (op_ltA K hr.units0) (pv 1) (pv 2) (nomark _)))) pa_nil)))), ?_⟩
    rcases h with ⟨ns, ⟨a, xs, rfl, hS0, hA, hz⟩, q⟩ | ⟨ps, ⟨a, xs, rfl, hS0, hA, hz⟩, q⟩
    · obtain rfl := DaAll.ints.mp hA
      have hS : SqL K _ a (ns.map V.int) := .inl (.inl hS0)
      rw [List.length_map] at hz
      refine ⟨_, rfl, .ref a, rfl, 1, rfl, a, _, rfl, hS, fun p hp => ?_⟩
      have hS' := (Ex.nw (o := .lst (cutV (ns.map V.int) (some 1) none)) hp).l hS
      have hC : SqL K (upd H p (.lst (cutV (ns.map V.int) (some 1) none))) p ((ns.map V.int).drop 1) := .inl (.inl (by rw [upd_same, cut1]))
      refine ⟨a, p, _, _, rfl, hS', hC, fun D hD => ?_⟩
      refine lc_ev (min (ns.map V.int).length ((ns.map V.int).drop 1).length) (fun _ => true) (fun i y _ => y = .bl (ascAt ltIn ns i)) (by rw [List.length_map]; omega) hD
        (fun _ _ _ _ _ h => h) (fun i H' hi e => itz_go hS' hC e hi) (fun H' e => itz_stop hS' hC e) ?_ ?_
      · rintro i H' x H'' hi e _ ⟨T', x1, x2, rfl, hT, rfl, h1, h2⟩ Q' N' hQ _
        obtain ⟨n1, g1, rfl⟩ := map_at (h1 _ (e.l hS'))
        obtain ⟨n2, g2, rfl⟩ := map_at (drop1_at (h2 _ (e.l hC)))
        refine ⟨T', _, rfl, .inl (.inl upd_same), rfl, _, _, rfl, _, _, rfl, rfl, rfl, _, rfl, _, rfl, .inl ⟨_, _, rfl, rfl, hQ rfl _ _ (Ex.nw hT) ?_⟩⟩
        show V.bl (decide (n1 < n2)) = V.bl (ascAt ltIn ns i)
        simp only [ascAt, g1, g2, ltIn]
      · intro ys H' e hy gv
        refine ⟨D, (List.range (min (ns.map V.int).length ((ns.map V.int).drop 1).length)).map fun i => ascAt ltIn ns i, rfl, .inl (.inl ?_), ?_⟩
        · rw [hy, gv.all, given_bl]
        · rw [min_drop1, List.length_map, ascB_range]
          exact q _ ((Ex.nw hp).tr e)
    · have hS : SqL K _ a xs := .inl (.inl hS0)
      have hl : ps.length = xs.length := by
        have := hA.len
        rw [List.length_map] at this
        exact this
      rw [List.length_map] at hz
      refine ⟨_, rfl, .ref a, rfl, 1, rfl, a, _, rfl, hS, fun p hp => ?_⟩
      have e0 : Ex H (upd H p (.lst (cutV xs (some 1) none))) := Ex.nw hp
      have hS' := e0.l hS
      have hC : SqL K (upd H p (.lst (cutV xs (some 1) none))) p (xs.drop 1) := .inl (.inl (by rw [upd_same, cut1]))
      refine ⟨a, p, _, _, rfl, hS', hC, fun D hD => ?_⟩
      refine lc_ev (min xs.length (xs.drop 1).length) (fun _ => true) (fun i y _ => y = .bl (ascAt ltPr ps i)) (by omega) hD
        (fun _ _ _ _ _ h => h) (fun i H' hi e => itz_go hS' hC e hi) (fun H' e => itz_stop hS' hC e) ?_ ?_
      · rintro i H' x H'' hi e _ ⟨T', x1, x2, rfl, hT, rfl, h1, h2⟩ Q' N' hQ _
        obtain ⟨p1, g1, a1, rfl, t1⟩ := pairs_at hA (h1 _ (e.l hS'))
        obtain ⟨p2, g2, a2, rfl, t2⟩ := pairs_at hA (drop1_at (h2 _ (e.l hC)))
        have e3 := (e0.tr e).tr (Ex.nw (o := .tup [.ref a1, .ref a2]) hT)
        refine ⟨T', _, rfl, .inl (.inl upd_same), rfl, _, _, rfl, _, _, rfl, rfl, rfl, _, rfl, _, rfl,
          .inr ⟨a1, a2, [p1.1, p1.2], [p2.1, p2.2], rfl, rfl, e3.t t1, e3.t t2, hQ rfl _ _ (Ex.nw hT) ?_⟩⟩
        show V.bl (HT.lexLt [p1.1, p1.2] [p2.1, p2.2]) = V.bl (ascAt ltPr ps i)
        simp only [ascAt, g1, g2, ltPr]
      · intro ys H' e hy gv
        refine ⟨D, (List.range (min xs.length (xs.drop 1).length)).map fun i => ascAt ltPr ps i, rfl, .inl (.inl ?_), ?_⟩
        · rw [hy, gv.all, given_bl]
        · rw [min_drop1, ← hl, ascB_range]
          exact q _ ((Ex.nw hp).tr e)
end

/-! are_ascending_tuples: slots 0 value, 1 first_limit, 2 second_limit, 3 one -/
abbrev s_are_ascending_tuples : Stmt := topS 11
abbrev N_are_ascending_tuples : List Str := ["value", "first_limit", "second_limit", "one"]
abbrev P_are_ascending_tuples : List Str := ["value", "first_limit", "second_limit"]
theorem sc_are_ascending_tuples : FnScope N_are_ascending_tuples P_are_ascending_tuples (defScope s_are_ascending_tuples) := ⟨rfl, rfl, rfl, by decide +kernel, rfl, by decide +kernel, by decide +kernel⟩
def sp_are_ascending_tuples (K : PySem.W.Frag) : Sp := fun vs H Q _ => ∃ v d m n, vs = [v, .int m, .int n] ∧ Da K H d v ∧ ∀ H', Ex H H' → Q (.bl (tuplesB d m n)) H'
section
variable {P : Program} {w : World} {K : PySem.W.Frag} {mg : Str → Option Value} {base : Heap}
theorem ok_are_ascending_tuples {f : Addr} {fd : FuncData} (T : Txt K mg) (F : Fun K "are_ascending_tuples" "are_ascending_tuples" s_are_ascending_tuples f fd)
    (D_is_tuple_below : DefOk P w K mg base CX0 3 "is_tuple_below" P_is_tuple_below (sp_is_tuple_below K))
    (D_are_ascending : DefOk P w K mg base CX0 1 "are_ascending" P_are_ascending (sp_are_ascending K)) :
    FnG P w K mg base CX0 4 f fd P_are_ascending_tuples (sp_are_ascending_tuples K) := by
  refine okG0 F sc_are_ascending_tuples (fun vs H Q E h => ?_) (fun cdv A outer s H vs Q E hr hq h => ?_)
  · obtain ⟨v, d, m, n, rfl, _⟩ := h
    rfl
  · obtain ⟨v, d, m, n, rfl, hd, q⟩ := h
    refine ⟨_, (pss_cons (ps_if (pt_not (pt_val (pe_callB (call_isiK K) (by rfl) T.b_isinstance bt_isinstance (pa_cons (pv 0) (pa_cons (pe_bty T.b_list bt_list) pa_nil))))) (pss_one (ps_ret pe_bl)) pss_nil)
      (pss_cons (ps_if (pt_not (pt_val (pe_callB (cr_allK K rfl) (by rfl) T.b_all bt_all (pa_cons (pe_lc (own := [("one", 3)]) rfl sc_are_ascending_tuples.nd (pi_listK K (pv 0)) (blkOk_by (N := N_are_ascending_tuples) (sc := defScope s_are_ascending_tuples) (by decide +kernel)) (fun _ _ _ _ _ => (pg_name (i := 3) sc_are_ascending_tuples.nd rfl (by first | exact .inl rfl | exact .inr rfl))) (fun _ _ _ _ _ => pts_nil) (fun _ _ _ _ _ => (pe_callD D_is_tuple_below (hr.mono (by decide)) hq pass0 (pa_cons (pv 3) (pa_cons (pv 1) (pa_cons (pv 2) pa_nil)))))) pa_nil)))) (pss_one (ps_ret pe_bl)) pss_nil)
      (pss_one (ps_ret (pe_callD D_are_ascending (hr.mono (by decide)) hq pass0 (pa_cons (pv 0) pa_nil)))))), ?_⟩
    refine ⟨_, rfl, _, _, _, _, _, rfl, .ty _, hd.ty, isa_list d, _, rfl, ?_⟩
    cases d with
    | list ds =>
      have hd0 := hd
      obtain ⟨a, xs, rfl, hS0, hA, hz⟩ := hd
      have hS : SqL K _ a xs := .inl (.inl hS0)
      have hl := hA.len
      refine ⟨_, rfl, a, rfl, ⟨_, hS⟩, fun D hD => ?_⟩
      refine lc_ev xs.length (fun _ => true) (fun i y _ => y = .bl (tupB (ds.getD i .none) m n)) (by omega) hD (fun _ _ _ _ _ h => h)
        (fun i H' hi e => itl_go hS e hi) (fun H' e => itl_stop hS e) ?_ ?_
      · intro i H' x H'' hi e _ y Q' N' hQ _
        obtain ⟨rfl, hx⟩ := itl_yld y hS e
        obtain ⟨d, hd, hx'⟩ := hA.at' hx
        refine ⟨rfl, _, rfl, _, rfl, _, rfl, _, _, _, _, rfl, hx'.up e, ?_⟩
        refine hQ rfl _ _ Ex.rfl ?_
        rw [List.getD_eq_getElem?_getD, hd]
        rfl
      · intro ys H' e hy gv
        refine ⟨D, (List.range xs.length).map fun i => tupB (ds.getD i .none) m n, rfl, .inl (.inl ?_), _, rfl, ?_⟩
        · rw [hy, gv.all, given_bl]
        · rw [← hl, all_range_get (fun d => tupB d m n) .none ds]
          refine ite2 (fun h1 => ?_) (fun h1 => ?_)
          · rw [Bool.not_eq_true'] at h1
            have e2 : tuplesB (.list ds) m n = false := by simp only [tuplesB, h1, Bool.false_and]
            rw [e2] at q
            exact q _ e
          · rw [Bool.not_eq_true', Bool.not_eq_false] at h1
            obtain ⟨ps, rfl, _⟩ := pairs_of_all h1
            refine ⟨_, rfl, _, rfl, .inr ⟨ps, hd0.up e, fun H2 e2 => ?_⟩⟩
            have e3 : tuplesB (.list (ps.map dPair)) m n = ascB ltPr ps := by simp only [tuplesB, h1, Bool.true_and, pairsOf_map]
            rw [e3] at q
            exact q _ (e.tr e2)
    | _ => exact q _ Ex.rfl
end

/-! are_targets: slots 0 value, 1 count -/
abbrev s_are_targets : Stmt := topS 12
abbrev N_are_targets : List Str := ["value", "count"]
abbrev P_are_targets : List Str := ["value", "count"]
theorem sc_are_targets : FnScope N_are_targets P_are_targets (defScope s_are_targets) := ⟨rfl, rfl, rfl, by decide +kernel, rfl, by decide +kernel, by decide +kernel⟩
def sp_are_targets (K : PySem.W.Frag) : Sp := fun vs H Q _ => ∃ v d m, vs = [v, .int m] ∧ Da K H d v ∧ ∀ H', Ex H H' → Q (.bl (targetsB d m)) H'
section
variable {P : Program} {w : World} {K : PySem.W.Frag} {mg : Str → Option Value} {base : Heap}
theorem ok_are_targets {f : Addr} {fd : FuncData} (T : Txt K mg) (F : Fun K "are_targets" "are_targets" s_are_targets f fd)
    (D_are_below : DefOk P w K mg base CX0 3 "are_below" P_are_below (sp_are_below K))
    (D_are_ascending : DefOk P w K mg base CX0 1 "are_ascending" P_are_ascending (sp_are_ascending K)) :
    FnG P w K mg base CX0 4 f fd P_are_targets (sp_are_targets K) := by
  refine okG0 F sc_are_targets (fun vs H Q E h => ?_) (fun cdv A outer s H vs Q E hr hq h => ?_)
  · obtain ⟨v, d, m, rfl, _⟩ := h
    rfl
  · obtain ⟨v, d, m, rfl, hd, q⟩ := h
    refine ⟨_, (pss_one (ps_ret (pe_and (pe_callD D_are_below (hr.mono (by decide)) hq pass0 (pa_cons (pv 0) (pa_cons (pv 1) pa_nil))) (pe_and (pe_cmpR op_gt (pe_callB (call_lenK K) (by rfl) T.b_len bt_len (pa_cons (pv 0) pa_nil)) pe_int (nomark _)) (pe_one (pe_callD D_are_ascending (hr.mono (by decide)) hq pass0 (pa_cons (pv 0) pa_nil))))))), ?_⟩
    refine ⟨_, rfl, _, rfl, _, _, _, rfl, hd, fun H1 e1 => ⟨_, rfl, ?_⟩⟩
    refine ite2 (fun h1 => ?_) (fun h1 => ?_)
    · cases d with
      | list ds =>
        obtain ⟨ns, rfl, _⟩ := ints_of_all (show (ds.all fun d => numB d m) = true from h1)
        have hd1 := hd.up e1
        obtain ⟨a, xs, rfl, hS0, hA, hz⟩ := hd1
        have hS : SqL K _ a xs := .inl (.inl hS0)
        have hl := hA.len
        refine ⟨_, rfl, a, _, rfl, .inl hS, _, _, rfl, rfl, _, rfl, ?_⟩
        refine ite2 (fun h2 => ?_) (fun h2 => ?_)
        · refine ⟨_, rfl, _, rfl, .inl ⟨ns, hd.up e1, fun H2 e2 => ?_⟩⟩
          have e3 : targetsB (.list (ns.map PyData.int)) m = ascB ltIn ns := by
            have h3 : ((ns.map PyData.int).all fun d => numB d m) = true := h1
            have h4 : decide (0 < (ns.map PyData.int).length) = true := by
              rw [hl]
              simpa using h2
            simp only [targetsB, h3, h4, Bool.true_and, intsOf_map]
          rw [e3] at q
          exact q _ (e1.tr e2)
        · have e3 : targetsB (.list (ns.map PyData.int)) m = false := by
            have h4 : decide (0 < (ns.map PyData.int).length) = false := by
              rw [hl]
              simpa using h2
            simp only [targetsB, h4, Bool.false_and, Bool.and_false]
          rw [e3] at q
          exact q _ e1
      | _ => exact (Bool.noConfusion h1 : False).elim
    · rw [Bool.not_eq_true] at h1
      have e3 : targetsB d m = false := by
        cases d with
        | list ds =>
          have h3 : (ds.all fun d => numB d m) = false := h1
          simp only [targetsB, h3, Bool.false_and]
        | _ => rfl
      rw [e3] at q
      exact q _ e1
end

/-! are_nudges: slots 0 value, 1 count, 2 nudge -/
abbrev s_are_nudges : Stmt := topS 13
abbrev N_are_nudges : List Str := ["value", "count", "nudge"]
abbrev P_are_nudges : List Str := ["value", "count"]
theorem sc_are_nudges : FnScope N_are_nudges P_are_nudges (defScope s_are_nudges) := ⟨rfl, rfl, rfl, by decide +kernel, rfl, by decide +kernel, by decide +kernel⟩
def sp_are_nudges (K : PySem.W.Frag) : Sp := fun vs H Q _ => ∃ v d m, vs = [v, .int m] ∧ Da K H d v ∧ ∀ H', Ex H H' → Q (.bl (nudgesB d m)) H'
section
variable {P : Program} {w : World} {K : PySem.W.Frag} {mg : Str → Option Value} {base : Heap}
theorem ok_are_nudges {f : Addr} {fd : FuncData} (T : Txt K mg) (F : Fun K "are_nudges" "are_nudges" s_are_nudges f fd)
    (D_are_targets : DefOk P w K mg base CX0 4 "are_targets" P_are_targets (sp_are_targets K)) :
    FnG P w K mg base CX0 5 f fd P_are_nudges (sp_are_nudges K) := by
  refine okG0 F sc_are_nudges (fun vs H Q E h => ?_) (fun cdv A outer s H vs Q E hr hq h => ?_)
  · obtain ⟨v, d, m, rfl, _⟩ := h
    rfl
  · obtain ⟨v, d, m, rfl, hd, q⟩ := h
    refine ⟨_, (pss_cons (ps_if (PW.pt (pw_or (pt_not (pt_val (pe_callB (call_isiK K) (by rfl) T.b_isinstance bt_isinstance (pa_cons (pv 0) (pa_cons (pe_bty T.b_list bt_list) pa_nil))))) (pw_or1 (pt_cmpR op_gt (pe_callB (call_lenK K) (by rfl) T.b_len bt_len (pa_cons (pv 0) pa_nil)) (pe_globI T.c_MOST_NUDGES) (nomark _))))) (pss_one (ps_ret pe_bl)) pss_nil)
      (pss_one (ps_ret (pe_callB (cr_allK K rfl) (by rfl) T.b_all bt_all (pa_cons (pe_lc (own := [("nudge", 2)]) rfl sc_are_nudges.nd (pi_listK K (pv 0)) (blkOk_by (N := N_are_nudges) (sc := defScope s_are_nudges) (by decide +kernel)) (fun _ _ _ _ _ => (pg_name (i := 2) sc_are_nudges.nd rfl (by first | exact .inl rfl | exact .inr rfl))) (fun _ _ _ _ _ => pts_nil) (fun _ _ _ _ _ => (pe_callD D_are_targets (hr.mono (by decide)) hq pass0 (pa_cons (pv 2) (pa_cons (pv 1) pa_nil))))) pa_nil))))), ?_⟩
    refine ⟨_, rfl, _, _, _, _, _, rfl, .ty _, hd.ty, isa_list d, _, rfl, ?_⟩
    cases d with
    | list ds =>
      obtain ⟨a, xs, rfl, hS0, hA, hz⟩ := hd
      have hS : SqL K _ a xs := .inl (.inl hS0)
      have hl := hA.len
      refine ⟨_, rfl, a, _, rfl, .inl hS, _, _, rfl, rfl, _, rfl, ?_⟩
      refine ite2 (fun h1 => ?_) (fun h1 => ?_)
      · have e3 : nudgesB (.list ds) m = false := by
          have h4 : decide (ds.length ≤ 8) = false := by
            rw [hl]
            simp at h1
            simp
            omega
          simp only [nudgesB, h4, Bool.false_and]
        rw [e3] at q
        exact q _ Ex.rfl
      · have e3 : nudgesB (.list ds) m = ds.all fun d => targetsB d m := by
          have h4 : decide (ds.length ≤ 8) = true := by
            rw [hl]
            simp at h1
            simp
            omega
          simp only [nudgesB, h4, Bool.true_and]
        rw [e3] at q
        refine ⟨_, rfl, a, rfl, ⟨_, hS⟩, fun D hD => ?_⟩
        refine lc_ev xs.length (fun _ => true) (fun i y _ => y = .bl (targetsB (ds.getD i .none) m)) (by omega) hD (fun _ _ _ _ _ h => h)
          (fun i H' hi e => itl_go hS e hi) (fun H' e => itl_stop hS e) ?_ ?_
        · intro i H' x H'' hi e _ y Q' N' hQ _
          obtain ⟨rfl, hx⟩ := itl_yld y hS e
          obtain ⟨d, hd, hx'⟩ := hA.at' hx
          refine ⟨rfl, _, rfl, _, rfl, _, _, _, rfl, hx'.up e, fun H2 e2 => ?_⟩
          refine hQ rfl _ _ e2 ?_
          rw [List.getD_eq_getElem?_getD, hd]
          rfl
        · intro ys H' e hy gv
          refine ⟨D, (List.range xs.length).map fun i => targetsB (ds.getD i .none) m, rfl, .inl (.inl ?_), ?_⟩
          · rw [hy, gv.all, given_bl]
          · rw [← hl, all_range_get (fun d => targetsB d m) .none ds]
            exact q _ e
    | _ => exact q _ Ex.rfl
end

/-! has_web_shape: slots 0 value, 1 count, 2 pairs, 3 nudges -/
abbrev s_has_web_shape : Stmt := topS 14
abbrev N_has_web_shape : List Str := ["value", "count", "pairs", "nudges"]
abbrev P_has_web_shape : List Str := ["value"]
theorem sc_has_web_shape : FnScope N_has_web_shape P_has_web_shape (defScope s_has_web_shape) := ⟨rfl, rfl, rfl, by decide +kernel, rfl, by decide +kernel, by decide +kernel⟩
def sp_has_web_shape (K : PySem.W.Frag) : Sp := fun vs H Q _ => ∃ v d, vs = [v] ∧ Da K H d v ∧ ∀ H', Ex H H' → Q (.bl (webB d)) H'
section
variable {P : Program} {w : World} {K : PySem.W.Frag} {mg : Str → Option Value} {base : Heap}
theorem ok_has_web_shape {f : Addr} {fd : FuncData} (T : Txt K mg) (F : Fun K "has_web_shape" "has_web_shape" s_has_web_shape f fd)
    (D_is_integer : DefOk P w K mg base CX0 1 "is_integer" P_is_integer (sp_is_integer K))
    (D_are_ascending_tuples : DefOk P w K mg base CX0 4 "are_ascending_tuples" P_are_ascending_tuples (sp_are_ascending_tuples K))
    (D_are_nudges : DefOk P w K mg base CX0 5 "are_nudges" P_are_nudges (sp_are_nudges K)) :
    FnG P w K mg base CX0 6 f fd P_has_web_shape (sp_has_web_shape K) := by
  refine okG0 F sc_has_web_shape (fun vs H Q E h => ?_) (fun cdv A outer s H vs Q E hr hq h => ?_)
  · obtain ⟨v, d, rfl, _⟩ := h
    rfl
  · obtain ⟨v, d, rfl, hd, q⟩ := h
    refine ⟨_, (pss_cons (ps_if (PW.pt (pw_or (pt_not (pt_val (pe_callB (call_isiK K) (by rfl) T.b_isinstance bt_isinstance (pa_cons (pv 0) (pa_cons (pe_bty T.b_tuple bt_tuple) pa_nil))))) (pw_or1 (pt_cmpR op_ne (pe_callB (call_lenK K) (by rfl) T.b_len bt_len (pa_cons (pv 0) pa_nil)) pe_int (nomark _))))) (pss_one (ps_ret pe_bl)) pss_nil)
      (pss_cons (ps_asg (pv 0) (pg_tupK (n := 3) K rfl (pgs_cons (pg_name (i := 1) sc_has_web_shape.nd rfl (by first | exact .inl rfl | exact .inr rfl)) (pgs_cons (pg_name (i := 2) sc_has_web_shape.nd rfl (by first | exact .inl rfl | exact .inr rfl)) (pgs_cons (pg_name (i := 3) sc_has_web_shape.nd rfl (by first | exact .inl rfl | exact .inr rfl)) pgs_nil)))))
      (pss_cons (ps_if (PW.pt (pw_or (pt_not (pt_val (pe_callD D_is_integer (hr.mono (by decide)) hq pass0 (pa_cons (pv 1) pa_nil)))) (pw_or1 (pt_not (pt_chain op_le op_le pe_int (pv 1) (pe_globI T.c_MOST_QUANTITIES)))))) (pss_one (ps_ret pe_bl)) pss_nil)
      (pss_one (ps_ret (pe_and (pe_callD D_are_ascending_tuples (hr.mono (by decide)) hq pass0 (pa_cons (pv 2) (pa_cons (pv 1) (pa_cons (pv 1) pa_nil)))) (pe_one (pe_callD D_are_nudges (hr.mono (by decide)) hq pass0 (pa_cons (pv 3) (pa_cons (pv 1) pa_nil)))))))))), ?_⟩
    refine ⟨_, rfl, _, _, _, _, _, rfl, .ty _, hd.ty, isa_tuple d, _, rfl, ?_⟩
    cases d with
    | tuple ds =>
      obtain ⟨a, xs, rfl, hS0, hA⟩ := hd
      have hS : SqT K _ a xs := .inl (.inl hS0)
      have hl := hA.len
      refine ⟨_, rfl, a, _, rfl, .inr hS, rfl, _, rfl, ?_⟩
      refine ite2 (fun h1 => ?_) (fun h1 => ?_)
      · have e : webB (.tuple ds) = false := by
          unfold webB
          split
          · rename_i heq
            cases heq
            rw [← hl] at h1
            simp at h1
          · rfl
        rw [e] at q
        exact q _ Ex.rfl
      · have h2 : ds.length = 3 := by
          simp at h1
          omega
        obtain ⟨d1, d2, d3, rfl⟩ : ∃ d1 d2 d3, ds = [d1, d2, d3] := by
          match ds, h2 with
          | [d1, d2, d3], _ => exact ⟨d1, d2, d3, rfl⟩
        obtain ⟨x1, r1, rfl, g1, x2, r2, rfl, g2, x3, r3, rfl, g3, rfl⟩ := hA
        refine ⟨_, rfl, a, _, rfl, hS, rfl, _, _, rfl, _, _, rfl, _, _, rfl, rfl, ?_⟩
        refine ⟨_, rfl, _, _, rfl, g1, _, rfl, ?_⟩
        cases d1 with
        | int n =>
          obtain rfl := g1
          refine ⟨_, rfl, _, _, rfl, rfl, _, rfl, ?_⟩
          refine ite2 (fun h3 => ?_) (fun h3 => ?_)
          · refine ⟨_, _, rfl, rfl, _, rfl, ?_⟩
            refine ite2 (fun h4 => ?_) (fun h4 => ?_)
            · have e : webB (.tuple [.int n, d2, d3]) = false := by
                have h5 : decide (n ≤ 20) = false := by simpa using h4
                simp only [webB, h5, Bool.and_false, Bool.false_and]
              rw [e] at q
              exact q _ Ex.rfl
            · have e : webB (.tuple [.int n, d2, d3]) = (tuplesB d2 n n && nudgesB d3 n) := by
                have h5 : decide (n ≤ 20) = true := by simpa using h4
                simp only [webB, h5, h3, Bool.true_and]
              rw [e] at q
              refine ⟨_, rfl, _, rfl, _, rfl, _, _, _, _, rfl, g2, fun H1 e1 => ⟨_, rfl, ?_⟩⟩
              refine ite2 (fun h6 => ?_) (fun h6 => ?_)
              · refine ⟨_, rfl, _, rfl, _, _, _, rfl, g3.up e1, fun H2 e2 => ?_⟩
                rw [h6, Bool.true_and] at q
                exact q _ (e1.tr e2)
              · rw [Bool.not_eq_true] at h6
                rw [h6, Bool.false_and] at q
                exact q _ e1
          · have e : webB (.tuple [.int n, d2, d3]) = false := by
              rw [Bool.not_eq_true] at h3
              simp only [webB, h3, Bool.false_and]
            rw [e] at q
            exact ⟨_, rfl, q _ Ex.rfl⟩
        | _ => exact q _ Ex.rfl
    | _ => exact q _ Ex.rfl
end

/-! check_web: slots 0 web -/
abbrev s_check_web : Stmt := topS 16
abbrev N_check_web : List Str := ["web"]
abbrev P_check_web : List Str := ["web"]
theorem sc_check_web : FnScope N_check_web P_check_web (defScope s_check_web) := ⟨rfl, rfl, rfl, by decide +kernel, rfl, by decide +kernel, by decide +kernel⟩
/-- of a right value: nothing is raised -/
def sp_check_web (K : PySem.W.Frag) : Sp := fun vs H Q _ => ∃ v d, vs = [v] ∧ Da K H d v ∧ webB d = true ∧ ∀ H', Ex H H' → Q .non H'
section
variable {P : Program} {w : World} {K : PySem.W.Frag} {mg : Str → Option Value} {base : Heap}
theorem ok_check_web {f : Addr} {fd : FuncData} (T : Txt K mg) (F : Fun K "check_web" "check_web" s_check_web f fd)
    (D_has_web_shape : DefOk P w K mg base CX0 6 "has_web_shape" P_has_web_shape (sp_has_web_shape K)) :
    FnG P w K mg base CX0 7 f fd P_check_web (sp_check_web K) := by
  refine okG0 F sc_check_web (fun vs H Q E h => ?_) (fun cdv A outer s H vs Q E hr hq h => ?_)
  · obtain ⟨v, d, rfl, _⟩ := h
    rfl
  · obtain ⟨v, d, rfl, hd, hw, q⟩ := h
    refine ⟨_, (pss_one (ps_if (pt_not (pt_val (pe_callD D_has_web_shape (hr.mono (by decide)) hq pass0 (pa_cons (pv 0) pa_nil)))) (pss_one ps_never) pss_nil)), ?_⟩
    refine ⟨_, rfl, _, _, rfl, hd, fun H1 e1 => ⟨_, rfl, ?_⟩⟩
    rw [hw]
    exact q _ e1
end

end K17
namespace K17
open PySem PySem.Spec PyProof.Rows L2 Nw
/-! all_lines: slots 0 web, 1 count, 2 pairs, 3 nudges, 4 pushed, 5 target, 6 at, 7 nudge -/
abbrev s_all_lines : Stmt := topS 18
abbrev N_all_lines : List Str := ["web", "count", "pairs", "nudges", "pushed", "target", "at", "nudge"]
abbrev P_all_lines : List Str := ["web"]
theorem sc_all_lines : FnScope N_all_lines P_all_lines (defScope s_all_lines) := ⟨rfl, rfl, rfl, by decide +kernel, rfl, by decide +kernel, by decide +kernel⟩
/-- webs that may have more nudges -/
structure Wb.Wd (w : Wb) : Prop where
  lo : 1 ≤ w.n
  hi : w.n ≤ 20
  ps : ∀ p ∈ w.ps, (0 ≤ p.1 ∧ p.1 < w.n) ∧ (0 ≤ p.2 ∧ p.2 < w.n)
  asc : ascB ltPr w.ps = true
  few : w.ns.length ≤ 31
  ns : ∀ r ∈ w.ns, True ∧ (∀ t ∈ r, 0 ≤ t ∧ t < w.n) ∧ ascB ltIn r = true
theorem Wb.Ok.wd {w : Wb} (h : w.Ok) : Wb.Wd w := ⟨h.lo, h.hi, h.ps, h.asc, by have := h.few; omega, fun r hr => ⟨trivial, (h.ns r hr).2⟩⟩
theorem Wb.Wd.row {w : Wb} (h : Wb.Wd w) {r : List Int} (hr : r ∈ w.ns) : r.length ≤ 20 := by
  obtain ⟨_, b, c⟩ := h.ns r hr
  have := asc_len r 0 b c
  have := h.hi
  have := h.lo
  omega
theorem Wb.Wd.len {w : Wb} (h : Wb.Wd w) : w.ps.length ≤ 1300 := by
  have h1 := asc_code (ps := w.ps) (fun p hp => by have := h.ps p hp; have := h.hi; omega) h.asc
  have h2 := asc_len _ 0 (m := 1300) (by
    intro t ht
    obtain ⟨p, hp, rfl⟩ := List.mem_map.mp ht
    have := h.ps p hp
    have := h.hi
    omega) h1
  rw [List.length_map] at h2
  omega
theorem Wb.Wd.lines_len {w : Wb} (h : Wb.Wd w) : w.lines.length ≤ 2000 := by
  have h1 := h.len
  have h2 := pushed_len w.n w.ns 0 (fun r hr => h.row hr)
  have h3 := h.few
  unfold Wb.lines
  rw [List.length_append]
  omega
theorem Wb.Wd.line {w : Wb} (h : Wb.Wd w) : ∀ l ∈ w.lines, (0 ≤ l.1 ∧ l.1 < w.n + (w.ns.length : Int)) ∧ (0 ≤ l.2 ∧ l.2 < w.n) := by
  intro l hl
  have h1 := h.lo
  rcases List.mem_append.mp hl with hl | hl
  · have := h.ps l hl
    refine ⟨⟨this.1.1, by omega⟩, this.2⟩
  · have := pushed_ok (fun r hr => (h.ns r hr).2.1) l hl
    refine ⟨⟨by omega, by omega⟩, this.2⟩
theorem Wb.Wd.lines_asc {u : Wb} (h : Wb.Wd u) : ascB ltPr u.lines = true := by
  refine asc_app h.asc (asc_pushed fun r hr => (h.ns r hr).2) ?_
  intro x hx y hy
  have a := h.ps x hx
  have b := pushed_ok (fun r hr => (h.ns r hr).2.1) y hy
  refine ltPr_iff.mpr (.inl ?_)
  omega
theorem src_castW (u : Wb) (hu : Wb.Wd u) : ((srcN u : Nat) : Int) = u.n + (u.ns.length : Int) := by
  have := hu.lo
  unfold srcN
  omega
theorem srcN_leW {u : Wb} (hu : Wb.Wd u) : srcN u ≤ 51 := by
  have := hu.hi
  have := hu.few
  unfold srcN
  omega
instance {u : Wb} : Coe u.Ok (Wb.Wd u) := ⟨Wb.Ok.wd⟩
def sp_all_lines (K : PySem.W.Frag) : Sp := fun vs H Q _ => ∃ v u, vs = [v] ∧ Da K H (Wb.d u) v ∧ Wb.Wd u ∧
  ∀ p xs H', H p = none → Ex H H' → H' p = some (.lst xs) → DaAll K H' (u.lines.map dPair) xs → Q (.ref p) H'
section
variable {P : Program} {w : World} {K : PySem.W.Frag} {mg : Str → Option Value} {base : Heap}
theorem ok_all_lines {f : Addr} {fd : FuncData} (T : Txt K mg) (F : Fun K "all_lines" "all_lines" s_all_lines f fd) :
    FnG P w K mg base CX0 1 f fd P_all_lines (sp_all_lines K) := by
  refine okG0 F sc_all_lines (fun vs H Q E h => ?_) (fun cdv A outer s H vs Q E hr hq h => ?_)
  · obtain ⟨v, u, rfl, _⟩ := h
    rfl
  · obtain ⟨v, u, rfl, hd, hu, q⟩ := h
    obtain ⟨t, x2, x3, rfl, hS, ⟨a2, ys, rfl, hL20, hA2, hz2⟩, ⟨a, xs, rfl, hL0, hA, hz⟩⟩ := Wb.at hd
    have hL : SqL K _ a xs := .inl (.inl hL0)
    have hL2 : SqL K _ a2 ys := .inl (.inl hL20)
    have hl2 := hA2.len
    have hl := hA.len
    rw [List.length_map] at hl hl2
    refine ⟨_, (pss_cons (ps_asg (pv 0) (pg_tupK (n := 3) K rfl (pgs_cons (pg_name (i := 1) sc_all_lines.nd rfl (by first | exact .inl rfl | exact .inr rfl)) (pgs_cons (pg_name (i := 2) sc_all_lines.nd rfl (by first | exact .inl rfl | exact .inr rfl)) (pgs_cons (pg_name (i := 3) sc_all_lines.nd rfl (by first | exact .inl rfl | exact .inr rfl)) pgs_nil)))))
      (pss_cons (ps_setLc2 (i := 4) (own := [("at", 6), ("nudge", 7), ("target", 5)]) (vs1 := [5]) rfl sc_all_lines.nd rfl rfl (sw_true rfl rfl rfl (by decide +kernel)) (pi_enum (by rfl) T.b_enumerate (pa_cons (pv 3) pa_nil)) (blkOk_by (N := N_all_lines) (sc := defScope s_all_lines) (by decide +kernel)) (by decide) (fun _ _ _ _ _ => (pg_tupK (n := 2) K rfl (pgs_cons (pg_name (i := 6) sc_all_lines.nd rfl (by first | exact .inl rfl | exact .inr rfl)) (pgs_cons (pg_name (i := 7) sc_all_lines.nd rfl (by first | exact .inl rfl | exact .inr rfl)) pgs_nil)))) (fun _ _ _ _ _ => pts_nil) (fun _ _ _ _ _ => (pi_listK K (pv 7))) (fun _ _ _ _ _ => (pg_name (i := 5) sc_all_lines.nd rfl (by first | exact .inl rfl | exact .inr rfl))) (fun _ _ _ _ _ => pts_nil) (fun _ _ _ _ _ => (pe_tup (pa_cons (pe_op op_add (pv 1) (pv 6)) (pa_cons (pv 5) pa_nil)))))
      (pss_one (ps_ret (pe_op (op_catS K) (pv 2) (pv 4)))))), ?_⟩
    refine ⟨_, rfl, t, _, rfl, hS, rfl, _, _, rfl, _, _, rfl, _, _, rfl, rfl, ?_⟩
    refine ⟨_, rfl, a, xs, rfl, hL, fun D hD => ?_⟩
    have nD : ∀ {b o}, H b = some o → b ≠ D := fun h e => by
      rw [e, hD] at h
      cases h
    refine lc2_by xs.length (fun i H' => Ex H H' ∧ ∃ acc, H' D = some (.lst acc) ∧ OffD D acc ∧ DaAll K H' ((pushedFrom u.n 0 (u.ns.take i)).map dPair) acc)
      ⟨Ex.nw hD, [], upd_same, OffD.nil, rfl⟩ (fun i H' hi p => ite_go hL p.1 hi) (fun H' p => ite_stop hL p.1) ?_ ?_
    · rintro i H1 x H2 hi ⟨e1, acc0, hD0, hacc0, hA0⟩ ⟨T1, y1, rfl, hT1, rfl, hy1⟩
      have g1 := hy1 xs (e1.l hL)
      obtain ⟨dr, hdr, hx⟩ := hA.at' g1
      obtain ⟨r, hrr, rfl⟩ := map_at hdr
      obtain ⟨ar, rfl, hLr⟩ := dInts_at hx
      have e2 : Ex H1 (upd H1 T1 (.tup [.int (i : Nat), .ref ar])) := Ex.nw hT1
      refine ⟨T1, _, rfl, .inl (.inl upd_same), rfl, _, _, rfl, _, _, rfl, rfl, rfl, ?_⟩
      refine ⟨_, rfl, ar, rfl, ⟨_, e2.l (e1.l hLr)⟩, ?_⟩
      refine lci_by (r.map V.int).length (fun j H' => Ex H H' ∧ ∃ acc, H' D = some (.lst acc) ∧ OffD D acc ∧
          DaAll K H' ((pushedFrom u.n 0 (u.ns.take i) ++ pushedAt u.n i (r.take j)).map dPair) acc)
        ⟨e1.tr e2, acc0, e2 _ _ hD0, hacc0, ?_⟩ (fun j H' hj p => itl_go hLr p.1 hj) (fun H' p => itl_stop hLr p.1) ?_ ?_
      · rw [List.take_zero]
        simp only [pushedAt, List.map_nil, List.append_nil]
        exact hA0.up e2
      · rintro j H3 x H4 hj ⟨e3, acc, hD3, hacc, hA3⟩ ⟨rfl, hx⟩
        obtain ⟨z, hz', rfl⟩ := map_at (hx _ (e3.l hLr))
        refine ⟨rfl, ?_⟩
        refine ⟨_, rfl, _, rfl, _, _, rfl, rfl, _, rfl, by show 2 ≤ sizeLine; decide, fun T2 hT2 => ?_⟩
        have hT2D : T2 ≠ D := fun e => by
          rw [e, hD3] at hT2
          cases hT2
        have hac : acc.length ≤ 2000 := by
          have h1 := hA3.len
          rw [List.length_map, List.length_append] at h1
          have h2 := pushed_len u.n (u.ns.take i) 0 (fun r hr => hu.row (List.mem_of_mem_take hr))
          have h3 := hu.row (List.mem_of_getElem? hrr)
          have h4 := hu.few
          simp only [pushedAt, List.length_map, List.length_take] at h1 h2
          omega
        refine ⟨acc, by rw [upd_ne hT2D.symm]; exact hD3, mil' (by omega), (e3.tr (Ex.nw hT2)).wr hD, _, upd_same, hacc.snoc hT2D, ?_⟩
        have hT3 : (upd (upd H4 T2 (.tup [.int (u.n + (i : Int)), .int z])) D (.lst (acc ++ [.ref T2]))) T2 = some (.tup [.int (u.n + (i : Int)), .int z]) := by
          rw [upd_ne hT2D, upd_same]
        have et : r.take (j + 1) = r.take j ++ [z] := by rw [List.take_add_one, hz']; rfl
        rw [et]
        simp only [pushedAt, List.map_append, List.map_cons, List.map_nil, ← List.append_assoc]
        refine DaAll.app ?_ ⟨_, _, rfl, dPair_of (p := (u.n + (i : Int), z)) hT3, rfl⟩
        rw [← List.map_append]
        exact pairs_keep ((Ex.nw hT2).d.tr ExD.put) hA3 hacc
      · rintro H3 ⟨e3, acc, hD3, hacc, hA3⟩
        refine ⟨e3, acc, hD3, hacc, ?_⟩
        rw [List.length_map, List.take_length] at hA3
        rw [pushedFrom_take u.n u.ns 0 i r hrr, Nat.zero_add]
        exact hA3
    · rintro H1 ⟨e1, acc, hD1, hacc, hA1⟩
      rw [← hl, List.take_length] at hA1
      have hac : acc.length ≤ 620 := by
        have h1 := hA1.len
        have h2 := pushed_len u.n u.ns 0 (fun r hr => hu.row hr)
        have h4 := hu.few
        rw [List.length_map] at h1
        omega
      refine ⟨_, rfl, _, rfl, a2, D, ys, acc, rfl, rfl, e1.l hL2, .inl (.inl hD1), by have := hu.len; omega, fun p hp => ?_⟩
      refine q p _ _ (e1.fr hp) (e1.nw2 hp) upd_same ?_
      unfold Wb.lines
      rw [List.map_append]
      exact (hA2.up (e1.nw2 hp)).app (hA1.up (Ex.nw hp))
end

/-! source_rows: slots 0 web, 1 rows, 2 _, 3 source, 4 target -/
abbrev s_source_rows : Stmt := topS 20
abbrev N_source_rows : List Str := ["web", "rows", "_", "source", "target"]
abbrev P_source_rows : List Str := ["web"]
theorem sc_source_rows : FnScope N_source_rows P_source_rows (defScope s_source_rows) := ⟨rfl, rfl, rfl, by decide +kernel, rfl, by decide +kernel, by decide +kernel⟩
def sp_source_rows (K : PySem.W.Frag) : Sp := fun vs H Q _ => ∃ v u, vs = [v] ∧ Da K H (Wb.d u) v ∧ Wb.Wd u ∧
  ∀ p as H', RowsAt H H' p as u.n.toNat (fun s => srcsOf u.lines (s : Int)) → Q (.ref p) H'
section
variable {P : Program} {w : World} {K : PySem.W.Frag} {mg : Str → Option Value} {base : Heap}
theorem ok_source_rows {f : Addr} {fd : FuncData} (T : Txt K mg) (F : Fun K "source_rows" "source_rows" s_source_rows f fd)
    (D_all_lines : DefOk P w K mg base CX0 1 "all_lines" P_all_lines (sp_all_lines K)) :
    FnG P w K mg base CX0 2 f fd P_source_rows (sp_source_rows K) := by
  refine okG0 F sc_source_rows (fun vs H Q E h => ?_) (fun cdv A outer s H vs Q E hr hq h => ?_)
  · obtain ⟨v, u, rfl, _⟩ := h
    rfl
  · obtain ⟨v, u, rfl, hd, hu, q⟩ := h
    obtain ⟨t, x2, x3, rfl, hS, g2, ⟨a, xs, rfl, hL0, hA, hz⟩⟩ := Wb.at hd
    have hL : SqL K _ a xs := .inl (.inl hL0)
    have hl := hA.len
    rw [List.length_map] at hl
    have b1 := hu.lo
    have b2 := hu.hi
    have b3 := hu.few
    refine ⟨_, (pss_cons (ps_setLc (i := 1) (own := [("_", 2)]) rfl sc_source_rows.nd rfl rfl (sw_true rfl rfl rfl (by decide +kernel)) (pi_range1 (by rfl) T.b_range (pa_cons (pe_ix (ix_seqK K) (pv 0) pe_int (fun _ _ => rfl)) pa_nil)) (blkOk_by (N := N_source_rows) (sc := defScope s_source_rows) (by decide +kernel)) (fun _ _ _ _ _ => (pg_name (i := 2) sc_source_rows.nd rfl (by first | exact .inl rfl | exact .inr rfl))) (fun _ _ _ _ _ => pts_nil) (fun _ _ _ _ _ => (pe_lst pa_nil)))
      (pss_cons (ps_for PassesOwn.never rfl (pi_listK K (pe_callD D_all_lines (hr.mono (by decide)) hq pass0 (pa_cons (pv 0) pa_nil))) (pg_tupK (n := 2) K rfl (pgs_cons (pg_name (i := 3) sc_source_rows.nd rfl (by first | exact .inl rfl | exact .inr rfl)) (pgs_cons (pg_name (i := 4) sc_source_rows.nd rfl (by first | exact .inl rfl | exact .inr rfl)) pgs_nil))) (pss_one (ps_expr (pe_bm PySem.F.plainAttrs_list PySem.F.slot_list_append PySem.F.type_list_append mt_append (pe_ix (ix_seqK K) (pv 1) (pv 4) (fun _ _ => rfl)) (pa_cons (pv 3) pa_nil)))))
      (pss_one (ps_ret (pv 1))))), ?_⟩
    refine ⟨_, rfl, .inr (.inl ⟨t, _, 0, _, rfl, rfl, hS, rfl, ?_⟩)⟩
    refine ⟨_, rfl, by omega, by omega, fun D hD => ?_⟩
    refine lc_by u.n.toNat (fun i H' => Ex H H' ∧ ∃ as : List Addr, H' D = some (.lst (as.map V.ref)) ∧ as.Nodup ∧ as.length = i ∧
        ∀ b ∈ as, H b = none ∧ b ≠ D ∧ H' b = some (.lst []))
      ⟨Ex.nw hD, [], upd_same, List.nodup_nil, rfl, fun b hb => by cases hb⟩ (fun i H' hi p => hi) (fun H' p => Nat.le_refl _) ?_ ?_
    · rintro i H1 x H2 hi ⟨e1, as, hD1, nd, hlen, hall⟩ ⟨rfl, rfl⟩
      refine ⟨rfl, Nat.zero_le _, fun b hb => ?_⟩
      have hbD : b ≠ D := fun e => by
        rw [e, hD1] at hb
        cases hb
      refine ⟨as.map V.ref, by rw [upd_ne hbD.symm]; exact hD1, mil' (by rw [List.length_map]; omega), (e1.tr (Ex.nw hb)).wr hD, as ++ [b], ?_, ?_, ?_, ?_⟩
      · rw [upd_same, List.map_append]
        rfl
      · refine nodup_snoc nd fun hm => ?_
        rw [(hall b hm).2.2] at hb
        cases hb
      · rw [List.length_append, hlen]
        rfl
      · intro c hc
        rcases List.mem_append.mp hc with hc | hc
        · obtain ⟨c1, c2, c3⟩ := hall c hc
          refine ⟨c1, c2, ?_⟩
          rw [upd_ne c2, upd_ne (ne_of_none c3 hb)]
          exact c3
        · obtain rfl := List.mem_singleton.mp hc
          exact ⟨e1.fr hb, hbD, by rw [upd_ne hbD, upd_same]⟩
    · rintro H1 ⟨e1, as, hD1, nd, hlen, hall⟩
      refine ⟨_, rfl, _, u, rfl, hd.up e1, hu, fun L zs H2 hL2 e2 hLs hA2 => ?_⟩
      refine ⟨L, rfl, ⟨zs, .inl (.inl hLs)⟩, ?_⟩
      have hl2 := hA2.len
      rw [List.length_map] at hl2
      have LD : L ≠ D := fun e => by
        rw [e, hD1] at hL2
        cases hL2
      have Las : ∀ b ∈ as, b ≠ L := fun b hb e => by
        rw [← e, (hall b hb).2.2] at hL2
        cases hL2
      refine for_by zs.length (fun i σ H' => ∃ y2 y3 y4, σ = [some (V.ref t), some (V.ref D), y2, y3, y4] ∧ Ex H H' ∧ H' D = some (.lst (as.map V.ref)) ∧ H' L = some (.lst zs) ∧
          (∀ (k : Nat) (p : Int × Int), u.lines[k]? = some p → ∃ b, zs[k]? = some (V.ref b) ∧ SqT K H' b [.int p.1, .int p.2]) ∧
          ∀ (s : Nat) (b : Addr), as[s]? = some b → H' b = some (.lst ((srcsOf (u.lines.take i) (s : Int)).map V.int)))
        ⟨_, _, _, rfl, e1.tr e2, e2 _ _ hD1, hLs, ?_, ?_⟩ (fun i σ H' hi p => ?_) (fun σ H' p => ?_) ?_ ?_
      · intro k p hp
        obtain ⟨x, hx, hdx⟩ := hA2.at (i := k) (d := dPair p) (by rw [List.getElem?_map, hp]; rfl)
        obtain ⟨b, ys, rfl, hSb, z1, r1, rfl, f1, z2, r2, rfl, f2, rfl⟩ := hdx
        obtain rfl := f1
        obtain rfl := f2
        exact ⟨b, hx, .inl (.inl hSb)⟩
      · intro s b hb
        have := (hall b (List.mem_of_getElem? hb)).2.2
        rw [List.take_zero, srcsOf_nil]
        exact e2 _ _ this
      · obtain ⟨_, _, _, _, _, _, h4, _⟩ := p
        exact itl_go (.inl (.inl h4)) Ex.rfl hi
      · obtain ⟨_, _, _, _, _, _, h4, _⟩ := p
        exact itl_stop (.inl (.inl h4)) Ex.rfl
      · rintro i σ H3 x H4 hi ⟨y2, y3, y4, rfl, e3, hD3, hL3, hT3, hR3⟩ ⟨rfl, hx⟩
        have hx := hx zs (.inl (.inl hL3))
        rw [← hl2] at hi
        have hp := List.getElem?_eq_getElem hi
        generalize u.lines[i] = p at hp
        obtain ⟨b, hb, hSb⟩ := hT3 i p hp
        rw [hx] at hb
        cases hb
        obtain ⟨_, ⟨p1, p2⟩⟩ := hu.line p (List.mem_of_getElem? hp)
        have hs : p.2.toNat < as.length := by rw [hlen]; omega
        have hc := List.getElem?_eq_getElem hs
        generalize as[p.2.toNat] = c at hc
        have hcl := hR3 _ _ hc
        obtain ⟨c1, c2, _⟩ := hall c (List.mem_of_getElem? hc)
        have c3 := Las c (List.mem_of_getElem? hc)
        have el : ((p.2.toNat : Nat) : Int) = p.2 := Int.toNat_of_nonneg p1
        have hsz : ((srcsOf (u.lines.take i) ((p.2.toNat : Nat) : Int)).map V.int).length < sizeLine := by
          refine mil' ?_
          have h1 := srcsOf_len (u.lines.take i) ((p.2.toNat : Nat) : Int)
          have h2 := hu.lines_len
          rw [List.length_take] at h1
          rw [List.length_map]
          omega
        refine ⟨b, _, rfl, hSb, rfl, _, _, rfl, _, _, rfl, rfl, ?_⟩
        refine ⟨.ref D, rfl, .int p.2, rfl, .inl ⟨D, _, p.2, .ref c, rfl, rfl, .inl (.inl hD3), ?_, .inl ⟨rfl, _, .inl (.inl hcl)⟩, _, rfl, c, _, _, rfl, rfl, hcl, hsz, ?_⟩⟩
        · exact atI_int p1 (by rw [List.getElem?_map, hc]; rfl)
        · refine ⟨_, _, _, rfl, e3.wr c1, by rw [upd_ne c2.symm]; exact hD3, by rw [upd_ne c3.symm]; exact hL3, ?_, ?_⟩
          · intro k q' hq'
            obtain ⟨b', hb', hS'⟩ := hT3 k q' hq'
            exact ⟨b', hb', SqT.wr hS' hcl⟩
          · intro s d hd'
            rw [take_snoc hp, srcsOf_app, srcsOf_one]
            by_cases es : s = p.2.toNat
            · subst es
              rw [hc] at hd'
              cases hd'
              rw [upd_same, if_pos el.symm, List.map_append]
              rfl
            · have ne : d ≠ c := nodup_at nd hd' hc es
              rw [upd_ne ne, if_neg (by omega), List.append_nil]
              exact hR3 s d hd'
      · rintro σ H3 ⟨y2, y3, y4, rfl, e3, hD3, hL3, hT3, hR3⟩
        refine ⟨_, rfl, q D as H3 ⟨hD, e3, hD3, nd, fun b hb => ⟨(hall b hb).1, (hall b hb).2.1⟩, hlen, ?_⟩⟩
        rw [← hl2, List.take_length] at hR3
        exact hR3
end

end K17
namespace K17
open PySem PySem.Spec PyProof.Rows L2 Nw
/-! target_rows: slots 0 web, 1 rows, 2 _, 3 source, 4 target -/
abbrev s_target_rows : Stmt := topS 19
abbrev N_target_rows : List Str := ["web", "rows", "_", "source", "target"]
abbrev P_target_rows : List Str := ["web"]
theorem sc_target_rows : FnScope N_target_rows P_target_rows (defScope s_target_rows) := ⟨rfl, rfl, rfl, by decide +kernel, rfl, by decide +kernel, by decide +kernel⟩
def sp_target_rows (K : PySem.W.Frag) : Sp := fun vs H Q _ => ∃ v u, vs = [v] ∧ Da K H (Wb.d u) v ∧ Wb.Wd u ∧
  ∀ p as H', RowsAt H H' p as (u.n.toNat + u.ns.length) (fun s => rowOf u.lines (s : Int)) → Q (.ref p) H'
section
variable {P : Program} {w : World} {K : PySem.W.Frag} {mg : Str → Option Value} {base : Heap}
theorem ok_target_rows {f : Addr} {fd : FuncData} (T : Txt K mg) (F : Fun K "target_rows" "target_rows" s_target_rows f fd)
    (D_all_lines : DefOk P w K mg base CX0 1 "all_lines" P_all_lines (sp_all_lines K)) :
    FnG P w K mg base CX0 2 f fd P_target_rows (sp_target_rows K) := by
  refine okG0 F sc_target_rows (fun vs H Q E h => ?_) (fun cdv A outer s H vs Q E hr hq h => ?_)
  · obtain ⟨v, u, rfl, _⟩ := h
    rfl
  · obtain ⟨v, u, rfl, hd, hu, q⟩ := h
    obtain ⟨t, x2, x3, rfl, hS, g2, ⟨a, xs, rfl, hL0, hA, hz⟩⟩ := Wb.at hd
    have hL : SqL K _ a xs := .inl (.inl hL0)
    have hl := hA.len
    rw [List.length_map] at hl
    have b1 := hu.lo
    have b2 := hu.hi
    have b3 := hu.few
    refine ⟨_, (pss_cons (ps_setLc (i := 1) (own := [("_", 2)]) rfl sc_target_rows.nd rfl rfl (sw_true rfl rfl rfl (by decide +kernel)) (pi_range1 (by rfl) T.b_range (pa_cons (pe_op op_add (pe_ix (ix_seqK K) (pv 0) pe_int (fun _ _ => rfl)) (pe_callB (call_lenK K) (by rfl) T.b_len bt_len (pa_cons (pe_ix (ix_seqK K) (pv 0) pe_int (fun _ _ => rfl)) pa_nil))) pa_nil)) (blkOk_by (N := N_target_rows) (sc := defScope s_target_rows) (by decide +kernel)) (fun _ _ _ _ _ => (pg_name (i := 2) sc_target_rows.nd rfl (by first | exact .inl rfl | exact .inr rfl))) (fun _ _ _ _ _ => pts_nil) (fun _ _ _ _ _ => (pe_lst pa_nil)))
      (pss_cons (ps_for PassesOwn.never rfl (pi_listK K (pe_callD D_all_lines (hr.mono (by decide)) hq pass0 (pa_cons (pv 0) pa_nil))) (pg_tupK (n := 2) K rfl (pgs_cons (pg_name (i := 3) sc_target_rows.nd rfl (by first | exact .inl rfl | exact .inr rfl)) (pgs_cons (pg_name (i := 4) sc_target_rows.nd rfl (by first | exact .inl rfl | exact .inr rfl)) pgs_nil))) (pss_one (ps_expr (pe_bm PySem.F.plainAttrs_list PySem.F.slot_list_append PySem.F.type_list_append mt_append (pe_ix (ix_seqK K) (pv 1) (pv 3) (fun _ _ => rfl)) (pa_cons (pv 4) pa_nil)))))
      (pss_one (ps_ret (pv 1))))), ?_⟩
    refine ⟨_, rfl, .inr (.inl ⟨t, _, 0, _, rfl, rfl, hS, rfl, ?_⟩)⟩
    refine ⟨_, rfl, .inr (.inl ⟨t, _, 2, _, rfl, rfl, hS, rfl, ?_⟩)⟩
    refine ⟨a, _, rfl, .inl hL, _, _, rfl, rfl, _, rfl, by omega, by omega, fun D hD => ?_⟩
    refine lc_by (u.n + (xs.length : Int)).toNat (fun i H' => Ex H H' ∧ ∃ as : List Addr, H' D = some (.lst (as.map V.ref)) ∧ as.Nodup ∧ as.length = i ∧
        ∀ b ∈ as, H b = none ∧ b ≠ D ∧ H' b = some (.lst []))
      ⟨Ex.nw hD, [], upd_same, List.nodup_nil, rfl, fun b hb => by cases hb⟩ (fun i H' hi p => hi) (fun H' p => Nat.le_refl _) ?_ ?_
    · rintro i H1 x H2 hi ⟨e1, as, hD1, nd, hlen, hall⟩ ⟨rfl, rfl⟩
      refine ⟨rfl, Nat.zero_le _, fun b hb => ?_⟩
      have hbD : b ≠ D := fun e => by
        rw [e, hD1] at hb
        cases hb
      refine ⟨as.map V.ref, by rw [upd_ne hbD.symm]; exact hD1, mil' (by rw [List.length_map]; omega), (e1.tr (Ex.nw hb)).wr hD, as ++ [b], ?_, ?_, ?_, ?_⟩
      · rw [upd_same, List.map_append]
        rfl
      · refine nodup_snoc nd fun hm => ?_
        rw [(hall b hm).2.2] at hb
        cases hb
      · rw [List.length_append, hlen]
        rfl
      · intro c hc
        rcases List.mem_append.mp hc with hc | hc
        · obtain ⟨c1, c2, c3⟩ := hall c hc
          refine ⟨c1, c2, ?_⟩
          rw [upd_ne c2, upd_ne (ne_of_none c3 hb)]
          exact c3
        · obtain rfl := List.mem_singleton.mp hc
          exact ⟨e1.fr hb, hbD, by rw [upd_ne hbD, upd_same]⟩
    · rintro H1 ⟨e1, as, hD1, nd, hlen, hall⟩
      refine ⟨_, rfl, _, u, rfl, hd.up e1, hu, fun L zs H2 hL2 e2 hLs hA2 => ?_⟩
      refine ⟨L, rfl, ⟨zs, .inl (.inl hLs)⟩, ?_⟩
      have hl2 := hA2.len
      rw [List.length_map] at hl2
      have LD : L ≠ D := fun e => by
        rw [e, hD1] at hL2
        cases hL2
      have Las : ∀ b ∈ as, b ≠ L := fun b hb e => by
        rw [← e, (hall b hb).2.2] at hL2
        cases hL2
      refine for_by zs.length (fun i σ H' => ∃ y2 y3 y4, σ = [some (V.ref t), some (V.ref D), y2, y3, y4] ∧ Ex H H' ∧ H' D = some (.lst (as.map V.ref)) ∧ H' L = some (.lst zs) ∧
          (∀ (k : Nat) (p : Int × Int), u.lines[k]? = some p → ∃ b, zs[k]? = some (V.ref b) ∧ SqT K H' b [.int p.1, .int p.2]) ∧
          ∀ (s : Nat) (b : Addr), as[s]? = some b → H' b = some (.lst ((rowOf (u.lines.take i) (s : Int)).map V.int)))
        ⟨_, _, _, rfl, e1.tr e2, e2 _ _ hD1, hLs, ?_, ?_⟩ (fun i σ H' hi p => ?_) (fun σ H' p => ?_) ?_ ?_
      · intro k p hp
        obtain ⟨x, hx, hdx⟩ := hA2.at (i := k) (d := dPair p) (by rw [List.getElem?_map, hp]; rfl)
        obtain ⟨b, ys, rfl, hSb, z1, r1, rfl, f1, z2, r2, rfl, f2, rfl⟩ := hdx
        obtain rfl := f1
        obtain rfl := f2
        exact ⟨b, hx, .inl (.inl hSb)⟩
      · intro s b hb
        have := (hall b (List.mem_of_getElem? hb)).2.2
        rw [List.take_zero, rowOf_nil]
        exact e2 _ _ this
      · obtain ⟨_, _, _, _, _, _, h4, _⟩ := p
        exact itl_go (.inl (.inl h4)) Ex.rfl hi
      · obtain ⟨_, _, _, _, _, _, h4, _⟩ := p
        exact itl_stop (.inl (.inl h4)) Ex.rfl
      · rintro i σ H3 x H4 hi ⟨y2, y3, y4, rfl, e3, hD3, hL3, hT3, hR3⟩ ⟨rfl, hx⟩
        have hx := hx zs (.inl (.inl hL3))
        rw [← hl2] at hi
        have hp := List.getElem?_eq_getElem hi
        generalize u.lines[i] = p at hp
        obtain ⟨b, hb, hSb⟩ := hT3 i p hp
        rw [hx] at hb
        cases hb
        obtain ⟨⟨p1, p2⟩, _⟩ := hu.line p (List.mem_of_getElem? hp)
        have hs : p.1.toNat < as.length := by rw [hlen]; omega
        have hc := List.getElem?_eq_getElem hs
        generalize as[p.1.toNat] = c at hc
        have hcl := hR3 _ _ hc
        obtain ⟨c1, c2, _⟩ := hall c (List.mem_of_getElem? hc)
        have c3 := Las c (List.mem_of_getElem? hc)
        have el : ((p.1.toNat : Nat) : Int) = p.1 := Int.toNat_of_nonneg p1
        have hsz : ((rowOf (u.lines.take i) ((p.1.toNat : Nat) : Int)).map V.int).length < sizeLine := by
          refine mil' ?_
          have h1 := rowOf_len (u.lines.take i) ((p.1.toNat : Nat) : Int)
          have h2 := hu.lines_len
          rw [List.length_take] at h1
          rw [List.length_map]
          omega
        refine ⟨b, _, rfl, hSb, rfl, _, _, rfl, _, _, rfl, rfl, ?_⟩
        refine ⟨.ref D, rfl, .int p.1, rfl, .inl ⟨D, _, p.1, .ref c, rfl, rfl, .inl (.inl hD3), ?_, .inl ⟨rfl, _, .inl (.inl hcl)⟩, _, rfl, c, _, _, rfl, rfl, hcl, hsz, ?_⟩⟩
        · exact atI_int p1 (by rw [List.getElem?_map, hc]; rfl)
        · refine ⟨_, _, _, rfl, e3.wr c1, by rw [upd_ne c2.symm]; exact hD3, by rw [upd_ne c3.symm]; exact hL3, ?_, ?_⟩
          · intro k q' hq'
            obtain ⟨b', hb', hS'⟩ := hT3 k q' hq'
            exact ⟨b', hb', SqT.wr hS' hcl⟩
          · intro s d hd'
            rw [take_snoc hp, rowOf_app, rowOf_one]
            by_cases es : s = p.1.toNat
            · subst es
              rw [hc] at hd'
              cases hd'
              rw [upd_same, if_pos el.symm, List.map_append]
              rfl
            · have ne : d ≠ c := nodup_at nd hd' hc es
              rw [upd_ne ne, if_neg (by omega), List.append_nil]
              exact hR3 s d hd'
      · rintro σ H3 ⟨y2, y3, y4, rfl, e3, hD3, hL3, hT3, hR3⟩
        refine ⟨_, rfl, q D as H3 ⟨hD, e3, hD3, nd, fun b hb => ⟨(hall b hb).1, (hall b hb).2.1⟩, by rw [hlen, ← hl]; omega, ?_⟩⟩
        rw [← hl2, List.take_length] at hR3
        exact hR3
end

end K17
namespace K17
open PySem PySem.Spec PyProof.Rows L2 Nw
/-! quantities_behind: slots 0 rows, 1 quantities, 2 behind, 3 waiting, 4 quantity -/
abbrev s_quantities_behind : Stmt := topS 26
abbrev N_quantities_behind : List Str := ["rows", "quantities", "behind", "waiting", "quantity"]
abbrev P_quantities_behind : List Str := ["rows", "quantities"]
theorem sc_quantities_behind : FnScope N_quantities_behind P_quantities_behind (defScope s_quantities_behind) := ⟨rfl, rfl, rfl, by decide +kernel, rfl, by decide +kernel, by decide +kernel⟩
/-- from some quantities to all that pairs lead to -/
def sp_quantities_behind (K : PySem.W.Frag) : Sp := fun vs H Q _ => ∃ (a c : Addr) (bs : List Addr) (R : Nat → List Int) (n : Int) (ps : List (Int × Int)) (qs : List Int), vs = [.ref a, .ref c] ∧
  H a = some (.lst (bs.map V.ref)) ∧ (∀ s b, bs[s]? = some b → H b = some (.lst ((R s).map V.int))) ∧ (n ≤ (bs.length : Int) ∧ n ≤ 20) ∧ (∀ p ∈ ps, (0 ≤ p.1 ∧ p.1 < n) ∧ (0 ≤ p.2 ∧ p.2 < n)) ∧
  (∀ s : Nat, (s : Int) < n → ∀ t, t ∈ R s ↔ ((s : Int), t) ∈ ps) ∧ (∀ s, (R s).length ≤ 2000) ∧ SqL K H c (qs.map V.int) ∧ (∀ q ∈ qs, 0 ≤ q ∧ q < n) ∧ qs.length ≤ 2000 ∧
  ∀ (D : Addr) (vis : List Int) H', H D = none → Ex H H' → H' D = some (.dK (visK vis)) → vis.Nodup → (∀ b, b ∈ vis ↔ ∃ q ∈ qs, Rch ps q b) → Q (.ref D) H'
theorem nd_le : ∀ (k : Nat) (l : List Int), l.Nodup → (∀ b ∈ l, 0 ≤ b ∧ b < (k : Int)) → l.length ≤ k
  | 0, l, _, h => by
    cases l with
    | nil => exact Nat.le_refl _
    | cons x r =>
      have := h x (by simp)
      omega
  | k + 1, l, nd, h => by
    have h1 := nd_le k (l.erase (k : Int)) (nd.erase _) fun b hb => by
      have h2 := h b (List.mem_of_mem_erase hb)
      have h3 : b ≠ (k : Int) := fun e => by
        rw [e] at hb
        exact (nd.mem_erase_iff.mp hb).1 rfl
      omega
    rw [List.length_erase] at h1
    split at h1
    · omega
    · omega
theorem nd_few {l : List Int} {n : Int} (nd : l.Nodup) (h : ∀ b ∈ l, 0 ≤ b ∧ b < n) : l.length ≤ n.toNat :=
  nd_le n.toNat l nd fun b hb => by
    have := h b hb
    omega
section
variable {P : Program} {w : World} {K : PySem.W.Frag} {mg : Str → Option Value} {base : Heap}
theorem ok_quantities_behind {f : Addr} {fd : FuncData} (T : Txt K mg) (F : Fun K "quantities_behind" "quantities_behind" s_quantities_behind f fd) :
    FnG P w K mg base CX0 1 f fd P_quantities_behind (sp_quantities_behind K) := by
  refine okG0 F sc_quantities_behind (fun vs H Q E h => ?_) (fun cdv A outer s H vs Q E hr hq h => ?_)
  · obtain ⟨a, c, bs, R, n, ps, qs, rfl, _⟩ := h
    rfl
  · obtain ⟨a, c, bs, R, n, ps, qs, rfl, hA, hR, ⟨hn, hn2⟩, hps, hT, hTl, hC, hqs, hql, q⟩ := h
    refine ⟨_, (pss_cons (ps_set (i := 2) sc_quantities_behind.nd rfl (by first | exact .inl rfl | exact .inr rfl) pe_dnewK)
      (pss_cons (ps_set (i := 3) sc_quantities_behind.nd rfl (by first | exact .inl rfl | exact .inr rfl) (pe_callTy (call_listK K) (by rfl) T.b_list bt_list (pa_cons (pv 1) pa_nil)))
      (pss_cons (ps_while PassesOwn.never (pt_truth (pv 3) (by intro _; rfl)) (pss_cons (ps_set (i := 4) sc_quantities_behind.nd rfl (by first | exact .inl rfl | exact .inr rfl) (pe_bm0 PySem.F.plainAttrs_list PySem.F.slot_list_pop PySem.F.type_list_pop mt_pop (pv 3)))
      (pss_one (ps_if (pt_dNotIn hr (pv 4) (pv 2)) (pss_cons (ps_dputK hr (pv 2) (pv 4) pe_bl rfl)
      (pss_one (ps_expr (pe_bm PySem.F.plainAttrs_list PySem.F.slot_list_extend PySem.F.type_list_extend mt_extend (pv 3) (pa_cons (pe_ix (ix_listK K) (pv 0) (pv 4) (fun _ _ => rfl)) pa_nil))))) pss_nil))))
      (pss_one (ps_ret (pv 2)))))), ?_⟩
    refine fun D hD => ?_
    have e1 : Ex H (upd H D (.dK [])) := Ex.nw hD
    have hD1 : (upd H D (.dK [])) D = some (.dK (visK [])) := upd_same
    generalize upd H D (.dK []) = H1 at e1 hD1
    refine ⟨_, rfl, c, _, rfl, .inl (e1.l hC), fun W hW => ?_⟩
    have WD : W ≠ D := fun e => by
      rw [e, hD1] at hW
      cases hW
    refine ⟨fun m σ H' => ∃ (y : Option V) (vis wait : List Int), m = (20 - vis.length) * 2001 + wait.length ∧ σ = [some (V.ref a), some (V.ref c), some (V.ref D), some (V.ref W), y] ∧ Ex H H' ∧
        H' D = some (.dK (visK vis)) ∧ H' W = some (.lst (wait.map V.int)) ∧ vis.Nodup ∧ wait.length ≤ 2000 * (vis.length + 1) ∧
        (∀ b, b ∈ vis ∨ b ∈ wait → (0 ≤ b ∧ b < n) ∧ ∃ q ∈ qs, Rch ps q b) ∧ (∀ q ∈ qs, q ∈ vis ∨ q ∈ wait) ∧ (∀ b ∈ vis, ∀ t, (b, t) ∈ ps → t ∈ vis ∨ t ∈ wait),
      ⟨_, _, [], qs, rfl, rfl, e1.tr (Ex.nw hW), ?_, upd_same, List.nodup_nil, by simp; omega, ?_, fun q hq => .inr hq, fun b hb => by cases hb⟩, ?_⟩
    · rw [upd_ne WD.symm]
      exact hD1
    · rintro b (hb | hb)
      · cases hb
      · exact ⟨hqs b hb, b, hb, .here b⟩
    · rintro m σ H2 ⟨y, vis, wait, rfl, rfl, e2, hD2, hW2, nd, hwl, hin, hq0, hcl⟩
      have hvl : vis.length ≤ 20 := by
        have := nd_few nd (n := n) fun b hb => (hin b (.inl hb)).1
        omega
      refine ⟨_, rfl, _, .inl ⟨_, .inl (.inl hW2), rfl⟩, ?_⟩
      rcases List.eq_nil_or_concat wait with rfl | ⟨w0, x, rfl⟩
      · refine ⟨_, rfl, q D vis H2 hD e2 hD2 nd fun b => ⟨fun hb => (hin b (.inl hb)).2, ?_⟩⟩
        rintro ⟨q0, hq0', r⟩
        refine r.closed (P := fun b => b ∈ vis) (fun a b ha hab => ?_) ?_
        · rcases hcl a ha b hab with h | h
          · exact h
          · cases h
        · rcases hq0 q0 hq0' with h | h
          · exact h
          · cases h
      · rw [if_pos (by simp)]
        rw [List.concat_eq_append] at *
        refine ⟨_, fun _ _ h => h, ?_⟩
        refine ⟨_, rfl, .inl ⟨rfl, _, .inl (.inl hW2)⟩, W, _, .int x, rfl, rfl, hW2, by simp, ?_⟩
        have hdl : ((w0 ++ [x]).map V.int).dropLast = w0.map V.int := by simp
        rw [hdl]
        have hx := hin x (.inr (by simp))
        have hD3 : (upd H2 W (.lst (w0.map V.int))) D = some (.dK (visK vis)) := by
          rw [upd_ne WD.symm]
          exact hD2
        have hwf : H W = none := e1.fr hW
        have e3 : Ex H (upd H2 W (.lst (w0.map V.int))) := e2.wr hwf
        have hW3 : (upd H2 W (.lst (w0.map V.int))) W = some (.lst (w0.map V.int)) := upd_same
        generalize upd H2 W (.lst (w0.map V.int)) = H3 at hD3 e3 hW3
        have hl0 : (w0 ++ [x]).length = w0.length + 1 := by simp
        refine ⟨_, rfl, _, rfl, D, _, rfl, DGet.k (k := Sum.inl x) hD3, _, rfl, ?_⟩
        rw [visK_get]
        refine ite2 (fun hv => ?_) (fun hv => ?_)
        · have hxv : x ∉ vis := by simpa using hv
          refine ⟨_, rfl, _, rfl, D, _, rfl, DPut.k (k := Sum.inl x) hD3 (mil' (by simp [visK]; omega)), ?_⟩
          rw [visK_put hxv]
          have hW4 : (upd H3 D (.dK (visK (vis ++ [x])))) W = some (.lst (w0.map V.int)) := by
            rw [upd_ne WD]
            exact hW3
          have hD4 : (upd H3 D (.dK (visK (vis ++ [x])))) D = some (.dK (visK (vis ++ [x]))) := upd_same
          have e4 : Ex H (upd H3 D (.dK (visK (vis ++ [x])))) := e3.wr hD
          generalize upd H3 D (.dK (visK (vis ++ [x]))) = H4 at hW4 hD4 e4
          have hxs : x.toNat < bs.length := by omega
          have hb := List.getElem?_eq_getElem hxs
          generalize bs[x.toNat] = b at hb
          have hRb := e4 _ _ (hR _ _ hb)
          have el : ((x.toNat : Nat) : Int) = x := Int.toNat_of_nonneg hx.1.1
          have hTx := hT x.toNat (by omega)
          have hTlx := hTl x.toNat
          rw [el] at hTx
          refine ⟨_, rfl, .inl ⟨rfl, _, .inl (.inl hW4)⟩, _, rfl, _, rfl, a, _, x, .ref b, rfl, rfl, .inl (.inl (e4 _ _ hA)), atI_int hx.1.1 (by rw [List.getElem?_map, hb]; rfl), ?_⟩
          refine ⟨W, b, _, _, rfl, rfl, hW4, hRb, Nat.le_of_lt (mil' (by rw [List.length_map, List.length_map]; omega)), ?_⟩
          refine ⟨_, ?_, _, vis ++ [x], w0 ++ R x.toNat, rfl, rfl, e4.wr hwf, ?_, ?_, ?_, ?_, ?_, ?_, ?_⟩
          · rw [List.length_append, List.length_append, hl0, List.length_singleton]
            have : vis.length < 20 := by
              have h1 := nd_few (nodup_snoc nd hxv) (n := n) fun b hb => by
                rcases List.mem_append.mp hb with hb | hb
                · exact (hin b (.inl hb)).1
                · obtain rfl := List.mem_singleton.mp hb
                  exact hx.1
              rw [List.length_append, List.length_singleton] at h1
              omega
            omega
          · rw [upd_ne WD.symm]
            exact hD4
          · rw [upd_same, List.map_append]
          · exact nodup_snoc nd hxv
          · rw [List.length_append, List.length_append, List.length_singleton]
            omega
          · intro b hb
            have key : b ∈ vis ∨ b ∈ w0 ++ [x] ∨ b ∈ R x.toNat := by
              rcases hb with hb | hb
              · rcases List.mem_append.mp hb with hb | hb
                · exact .inl hb
                · exact .inr (.inl (List.mem_append.mpr (.inr hb)))
              · rcases List.mem_append.mp hb with hb | hb
                · exact .inr (.inl (List.mem_append.mpr (.inl hb)))
                · exact .inr (.inr hb)
            rcases key with h | h | h
            · exact hin b (.inl h)
            · exact hin b (.inr h)
            · have h2 := (hTx b).mp h
              obtain ⟨q0, h3, h4⟩ := hx.2
              exact ⟨(hps _ h2).2, q0, h3, h4.snoc h2⟩
          · intro q0 hq
            rcases hq0 q0 hq with h | h
            · exact .inl (List.mem_append.mpr (.inl h))
            · rcases List.mem_append.mp h with h | h
              · exact .inr (List.mem_append.mpr (.inl h))
              · exact .inl (List.mem_append.mpr (.inr h))
          · intro b hb t ht
            rcases List.mem_append.mp hb with hb | hb
            · rcases hcl b hb t ht with h | h
              · exact .inl (List.mem_append.mpr (.inl h))
              · rcases List.mem_append.mp h with h | h
                · exact .inr (List.mem_append.mpr (.inl h))
                · exact .inl (List.mem_append.mpr (.inr h))
            · obtain rfl := List.mem_singleton.mp hb
              exact .inr (List.mem_append.mpr (.inr ((hTx t).mpr ht)))
        · have hxv : x ∈ vis := by simpa using hv
          refine ⟨_, ?_, _, vis, w0, rfl, rfl, e3, hD3, hW3, nd, by omega, fun b hb => ?_, fun q0 hq => ?_, fun b hb t ht => ?_⟩
          · rw [hl0]
            omega
          · rcases hb with h | h
            · exact hin b (.inl h)
            · exact hin b (.inr (List.mem_append.mpr (.inl h)))
          · rcases hq0 q0 hq with h | h
            · exact .inl h
            · rcases List.mem_append.mp h with h | h
              · exact .inr h
              · obtain rfl := List.mem_singleton.mp h
                exact .inl hxv
          · rcases hcl b hb t ht with h | h
            · exact .inl h
            · rcases List.mem_append.mp h with h | h
              · exact .inr h
              · obtain rfl := List.mem_singleton.mp h
                exact .inl hxv
end

end K17
namespace K17
open PySem PySem.Spec PyProof.Rows L2 Nw
/-! find_source: slots 0 rows, 1 paired, 2 quantity, 3 tried, 4 source -/
abbrev s_find_source : Stmt := topS 23
abbrev N_find_source : List Str := ["rows", "paired", "quantity", "tried", "source"]
abbrev P_find_source : List Str := ["rows", "paired", "quantity", "tried"]
theorem sc_find_source : FnScope N_find_source P_find_source (defScope s_find_source) := ⟨rfl, rfl, rfl, by decide +kernel, rfl, by decide +kernel, by decide +kernel⟩
/-- what is known but at D and T stays known -/
abbrev Ex2 (D T : Addr) (H H' : Hp) : Prop := ∀ b o, b ≠ D → b ≠ T → H b = some o → H' b = some o
/-- the rows of sources, as a list of lists -/
structure RowsL (H : Hp) (L : Addr) (as : List Addr) (rows : List (List Int)) : Prop where
  at_ : H L = some (.lst (as.map V.ref))
  len : as.length = rows.length
  row : ∀ (i : Nat) (b : Addr), as[i]? = some b → ∃ r, rows[i]? = some r ∧ H b = some (.lst (r.map V.int))
  rg : ∀ r ∈ rows, ∀ s ∈ r, 0 ≤ s ∧ s < 64
theorem RowsL.up2 {H H' : Hp} {L D T : Addr} {as : List Addr} {rows : List (List Int)} {kd kt : List (Key × V)} (h : RowsL H L as rows) (hD : H D = some (.dK kd)) (hT : H T = some (.dK kt)) (e : Ex2 D T H H') : RowsL H' L as rows := by
  have ne : ∀ {b : Addr} {xs : List V}, H b = some (.lst xs) → b ≠ D ∧ b ≠ T := by
    intro b xs hb
    refine ⟨fun z => ?_, fun z => ?_⟩
    · rw [z, hD] at hb
      cases hb
    · rw [z, hT] at hb
      cases hb
  refine ⟨e _ _ (ne h.at_).1 (ne h.at_).2 h.at_, h.len, fun i b hb => ?_, h.rg⟩
  obtain ⟨r, h1, h2⟩ := h.row i b hb
  exact ⟨r, h1, e _ _ (ne h2).1 (ne h2).2 h2⟩
theorem tried_few {l : List Int} (nd : l.Nodup) (h : ∀ b ∈ l, 0 ≤ b ∧ b < 64) : l.length ≤ 64 := by
  have := apart_few (n := 64) nd h
  exact this
/-- the search as a function -/
def fsG (rec : List (Int × Int) → Int → List Int → Bool × List (Int × Int) × List Int) (q : Int) : List Int → List (Int × Int) → List Int → Bool × List (Int × Int) × List Int
  | [], ps, tr => (false, ps, tr)
  | s :: r, ps, tr => if tr.contains s = true then fsG rec q r ps tr else
    match ps.find? (fun p => p.1 == s) with
    | none => (true, ps ++ [(s, q)], tr)
    | some p => if (rec ps p.2 (tr ++ [s])).1 = true then (true, putI (rec ps p.2 (tr ++ [s])).2.1 s q, tr) else fsG rec q r (rec ps p.2 (tr ++ [s])).2.1 (rec ps p.2 (tr ++ [s])).2.2
def fsN (rows : List (List Int)) : Nat → List (Int × Int) → Int → List Int → Bool × List (Int × Int) × List Int
  | 0, ps, _, tr => (false, ps, tr)
  | n + 1, ps, q, tr => fsG (fsN rows n) q (rows.getD q.toNat []) ps tr
theorem drop_at {α : Type} {r : List α} {j : Nat} {s : α} (h : r[j]? = some s) : r.drop j = s :: r.drop (j + 1) := by
  obtain ⟨h1, h2⟩ := List.getElem?_eq_some_iff.mp h
  rw [List.drop_eq_getElem_cons h1, h2]
section
variable {rec : List (Int × Int) → Int → List Int → Bool × List (Int × Int) × List Int} {q s : Int} {r tr : List Int} {ps : List (Int × Int)}
theorem fsG_skip (h : tr.contains s = true) : fsG rec q (s :: r) ps tr = fsG rec q r ps tr := if_pos h
theorem fsG_free (h : tr.contains s = false) (hf : ps.find? (fun p => p.1 == s) = none) : fsG rec q (s :: r) ps tr = (true, ps ++ [(s, q)], tr) := by
  show (if tr.contains s = true then _ else _) = _
  rw [if_neg (by rw [h]; decide), hf]
theorem fsG_deep {p : Int × Int} (h : tr.contains s = false) (hf : ps.find? (fun p => p.1 == s) = some p) : fsG rec q (s :: r) ps tr = if (rec ps p.2 (tr ++ [s])).1 = true then (true, putI (rec ps p.2 (tr ++ [s])).2.1 s q, tr) else fsG rec q r (rec ps p.2 (tr ++ [s])).2.1 (rec ps p.2 (tr ++ [s])).2.2 := by
  show (if tr.contains s = true then _ else _) = _
  rw [if_neg (by rw [h]; decide), hf]
end
def spn_find_source (n : Nat) (K : PySem.W.Frag) : Sp := fun vs H Q _ => ∃ (L D T : Addr) (as : List Addr) (rows : List (List Int)) (k : Int) (ps : List (Int × Int)) (F tr : List Int) (q : Int),
  vs = [.ref L, .ref D, .int q, .ref T] ∧ RowsL H L as rows ∧ D ≠ T ∧ H D = some (.dK (kvI ps)) ∧ H T = some (.dK (visK tr)) ∧ Fr rows k F ps q ∧ (∀ s ∈ F, s ∈ tr) ∧ tr.Nodup ∧ (∀ s ∈ tr, 0 ≤ s ∧ s < 64) ∧ 64 < n + tr.length ∧
  (0 ≤ q ∧ q < k ∧ k ≤ rows.length) ∧
  (∀ ps' H', Ex2 D T H H' → H' D = some (.dK (kvI ps')) → Got rows k F ps q ps' → (fsN rows n ps q tr).1 = true → (fsN rows n ps q tr).2.1 = ps' → Q (.bl true) H') ∧
  (∀ tr' H', Ex2 D T H H' → H' D = some (.dK (kvI ps)) → H' T = some (.dK (visK tr')) → Miss rows ps q tr tr' → (∀ s ∈ tr', 0 ≤ s ∧ s < 64) → fsN rows n ps q tr = (false, ps, tr') → Q (.bl false) H')
abbrev sp_find_source (K : PySem.W.Frag) : Sp := spn_find_source 65 K
theorem find_mem {ps : List (Int × Int)} {q : Int} {p : Int × Int} (h : (ps.find? fun p => p.1 == q) = some p) : (q, p.2) ∈ ps := by
  have h1 := List.mem_of_find?_eq_some h
  have h2 : p.1 = q := by simpa using List.find?_some h
  rw [← h2]
  exact h1
theorem find_not {ps : List (Int × Int)} {q : Int} (h : (ps.find? fun p => p.1 == q) = none) : ∀ p ∈ ps, p.1 ≠ q := fun p hp e => by
  have := List.find?_eq_none.mp h p hp
  simp [e] at this
theorem keys_few {k : Int} {F : List Int} {ps : List (Int × Int)} (nd : (ps.map (·.1)).Nodup) (h : ∀ p ∈ ps, 0 ≤ p.1 ∧ p.1 < 64) : ps.length ≤ 64 := by
  have := apart_few (n := 64) nd fun b hb => by
    obtain ⟨p, hp, rfl⟩ := List.mem_map.mp hb
    exact h p hp
  rw [List.length_map] at this
  exact this
section
variable {P : Program} {w : World} {K : PySem.W.Frag} {mg : Str → Option Value} {base : Heap}
theorem ok_find_source {f : Addr} {fd : FuncData} (T : Txt K mg) (F : Fun K "find_source" "find_source" s_find_source f fd)
    {n : Nat} (D_find_source : DefOk P w K mg base CX0 (n + 1) "find_source" P_find_source (spn_find_source n K)) :
    FnG P w K mg base CX0 (n + 2) f fd P_find_source (spn_find_source (n + 1) K) := by
  refine okG0 F sc_find_source (fun vs H Q E h => ?_) (fun cdv A outer s H vs Q E hr hq h => ?_)
  · obtain ⟨L, D, T, as, rows, k, ps, F, tr, q, rfl, _⟩ := h
    rfl
  · obtain ⟨L, D, T, as, rows, k, ps, F, tr, q, rfl, hR, DT, hD, hT, fr, hF, nd, hrg, hn, ⟨q0, qk, kl⟩, qy, qn⟩ := h
    refine ⟨_, (pss_cons (ps_for PassesOwn.never rfl (pi_listK K (pe_ix (ix_listK K) (pv 0) (pv 2) (fun _ _ => rfl))) (pg_name (i := 4) sc_find_source.nd rfl (by first | exact .inl rfl | exact .inr rfl)) (pss_one (ps_if (pt_dNotIn hr (pv 4) (pv 3)) (pss_cons (ps_dputK hr (pv 3) (pv 4) pe_bl rfl)
      (pss_one (ps_if (PW.pt (pw_or (pt_dNotIn hr (pv 4) (pv 1)) (pw_or1 (pt_val (pe_callD D_find_source (hr.mono (Nat.le_refl _)) hq pass0 (pa_cons (pv 0) (pa_cons (pv 1) (pa_cons (pe_dgetK hr (pv 1) (pv 4) (fun _ _ => rfl)) (pa_cons (pv 3) pa_nil))))))))) (pss_cons (ps_dputK hr (pv 1) (pv 4) (pv 2) rfl)
      (pss_one (ps_ret pe_bl))) pss_nil))) pss_nil)))
      (pss_one (ps_ret pe_bl))), ?_⟩
    obtain ⟨c, hc⟩ : ∃ c, as[q.toNat]? = some c := ⟨_, List.getElem?_eq_getElem (by rw [hR.len]; omega)⟩
    obtain ⟨r, hr1, hr2⟩ := hR.row _ _ hc
    have sC : SqL K H c (r.map V.int) := .inl (.inl hr2)
    have cD : c ≠ D := fun z => by
      rw [z, hD] at hr2
      cases hr2
    have cT : c ≠ T := fun z => by
      rw [z, hT] at hr2
      cases hr2
    have act : ∀ s, Act rows s q ↔ s ∈ r := fun s => ⟨fun h => by
      obtain ⟨_, r', h1, h2⟩ := h
      rw [hr1] at h1
      obtain rfl := Option.some.inj h1
      exact h2, fun h => ⟨q0, r, hr1, h⟩⟩
    have pl : ps.length ≤ 64 := keys_few (k := k) (F := F) fr.kn fun p hp => by
      by_cases h : p.1 ∈ F
      · exact hrg _ (hF _ h)
      · obtain ⟨⟨_, r', h1, h2⟩, _⟩ := fr.ed p hp h
        exact hR.rg r' (List.mem_of_getElem? h1) p.1 h2
    refine ⟨_, rfl, _, rfl, L, _, q, .ref c, rfl, rfl, .inl (.inl hR.at_), atI_int q0 (by rw [List.getElem?_map, hc]; rfl), c, rfl, ⟨_, sC⟩, ?_⟩
    refine for_by (r.map V.int).length (fun j σ H' => ∃ (y4 : Option V) (tr1 : List Int), σ = [some (V.ref L), some (V.ref D), some (V.int q), some (V.ref T), y4] ∧ Ex2 D T H H' ∧ H' D = some (.dK (kvI ps)) ∧ H' T = some (.dK (visK tr1)) ∧
        tr1.Nodup ∧ (∀ s ∈ tr1, 0 ≤ s ∧ s < 64) ∧ (∀ s ∈ tr, s ∈ tr1) ∧ tr.length ≤ tr1.length ∧ (∀ (i : Nat) (s : Int), i < j → r[i]? = some s → s ∈ tr1) ∧ (∀ s ∈ tr1, s ∈ tr ∨ ∃ r', (s, r') ∈ ps ∧ ∀ s', Act rows s' r' → s' ∈ tr1) ∧ fsG (fsN rows n) q (r.drop j) ps tr1 = fsN rows (n + 1) ps q tr)
      ⟨_, tr, rfl, fun _ _ _ _ h => h, hD, hT, nd, hrg, fun s h => h, Nat.le_refl _, fun i s h => absurd h (Nat.not_lt_zero _), fun s h => .inl h, by show _ = fsG _ q (rows.getD q.toNat []) ps tr; rw [List.drop_zero, List.getD_eq_getElem?_getD, hr1]; rfl⟩ (fun j σ H' hj p => ?_) (fun σ H' p => ?_) ?_ ?_
    · obtain ⟨_, _, _, e, _⟩ := p
      exact itl_go (.inl (.inl (e _ _ cD cT hr2))) Ex.rfl hj
    · obtain ⟨_, _, _, e, _⟩ := p
      exact itl_stop (.inl (.inl (e _ _ cD cT hr2))) Ex.rfl
    · rintro j σ H1 x H2 hj ⟨y4, tr1, rfl, e1, hD1, hT1, nd1, rg1, sub1, le1, row1, cl1, fe1⟩ yy
      obtain ⟨rfl, hx⟩ := itl_yld yy (.inl (.inl (e1 _ _ cD cT hr2))) Ex.rfl
      obtain ⟨s, hs, rfl⟩ := map_at hx
      have hsr := hR.rg r (List.mem_of_getElem? hr1) s (List.mem_of_getElem? hs)
      rw [drop_at hs] at fe1
      refine ⟨_, rfl, _, rfl, T, _, rfl, DGet.k (k := Sum.inl s) hT1, _, rfl, ?_⟩
      rw [visK_get]
      cases hcn : tr1.contains s with
      | true =>
        have hin : s ∈ tr1 := by simpa using hcn
        refine ite2 (fun h => Bool.noConfusion h) (fun _ => ?_)
        refine ⟨_, tr1, rfl, e1, hD1, hT1, nd1, rg1, sub1, le1, fun i s' hi hs' => ?_, cl1, by rw [fsG_skip hcn] at fe1; exact fe1⟩
        by_cases hij : i < j
        · exact row1 i s' hij hs'
        · obtain rfl : i = j := by omega
          rw [hs] at hs'
          obtain rfl := Option.some.inj hs'
          exact hin
      | false =>
        have hin : s ∉ tr1 := fun h => by
          rw [List.contains_iff_mem.mpr h] at hcn
          cases hcn
        refine ite2 (fun _ => ?_) (fun h => absurd rfl h)
        have l28 := tried_few nd1 rg1
        refine ⟨_, rfl, _, rfl, T, _, rfl, DPut.k (k := Sum.inl s) hT1 (mil' (by unfold visK; rw [List.length_map]; omega)), ?_⟩
        rw [visK_put hin]
        have e2 : Ex2 D T H (upd H2 T (.dK (visK (tr1 ++ [s])))) := fun b o h1 h2 h => by
          rw [upd_ne h2]
          exact e1 b o h1 h2 h
        have hD2 : (upd H2 T (.dK (visK (tr1 ++ [s])))) D = some (.dK (kvI ps)) := by
          rw [upd_ne DT]
          exact hD1
        have hT2 : (upd H2 T (.dK (visK (tr1 ++ [s])))) T = some (.dK (visK (tr1 ++ [s]))) := upd_same
        generalize upd H2 T (.dK (visK (tr1 ++ [s]))) = H3 at e2 hD2 hT2
        have nd2 : (tr1 ++ [s]).Nodup := nodup_snoc nd1 hin
        have rg2 : ∀ s' ∈ tr1 ++ [s], 0 ≤ s' ∧ s' < 64 := fun s' h => by
          rcases List.mem_append.mp h with h | h
          · exact rg1 s' h
          · obtain rfl := List.mem_singleton.mp h
            exact hsr
        have sF : s ∉ F := fun h => hin (sub1 s (hF s h))
        have ha : Act rows s q := (act s).mpr (List.mem_of_getElem? hs)
        refine ⟨_, rfl, _, rfl, D, _, rfl, DGet.k (k := Sum.inl s) hD2, _, rfl, ?_⟩
        rw [kvI_get]
        cases hf : ps.find? (fun p => p.1 == s) with
        | none =>
          refine ite2 (fun _ => ?_) (fun h => absurd rfl h)
          refine ⟨_, rfl, _, rfl, _, rfl, D, _, rfl, DPut.k (k := Sum.inl s) hD2 (mil' (by unfold kvI; rw [List.length_map]; omega)), ?_⟩
          rw [kvI_put (find_none.mp hf)]
          refine qy (ps ++ [(s, q)]) _ (fun b o h1 h2 h => ?_) upd_same (fr.free sF (find_not hf) ha qk) (by rw [← fe1, fsG_free hcn hf]) (by rw [← fe1, fsG_free hcn hf])
          rw [upd_ne h1]
          exact e2 b o h1 h2 h
        | some p =>
          have hp := find_mem hf
          have hg : DGet H3 D (.int s) (some (V.int p.2)) := by
            have h := DGet.k (k := Sum.inl s) hD2
            rw [kvI_get, hf] at h
            exact h
          have hed := fr.ed _ hp sF
          refine ite2 (fun h => Bool.noConfusion h) (fun _ => ?_)
          refine ⟨_, rfl, _, rfl, _, rfl, _, rfl, D, _, rfl, hg, _, rfl, L, D, T, as, rows, k, ps, s :: F, tr1 ++ [s], p.2, rfl, hR.up2 hD hT e2, DT, hD2, hT2, fr.deep sF hp, fun s' h => ?_, nd2, rg2, ?_, ⟨hed.1.1, hed.2, kl⟩, fun ps1 H4 e4 hD4 got g1 g2 => ?_, fun tr2 H4 e4 hD4 hT4 miss rg4 m1 => ?_⟩
          · rcases List.mem_cons.mp h with rfl | h
            · simp
            · exact List.mem_append_left _ (sub1 s' (hF s' h))
          · rw [List.length_append, List.length_singleton]
            omega
          · refine ⟨_, rfl, ite2 (fun _ => ?_) (fun h => absurd rfl h)⟩
            have gl : ps1.length ≤ 64 := keys_few (k := k) (F := F) got.kn fun p' hp' => by
              by_cases h : p'.1 ∈ s :: F
              · rcases List.mem_cons.mp h with h | h
                · rw [h]
                  exact hsr
                · exact hrg _ (hF _ h)
              · obtain ⟨⟨_, r', h1, h2⟩, _⟩ := got.ed p' hp' h
                exact hR.rg r' (List.mem_of_getElem? h1) p'.1 h2
            refine ⟨_, rfl, _, rfl, _, rfl, D, _, rfl, DPut.k (k := Sum.inl s) hD4 (mil' (by unfold kvI; rw [List.length_map]; omega)), ?_⟩
            rw [kvI_putI]
            refine qy (putI ps1 s q) _ (fun b o h1 h2 h => ?_) upd_same (fr.found sF hp ha qk got) (by rw [← fe1, fsG_deep hcn hf, if_pos g1]) (by rw [← fe1, fsG_deep hcn hf, if_pos g1, g2])
            rw [upd_ne h1]
            exact e4 b o h1 h2 (e2 b o h1 h2 h)
          · refine ⟨_, rfl, ite2 (fun h => Bool.noConfusion h) (fun _ => ?_)⟩
            refine ⟨_, tr2, rfl, fun b o h1 h2 h => e4 b o h1 h2 (e2 b o h1 h2 h), hD4, hT4, miss.nd, rg4, fun s' h => miss.sub _ (List.mem_append_left _ (sub1 s' h)), ?_, fun i s' hi hs' => ?_, fun s' h => ?_, by rw [fsG_deep hcn hf, if_neg (by rw [m1]; exact fun h => Bool.noConfusion h), m1] at fe1; exact fe1⟩
            · have := rel_len (R := fun a b : Int => a = b) nd (fun a _ b _ x h1 h2 => h1.trans h2.symm) fun a ha => ⟨a, miss.sub _ (List.mem_append_left _ (sub1 a ha)), rfl⟩
              exact this
            · refine miss.sub _ ?_
              by_cases hij : i < j
              · exact List.mem_append_left _ (row1 i s' hij hs')
              · obtain rfl : i = j := by omega
                rw [hs] at hs'
                obtain rfl := Option.some.inj hs'
                simp
            · rcases miss.cl s' h with h1 | h1
              · rcases List.mem_append.mp h1 with h1 | h1
                · rcases cl1 s' h1 with h2 | ⟨r', h2, h3⟩
                  · exact .inl h2
                  · exact .inr ⟨r', h2, fun s'' h4 => miss.sub _ (List.mem_append_left _ (h3 s'' h4))⟩
                · obtain rfl := List.mem_singleton.mp h1
                  exact .inr ⟨p.2, hp, miss.row⟩
              · exact .inr h1
    · rintro σ H1 ⟨y4, tr1, rfl, e1, hD1, hT1, nd1, rg1, sub1, le1, row1, cl1, fe1⟩
      rw [List.length_map] at row1 fe1
      refine qn tr1 H1 e1 hD1 hT1 ⟨nd1, sub1, fun s h => ?_, cl1⟩ rg1 (by rw [List.drop_length] at fe1; exact fe1.symm)
      obtain ⟨i, hi⟩ := List.getElem?_of_mem ((act s).mp h)
      exact row1 i s (List.getElem?_eq_some_iff.mp hi).1 hi
theorem ok_find_source_all {f : Addr} {fd : FuncData} (T : Txt K mg) (F : Fun K "find_source" "find_source" s_find_source f fd) (hm : mg "find_source" = some (.ref f)) (hk : PySem.W.keepIn K (.ref f) = true) (hb : Binds K fd P_find_source []) :
    ∀ n : Nat, DefOk P w K mg base CX0 (n + 1) "find_source" P_find_source (spn_find_source n K)
  | 0 => ⟨f, fd, okG0 F sc_find_source (fun vs H Q E h => by
      obtain ⟨L, D, T, as, rows, k, ps, F, tr, q, rfl, _⟩ := h
      rfl) (fun cdv A outer s H vs Q E hr hq h => by
      obtain ⟨L, D, T, as, rows, k, ps, F, tr, q, _, _, _, _, _, _, _, nd, hrg, hn, _⟩ := h
      have := tried_few nd hrg
      omega), hm, hk, hb⟩
  | n + 1 => ⟨f, fd, ok_find_source T F (ok_find_source_all T F hm hk hb n), hm, hk, hb⟩
end

end K17
namespace K17
open PySem PySem.Spec PyProof.Rows L2 Nw
/-! targets_of_paired: slots 0 web, 1 rows, 2 paired, 3 quantity -/
abbrev s_targets_of_paired : Stmt := topS 22
abbrev N_targets_of_paired : List Str := ["web", "rows", "paired", "quantity"]
abbrev P_targets_of_paired : List Str := ["web"]
theorem sc_targets_of_paired : FnScope N_targets_of_paired P_targets_of_paired (defScope s_targets_of_paired) := ⟨rfl, rfl, rfl, by decide +kernel, rfl, by decide +kernel, by decide +kernel⟩
/-- for each quantity the sources that act on it -/
def rowsU (u : Wb) : List (List Int) := (List.range u.n.toNat).map fun s : Nat => srcsOf u.lines (s : Int)
theorem rowsU_len (u : Wb) : (rowsU u).length = u.n.toNat := by
  unfold rowsU
  rw [List.length_map, List.length_range]
theorem rowsU_at {u : Wb} {i : Nat} (h : i < u.n.toNat) : (rowsU u)[i]? = some (srcsOf u.lines (i : Int)) := by
  unfold rowsU
  rw [List.getElem?_map, List.getElem?_range h]
  rfl
theorem srcs_rg {u : Wb} (hu : Wb.Wd u) {q s : Int} (h : s ∈ srcsOf u.lines q) : 0 ≤ s ∧ s < 64 := by
  unfold srcsOf at h
  obtain ⟨p, hp, rfl⟩ := List.mem_map.mp h
  have h1 := (hu.line p (List.mem_filter.mp hp).1).1
  have h2 := srcN_leW hu
  have h3 := src_castW u hu
  omega
theorem rowsL_of {H H' : Hp} {p : Addr} {as : List Addr} {u : Wb} (hu : Wb.Wd u) (r : RowsAt H H' p as u.n.toNat (fun s => srcsOf u.lines (s : Int))) : RowsL H' p as (rowsU u) := by
  refine ⟨r.at_, by rw [r.len, rowsU_len], fun i b hb => ?_, fun x hx s hs => ?_⟩
  · have hi := (List.getElem?_eq_some_iff.mp hb).1
    rw [r.len] at hi
    exact ⟨_, rowsU_at hi, r.row i b hb⟩
  · unfold rowsU at hx
    obtain ⟨i, _, rfl⟩ := List.mem_map.mp hx
    exact srcs_rg hu hs
/-- the greatest pairing that is told -/
def tpN (rows : List (List Int)) : Nat → List (Int × Int)
  | 0 => []
  | i + 1 => (fsN rows 65 (tpN rows i) (i : Int) []).2.1
def tpU (u : Wb) : List (Int × Int) := tpN (rowsU u) u.n.toNat
def sp_targets_of_paired (K : PySem.W.Frag) : Sp := fun vs H Q _ => ∃ v u, vs = [v] ∧ Da K H (Wb.d u) v ∧ Wb.Wd u ∧ ∀ D ps H', Ex H H' → H D = none → H' D = some (.dK (kvI ps)) → Top (rowsU u) u.n ps → ps = tpU u → Q (.ref D) H'
section
variable {P : Program} {w : World} {K : PySem.W.Frag} {mg : Str → Option Value} {base : Heap}
theorem ok_targets_of_paired {f : Addr} {fd : FuncData} (T : Txt K mg) (F : Fun K "targets_of_paired" "targets_of_paired" s_targets_of_paired f fd)
    (D_source_rows : DefOk P w K mg base CX0 2 "source_rows" P_source_rows (sp_source_rows K))
    (D_find_source : DefOk P w K mg base CX0 66 "find_source" P_find_source (sp_find_source K)) :
    FnG P w K mg base CX0 67 f fd P_targets_of_paired (sp_targets_of_paired K) := by
  refine okG0 F sc_targets_of_paired (fun vs H Q E h => ?_) (fun cdv A outer s H vs Q E hr hq h => ?_)
  · obtain ⟨v, u, rfl, _⟩ := h
    rfl
  · obtain ⟨v, u, rfl, hd, hu, q⟩ := h
    obtain ⟨tw, x2, x3, rfl, hS, g2, g3⟩ := Wb.at hd
    have b1 := hu.lo
    have b2 := hu.hi
    refine ⟨_, (pss_cons (ps_set (i := 1) sc_targets_of_paired.nd rfl (by first | exact .inl rfl | exact .inr rfl) (pe_callD D_source_rows (hr.mono (by decide)) hq pass0 (pa_cons (pv 0) pa_nil)))
      (pss_cons (ps_set (i := 2) sc_targets_of_paired.nd rfl (by first | exact .inl rfl | exact .inr rfl) pe_dnewK)
      (pss_cons (ps_for PassesOwn.never rfl (pi_range1 (by rfl) T.b_range (pa_cons (pe_ix (ix_seqK K) (pv 0) pe_int (fun _ _ => rfl)) pa_nil)) (pg_name (i := 3) sc_targets_of_paired.nd rfl (by first | exact .inl rfl | exact .inr rfl)) (pss_one (ps_expr (pe_callD D_find_source (hr.mono (by decide)) hq pass0 (pa_cons (pv 1) (pa_cons (pv 2) (pa_cons (pv 3) (pa_cons pe_dnewK pa_nil))))))))
      (pss_one (ps_ret (pv 2)))))), ?_⟩
    refine ⟨_, rfl, _, u, rfl, hd, hu, fun L as H1 R => ?_⟩
    have e1 := R.ex
    have RL := rowsL_of hu R
    refine fun D hD => ?_
    have e2 : Ex H1 (upd H1 D (.dK (kvI []))) := Ex.nw hD
    have hD2 : (upd H1 D (.dK (kvI []))) D = some (.dK (kvI [])) := upd_same
    have RL2 : RowsL (upd H1 D (.dK (kvI []))) L as (rowsU u) := ⟨e2 _ _ RL.at_, RL.len, fun i b hb => by
      obtain ⟨r, h1, h2⟩ := RL.row i b hb
      exact ⟨r, h1, e2 _ _ h2⟩, RL.rg⟩
    have DH := e1.fr hD
    refine ⟨_, rfl, .inr (.inl ⟨tw, _, 0, _, rfl, rfl, (e1.tr e2).t hS, rfl, ?_⟩)⟩
    refine ⟨_, rfl, by omega, by omega, ?_⟩
    refine for_by u.n.toNat (fun i σ H' => ∃ (y3 : Option V) (ps : List (Int × Int)), σ = [some (V.ref tw), some (V.ref L), some (V.ref D), y3] ∧ Ex H H' ∧ RowsL H' L as (rowsU u) ∧ H' D = some (.dK (kvI ps)) ∧ Top (rowsU u) (i : Int) ps ∧ ps = tpN (rowsU u) i)
      ⟨_, [], rfl, e1.tr e2, RL2, hD2, top0 _, rfl⟩ (fun i σ H' hi p => hi) (fun σ H' p => Nat.le_refl _) ?_ ?_
    · rintro i σ H3 x H4 hi ⟨y3, ps, rfl, e3, R3, hD3, top, tpe⟩ ⟨rfl, rfl⟩
      have ez : (0 + (i : Int)) = (i : Int) := Int.zero_add _
      rw [ez]
      refine ⟨_, rfl, _, rfl, _, rfl, fun T hT => ?_⟩
      have e4 : Ex H4 (upd H4 T (.dK [])) := Ex.nw hT
      have hT4 : (upd H4 T (.dK [])) T = some (.dK (visK [])) := upd_same
      have DT : D ≠ T := fun z => by
        rw [← z, hD3] at hT
        cases hT
      have R4 : RowsL (upd H4 T (.dK [])) L as (rowsU u) := ⟨e4 _ _ R3.at_, R3.len, fun i b hb => by
        obtain ⟨r, h1, h2⟩ := R3.row i b hb
        exact ⟨r, h1, e4 _ _ h2⟩, R3.rg⟩
      have hD4 := e4 _ _ hD3
      have TH := e3.fr hT
      generalize upd H4 T (.dK []) = H5 at e4 hT4 R4 hD4
      have back : ∀ {H6 : Hp}, Ex2 D T H5 H6 → Ex H H6 := fun e b o h => e b o (fun z => by rw [z, DH] at h; cases h) (fun z => by rw [z, TH] at h; cases h) (e4 _ _ (e3 _ _ h))
      refine ⟨L, D, T, as, rowsU u, (i : Int) + 1, ps, [], [], (i : Int), rfl, R4, DT, hD4, hT4, top.fr, fun s h => (by cases h), List.nodup_nil, fun s h => (by cases h), by decide, ⟨by omega, by omega, by rw [rowsU_len]; omega⟩, fun ps' H6 e6 hD6 got g1 g2 => ?_, fun tr' H6 e6 hD6 hT6 miss _ m1 => ?_⟩
      · exact ⟨_, ps', rfl, back e6, R4.up2 hD4 hT4 e6, hD6, top.got got, by rw [tpe] at g2; exact g2.symm⟩
      · exact ⟨_, ps, rfl, back e6, R4.up2 hD4 hT4 e6, hD6, top.miss miss, by show ps = (fsN (rowsU u) 65 (tpN (rowsU u) i) (i : Int) []).2.1; rw [← tpe, m1]⟩
    · rintro σ H3 ⟨y3, ps, rfl, e3, R3, hD3, top, tpe⟩
      have en : ((u.n.toNat : Nat) : Int) = u.n := Int.toNat_of_nonneg (by omega)
      rw [en] at top
      exact ⟨_, rfl, q D ps H3 e3 DH hD3 top tpe⟩
end

end K17
namespace K17
open PySem PySem.Spec PyProof.Rows L2 Nw
/-! reached_quantities: slots 0 web, 1 pushed, 2 nudge, 3 target -/
abbrev s_reached_quantities : Stmt := topS 27
abbrev N_reached_quantities : List Str := ["web", "pushed", "nudge", "target"]
abbrev P_reached_quantities : List Str := ["web"]
theorem sc_reached_quantities : FnScope N_reached_quantities P_reached_quantities (defScope s_reached_quantities) := ⟨rfl, rfl, rfl, by decide +kernel, rfl, by decide +kernel, by decide +kernel⟩
/-- what ways from nudges lead to -/
def Rd (u : Wb) (b : Int) : Prop := ∃ q ∈ u.ns.flatten, Rch u.ps q b
theorem flat_take {α : Type} {l : List (List α)} {i : Nat} {r : List α} (h : l[i]? = some r) : (l.take (i + 1)).flatten = (l.take i).flatten ++ r := by
  rw [List.take_add_one, h, List.flatten_append]
  simp
theorem flat_few {m k : Nat} : ∀ {l : List (List Int)}, (∀ r ∈ l, r.length ≤ m) → l.length ≤ k → l.flatten.length ≤ m * k
  | [], _, _ => Nat.zero_le _
  | r :: l, h, hl => by
    have h1 := h r (by simp)
    have h2 := flat_few (m := m) (k := k - 1) (l := l) (fun x hx => h x (List.mem_cons_of_mem _ hx)) (by rw [List.length_cons] at hl; omega)
    rw [List.flatten_cons, List.length_append]
    have hk : k = (k - 1) + 1 := by rw [List.length_cons] at hl; omega
    rw [hk, Nat.mul_succ]
    omega
theorem row_ps {u : Wb} (hn : ∀ r ∈ u.ns, ∀ t ∈ r, 0 ≤ t ∧ t < u.n) {s t : Int} (hs : s < u.n) : t ∈ rowOf u.lines s ↔ (s, t) ∈ u.ps := by
  rw [mem_rowOf]
  unfold Wb.lines
  rw [List.mem_append]
  constructor
  · rintro (h | h)
    · exact h
    · have := (pushed_ok hn _ h).1
      simp only at this
      omega
  · exact .inl
def sp_reached_quantities (K : PySem.W.Frag) : Sp := fun vs H Q _ => ∃ (v : V) (u : Wb), vs = [v] ∧ Da K H (Wb.d u) v ∧ u.Ok ∧
  ∀ (D : Addr) (vis : List Int) H', Ex H H' → H' D = some (.dK (visK vis)) → vis.Nodup → (∀ b, b ∈ vis ↔ Rd u b) → Q (.ref D) H'
section
variable {P : Program} {w : World} {K : PySem.W.Frag} {mg : Str → Option Value} {base : Heap}
theorem ok_reached_quantities {f : Addr} {fd : FuncData} (T : Txt K mg) (F : Fun K "reached_quantities" "reached_quantities" s_reached_quantities f fd)
    (D_target_rows : DefOk P w K mg base CX0 2 "target_rows" P_target_rows (sp_target_rows K))
    (D_quantities_behind : DefOk P w K mg base CX0 1 "quantities_behind" P_quantities_behind (sp_quantities_behind K)) :
    FnG P w K mg base CX0 3 f fd P_reached_quantities (sp_reached_quantities K) := by
  refine okG0 F sc_reached_quantities (fun vs H Q E h => ?_) (fun cdv A outer s H vs Q E hr hq h => ?_)
  · obtain ⟨v, u, rfl, _⟩ := h
    rfl
  · obtain ⟨v, u, rfl, hd, hu, q⟩ := h
    obtain ⟨tw, x2, x3, rfl, hS, g2, ⟨a3, xs, rfl, hL3, hA3, hz3⟩⟩ := Wb.at hd
    have b1 := hu.lo
    have b2 := hu.hi
    have b3 := hu.few
    have hl3 := hA3.len
    rw [List.length_map] at hl3
    have ff : u.ns.flatten.length ≤ 160 := flat_few (m := 20) (k := 8) (fun r hr => hu.row hr) b3
    refine ⟨_, (pss_cons (ps_setLc2 (i := 1) (own := [("nudge", 2), ("target", 3)]) (vs1 := [3]) rfl sc_reached_quantities.nd rfl rfl (sw_true rfl rfl rfl (by decide +kernel)) (pi_listK K (pe_ix (ix_seqK K) (pv 0) pe_int (fun _ _ => rfl))) (blkOk_by (N := N_reached_quantities) (sc := defScope s_reached_quantities) (by decide +kernel)) (by decide) (fun _ _ _ _ _ => (pg_name (i := 2) sc_reached_quantities.nd rfl (by first | exact .inl rfl | exact .inr rfl))) (fun _ _ _ _ _ => pts_nil) (fun _ _ _ _ _ => (pi_listK K (pv 2))) (fun _ _ _ _ _ => (pg_name (i := 3) sc_reached_quantities.nd rfl (by first | exact .inl rfl | exact .inr rfl))) (fun _ _ _ _ _ => pts_nil) (fun _ _ _ _ _ => (pv 3)))
      (pss_one (ps_ret (pe_callD D_quantities_behind (hr.mono (by decide)) hq pass0 (pa_cons (pe_callD D_target_rows (hr.mono (by decide)) hq pass0 (pa_cons (pv 0) pa_nil)) (pa_cons (pv 1) pa_nil)))))), ?_⟩
    refine ⟨_, rfl, .inr (.inl ⟨tw, _, 2, _, rfl, rfl, hS, rfl, a3, rfl, ⟨_, .inl (.inl hL3)⟩, fun D hD => ?_⟩)⟩
    have s3 : SqL K H a3 xs := .inl (.inl hL3)
    refine lc2_by xs.length (fun i H' => Ex H H' ∧ H' D = some (.lst ((u.ns.take i).flatten.map V.int)))
      ⟨Ex.nw hD, upd_same⟩ (fun i H' hi p => itl_go s3 p.1 hi) (fun H' p => itl_stop s3 p.1) ?_ ?_
    · rintro i H1 x H2 hi ⟨e1, hD1⟩ y
      obtain ⟨rfl, hx⟩ := itl_yld y s3 e1
      obtain ⟨dr, hdr, hxd⟩ := hA3.at' hx
      obtain ⟨r, hrr, rfl⟩ := map_at hdr
      obtain ⟨ar, rfl, hLr⟩ := dInts_at hxd
      have sR := e1.l hLr
      refine ⟨rfl, _, rfl, ar, rfl, ⟨_, sR⟩, ?_⟩
      refine lci_by (r.map V.int).length (fun j H' => Ex H H' ∧ H' D = some (.lst (((u.ns.take i).flatten ++ r.take j).map V.int)))
        ⟨e1, by rw [List.take_zero, List.append_nil]; exact hD1⟩ (fun j H' hj p => itl_go hLr p.1 hj) (fun H' p => itl_stop hLr p.1) ?_ ?_
      · rintro j H7 x H8 hj ⟨e7, hD7⟩ y7
        obtain ⟨rfl, hx7⟩ := itl_yld y7 hLr e7
        obtain ⟨t, ht7, rfl⟩ := map_at hx7
        have lt : ((u.ns.take i).flatten ++ r.take j).length ≤ 200 := by
          have h1 := flat_few (m := 20) (k := 8) (l := u.ns.take i) (fun r hr => hu.row (List.mem_of_mem_take hr)) (by rw [List.length_take]; omega)
          have h2 := hu.row (List.mem_of_getElem? hrr)
          rw [List.length_append, List.length_take]
          omega
        refine ⟨rfl, _, rfl, _, hD7, mil' (by rw [List.length_map]; omega), e7.wr hD, ?_⟩
        rw [upd_same, List.take_add_one, ht7, ← List.append_assoc, List.map_append (l₁ := _ ++ _)]
        rfl
      · rintro H7 ⟨e7, hD7⟩
        rw [List.length_map, List.take_length, ← flat_take hrr] at hD7
        exact ⟨e7, hD7⟩
    · rintro H1 ⟨e1, hD1⟩
      rw [← hl3, List.take_length] at hD1
      refine ⟨_, rfl, .ref tw, u, rfl, hd.up e1, hu, fun L as H2 R => ?_⟩
      have hD2 := R.ex _ _ hD1
      have rgq : ∀ q ∈ u.ns.flatten, 0 ≤ q ∧ q < u.n := fun q hq => by
        obtain ⟨r, h1, h2⟩ := List.mem_flatten.mp hq
        exact (hu.ns r h1).2.1 q h2
      refine ⟨_, rfl, L, D, as, fun s => rowOf u.lines (s : Int), u.n, u.ps, u.ns.flatten, rfl, R.at_, R.row, ⟨by rw [R.len]; omega, b2⟩, hu.ps, fun s hs t => row_ps (fun r hr => (hu.ns r hr).2.1) hs, fun s => ?_, .inl (.inl hD2), rgq, by omega, fun D2 vis H3 hD3 e3 hV nd hm => ?_⟩
      · have h1 := hu.lines_len
        have h2 : (rowOf u.lines (s : Int)).length ≤ u.lines.length := by
          unfold rowOf
          rw [List.length_map]
          exact List.length_filter_le _ _
        show (rowOf u.lines (s : Int)).length ≤ 2000
        omega
      · exact q D2 vis H3 (e1.tr (R.ex.tr e3)) hV nd hm
end

end K17
namespace K17
open PySem PySem.Spec PyProof.Rows L2 Nw
/-! all_rooms: slots 0 web, 1 rows, 2 behind, 3 quantity, 4 found, 5 room, 6 other -/
abbrev s_all_rooms : Stmt := topS 28
abbrev N_all_rooms : List Str := ["web", "rows", "behind", "quantity", "found", "room", "other"]
abbrev P_all_rooms : List Str := ["web"]
theorem sc_all_rooms : FnScope N_all_rooms P_all_rooms (defScope s_all_rooms) := ⟨rfl, rfl, rfl, by decide +kernel, rfl, by decide +kernel, by decide +kernel⟩
theorem asc_ext : ∀ {a b : List Int}, ascB ltIn a = true → ascB ltIn b = true → (∀ x, x ∈ a ↔ x ∈ b) → a = b
  | [], [], _, _, _ => rfl
  | [], y :: b, _, _, h => absurd ((h y).mpr (by simp)) (by simp)
  | x :: a, [], _, _, h => absurd ((h x).mp (by simp)) (by simp)
  | x :: a, y :: b, ha, hb, h => by
    obtain ⟨a1, a2⟩ := ascI_tail ha
    obtain ⟨b1, b2⟩ := ascI_tail hb
    have e : x = y := by
      rcases List.mem_cons.mp ((h x).mp (by simp)) with e | h1
      · exact e
      · rcases List.mem_cons.mp ((h y).mpr (by simp)) with e | h2
        · exact e.symm
        · have := ltIn_yes (a1 y h2)
          have := ltIn_yes (b1 x h1)
          omega
    subst e
    rw [asc_ext a2 b2 fun z => ?_]
    constructor
    · intro hz
      have := ltIn_yes (a1 z hz)
      rcases List.mem_cons.mp ((h z).mp (List.mem_cons_of_mem _ hz)) with e | h1
      · omega
      · exact h1
    · intro hz
      have := ltIn_yes (b1 z hz)
      rcases List.mem_cons.mp ((h z).mpr (List.mem_cons_of_mem _ hz)) with e | h1
      · omega
      · exact h1
theorem asc_of_le {l : List Int} (h : l.Pairwise (· ≤ ·)) (nd : l.Nodup) : ascB ltIn l = true :=
  asc_pw (by
    refine (h.and nd).imp fun {a b} hab => decide_eq_true ?_
    have := hab.1
    have := hab.2
    omega)
theorem visK_keys {vis : List Int} : ((visK vis).map fun kv => kV kv.1) = vis.map V.int := by
  unfold visK
  rw [List.map_map]
  rfl
theorem mem_rowOf {ls : List (Int × Int)} {s t : Int} : t ∈ rowOf ls s ↔ (s, t) ∈ ls := by
  unfold rowOf
  rw [List.mem_map]
  constructor
  · rintro ⟨⟨a, b⟩, h, rfl⟩
    obtain ⟨h1, h2⟩ := List.mem_filter.mp h
    have h3 : a = s := by simpa using h2
    rw [← h3]
    exact h1
  · intro h
    exact ⟨(s, t), List.mem_filter.mpr ⟨h, by simp⟩, rfl⟩
theorem mem_row {u : Wb} (hu : u.Ok) {s t : Int} (hs : s < u.n) : t ∈ rowOf u.lines s ↔ (s, t) ∈ u.ps := by
  rw [row_low hu hs]
  exact mem_rowOf
theorem rup {H H1 H2 : Hp} {ns : List (List Int)} {L : Addr} {bs : List Addr} (h : NewR H H1 ns L bs) (e : Ex H1 H2) : NewR H H2 ns L bs :=
  ⟨h.ex.tr e, h.new, e _ _ h.at_, h.len, fun k b hb => ⟨(h.row k b hb).1, by
    obtain ⟨r, h1, h2⟩ := (h.row k b hb).2
    exact ⟨r, h1, e _ _ h2⟩⟩, h.nd⟩
/-- all rooms -/
def sp_all_rooms (K : PySem.W.Frag) : Sp := fun vs H Q _ => ∃ v u, vs = [v] ∧ Da K H (Wb.d u) v ∧ u.Ok ∧ ∀ L bs H', NewR H H' (roomsOf u.ps u.n) L bs → Q (.ref L) H'
section
open Classical
variable {P : Program} {w : World} {K : PySem.W.Frag} {mg : Str → Option Value} {base : Heap}
theorem ok_all_rooms {f : Addr} {fd : FuncData} (T : Txt K mg) (F : Fun K "all_rooms" "all_rooms" s_all_rooms f fd)
    (D_target_rows : DefOk P w K mg base CX0 2 "target_rows" P_target_rows (sp_target_rows K))
    (D_quantities_behind : DefOk P w K mg base CX0 1 "quantities_behind" P_quantities_behind (sp_quantities_behind K)) :
    FnG P w K mg base CX0 3 f fd P_all_rooms (sp_all_rooms K) := by
  refine okG0 F sc_all_rooms (fun vs H Q E h => ?_) (fun cdv A outer s H vs Q E hr hq h => ?_)
  · obtain ⟨v, u, rfl, _⟩ := h
    rfl
  · obtain ⟨v, u, rfl, hd, hu, q⟩ := h
    obtain ⟨t, x2, x3, rfl, hS, g2, g3⟩ := Wb.at hd
    have b1 := hu.lo
    have b2 := hu.hi
    have b3 := hu.few
    refine ⟨_, (pss_cons (ps_set (i := 1) sc_all_rooms.nd rfl (by first | exact .inl rfl | exact .inr rfl) (pe_callD D_target_rows (hr.mono (by decide)) hq pass0 (pa_cons (pv 0) pa_nil)))
      (pss_cons (ps_set (i := 2) sc_all_rooms.nd rfl (by first | exact .inl rfl | exact .inr rfl) (pe_lc (own := [("quantity", 3)]) rfl sc_all_rooms.nd (pi_range1 (by rfl) T.b_range (pa_cons (pe_ix (ix_seqK K) (pv 0) pe_int (fun _ _ => rfl)) pa_nil)) (blkOk_by (N := N_all_rooms) (sc := defScope s_all_rooms) (by decide +kernel)) (fun _ _ _ _ _ => (pg_name (i := 3) sc_all_rooms.nd rfl (by first | exact .inl rfl | exact .inr rfl))) (fun _ _ _ _ _ => pts_nil) (fun _ _ _ _ _ => (pe_callD D_quantities_behind (hr.mono (by decide)) hq pass0 (pa_cons (pv 1) (pa_cons (pe_lst (pa_cons (pv 3) pa_nil)) pa_nil))))))
      (pss_cons (ps_set (i := 4) sc_all_rooms.nd rfl (by first | exact .inl rfl | exact .inr rfl) (pe_lst pa_nil))
      (pss_cons (ps_for PassesOwn.never rfl (pi_range1 (by rfl) T.b_range (pa_cons (pe_ix (ix_seqK K) (pv 0) pe_int (fun _ _ => rfl)) pa_nil)) (pg_name (i := 3) sc_all_rooms.nd rfl (by first | exact .inl rfl | exact .inr rfl)) (pss_cons (ps_setLc (i := 5) (own := [("other", 6)]) rfl sc_all_rooms.nd rfl rfl (sw_true rfl rfl rfl (by decide +kernel)) (pi_listK K (pe_callTy (call_list_dK rfl) (by rfl) T.b_list bt_list (pa_cons (pe_ix (ix_listK K) (pv 2) (pv 3) (fun _ _ => rfl)) pa_nil))) (blkOk_by (N := N_all_rooms) (sc := defScope s_all_rooms) (by decide +kernel)) (fun _ _ _ _ _ => (pg_name (i := 6) sc_all_rooms.nd rfl (by first | exact .inl rfl | exact .inr rfl))) (fun _ _ _ _ _ => (pts_one (pt_dIn hr (pv 3) (pe_ix (ix_listK K) (pv 2) (pv 6) (fun _ _ => rfl))))) (fun _ _ _ _ _ => (pv 6)))
      (pss_one (ps_if (pt_cmpR op_eq (pv 3) (pe_callB (cr_minK' K rfl) (by rfl) T.b_min bt_min (pa_cons (pv 5) pa_nil)) (nomark _)) (pss_one (ps_expr (pe_bm PySem.F.plainAttrs_list PySem.F.slot_list_append PySem.F.type_list_append mt_append (pv 4) (pa_cons (pe_callB (cr_sortedIk K) (by rfl) T.b_sorted bt_sorted (pa_cons (pv 5) pa_nil)) pa_nil)))) pss_nil))))
      (pss_one (ps_ret (pv 4))))))), ?_⟩
    refine ⟨_, rfl, _, u, rfl, hd, hu, fun a as H1 R1 => ?_⟩
    have hS1 : SqT K H1 t _ := R1.ex.t hS
    refine ⟨_, rfl, .inr (.inl ⟨t, _, 0, _, rfl, rfl, hS1, rfl, ?_⟩)⟩
    refine ⟨_, rfl, by omega, by omega, fun B hB => ?_⟩
    have HB := R1.ex.fr hB
    refine lc_by u.n.toNat (fun i H' => Ex H1 H' ∧ ∃ ds : List Addr, H' B = some (.lst (ds.map V.ref)) ∧ ds.length = i ∧
        ∀ (k : Nat) (d : Addr), ds[k]? = some d → d ≠ B ∧ ∃ vis, H' d = some (.dK (visK vis)) ∧ vis.Nodup ∧ ∀ b, b ∈ vis ↔ Rch u.ps (k : Int) b)
      ⟨Ex.nw hB, [], upd_same, rfl, fun k d h => by simp at h⟩ (fun i H' hi p => (by show i < _; omega)) (fun H' p => (by show _ ≤ u.n.toNat; omega)) ?_ ?_
    · rintro i H9 x H2 hi ⟨e2, ds, hB2, hlen, hall⟩ ⟨rfl, rfl⟩
      rw [show (0 : Int) + (i : Int) = (i : Int) by omega]
      refine ⟨rfl, ?_⟩
      refine ⟨_, rfl, _, rfl, by show 1 ≤ sizeLine; decide, fun C hC => ?_⟩
      have CB : C ≠ B := fun e => by
        rw [e, hB2] at hC
        cases hC
      have eC : Ex H2 (upd H2 C (.lst [.int (i : Int)])) := Ex.nw hC
      have hC3 : (upd H2 C (.lst [.int (i : Int)])) C = some (.lst [.int (i : Int)]) := upd_same
      have hB3 := eC _ _ hB2
      generalize upd H2 C (.lst [.int (i : Int)]) = H3 at eC hC3 hB3
      have e3 := e2.tr eC
      refine ⟨a, C, as, fun s => rowOf u.lines (s : Int), u.n, u.ps, [(i : Int)], rfl, e3 _ _ R1.at_, fun s b hb => e3 _ _ (R1.row s b hb), ⟨by rw [R1.len]; omega, b2⟩, hu.ps, fun s hs t => ?_, fun s => ?_, .inl (.inl hC3), fun q0 hq0 => ?_, by rw [List.length_singleton]; decide, fun D vis H4 hD e4 hD4 nd hv => ?_⟩
      · exact mem_row hu hs
      · show (rowOf u.lines (s : Int)).length ≤ 2000
        have h1 := rowOf_len u.lines (s : Int)
        have h2 := hu.lines_len
        omega
      · obtain rfl := List.mem_singleton.mp hq0
        omega
      · have DB : D ≠ B := fun e => by
          rw [e, hB3] at hD
          cases hD
        refine ⟨ds.map V.ref, e4 _ _ hB3, mil' (by rw [List.length_map]; omega), (e3.tr e4).wr hB, ds ++ [D], ?_, ?_, ?_⟩
        · rw [upd_same, List.map_append]
          rfl
        · rw [List.length_append, hlen]
          rfl
        · intro k d hk
          by_cases hkl : k < ds.length
          · rw [List.getElem?_append_left hkl] at hk
            obtain ⟨d1, v1, d2, d3, d4⟩ := hall k d hk
            exact ⟨d1, v1, by rw [upd_ne d1]; exact e4 _ _ (eC _ _ d2), d3, d4⟩
          · have hk' : k = ds.length := by
              obtain ⟨z, _⟩ := List.getElem?_eq_some_iff.mp hk
              rw [List.length_append, List.length_singleton] at z
              omega
            subst hk'
            rw [List.getElem?_concat_length] at hk
            cases hk
            refine ⟨DB, vis, by rw [upd_ne DB]; exact hD4, nd, fun b => ?_⟩
            rw [hv b, hlen]
            exact ⟨fun ⟨q0, h1, h2⟩ => by
              obtain rfl := List.mem_singleton.mp h1
              exact h2, fun h => ⟨_, List.mem_singleton.mpr rfl, h⟩⟩
    · rintro H2 ⟨e2, ds, hB2, hlen, hall⟩
      refine ⟨Nat.zero_le _, fun F2 hF2 => ?_⟩
      have e02 := R1.ex.tr e2
      have R2 : NewR H (upd H2 F2 (.lst [])) (roomsTo u.ps u.n 0) F2 [] := ⟨e02.tr (Ex.nw hF2), e02.fr hF2, upd_same, rfl, fun k b hb => by simp at hb, List.nodup_nil⟩
      have e3 : Ex H2 (upd H2 F2 (.lst [])) := Ex.nw hF2
      generalize upd H2 F2 (.lst []) = H3 at R2 e3
      refine ⟨_, rfl, .inr (.inl ⟨t, _, 0, _, rfl, rfl, (e02.tr e3).t hS, rfl, ?_⟩)⟩
      refine ⟨_, rfl, by omega, by omega, ?_⟩
      refine for_by u.n.toNat (fun i σ H' => ∃ y3 y5 y6, σ = [some (V.ref t), some (V.ref a), some (V.ref B), y3, some (V.ref F2), y5, y6] ∧ Ex H2 H' ∧ ∃ bs, NewR H H' (roomsTo u.ps u.n i) F2 bs)
        ⟨_, _, _, rfl, e3, [], R2⟩ (fun i σ H' hi p => (by show i < _; omega)) (fun σ H' p => (by show _ ≤ u.n.toNat; omega)) ?_ ?_
      · rintro i σ H9 x H4 hi ⟨y3, y5, y6, rfl, e4, bs, R4⟩ ⟨rfl, rfl⟩
        rw [show (0 : Int) + (i : Int) = (i : Int) by omega]
        have hin : (i : Int) < u.n := by omega
        have hk := List.getElem?_eq_getElem (show i < ds.length by omega)
        generalize ds[i] = d at hk
        obtain ⟨dB, vis, hd2, nd, hv⟩ := hall i d hk
        have hd4 := e4 _ _ hd2
        have hB4 := e4 _ _ hB2
        refine ⟨_, rfl, _, rfl, B, _, (i : Int), .ref d, rfl, rfl, .inl (.inl hB4), atI_int (by omega) (by rw [List.getElem?_map, Int.toNat_natCast, hk]; rfl), d, _, rfl, hd4, fun C hC => ?_⟩
        rw [visK_keys]
        have eC : Ex H4 (upd H4 C (.lst (vis.map V.int))) := Ex.nw hC
        have hC5 : (upd H4 C (.lst (vis.map V.int))) C = some (.lst (vis.map V.int)) := upd_same
        generalize upd H4 C (.lst (vis.map V.int)) = H5 at eC hC5
        have sC : SqL K H5 C (vis.map V.int) := .inl (.inl hC5)
        refine ⟨C, rfl, ⟨_, sC⟩, fun G hG => ?_⟩
        refine lc_by (vis.map V.int).length (fun j H' => Ex H5 H' ∧ H' G = some (.lst (((vis.take j).filter fun b => decide (Rch u.ps b (i : Int))).map V.int)))
          ⟨Ex.nw hG, upd_same⟩ (fun j H' hj pv => itl_go sC pv.1 hj) (fun H' pv => itl_stop sC pv.1) ?_ ?_
        · rintro j H6 x H7 hj ⟨e6, hG6⟩ y
          obtain ⟨rfl, hx⟩ := itl_yld y sC e6
          obtain ⟨b, hb, rfl⟩ := map_at hx
          have hbr : 0 ≤ b ∧ b < u.n := Rch.inn hu.ps ((hv b).mp (List.mem_of_getElem? hb)) ⟨by omega, hin⟩
          have hkb := List.getElem?_eq_getElem (show b.toNat < ds.length by omega)
          generalize ds[b.toNat] = db at hkb
          obtain ⟨dbB, visb, hdb2, ndb, hvb⟩ := hall _ db hkb
          rw [show ((b.toNat : Nat) : Int) = b by omega] at hvb
          have e46 := e4.tr (eC.tr e6)
          have hdb6 := e46 _ _ hdb2
          have hB6 := e46 _ _ hB2
          refine ⟨rfl, _, rfl, _, rfl, _, rfl, B, _, b, .ref db, rfl, rfl, .inl (.inl hB6), atI_int hbr.1 (by rw [List.getElem?_map, hkb]; rfl), db, _, rfl, DGet.k (k := Sum.inl (i : Int)) hdb6, _, rfl, ?_⟩
          rw [visK_get, take_snoc hb, List.filter_append, List.map_append, List.filter_cons, List.filter_nil]
          have hlt := nd_few nd (n := u.n) fun b hb => Rch.inn hu.ps ((hv b).mp hb) ⟨by omega, hin⟩
          refine ite2 (fun h => ?_) (fun h => ?_)
          · have hb2 : Rch u.ps b (i : Int) := (hvb _).mp (List.contains_iff_mem.mp h)
            refine ⟨_, rfl, _, hG6, mil' ?_, e6.wr hG, ?_⟩
            · rw [List.length_map]
              have := List.length_filter_le (fun b => decide (Rch u.ps b (i : Int))) (vis.take j)
              rw [List.length_take] at this
              omega
            · rw [upd_same, if_pos (decide_eq_true hb2)]
              rfl
          · have hb2 : ¬ Rch u.ps b (i : Int) := fun r => h (List.contains_iff_mem.mpr ((hvb _).mpr r))
            refine ⟨e6, ?_⟩
            rw [if_neg (by rw [decide_eq_false hb2]; decide), List.map_nil, List.append_nil]
            exact hG6
        · rintro H6 ⟨e6, hG6⟩
          rw [List.length_map, List.take_length] at hG6
          have hrm : ∀ b, b ∈ (vis.filter fun b => decide (Rch u.ps b (i : Int))) ↔ b ∈ roomOf u.ps u.n (i : Int) := fun b => by
            rw [List.mem_filter, hv b, mem_room, decide_eq_true_eq]
            exact ⟨fun h => ⟨Rch.inn hu.ps h.1 ⟨by omega, hin⟩, h.1, h.2⟩, fun h => ⟨h.2.1, h.2.2⟩⟩
          have hrn : (vis.filter fun b => decide (Rch u.ps b (i : Int))).Nodup := nd.filter _
          generalize (vis.filter fun b => decide (Rch u.ps b (i : Int))) = room at hG6 hrm hrn
          have hself : (i : Int) ∈ room := (hrm _).mpr (room_self ⟨by omega, hin⟩)
          refine ⟨_, rfl, _, rfl, G, room, rfl, .inl (.inl hG6), List.length_pos_of_mem hself, fun m hm hml => ⟨rfl, _, rfl, ?_⟩⟩
          have hhead : (roomOf u.ps u.n (i : Int)).head? = some m := room_head ((hrm m).mp hm) fun y hy => hml y ((hrm y).mpr hy)
          have e46 : Ex H4 H6 := eC.tr e6
          rw [roomsTo_step hin]
          refine ite2 (fun h => ?_) (fun h => ?_)
          · have hm2 : m = (i : Int) := by
              have h2 : (i : Int) = m := by simpa using h
              exact h2.symm
            rw [if_pos (show isHead u.ps u.n (i : Int) = true from decide_eq_true (by rw [hhead, hm2]))]
            have hF6 := e46 _ _ R4.at_
            refine ⟨_, rfl, .inl ⟨rfl, _, .inl (.inl hF6)⟩, _, rfl, G, room, rfl, .inl (.inl hG6), fun r S hperm hsort hS => ?_⟩
            have hr : r = roomOf u.ps u.n (i : Int) := asc_ext (asc_of_le hsort (hperm.nodup_iff.mpr hrn)) asc_room fun y => hperm.mem_iff.trans (hrm y)
            subst hr
            have eS : Ex H6 (upd H6 S (.lst ((roomOf u.ps u.n (i : Int)).map V.int))) := Ex.nw hS
            refine ⟨F2, _, _, rfl, rfl, eS _ _ hF6, mil' ?_, ?_⟩
            · rw [List.length_map, R4.len]
              have := roomsTo_len (ps := u.ps) (n := u.n) (k := i)
              omega
            · exact ⟨_, _, _, rfl, (e4.tr (e46.tr eS)).wr hF2, bs ++ [S], R4.snoc (e46.tr eS) (e46.fr hS) upd_same⟩
          · have hm2 : ¬ m = (i : Int) := fun e => h (by rw [e]; simp)
            rw [if_neg (show ¬ isHead u.ps u.n (i : Int) = true from fun e => by
              have := of_decide_eq_true e
              rw [hhead] at this
              exact hm2 (Option.some.inj this))]
            exact ⟨_, _, _, rfl, e4.tr e46, bs, rup R4 e46⟩
      · rintro σ H4 ⟨y3, y5, y6, rfl, e4, bs, R4⟩
        exact ⟨_, rfl, q F2 bs H4 R4⟩
end

end K17
namespace K17
open PySem PySem.Spec PyProof.Rows L2 Nw
/-! are_in_one: slots 0 found, 1 quantity, 2 other, 3 room -/
abbrev s_are_in_one : Stmt := topS 29
abbrev N_are_in_one : List Str := ["found", "quantity", "other", "room"]
abbrev P_are_in_one : List Str := ["found", "quantity", "other"]
theorem sc_are_in_one : FnScope N_are_in_one P_are_in_one (defScope s_are_in_one) := ⟨rfl, rfl, rfl, by decide +kernel, rfl, by decide +kernel, by decide +kernel⟩
theorem inV_int {q : Int} {r : List Int} : inV (.int q) (r.map V.int) = r.contains q := by
  rw [Bool.eq_iff_iff]
  unfold inV
  rw [List.any_map, List.any_eq_true, List.contains_iff_mem]
  constructor
  · rintro ⟨y, hy, h⟩
    have : y = q := by simpa [eqV] using h
    rw [← this]
    exact hy
  · intro h
    exact ⟨q, h, by simp [eqV]⟩
theorem flat_ints {r : List Int} : (r.map V.int).all flatV = true := by
  rw [List.all_map, List.all_eq_true]
  intro x _
  rfl
/-- rooms, at their places -/
def RoomsIn (H : Hp) (L : Addr) (bs : List Addr) (rs : List (List Int)) : Prop :=
  H L = some (.lst (bs.map V.ref)) ∧ bs.length = rs.length ∧ (∀ (k : Nat) (b : Addr), bs[k]? = some b → ∃ r, rs[k]? = some r ∧ H b = some (.lst (r.map V.int))) ∧ rs.length ≤ 20
theorem RoomsIn.up {H H' : Hp} {L : Addr} {bs : List Addr} {rs : List (List Int)} (h : RoomsIn H L bs rs) (e : Ex H H') : RoomsIn H' L bs rs :=
  ⟨e _ _ h.1, h.2.1, fun k b hb => by
    obtain ⟨r, h1, h2⟩ := h.2.2.1 k b hb
    exact ⟨r, h1, e _ _ h2⟩, h.2.2.2⟩
def sp_are_in_one (K : PySem.W.Frag) : Sp := fun vs H Q _ => ∃ L bs rs s t, vs = [.ref L, .int s, .int t] ∧ RoomsIn H L bs rs ∧ ∀ H', Ex H H' → Q (.bl (inOne rs s t)) H'
section
variable {P : Program} {w : World} {K : PySem.W.Frag} {mg : Str → Option Value} {base : Heap}
theorem ok_are_in_one {f : Addr} {fd : FuncData} (T : Txt K mg) (F : Fun K "are_in_one" "are_in_one" s_are_in_one f fd) :
    FnG P w K mg base CX0 1 f fd P_are_in_one (sp_are_in_one K) := by
  refine okG0 F sc_are_in_one (fun vs H Q E h => ?_) (fun cdv A outer s H vs Q E hr hq h => ?_)
  · obtain ⟨L, bs, rs, s1, t, rfl, _⟩ := h
    rfl
  · obtain ⟨L, bs, rs, s1, t, rfl, hR, q⟩ := h
    have sL : SqL K H L (bs.map V.ref) := .inl (.inl hR.1)
    have hl := hR.2.1
    have hz := hR.2.2.2
    refine ⟨_, (pss_one (ps_ret (pe_callB (cr_anyK K rfl) (by rfl) T.b_any bt_any (pa_cons (pe_lc (own := [("room", 3)]) rfl sc_are_in_one.nd (pi_listK K (pv 0)) (blkOk_by (N := N_are_in_one) (sc := defScope s_are_in_one) (by decide +kernel)) (fun _ _ _ _ _ => (pg_name (i := 3) sc_are_in_one.nd rfl (by first | exact .inl rfl | exact .inr rfl))) (fun _ _ _ _ _ => pts_nil) (fun _ _ _ _ _ => (pe_and (pe_cmpR (op_inK K) (pv 1) (pv 3) (by rfl)) (pe_one (pe_cmpR (op_inK K) (pv 2) (pv 3) (by rfl)))))) pa_nil)))), ?_⟩
    refine ⟨_, rfl, L, rfl, ⟨_, sL⟩, fun D hD => ?_⟩
    refine lc_by (bs.map V.ref).length (fun i H' => Ex H H' ∧ H' D = some (.lst (((rs.take i).map fun r => r.contains s1 && r.contains t).map V.bl)))
      ⟨Ex.nw hD, upd_same⟩ (fun i H' hi p => itl_go sL p.1 hi) (fun H' p => itl_stop sL p.1) ?_ ?_
    · rintro i H3 x H4 hi ⟨e3, hD3⟩ y
      obtain ⟨rfl, hx⟩ := itl_yld y sL e3
      obtain ⟨b, hb, rfl⟩ := map_at hx
      obtain ⟨r, hr1, hr2⟩ := hR.2.2.1 i b hb
      have hr4 := e3 _ _ hr2
      have hsz : (((rs.take i).map fun r => r.contains s1 && r.contains t).map V.bl).length < sizeLine := mil' (by
        rw [List.length_map, List.length_map, List.length_take]
        omega)
      refine ⟨rfl, _, rfl, _, rfl, b, _, rfl, .inl (.inl (.inl hr4)), rfl, flat_ints, _, rfl, ?_⟩
      rw [show (if false = true then !inV (.int s1) (r.map V.int) else inV (.int s1) (r.map V.int)) = r.contains s1 from inV_int]
      rw [take_snoc hr1, List.map_append, List.map_append]
      refine ite2 (fun h => ?_) (fun h => ?_)
      · refine ⟨_, rfl, _, rfl, b, _, rfl, .inl (.inl (.inl hr4)), rfl, flat_ints, _, hD3, hsz, e3.wr hD, ?_⟩
        rw [show (if false = true then !inV (.int t) (r.map V.int) else inV (.int t) (r.map V.int)) = r.contains t from inV_int, upd_same, List.map_cons, h]
        rfl
      · refine ⟨_, hD3, hsz, e3.wr hD, ?_⟩
        rw [upd_same, List.map_cons, Bool.eq_false_iff.mpr h]
        rfl
    · rintro H3 ⟨e3, hD3⟩
      rw [List.length_map, hl, List.take_length] at hD3
      refine ⟨D, _, rfl, .inl (.inl hD3), ?_⟩
      rw [List.any_map]
      exact q H3 e3
end

end K17
namespace K17
open PySem PySem.Spec PyProof.Rows L2 Nw
/-! first_rooms: slots 0 web, 1 found, 2 entered, 3 source, 4 target, 5 room, 6 quantity -/
abbrev s_first_rooms : Stmt := topS 25
abbrev N_first_rooms : List Str := ["web", "found", "entered", "source", "target", "room", "quantity"]
abbrev P_first_rooms : List Str := ["web"]
theorem sc_first_rooms : FnScope N_first_rooms P_first_rooms (defScope s_first_rooms) := ⟨rfl, rfl, rfl, by decide +kernel, rfl, by decide +kernel, by decide +kernel⟩
theorem rebase {H H1 H2 : Hp} {ns : List (List Int)} {L : Addr} {bs : List Addr} (e : Ex H H1) (h : NewR H1 H2 ns L bs) : NewR H H2 ns L bs :=
  ⟨e.tr h.ex, e.fr h.new, h.at_, h.len, fun k b hb => ⟨⟨e.fr (h.row k b hb).1.1, (h.row k b hb).1.2⟩, (h.row k b hb).2⟩, h.nd⟩
theorem zip_at {α β : Type} {xs : List α} {ys : List β} (hl : xs.length = ys.length) {z : α × β} (h : z ∈ xs.zip ys) : ∃ j : Nat, xs[j]? = some z.1 ∧ ys[j]? = some z.2 := by
  obtain ⟨j, hj⟩ := List.getElem?_of_mem h
  rw [List.getElem?_zip_eq_some] at hj
  exact ⟨j, hj.1, hj.2⟩
theorem zip_filter {α β : Type} {f : β → Bool} : ∀ {xs : List α} {ys : List β}, xs.length = ys.length → ((xs.zip ys).filter fun z => f z.2).map (·.2) = ys.filter f
  | [], [], _ => rfl
  | [], _ :: _, h => by simp at h
  | _ :: _, [], h => by simp at h
  | x :: xs, y :: ys, h => by
    have ih := zip_filter (f := f) (xs := xs) (ys := ys) (by simpa using h)
    rw [List.zip_cons_cons, List.filter_cons, List.filter_cons]
    by_cases hf : f y = true
    · rw [if_pos hf, if_pos hf, List.map_cons, ih]
    · rw [if_neg hf, if_neg hf, ih]
def sp_first_rooms (K : PySem.W.Frag) : Sp := fun vs H Q _ => ∃ v u, vs = [v] ∧ Da K H (Wb.d u) v ∧ u.Ok ∧ ∀ L bs H', NewR H H' (firstOf u.ps u.n) L bs → Q (.ref L) H'
section
variable {P : Program} {w : World} {K : PySem.W.Frag} {mg : Str → Option Value} {base : Heap}
theorem ok_first_rooms {f : Addr} {fd : FuncData} (T : Txt K mg) (F : Fun K "first_rooms" "first_rooms" s_first_rooms f fd)
    (D_check_web : DefOk P w K mg base CX0 7 "check_web" P_check_web (sp_check_web K))
    (D_all_rooms : DefOk P w K mg base CX0 3 "all_rooms" P_all_rooms (sp_all_rooms K))
    (D_are_in_one : DefOk P w K mg base CX0 1 "are_in_one" P_are_in_one (sp_are_in_one K)) :
    FnG P w K mg base CX0 8 f fd P_first_rooms (sp_first_rooms K) := by
  refine okG0 F sc_first_rooms (fun vs H Q E h => ?_) (fun cdv A outer s H vs Q E hr hq h => ?_)
  · obtain ⟨v, u, rfl, _⟩ := h
    rfl
  · obtain ⟨v, u, rfl, hd, hu, q⟩ := h
    have b2 := hu.hi
    have b4 := hu.len
    refine ⟨_, (pss_cons (ps_expr (pe_callD D_check_web (hr.mono (by decide)) hq pass0 (pa_cons (pv 0) pa_nil)))
      (pss_cons (ps_set (i := 1) sc_first_rooms.nd rfl (by first | exact .inl rfl | exact .inr rfl) (pe_callD D_all_rooms (hr.mono (by decide)) hq pass0 (pa_cons (pv 0) pa_nil)))
      (pss_cons (ps_set (i := 2) sc_first_rooms.nd rfl (by first | exact .inl rfl | exact .inr rfl) (pe_lc (own := [("source", 3), ("target", 4)]) rfl sc_first_rooms.nd (pi_listK K (pe_ix (ix_seqK K) (pv 0) pe_int (fun _ _ => rfl))) (blkOk_by (N := N_first_rooms) (sc := defScope s_first_rooms) (by decide +kernel)) (fun _ _ _ _ _ => (pg_tupK (n := 2) K rfl (pgs_cons (pg_name (i := 3) sc_first_rooms.nd rfl (by first | exact .inl rfl | exact .inr rfl)) (pgs_cons (pg_name (i := 4) sc_first_rooms.nd rfl (by first | exact .inl rfl | exact .inr rfl)) pgs_nil)))) (fun _ _ _ _ _ => (pts_one (pt_not (pt_val (pe_callD D_are_in_one (hr.mono (by decide)) hq pass0 (pa_cons (pv 1) (pa_cons (pv 3) (pa_cons (pv 4) pa_nil)))))))) (fun _ _ _ _ _ => (pv 4))))
      (pss_one (ps_ret (pe_lc (own := [("room", 5)]) rfl sc_first_rooms.nd (pi_listK K (pv 1)) (blkOk_by (N := N_first_rooms) (sc := defScope s_first_rooms) (by decide +kernel)) (fun _ _ _ _ _ => (pg_name (i := 5) sc_first_rooms.nd rfl (by first | exact .inl rfl | exact .inr rfl))) (fun _ _ _ _ _ => (pts_one (pt_not (pt_val (pe_callB (cr_anyK K rfl) (by rfl) T.b_any bt_any (pa_cons (pe_lc (own := [("quantity", 6)]) rfl sc_first_rooms.nd (pi_listK K (pv 5)) (blkOk_by (by kernel_rfl)) (fun _ _ _ _ _ => (pg_name (i := 6) sc_first_rooms.nd rfl (by first | exact .inl rfl | exact .inr rfl))) (fun _ _ _ _ _ => pts_nil) (fun _ _ _ _ _ => (pe_cmpR (op_inK K) (pv 6) (pv 2) (by rfl)))) pa_nil)))))) (fun _ _ _ _ _ => (pv 5)))))))), ?_⟩
    refine ⟨_, rfl, _, _, rfl, hd, hu.web, fun H0 e0 => ?_⟩
    refine ⟨_, rfl, _, u, rfl, hd.up e0, hu, fun L bs H1 R0 => ?_⟩
    have R := rebase e0 R0
    have hlen : (roomsOf u.ps u.n).length ≤ 20 := by
      have := roomsTo_len (ps := u.ps) (n := u.n) (k := u.n.toNat)
      unfold roomsOf
      omega
    have RI : RoomsIn H1 L bs (roomsOf u.ps u.n) := ⟨R.at_, R.len, fun k b hb => (R.row k b hb).2, hlen⟩
    obtain ⟨t, x2, x3, rfl, hS, g2, g3⟩ := Wb.at (hd.up R.ex)
    obtain ⟨a2, ys, rfl, hL2, hA2, hz2⟩ := g2
    have hY : SqL K H1 a2 ys := .inl (.inl hL2)
    have hl2 := hA2.len
    rw [List.length_map] at hl2
    refine ⟨_, rfl, .inr (.inl ⟨t, _, 1, _, rfl, rfl, hS, rfl, ?_⟩)⟩
    refine ⟨a2, rfl, ⟨_, hY⟩, fun D hD => ?_⟩
    refine lc_by ys.length (fun i H' => Ex H1 H' ∧ H' D = some (.lst ((((u.ps.take i).filter fun p => !inOne (roomsOf u.ps u.n) p.1 p.2).map (·.2)).map V.int)))
      ⟨Ex.nw hD, upd_same⟩ (fun i H' hi p => itl_go hY p.1 hi) (fun H' p => itl_stop hY p.1) ?_ ?_
    · rintro i H3 x H4 hi ⟨e3, hD3⟩ y
      obtain ⟨rfl, hx⟩ := itl_yld y hY e3
      obtain ⟨p, hp, b, rfl, hSb⟩ := pairs_at hA2 hx
      refine ⟨b, _, rfl, e3.t hSb, rfl, _, _, rfl, _, _, rfl, rfl, rfl, ?_⟩
      refine ⟨_, rfl, _, rfl, _, rfl, L, bs, roomsOf u.ps u.n, p.1, p.2, rfl, RI.up e3, fun H5 e5 => ⟨_, rfl, ?_⟩⟩
      have hD5 := e5 _ _ hD3
      rw [take_snoc hp, List.filter_append, List.map_append, List.map_append, List.filter_cons, List.filter_nil]
      refine ite2 (fun h => ?_) (fun h => ?_)
      · refine ⟨_, rfl, _, hD5, mil' ?_, (e3.tr e5).wr hD, ?_⟩
        · rw [List.length_map, List.length_map]
          have h1 := List.length_filter_le (fun p : Int × Int => !inOne (roomsOf u.ps u.n) p.1 p.2) (u.ps.take i)
          rw [List.length_take] at h1
          omega
        · rw [upd_same, if_pos h]
          rfl
      · refine ⟨e3.tr e5, ?_⟩
        rw [if_neg h, List.map_nil, List.map_nil, List.append_nil]
        exact hD5
    · rintro H3 ⟨e3, hD3⟩
      rw [← hl2, List.take_length] at hD3
      generalize hent : (u.ps.filter fun p => !inOne (roomsOf u.ps u.n) p.1 p.2).map (·.2) = ent at hD3
      have hfe : ∀ r ∈ roomsOf u.ps u.n, isFirst u.ps r = !(r.any fun q => ent.contains q) := fun r hr => by
        rw [← hent]
        exact first_eq hr
      have RI3 := RI.up e3
      generalize hrs : roomsOf u.ps u.n = rs at RI3 hfe hlen R
      have sL : SqL K H3 L (bs.map V.ref) := .inl (.inl RI3.1)
      have hl := RI3.2.1
      refine ⟨_, rfl, L, rfl, ⟨_, sL⟩, fun G hG => ?_⟩
      refine lc_by (bs.map V.ref).length (fun i H' => Ex H3 H' ∧ H' G = some (.lst ((((bs.zip rs).take i).filter fun z => isFirst u.ps z.2).map fun z => V.ref z.1)))
        ⟨Ex.nw hG, upd_same⟩ (fun i H' hi p => itl_go sL p.1 hi) (fun H' p => itl_stop sL p.1) ?_ ?_
      · rintro i H4 x H5 hi ⟨e4, hG4⟩ y
        obtain ⟨rfl, hx⟩ := itl_yld y sL e4
        obtain ⟨b, hb, rfl⟩ := map_at hx
        obtain ⟨r, hr1, hr2⟩ := RI3.2.2.1 i b hb
        have hr5 := e4 _ _ hr2
        have hz : (bs.zip rs)[i]? = some (b, r) := List.getElem?_zip_eq_some.mpr ⟨hb, hr1⟩
        have hrl : r.length ≤ 20 := by
          have h1 : r ∈ roomsOf u.ps u.n := by
            rw [hrs]
            exact List.mem_of_getElem? hr1
          obtain ⟨a, _, rfl⟩ := mem_rooms h1
          have := room_len (ps := u.ps) (n := u.n) (a := a)
          omega
        have sR : SqL K H5 b (r.map V.int) := .inl (.inl hr5)
        refine ⟨rfl, _, rfl, b, rfl, ⟨_, sR⟩, fun C hC => ?_⟩
        refine lc_by (r.map V.int).length (fun j H' => Ex H5 H' ∧ H' C = some (.lst (((r.take j).map fun q => ent.contains q).map V.bl)))
          ⟨Ex.nw hC, upd_same⟩ (fun j H' hj p => itl_go sR p.1 hj) (fun H' p => itl_stop sR p.1) ?_ ?_
        · rintro j H6 x H7 hj ⟨e6, hC6⟩ y
          obtain ⟨rfl, hx⟩ := itl_yld y sR e6
          obtain ⟨k, hk, rfl⟩ := map_at hx
          have hD7 := (e4.tr e6) _ _ hD3
          refine ⟨rfl, _, rfl, _, rfl, D, _, rfl, .inl (.inl (.inl hD7)), rfl, flat_ints, _, hC6, mil' ?_, e6.wr hC, ?_⟩
          · rw [List.length_map, List.length_map, List.length_take]
            omega
          · rw [show (if false = true then !inV (.int k) (ent.map V.int) else inV (.int k) (ent.map V.int)) = ent.contains k from inV_int, upd_same, take_snoc hk, List.map_append, List.map_append]
            rfl
        · rintro H6 ⟨e6, hC6⟩
          rw [List.length_map, List.take_length] at hC6
          refine ⟨C, _, rfl, .inl (.inl hC6), _, rfl, ?_⟩
          have hG6 := e6 _ _ hG4
          rw [List.any_map, show (r.any (id ∘ fun q => ent.contains q)) = (r.any fun q => ent.contains q) from rfl]
          show (if (!(r.any fun q => ent.contains q)) = true then _ else _)
          rw [← hfe r (List.mem_of_getElem? hr1)]
          rw [take_snoc hz, List.filter_append, List.map_append, List.filter_cons, List.filter_nil]
          refine ite2 (fun h => ?_) (fun h => ?_)
          · refine ⟨_, rfl, _, hG6, mil' ?_, (e4.tr e6).wr hG, ?_⟩
            · rw [List.length_map]
              have h1 := List.length_filter_le (fun z : Addr × List Int => isFirst u.ps z.2) ((bs.zip rs).take i)
              rw [List.length_take, List.length_zip] at h1
              omega
            · rw [upd_same, if_pos h]
              rfl
          · refine ⟨e4.tr e6, ?_⟩
            rw [if_neg h, List.map_nil, List.append_nil]
            exact hG6
      · rintro H4 ⟨e4, hG4⟩
        rw [List.length_map, List.take_of_length_le (by rw [List.length_zip]; omega)] at hG4
        have e14 := e3.tr e4
        refine q G (((bs.zip rs).filter fun z => isFirst u.ps z.2).map (·.1)) H4 ⟨R.ex.tr e14, R.ex.fr (e3.fr hG), by rw [List.map_map]; exact hG4, ?_, ?_, ?_⟩
        · unfold firstOf
          rw [hrs, ← zip_filter (f := isFirst u.ps) hl, List.length_map, List.length_map]
        · intro k b hb
          obtain ⟨z, hz, rfl⟩ := map_at hb
          obtain ⟨j, hj1, hj2⟩ := zip_at hl (List.mem_filter.mp (List.mem_of_getElem? hz)).1
          obtain ⟨n1, r, n2, n3⟩ := R.row j z.1 hj1
          rw [hj2] at n2
          cases n2
          refine ⟨⟨n1.1, fun e => ?_⟩, z.2, ?_, e14 _ _ n3⟩
          · have h2 := e3 _ _ n3
            rw [e, hG] at h2
            cases h2
          · unfold firstOf
            rw [hrs, ← zip_filter (f := isFirst u.ps) hl, List.getElem?_map, hz]
            rfl
        · have h1 : ((bs.zip rs).map (·.1)) = bs := List.map_fst_zip (by omega)
          refine List.Sublist.nodup (l₂ := bs) ?_ R.nd
          rw [← h1]
          exact List.Sublist.map _ (by rw [h1]; exact List.filter_sublist)
end

end K17
namespace K17
open PySem PySem.Spec PyProof.Rows L2 Nw
/-! _law_targets: slots 0 _law_web_here, 1 _law_found, 2 _law_one, 3 _law_some, 4 _law_other, 5 _law_row -/
abbrev s_targets : Stmt := topS 42
abbrev N_targets : List Str := ["_law_web_here", "_law_found", "_law_one", "_law_some", "_law_other", "_law_row"]
abbrev P_targets : List Str := ["_law_web_here"]
theorem sc_targets : FnScope N_targets P_targets (defScope s_targets) := ⟨rfl, rfl, rfl, by decide +kernel, rfl, by decide +kernel, by decide +kernel⟩
/-- the rows of all sources, new ones -/
def sp_targets (K : PySem.W.Frag) : Sp := fun vs H Q _ => ∃ v u, vs = [v] ∧ Da K H (Wb.d u) v ∧ Wb.Wd u ∧
  ∀ p as H', RowsAt H H' p as (srcN u) (fun s => rowOf u.lines (s : Int)) → Q (.ref p) H'
theorem rowOf_pushed_low {u : Wb} (hu : Wb.Wd u) {s : Int} (hs : s < u.n) : rowOf (pushedFrom u.n 0 u.ns) s = [] :=
  rowOf_none fun l hl => by
    have := (pushed_ok (fun r hr => (hu.ns r hr).2.1) l hl).1
    omega
theorem rowOf_pushed_high {u : Wb} (hu : Wb.Wd u) {k : Nat} {r : List Int} (hr : u.ns[k]? = some r) : rowOf (pushedFrom u.n 0 u.ns) (u.n + (k : Int)) = r := by
  have h := row_push (n := u.n) (m := u.n) (rs := u.ns) (i := 0) (fun r hr => (hu.ns r hr).2.1) hr
  rw [show u.n + ((0 : Nat) : Int) + (k : Int) = u.n + (k : Int) by omega] at h
  exact h
section
variable {P : Program} {w : World} {K : PySem.W.Frag} {mg : Str → Option Value} {base : Heap}
theorem ok_targets {f : Addr} {fd : FuncData} (T : Txt K mg) (F : Fun K "_law_targets" "_law_targets" s_targets f fd) :
    FnG P w K mg base CX0 1 f fd P_targets (sp_targets K) := by
  refine okG0 F sc_targets (fun vs H Q E h => ?_) (fun cdv A outer s H vs Q E hr hq h => ?_)
  · obtain ⟨v, u, rfl, _⟩ := h
    rfl
  · obtain ⟨v, u, rfl, hd, hu, q⟩ := h
    obtain ⟨t, x2, x3, rfl, hS, ⟨a2, ys, rfl, hL2, hA2, hz2⟩, ⟨a3, xs, rfl, hL3, hA3, hz3⟩⟩ := Wb.at hd
    have b1 := hu.lo
    have b2 := hu.hi
    have b3 := hu.few
    have b4 := hu.len
    have hl2 := hA2.len
    have hl3 := hA3.len
    rw [List.length_map] at hl2 hl3
    refine ⟨_, (pss_cons (ps_set (i := 1) sc_targets.nd rfl (by first | exact .inl rfl | exact .inr rfl) (pe_op (op_catS K) (pe_lc (own := [("_law_one", 2)]) rfl sc_targets.nd (pi_range1 (by rfl) T.b_range (pa_cons (pe_ix (ix_tupK K) (pv 0) pe_int (fun _ _ => rfl)) pa_nil)) (blkOk_by (N := N_targets) (sc := defScope s_targets) (by decide +kernel)) (fun _ _ _ _ _ => (pg_name (i := 2) sc_targets.nd rfl (by first | exact .inl rfl | exact .inr rfl))) (fun _ _ _ _ _ => pts_nil) (fun _ _ _ _ _ => (pe_lst pa_nil))) (pe_lc (own := [("_law_some", 3)]) rfl sc_targets.nd (pi_listK K (pe_ix (ix_tupK K) (pv 0) pe_int (fun _ _ => rfl))) (blkOk_by (N := N_targets) (sc := defScope s_targets) (by decide +kernel)) (fun _ _ _ _ _ => (pg_name (i := 3) sc_targets.nd rfl (by first | exact .inl rfl | exact .inr rfl))) (fun _ _ _ _ _ => pts_nil) (fun _ _ _ _ _ => (pe_callTy (call_listK K) (by rfl) T.b_list bt_list (pa_cons (pv 3) pa_nil))))))
      (pss_cons (ps_for PassesOwn.never rfl (pi_listK K (pe_ix (ix_tupK K) (pv 0) pe_int (fun _ _ => rfl))) (pg_tupK (n := 2) K rfl (pgs_cons (pg_name (i := 2) sc_targets.nd rfl (by first | exact .inl rfl | exact .inr rfl)) (pgs_cons (pg_name (i := 4) sc_targets.nd rfl (by first | exact .inl rfl | exact .inr rfl)) pgs_nil))) (pss_cons (ps_set (i := 5) sc_targets.nd rfl (by first | exact .inl rfl | exact .inr rfl) (pe_ix (ix_listK K) (pv 1) (pv 2) (fun _ _ => rfl)))
      (pss_one (ps_expr (pe_bm PySem.F.plainAttrs_list PySem.F.slot_list_append PySem.F.type_list_append mt_append (pv 5) (pa_cons (pv 4) pa_nil))))))
      (pss_one (ps_ret (pv 1))))), ?_⟩
    refine ⟨_, rfl, t, _, 0, _, rfl, rfl, hS, rfl, _, rfl, by omega, by omega, fun D hD => ?_⟩
    refine lc_by u.n.toNat (fun i H' => ∃ bs, NewR H H' (List.replicate i []) D bs) ⟨[], NewR.nil hD⟩ (fun i H' hi p => (by show i < _; omega)) (fun H' p => (by show _ ≤ u.n.toNat; omega)) ?_ ?_
    · rintro i H1 x H2 hi ⟨bs, N⟩ ⟨rfl, rfl⟩
      refine ⟨rfl, Nat.zero_le _, fun l hl => ?_⟩
      have lD : l ≠ D := fun e => by
        rw [e, N.at_] at hl
        cases hl
      have hlen := N.len
      rw [List.length_replicate] at hlen
      refine ⟨bs.map V.ref, by rw [upd_ne lD.symm]; exact N.at_, mil' (by rw [List.length_map]; omega), bs ++ [l], ?_⟩
      rw [List.replicate_succ']
      exact N.snoc (Ex.nw hl) hl (by rw [upd_same]; rfl)
    · rintro H1 ⟨bs, N⟩
      refine ⟨_, rfl, t, _, 2, _, rfl, rfl, N.ex.t hS, rfl, a3, rfl, ⟨_, .inl (.inl (N.ex _ _ hL3))⟩, fun G hG => ?_⟩
      have s3 : SqL K H1 a3 xs := .inl (.inl (N.ex _ _ hL3))
      refine lc_by xs.length (fun i H' => ∃ cs, NewR H1 H' (u.ns.take i) G cs) ⟨[], NewR.nil hG⟩ (fun i H' hi p => itl_go s3 p.choose_spec.ex hi) (fun H' p => itl_stop s3 p.choose_spec.ex) ?_ ?_
      · rintro i H2 x H3 hi ⟨cs, M⟩ y
        obtain ⟨rfl, hx⟩ := itl_yld y s3 M.ex
        obtain ⟨dr, hdr, hxd⟩ := hA3.at' hx
        obtain ⟨r, hrr, rfl⟩ := map_at hdr
        obtain ⟨ar, rfl, hLr⟩ := dInts_at hxd
        refine ⟨rfl, _, rfl, ar, _, rfl, .inl (M.ex.l (N.ex.l hLr)), fun l hl => ?_⟩
        have lG : l ≠ G := fun e => by
          rw [e, M.at_] at hl
          cases hl
        have hlen := M.len
        rw [List.length_take] at hlen
        refine ⟨cs.map V.ref, by rw [upd_ne lG.symm]; exact M.at_, mil' (by rw [List.length_map]; omega), cs ++ [l], ?_⟩
        rw [take_snoc hrr]
        exact M.snoc (Ex.nw hl) hl upd_same
      · rintro H2 ⟨cs, M⟩
        rw [← hl3, List.take_length] at M
        have N2 := N.len
        have M2 := M.len
        rw [List.length_replicate] at N2
        refine ⟨D, G, _, _, rfl, rfl, .inl (.inl (M.ex _ _ N.at_)), .inl (.inl M.at_), by rw [List.length_map, List.length_map]; omega, fun p hp => ?_⟩
        have e3 : Ex H2 (upd H2 p (.lst (bs.map V.ref ++ cs.map V.ref))) := Ex.nw hp
        have f3 : (upd H2 p (.lst (bs.map V.ref ++ cs.map V.ref))) p = some (.lst ((bs ++ cs).map V.ref)) := by rw [upd_same, List.map_append]
        have offp : ∀ b o, H2 b = some o → b ≠ p := fun b o h => ne_of_none h hp
        generalize upd H2 p (.lst (bs.map V.ref ++ cs.map V.ref)) = H3 at e3 f3
        have hpH : H p = none := (N.ex.tr M.ex).fr hp
        have eH3 := N.ex.tr (M.ex.tr e3)
        have bsN : ∀ b ∈ bs, H b = none ∧ b ≠ p ∧ H1 b = some (.lst []) := fun b hb => by
          obtain ⟨k, hk⟩ := List.getElem?_of_mem hb
          obtain ⟨n1, r, n2, n3⟩ := N.row k b hk
          have : r = [] := (List.mem_replicate.mp (List.mem_of_getElem? n2)).2
          subst this
          exact ⟨n1.1, offp b _ (M.ex _ _ n3), n3⟩
        have csN : ∀ c ∈ cs, H1 c = none ∧ c ≠ p := fun c hc => by
          obtain ⟨k, hk⟩ := List.getElem?_of_mem hc
          obtain ⟨n1, r, n2, n3⟩ := M.row k c hk
          exact ⟨n1.1, offp c _ n3⟩
        have ndA : (bs ++ cs).Nodup := by
          rw [List.nodup_append]
          refine ⟨N.nd, M.nd, fun a ha c hc e => ?_⟩
          subst e
          have h1 := (bsN a ha).2.2
          rw [(csN a hc).1] at h1
          cases h1
        have offA : ∀ b ∈ bs ++ cs, H b = none ∧ b ≠ p := fun b hb => by
          rcases List.mem_append.mp hb with hb | hb
          · exact ⟨(bsN b hb).1, (bsN b hb).2.1⟩
          · exact ⟨N.ex.fr (csN b hb).1, (csN b hb).2⟩
        have lenA : (bs ++ cs).length = srcN u := by
          rw [List.length_append, N2, M2]
          unfold srcN
          omega
        have row0 : ∀ (s : Nat) (b : Addr), (bs ++ cs)[s]? = some b → H3 b = some (.lst ((rowOf (pushedFrom u.n 0 u.ns) (s : Int)).map V.int)) := fun s b hb => by
          by_cases hs : s < bs.length
          · rw [List.getElem?_append_left hs] at hb
            rw [rowOf_pushed_low hu (by omega)]
            exact e3 _ _ (M.ex _ _ (bsN b (List.mem_of_getElem? hb)).2.2)
          · rw [List.getElem?_append_right (by omega)] at hb
            obtain ⟨n1, r, n2, n3⟩ := M.row _ b hb
            rw [show ((s : Nat) : Int) = u.n + ((s - bs.length : Nat) : Int) by omega, rowOf_pushed_high hu n2]
            exact e3 _ _ n3
        generalize bs ++ cs = as at f3 ndA offA lenA row0
        have s2 : SqL K H3 a2 ys := .inl (.inl (eH3 _ _ hL2))
        refine ⟨_, rfl, t, _, 1, _, rfl, rfl, eH3.t hS, rfl, a2, rfl, ⟨_, s2⟩, ?_⟩
        refine for_by ys.length (fun i σ H' => ∃ y2 y3 y4 y5, σ = [some (V.ref t), some (V.ref p), y2, y3, y4, y5] ∧ Ex H H' ∧ H' p = some (.lst (as.map V.ref)) ∧
            ∀ (s : Nat) (b : Addr), as[s]? = some b → H' b = some (.lst ((rowOf (u.ps.take i ++ pushedFrom u.n 0 u.ns) (s : Int)).map V.int)))
          ⟨_, _, _, _, rfl, eH3, f3, fun s b hb => by rw [List.take_zero, List.nil_append]; exact row0 s b hb⟩ (fun i σ H' hi p => ?_) (fun σ H' p => ?_) ?_ ?_
        · obtain ⟨_, _, _, _, _, e, _⟩ := p
          exact itl_go (K := K) (.inl (.inl hL2)) e hi
        · obtain ⟨_, _, _, _, _, e, _⟩ := p
          exact itl_stop (K := K) (.inl (.inl hL2)) e
        · rintro i σ H4 x H5 hi ⟨y2, y3, y4, y5, rfl, e4, hp4, hR4⟩ y
          obtain ⟨rfl, hx⟩ := itl_yld y (K := K) (.inl (.inl hL2)) e4
          obtain ⟨pr, hpr, b, rfl, hSb⟩ := pairs_at hA2 hx
          obtain ⟨⟨p1, p2⟩, _⟩ := hu.ps pr (List.mem_of_getElem? hpr)
          obtain ⟨c, hc⟩ : ∃ c, as[pr.1.toNat]? = some c := ⟨_, List.getElem?_eq_getElem (by rw [lenA]; unfold srcN; omega)⟩
          have hcl := hR4 _ _ hc
          have el : ((pr.1.toNat : Nat) : Int) = pr.1 := Int.toNat_of_nonneg p1
          have nc := offA c (List.mem_of_getElem? hc)
          have erow : rowOf (u.ps.take i ++ pushedFrom u.n 0 u.ns) ((pr.1.toNat : Nat) : Int) = rowOf (u.ps.take i) ((pr.1.toNat : Nat) : Int) := by
            rw [rowOf_app, rowOf_pushed_low hu (by omega), List.append_nil]
          have hsz : ((rowOf (u.ps.take i ++ pushedFrom u.n 0 u.ns) ((pr.1.toNat : Nat) : Int)).map V.int).length < sizeLine := by
            refine mil' ?_
            rw [erow]
            have h1 := rowOf_len (u.ps.take i) ((pr.1.toNat : Nat) : Int)
            rw [List.length_take] at h1
            rw [List.length_map]
            omega
          refine ⟨b, _, rfl, e4.t hSb, rfl, _, _, rfl, _, _, rfl, rfl, ?_⟩
          refine ⟨_, rfl, _, rfl, p, _, pr.1, .ref c, rfl, rfl, .inl (.inl hp4), atI_int p1 (by rw [List.getElem?_map, hc]; rfl), ?_⟩
          refine ⟨_, rfl, .inl ⟨rfl, _, .inl (.inl hcl)⟩, _, rfl, c, _, _, rfl, rfl, hcl, hsz, ?_⟩
          refine ⟨_, _, _, _, rfl, e4.wr nc.1, by rw [upd_ne nc.2.symm]; exact hp4, fun s d hd' => ?_⟩
          rw [take_snoc hpr, rowOf_app (u.ps.take i ++ [pr]) (pushedFrom u.n 0 u.ns) (s : Int), rowOf_app (u.ps.take i) [pr] (s : Int), rowOf_one]
          by_cases es : s = pr.1.toNat
          · subst es
            rw [hc] at hd'
            cases hd'
            rw [upd_same, if_pos el.symm, erow, rowOf_pushed_low hu (by omega), List.append_nil, List.map_append]
            rfl
          · have ne : d ≠ c := nodup_at ndA hd' hc es
            rw [upd_ne ne, if_neg (by omega), List.append_nil, ← rowOf_app]
            exact hR4 s d hd'
        · rintro σ H4 ⟨y2, y3, y4, y5, rfl, e4, hp4, hR4⟩
          refine ⟨_, rfl, q p as H4 ⟨hpH, e4, hp4, ndA, offA, lenA, fun s b hb => ?_⟩⟩
          have := hR4 s b hb
          rw [← hl2, List.take_length] at this
          exact this
end

end K17
namespace K17
open PySem PySem.Spec PyProof.Rows L2 Nw
/-! _law_come_to: slots 0 _law_web_here, 1 _law_found, 2 _law_waiting, 3 _law_targets_here, 4 _law_some, 5 _law_here -/
abbrev s_come_to : Stmt := topS 44
abbrev N_come_to : List Str := ["_law_web_here", "_law_found", "_law_waiting", "_law_targets_here", "_law_some", "_law_here"]
abbrev P_come_to : List Str := ["_law_web_here"]
theorem sc_come_to : FnScope N_come_to P_come_to (defScope s_come_to) := ⟨rfl, rfl, rfl, by decide +kernel, rfl, by decide +kernel, by decide +kernel⟩
/-- who is reached, one after another -/
structure Cm (u : Wb) (fl : List Bool) (w : List Int) : Prop where
  len : fl.length = u.n.toNat
  rd : ∀ (i : Nat), fl[i]? = some true → Rd u (i : Int)
  wr : ∀ q ∈ w, (0 ≤ q ∧ q < u.n) ∧ Rd u q
  st : ∀ q ∈ u.ns.flatten, fl[q.toNat]? = some true ∨ q ∈ w
  cl : ∀ (i : Nat), fl[i]? = some true → ∀ t, ((i : Int), t) ∈ u.ps → fl[t.toNat]? = some true ∨ t ∈ w
section
variable {u : Wb} {fl : List Bool} {w : List Int} {x : Int}
theorem Cm.skip (c : Cm u fl (w ++ [x])) (hx : fl[x.toNat]? = some true) : Cm u fl w := by
  have drop : ∀ {q}, fl[q.toNat]? = some true ∨ q ∈ w ++ [x] → fl[q.toNat]? = some true ∨ q ∈ w := fun h => by
    rcases h with h | h
    · exact .inl h
    · rcases List.mem_append.mp h with h | h
      · exact .inr h
      · obtain rfl := List.mem_singleton.mp h
        exact .inl hx
  exact ⟨c.len, c.rd, fun q h => c.wr q (List.mem_append.mpr (.inl h)), fun q h => drop (c.st q h), fun i hi t ht => drop (c.cl i hi t ht)⟩
theorem Cm.add (c : Cm u fl (w ++ [x])) (hps : ∀ p ∈ u.ps, (0 ≤ p.1 ∧ p.1 < u.n) ∧ (0 ≤ p.2 ∧ p.2 < u.n)) {r : List Int} (hr : ∀ t, t ∈ r ↔ (x, t) ∈ u.ps) : Cm u (fl.set x.toNat true) (w ++ r) := by
  obtain ⟨⟨x0, x1⟩, xr⟩ := c.wr x (by simp)
  have ex : ((x.toNat : Nat) : Int) = x := Int.toNat_of_nonneg x0
  have hxl : x.toNat < fl.length := by
    rw [c.len]
    omega
  have at_ : ∀ {i : Nat}, (fl.set x.toNat true)[i]? = some true ↔ i = x.toNat ∨ fl[i]? = some true := fun {i} => by
    rw [List.getElem?_set]
    by_cases e : x.toNat = i
    · rw [if_pos e, if_pos hxl]
      exact ⟨fun _ => .inl e.symm, fun _ => rfl⟩
    · rw [if_neg e]
      exact ⟨.inr, fun h => h.resolve_left fun z => e z.symm⟩
  have lift : ∀ {q}, 0 ≤ q → fl[q.toNat]? = some true ∨ q ∈ w ++ [x] → (fl.set x.toNat true)[q.toNat]? = some true ∨ q ∈ w ++ r := fun h0 h => by
    rcases h with h | h
    · exact .inl (at_.mpr (.inr h))
    · rcases List.mem_append.mp h with h | h
      · exact .inr (List.mem_append.mpr (.inl h))
      · obtain rfl := List.mem_singleton.mp h
        exact .inl (at_.mpr (.inl rfl))
  refine ⟨by rw [List.length_set]; exact c.len, fun i hi => ?_, fun q h => ?_, fun q h => ?_, fun i hi t ht => ?_⟩
  · rcases at_.mp hi with rfl | h
    · rw [ex]
      exact xr
    · exact c.rd i h
  · rcases List.mem_append.mp h with h | h
    · exact c.wr q (List.mem_append.mpr (.inl h))
    · have h1 := (hr q).mp h
      obtain ⟨q0, h2, h3⟩ := xr
      exact ⟨(hps _ h1).2, q0, h2, h3.snoc h1⟩
  · rcases c.st q h with h1 | h1
    · exact .inl (at_.mpr (.inr h1))
    · exact lift ((c.wr q h1).1.1) (.inr h1)
  · have t0 := (hps _ ht).2.1
    rcases at_.mp hi with rfl | h
    · rw [ex] at ht
      exact .inr (List.mem_append.mpr (.inr ((hr t).mpr ht)))
    · exact lift t0 (c.cl i h t ht)
theorem Cm.done (c : Cm u fl []) (hps : ∀ p ∈ u.ps, (0 ≤ p.1 ∧ p.1 < u.n) ∧ (0 ≤ p.2 ∧ p.2 < u.n)) (hn : ∀ r ∈ u.ns, ∀ t ∈ r, 0 ≤ t ∧ t < u.n) (i : Nat) : fl[i]? = some true ↔ Rd u (i : Int) := by
  refine ⟨c.rd i, fun h => ?_⟩
  obtain ⟨q, hq, r⟩ := h
  have key : 0 ≤ (i : Int) ∧ fl[((i : Int)).toNat]? = some true := by
    refine r.closed (P := fun b => 0 ≤ b ∧ fl[b.toNat]? = some true) (fun a b ha hab => ?_) ?_
    · have ea : ((a.toNat : Nat) : Int) = a := Int.toNat_of_nonneg ha.1
      refine ⟨(hps _ hab).2.1, ?_⟩
      rcases c.cl a.toNat ha.2 b (by rw [ea]; exact hab) with h | h
      · exact h
      · cases h
    · obtain ⟨l, h1, h2⟩ := List.mem_flatten.mp hq
      refine ⟨(hn l h1 q h2).1, ?_⟩
      rcases c.st q hq with h | h
      · exact h
      · cases h
  exact key.2
end
theorem rep_bl : ∀ k : Nat, (List.replicate k [V.bl false]).flatten = (List.replicate k false).map V.bl
  | 0 => rfl
  | k + 1 => by
    rw [List.replicate_succ, List.flatten_cons, rep_bl k, List.replicate_succ, List.map_cons]
    rfl
theorem cf_set : ∀ {fl : List Bool} {i : Nat}, fl[i]? = some false → (fl.set i true).count false + 1 = fl.count false
  | [], i, h => by simp at h
  | b :: fl, 0, h => by
    obtain rfl := Option.some.inj h
    simp
  | b :: fl, i + 1, h => by
    have ih := cf_set (fl := fl) (i := i) (by simpa using h)
    rw [List.set_cons_succ, List.count_cons, List.count_cons]
    omega
def sp_come_to (K : PySem.W.Frag) : Sp := fun vs H Q _ => ∃ (v : V) (u : Wb), vs = [v] ∧ Da K H (Wb.d u) v ∧ Wb.Wd u ∧
  ∀ (p : Addr) (fl : List Bool) H', Ex H H' → H' p = some (.lst (fl.map V.bl)) → fl.length = u.n.toNat → (∀ (i : Nat), fl[i]? = some true ↔ Rd u (i : Int)) → Q (.ref p) H'
section
variable {P : Program} {w : World} {K : PySem.W.Frag} {mg : Str → Option Value} {base : Heap}
theorem ok_come_to {f : Addr} {fd : FuncData} (T : Txt K mg) (F : Fun K "_law_come_to" "_law_come_to" s_come_to f fd)
    (D_targets : DefOk P w K mg base CX0 1 "_law_targets" P_targets (sp_targets K)) :
    FnG P w K mg base CX0 2 f fd P_come_to (sp_come_to K) := by
  refine okG0 F sc_come_to (fun vs H Q E h => ?_) (fun cdv A outer s H vs Q E hr hq h => ?_)
  · obtain ⟨v, u, rfl, _⟩ := h
    rfl
  · obtain ⟨v, u, rfl, hd, hu, q⟩ := h
    obtain ⟨tw, x2, x3, rfl, hS, g2, ⟨a3, xs, rfl, hL3, hA3, hz3⟩⟩ := Wb.at hd
    have b1 := hu.lo
    have b2 := hu.hi
    have b3 := hu.few
    have hl3 := hA3.len
    rw [List.length_map] at hl3
    have ff : u.ns.flatten.length ≤ 620 := flat_few (m := 20) (k := 31) (fun r hr => hu.row hr) b3
    have nsr : ∀ r ∈ u.ns, ∀ t ∈ r, 0 ≤ t ∧ t < u.n := fun r hr => (hu.ns r hr).2.1
    refine ⟨_, (pss_cons (ps_par (i := 1) (j := 2) (by rfl) sc_come_to.nd rfl rfl (by decide) rfl rfl (pa_cons (pe_op op_rep (pe_lst (pa_cons pe_bl pa_nil)) (pe_ix (ix_tupK K) (pv 0) pe_int (fun _ _ => rfl))) (pa_cons (pe_lst pa_nil) pa_nil)) (by rfl))
      (pss_cons (ps_set (i := 3) sc_come_to.nd rfl (by first | exact .inl rfl | exact .inr rfl) (pe_callD D_targets (hr.mono (by decide)) hq pass0 (pa_cons (pv 0) pa_nil)))
      (pss_cons (ps_for PassesOwn.never rfl (pi_listK K (pe_ix (ix_tupK K) (pv 0) pe_int (fun _ _ => rfl))) (pg_name (i := 4) sc_come_to.nd rfl (by first | exact .inl rfl | exact .inr rfl)) (pss_one (ps_expr (pe_bm PySem.F.plainAttrs_list PySem.F.slot_list_extend PySem.F.type_list_extend mt_extend (pv 2) (pa_cons (pv 4) pa_nil)))))
      (pss_cons (ps_while PassesOwn.never (pt_cmpR (op_neDk K hr.units) (pv 2) (pe_lst pa_nil) (nomark _)) (pss_cons (ps_set (i := 5) sc_come_to.nd rfl (by first | exact .inl rfl | exact .inr rfl) (pe_bm0 PySem.F.plainAttrs_list PySem.F.slot_list_pop PySem.F.type_list_pop mt_pop (pv 2)))
      (pss_one (ps_if (pt_not (pt_val (pe_ix (ix_listK K) (pv 1) (pv 5) (fun _ _ => rfl)))) (pss_cons (ps_asg pe_bl (pg_sub (pv 1) (pv 5) set_list))
      (pss_one (ps_expr (pe_bm PySem.F.plainAttrs_list PySem.F.slot_list_extend PySem.F.type_list_extend mt_extend (pv 2) (pa_cons (pe_ix (ix_listK K) (pv 3) (pv 5) (fun _ _ => rfl)) pa_nil))))) pss_nil))))
      (pss_one (ps_ret (pv 1))))))), ?_⟩
    refine ⟨by show 1 ≤ sizeLine; decide, fun z1 hz1 => ?_⟩
    have e1 : Ex H (upd H z1 (.lst [.bl false])) := Ex.nw hz1
    have f1 : (upd H z1 (.lst [.bl false])) z1 = some (.lst [.bl false]) := upd_same
    generalize upd H z1 (.lst [.bl false]) = H1 at e1 f1
    refine ⟨_, rfl, tw, _, 0, _, rfl, rfl, e1.t hS, rfl, ?_⟩
    refine ⟨z1, u.n, _, rfl, rfl, f1, by omega, by omega, Nat.le_of_lt (mil' (by rw [List.length_singleton]; omega)), fun Fd hF => ?_⟩
    rw [rep_bl]
    have e2 : Ex H1 (upd H1 Fd (.lst ((List.replicate u.n.toNat false).map V.bl))) := Ex.nw hF
    have hF2 : (upd H1 Fd (.lst ((List.replicate u.n.toNat false).map V.bl))) Fd = some (.lst ((List.replicate u.n.toNat false).map V.bl)) := upd_same
    generalize upd H1 Fd (.lst ((List.replicate u.n.toNat false).map V.bl)) = H2 at e2 hF2
    refine ⟨Nat.zero_le _, fun W hW => ?_⟩
    have FW : Fd ≠ W := fun z => by
      rw [← z, hF2] at hW
      cases hW
    have e3 : Ex H2 (upd H2 W (.lst [])) := Ex.nw hW
    have hW3 : (upd H2 W (.lst [])) W = some (.lst (([] : List Int).map V.int)) := upd_same
    have hF3 := e3 _ _ hF2
    have FH := e1.fr hF
    have WH := (e1.tr e2).fr hW
    generalize upd H2 W (.lst []) = H3 at e3 hW3 hF3
    refine ⟨_, _, rfl, ?_⟩
    have e03 := (e1.tr e2).tr e3
    refine ⟨_, rfl, .ref tw, u, rfl, hd.up e03, hu, fun L ts H4 R => ?_⟩
    have e04 := e03.tr R.ex
    have hW4 := R.ex _ _ hW3
    have hF4 := R.ex _ _ hF3
    have s3 : SqL K H a3 xs := .inl (.inl hL3)
    have LW : L ≠ W := fun z => by
      have h := R.new
      rw [z, hW3] at h
      cases h
    have LF : L ≠ Fd := fun z => by
      have h := R.new
      rw [z, hF3] at h
      cases h
    have tsW : ∀ b ∈ ts, b ≠ W := fun b hb z => by
      have h := (R.off b hb).1
      rw [z, hW3] at h
      cases h
    have tsF : ∀ b ∈ ts, b ≠ Fd := fun b hb z => by
      have h := (R.off b hb).1
      rw [z, hF3] at h
      cases h
    refine ⟨_, rfl, tw, _, 2, _, rfl, rfl, e04.t hS, rfl, a3, rfl, ⟨_, e04.l s3⟩, ?_⟩
    refine for_by xs.length (fun i σ H' => ∃ (y4 : Option V), σ = [some (V.ref tw), some (V.ref Fd), some (V.ref W), some (V.ref L), y4, none] ∧ Ex2 W Fd H4 H' ∧ H' Fd = some (.lst ((List.replicate u.n.toNat false).map V.bl)) ∧ H' W = some (.lst ((u.ns.take i).flatten.map V.int)))
      ⟨_, rfl, fun _ _ _ _ h => h, hF4, hW4⟩ (fun i σ H' hi p => ?_) (fun σ H' p => ?_) ?_ ?_
    · obtain ⟨_, _, e, _⟩ := p
      exact itl_go (.inl (.inl (e _ _ (fun z => by rw [z, WH] at hL3; cases hL3) (fun z => by rw [z, FH] at hL3; cases hL3) (e04 _ _ hL3)))) Ex.rfl hi
    · obtain ⟨_, _, e, _⟩ := p
      exact itl_stop (.inl (.inl (e _ _ (fun z => by rw [z, WH] at hL3; cases hL3) (fun z => by rw [z, FH] at hL3; cases hL3) (e04 _ _ hL3)))) Ex.rfl
    · rintro i σ H5 x H6 hi ⟨y4, rfl, e5, hF5, hW5⟩ y
      obtain ⟨rfl, hx⟩ := itl_yld y (.inl (.inl (e5 _ _ (fun z => by rw [z, WH] at hL3; cases hL3) (fun z => by rw [z, FH] at hL3; cases hL3) (e04 _ _ hL3)))) Ex.rfl
      obtain ⟨dr, hdr, hxd⟩ := hA3.at' hx
      obtain ⟨r, hrr, rfl⟩ := map_at hdr
      obtain ⟨ar, zs, rfl, hLr, hAr, _⟩ := hxd
      obtain rfl := DaAll.ints.mp hAr
      have hr6 := e5 _ _ (fun z => by rw [z, WH] at hLr; cases hLr) (fun z => by rw [z, FH] at hLr; cases hLr) (e04 _ _ hLr)
      have h1 := flat_few (m := 20) (k := 31) (l := u.ns.take i) (fun r hr => hu.row (List.mem_of_mem_take hr)) (by rw [List.length_take]; omega)
      have h2 := hu.row (List.mem_of_getElem? hrr)
      refine ⟨_, rfl, .inl ⟨rfl, _, .inl (.inl hW5)⟩, _, rfl, W, ar, _, _, rfl, rfl, hW5, hr6, Nat.le_of_lt (mil' (by rw [List.length_map, List.length_map]; omega)), ?_⟩
      refine ⟨_, rfl, fun b o n1 n2 h => by rw [upd_ne n1]; exact e5 b o n1 n2 h, by rw [upd_ne FW]; exact hF5, ?_⟩
      rw [upd_same, flat_take hrr, List.map_append]
    rintro σ H5 ⟨y4, rfl, e5, hF5, hW5⟩
    rw [← hl3, List.take_length] at hW5
    clear hF4 hW4 hF3 hW3 f1
    refine ⟨fun m σ H' => ∃ (y5 : Option V) (fl : List Bool) (w : List Int), m = fl.count false * 3000 + w.length ∧ σ = [some (V.ref tw), some (V.ref Fd), some (V.ref W), some (V.ref L), y4, y5] ∧ Ex2 W Fd H4 H' ∧ H' Fd = some (.lst (fl.map V.bl)) ∧ H' W = some (.lst (w.map V.int)) ∧
        w.length + 2000 * fl.count false ≤ 41000 ∧ Cm u fl w,
      ⟨_, _, _, u.ns.flatten, rfl, rfl, e5, hF5, hW5, ?_, ?_⟩, ?_⟩
    · rw [List.count_replicate_self]
      omega
    · refine ⟨by rw [List.length_replicate], fun i hi => ?_, fun q hq => ?_, fun q hq => .inr hq, fun i hi => ?_⟩
      · rw [List.getElem?_replicate] at hi
        split at hi
        · cases hi
        · cases hi
      · obtain ⟨l, h1, h2⟩ := List.mem_flatten.mp hq
        exact ⟨nsr l h1 q h2, q, hq, .here q⟩
      · rw [List.getElem?_replicate] at hi
        split at hi
        · cases hi
        · cases hi
    · rintro m σ H6 ⟨y5, fl, w, rfl, rfl, e6, hF6, hW6, hwl, cm⟩
      refine ⟨_, rfl, Nat.zero_le _, fun z2 hz2 => ?_⟩
      have e7 : Ex H6 (upd H6 z2 (.lst [])) := Ex.nw hz2
      have f7 : (upd H6 z2 (.lst [])) z2 = some (.lst (([] : List Int).map V.int)) := by rw [upd_same]; rfl
      generalize upd H6 z2 (.lst []) = H7 at e7 f7
      have hF7 := e7 _ _ hF6
      have hW7 := e7 _ _ hW6
      have e47 : Ex2 W Fd H4 H7 := fun b o n1 n2 h => e7 _ _ (e6 b o n1 n2 h)
      refine ⟨dInts w, dInts [], (dInts_of hW7 (by omega)).dInts, (dInts_of f7 (by decide)).dInts, sh_dInts _, sh_dInts _, _, rfl, ?_⟩
      rw [eqv_dInts]
      refine ite2 (fun hwn => ?_) (fun hwn => ?_)
      · have hne : w ≠ [] := by simpa using hwn
        rcases List.eq_nil_or_concat w with rfl | ⟨w0, x, rfl⟩
        · exact absurd rfl hne
        rw [List.concat_eq_append] at *
        have hl0 : (w0 ++ [x]).length = w0.length + 1 := by simp
        rw [hl0] at hwl
        refine ⟨_, fun _ _ h => h, ?_⟩
        refine ⟨_, rfl, .inl ⟨rfl, _, .inl (.inl hW7)⟩, W, _, .int x, rfl, rfl, hW7, by simp, ?_⟩
        have hdl : ((w0 ++ [x]).map V.int).dropLast = w0.map V.int := by simp
        rw [hdl]
        obtain ⟨⟨xa, xb⟩, xr⟩ := cm.wr x (by simp)
        have hW8 : (upd H7 W (.lst (w0.map V.int))) W = some (.lst (w0.map V.int)) := upd_same
        have hF8 : (upd H7 W (.lst (w0.map V.int))) Fd = some (.lst (fl.map V.bl)) := by
          rw [upd_ne FW]
          exact hF7
        have e48 : Ex2 W Fd H4 (upd H7 W (.lst (w0.map V.int))) := fun b o n1 n2 h => by
          rw [upd_ne n1]
          exact e47 b o n1 n2 h
        generalize upd H7 W (.lst (w0.map V.int)) = H8 at hW8 hF8 e48
        obtain ⟨bx, hbx⟩ : ∃ bx, fl[x.toNat]? = some bx := ⟨_, List.getElem?_eq_getElem (by rw [cm.len]; omega)⟩
        refine ⟨_, rfl, _, rfl, Fd, _, x, .bl bx, rfl, rfl, .inl (.inl hF8), atI_int xa (by rw [List.getElem?_map, hbx]; rfl), _, rfl, ?_⟩
        cases bx with
        | true =>
          refine ite2 (fun h => by cases h) (fun _ => ?_)
          refine ⟨_, ?_, _, fl, w0, rfl, rfl, e48, hF8, hW8, by omega, cm.skip hbx⟩
          rw [hl0]
          omega
        | false =>
          refine ite2 (fun _ => ?_) (fun h => absurd rfl h)
          have hxl : x.toNat < fl.length := by
            rw [cm.len]
            omega
          have ixx : ixN (fl.map V.bl).length x = some x.toNat := by
            unfold ixN
            rw [List.length_map]
            rw [if_pos (by omega), if_pos (by omega)]
          refine ⟨_, rfl, _, rfl, Fd, _, x, x.toNat, rfl, rfl, hF8, ixx, ?_⟩
          have hF9 : (upd H8 Fd (.lst ((fl.map V.bl).set x.toNat (.bl true)))) Fd = some (.lst ((fl.set x.toNat true).map V.bl)) := by
            rw [upd_same, List.map_set]
          have hW9 : (upd H8 Fd (.lst ((fl.map V.bl).set x.toNat (.bl true)))) W = some (.lst (w0.map V.int)) := by
            rw [upd_ne FW.symm]
            exact hW8
          have e49 : Ex2 W Fd H4 (upd H8 Fd (.lst ((fl.map V.bl).set x.toNat (.bl true)))) := fun b o n1 n2 h => by
            rw [upd_ne n2]
            exact e48 b o n1 n2 h
          generalize upd H8 Fd (.lst ((fl.map V.bl).set x.toNat (.bl true))) = H9 at hF9 hW9 e49
          obtain ⟨b, hb⟩ : ∃ b, ts[x.toNat]? = some b := ⟨_, List.getElem?_eq_getElem (by rw [R.len]; have := src_castW u hu; omega)⟩
          have hbm := List.mem_of_getElem? hb
          have hRb := e49 _ _ (tsW b hbm) (tsF b hbm) (R.row _ _ hb)
          have el : ((x.toNat : Nat) : Int) = x := Int.toNat_of_nonneg xa
          rw [el] at hRb
          have cm2 := cm.add hu.ps (r := rowOf u.lines x) fun t => row_ps nsr xb
          have cfs := cf_set hbx
          have rl : (rowOf u.lines x).length ≤ 2000 := by
            have h1 := hu.lines_len
            have h2 : (rowOf u.lines x).length ≤ u.lines.length := by
              unfold rowOf
              rw [List.length_map]
              exact List.length_filter_le _ _
            omega
          refine ⟨_, rfl, .inl ⟨rfl, _, .inl (.inl hW9)⟩, _, rfl, _, rfl, L, _, x, .ref b, rfl, rfl, .inl (.inl (e49 _ _ LW LF R.at_)), atI_int xa (by rw [List.getElem?_map, hb]; rfl), ?_⟩
          refine ⟨W, b, _, _, rfl, rfl, hW9, hRb, Nat.le_of_lt (mil' (by rw [List.length_map, List.length_map]; omega)), ?_⟩
          refine ⟨_, ?_, _, fl.set x.toNat true, w0 ++ rowOf u.lines x, rfl, rfl, ?_, ?_, ?_, ?_, cm2⟩
          · rw [List.length_append, hl0]
            omega
          · intro b' o n1 n2 h
            rw [upd_ne n1]
            exact e49 b' o n1 n2 h
          · rw [upd_ne FW]
            exact hF9
          · rw [upd_same, List.map_append]
          · rw [List.length_append]
            omega
      · have hwe : w = [] := by simpa using hwn
        subst hwe
        have done := cm.done hu.ps nsr
        have eH : Ex H H7 := fun b o h => e47 b o (fun z => by rw [z, WH] at h; cases h) (fun z => by rw [z, FH] at h; cases h) (e04 _ _ h)
        exact ⟨_, rfl, q Fd fl H7 eH hF7 cm.len done⟩
end

end K17
namespace K17
open PySem PySem.Spec PyProof.Rows L2 Nw
/-! _law_sources: slots 0 _law_web_here, 1 _law_found, 2 _law_one, 3 _law_targets_here, 4 _law_source, 5 _law_row -/
abbrev s_sources : Stmt := topS 45
abbrev N_sources : List Str := ["_law_web_here", "_law_found", "_law_one", "_law_targets_here", "_law_source", "_law_row"]
abbrev P_sources : List Str := ["_law_web_here"]
theorem sc_sources : FnScope N_sources P_sources (defScope s_sources) := ⟨rfl, rfl, rfl, by decide +kernel, rfl, by decide +kernel, by decide +kernel⟩
/-- the sources below i that act on a quantity -/
def srcI (u : Wb) (i : Nat) (q : Int) : List Int := ((List.range i).filter fun s : Nat => (rowOf u.lines (s : Int)).contains q).map fun s : Nat => (s : Int)
theorem srcI_succ {u : Wb} {i : Nat} {q : Int} : srcI u (i + 1) q = srcI u i q ++ if (rowOf u.lines (i : Int)).contains q then [(i : Int)] else [] := by
  unfold srcI
  rw [List.range_succ, List.filter_append, List.map_append, List.filter_cons, List.filter_nil]
  congr 1
  split <;> rfl
theorem srcI_len {u : Wb} {i : Nat} {q : Int} : (srcI u i q).length ≤ i := by
  unfold srcI
  rw [List.length_map]
  have := List.length_filter_le (fun s : Nat => (rowOf u.lines (s : Int)).contains q) (List.range i)
  rw [List.length_range] at this
  exact this
theorem mem_srcI {u : Wb} (hu : Wb.Wd u) {s q : Int} : s ∈ srcI u (srcN u) q ↔ (s, q) ∈ u.lines := by
  have sc := src_castW u hu
  unfold srcI
  rw [List.mem_map]
  constructor
  · rintro ⟨k, hk, rfl⟩
    exact mem_rowOf.mp (List.contains_iff_mem.mp (List.mem_filter.mp hk).2)
  · intro h
    have h2 := (hu.line _ h).1
    have es : ((s.toNat : Nat) : Int) = s := Int.toNat_of_nonneg h2.1
    have h3 := h2.2
    refine ⟨s.toNat, List.mem_filter.mpr ⟨List.mem_range.mpr (by simp only at h3; omega), ?_⟩, es⟩
    rw [es]
    exact List.contains_iff_mem.mpr (mem_rowOf.mpr h)
theorem nd_rowOf {u : Wb} (hu : Wb.Wd u) {s : Int} : (rowOf u.lines s).Nodup := nodup_ascI (asc_rowOf hu.lines_asc s)
theorem contains_snoc {l : List Int} {x q : Int} : (l ++ [x]).contains q = (l.contains q || q == x) := by
  rw [Bool.eq_iff_iff, Bool.or_eq_true, List.contains_iff_mem, List.contains_iff_mem, List.mem_append, List.mem_singleton, beq_iff_eq]
/-- the lists of the sources, new ones -/
def sp_sources (K : PySem.W.Frag) : Sp := fun vs H Q _ => ∃ v u, vs = [v] ∧ Da K H (Wb.d u) v ∧ Wb.Wd u ∧
  ∀ p as H', RowsAt H H' p as u.n.toNat (fun q => srcI u (srcN u) (q : Int)) → Q (.ref p) H'
section
variable {P : Program} {w : World} {K : PySem.W.Frag} {mg : Str → Option Value} {base : Heap}
theorem ok_sources {f : Addr} {fd : FuncData} (T : Txt K mg) (F : Fun K "_law_sources" "_law_sources" s_sources f fd)
    (D_targets : DefOk P w K mg base CX0 1 "_law_targets" P_targets (sp_targets K)) :
    FnG P w K mg base CX0 2 f fd P_sources (sp_sources K) := by
  refine okG0 F sc_sources (fun vs H Q E h => ?_) (fun cdv A outer s H vs Q E hr hq h => ?_)
  · obtain ⟨v, u, rfl, _⟩ := h
    rfl
  · obtain ⟨v, u, rfl, hd, hu, q⟩ := h
    obtain ⟨t, x2, x3, rfl, hS, g2, g3⟩ := Wb.at hd
    have b1 := hu.lo
    have b2 := hu.hi
    have b3 := hu.few
    have hz := srcN_leW hu
    refine ⟨_, (pss_cons (ps_setLc (i := 1) (own := [("_law_one", 2)]) rfl sc_sources.nd rfl rfl (sw_true rfl rfl rfl (by decide +kernel)) (pi_range1 (by rfl) T.b_range (pa_cons (pe_ix (ix_tupK K) (pv 0) pe_int (fun _ _ => rfl)) pa_nil)) (blkOk_by (N := N_sources) (sc := defScope s_sources) (by decide +kernel)) (fun _ _ _ _ _ => (pg_name (i := 2) sc_sources.nd rfl (by first | exact .inl rfl | exact .inr rfl))) (fun _ _ _ _ _ => pts_nil) (fun _ _ _ _ _ => (pe_lst pa_nil)))
      (pss_cons (ps_set (i := 3) sc_sources.nd rfl (by first | exact .inl rfl | exact .inr rfl) (pe_callD D_targets (hr.mono (by decide)) hq pass0 (pa_cons (pv 0) pa_nil)))
      (pss_cons (ps_for PassesOwn.never rfl (pi_range1 (by rfl) T.b_range (pa_cons (pe_callB (call_lenK K) (by rfl) T.b_len bt_len (pa_cons (pv 3) pa_nil)) pa_nil)) (pg_name (i := 4) sc_sources.nd rfl (by first | exact .inl rfl | exact .inr rfl)) (pss_one (ps_for PassesOwn.never rfl (pi_listK K (pe_ix (ix_listK K) (pv 3) (pv 4) (fun _ _ => rfl))) (pg_name (i := 2) sc_sources.nd rfl (by first | exact .inl rfl | exact .inr rfl)) (pss_cons (ps_set (i := 5) sc_sources.nd rfl (by first | exact .inl rfl | exact .inr rfl) (pe_ix (ix_listK K) (pv 1) (pv 2) (fun _ _ => rfl)))
      (pss_one (ps_expr (pe_bm PySem.F.plainAttrs_list PySem.F.slot_list_append PySem.F.type_list_append mt_append (pv 5) (pa_cons (pv 4) pa_nil))))))))
      (pss_one (ps_ret (pv 1)))))), ?_⟩
    refine ⟨_, rfl, t, _, 0, _, rfl, rfl, hS, rfl, ?_⟩
    refine ⟨_, rfl, by omega, by omega, fun D hD => ?_⟩
    refine lc_by u.n.toNat (fun i H' => Ex H H' ∧ ∃ as : List Addr, H' D = some (.lst (as.map V.ref)) ∧ as.Nodup ∧ as.length = i ∧
        ∀ b ∈ as, H b = none ∧ b ≠ D ∧ H' b = some (.lst []))
      ⟨Ex.nw hD, [], upd_same, List.nodup_nil, rfl, fun b hb => by cases hb⟩ (fun i H' hi p => hi) (fun H' p => Nat.le_refl _) ?_ ?_
    · rintro i H1 x H2 hi ⟨e1, as, hD1, nd, hlen, hall⟩ ⟨rfl, rfl⟩
      refine ⟨rfl, Nat.zero_le _, fun b hb => ?_⟩
      have hbD : b ≠ D := fun e => by
        rw [e, hD1] at hb
        cases hb
      refine ⟨as.map V.ref, by rw [upd_ne hbD.symm]; exact hD1, mil' (by rw [List.length_map]; omega), (e1.tr (Ex.nw hb)).wr hD, as ++ [b], ?_, ?_, ?_, ?_⟩
      · rw [upd_same, List.map_append]
        rfl
      · refine nodup_snoc nd fun hm => ?_
        rw [(hall b hm).2.2] at hb
        cases hb
      · rw [List.length_append, hlen]
        rfl
      · intro c hc
        rcases List.mem_append.mp hc with hc | hc
        · obtain ⟨c1, c2, c3⟩ := hall c hc
          refine ⟨c1, c2, ?_⟩
          rw [upd_ne c2, upd_ne (ne_of_none c3 hb)]
          exact c3
        · obtain rfl := List.mem_singleton.mp hc
          exact ⟨e1.fr hb, hbD, by rw [upd_ne hbD, upd_same]⟩
    · rintro H1 ⟨e1, as, hD1, nd, hlen, hall⟩
      refine ⟨_, rfl, _, u, rfl, hd.up e1, hu, fun L ts H2 R => ?_⟩
      have hL2 := R.at_
      have sL2 : SqL K H2 L (ts.map V.ref) := .inl (.inl hL2)
      have LD : L ≠ D := fun e => by
        have h1 := R.new
        rw [e, hD1] at h1
        cases h1
      have Las : ∀ b ∈ as, b ≠ L := fun b hb e => by
        have h1 := R.new
        rw [← e, (hall b hb).2.2] at h1
        cases h1
      have Tas : ∀ b ∈ as, ∀ c ∈ ts, b ≠ c := fun b hb c hc e => by
        have h1 := (R.off c hc).1
        rw [← e, (hall b hb).2.2] at h1
        cases h1
      have TD : ∀ c ∈ ts, c ≠ D := fun c hc e => by
        have h1 := (R.off c hc).1
        rw [e, hD1] at h1
        cases h1
      refine ⟨_, rfl, L, _, rfl, .inl sL2, ?_⟩
      refine ⟨_, rfl, by rw [List.length_map, R.len]; omega, by rw [List.length_map, R.len]; omega, ?_⟩
      rw [List.length_map, R.len]
      refine for_by (srcN u) (fun i σ H' => ∃ y2 y4 y5, σ = [some (V.ref t), some (V.ref D), y2, some (V.ref L), y4, y5] ∧ Ex H H' ∧ H' D = some (.lst (as.map V.ref)) ∧ H' L = some (.lst (ts.map V.ref)) ∧
          (∀ (s : Nat) (c : Addr), ts[s]? = some c → H' c = some (.lst ((rowOf u.lines (s : Int)).map V.int))) ∧
          ∀ (s : Nat) (b : Addr), as[s]? = some b → H' b = some (.lst ((srcI u i (s : Int)).map V.int)))
        ⟨_, _, _, rfl, e1.tr R.ex, R.ex _ _ hD1, hL2, R.row, ?_⟩ (fun i σ H' hi p => (by show i < _; omega)) (fun σ H' p => (by show _ ≤ srcN u; omega)) ?_ ?_
      · intro s b hb
        exact R.ex _ _ (hall b (List.mem_of_getElem? hb)).2.2
      · rintro i σ H9 x H3 hi ⟨y2, y4, y5, rfl, e3, hD3, hL3, hT3, hR3⟩ ⟨rfl, rfl⟩
        have ez : (0 + (i : Int)) = (i : Int) := Int.zero_add _
        rw [ez]
        obtain ⟨c, hc⟩ : ∃ c, ts[i]? = some c := ⟨_, List.getElem?_eq_getElem (by rw [R.len]; omega)⟩
        have hcm := List.mem_of_getElem? hc
        have hc3 := hT3 _ _ hc
        have sC : SqL K H3 c ((rowOf u.lines (i : Int)).map V.int) := .inl (.inl hc3)
        refine ⟨_, rfl, _, rfl, L, _, (i : Int), .ref c, rfl, rfl, .inl (.inl hL3), atI_nat (by rw [List.getElem?_map, hc]; rfl), ?_⟩
        refine ⟨c, rfl, ⟨_, sC⟩, ?_⟩
        refine for_by ((rowOf u.lines (i : Int)).map V.int).length (fun j σ H' => ∃ y2 y5, σ = [some (V.ref t), some (V.ref D), y2, some (V.ref L), some (V.int (i : Int)), y5] ∧ Ex H H' ∧ H' D = some (.lst (as.map V.ref)) ∧ H' L = some (.lst (ts.map V.ref)) ∧
            (∀ (s : Nat) (c : Addr), ts[s]? = some c → H' c = some (.lst ((rowOf u.lines (s : Int)).map V.int))) ∧
            ∀ (s : Nat) (b : Addr), as[s]? = some b → H' b = some (.lst ((srcI u i (s : Int) ++ if ((rowOf u.lines (i : Int)).take j).contains (s : Int) then [(i : Int)] else []).map V.int)))
          ⟨_, _, rfl, e3, hD3, hL3, hT3, ?_⟩ (fun j σ H' hj p => ?_) (fun σ H' p => ?_) ?_ ?_
        · intro s b hb
          rw [List.take_zero]
          simpa using hR3 s b hb
        · obtain ⟨_, _, _, _, _, _, h5, _⟩ := p
          exact itl_go (.inl (.inl (h5 _ _ hc))) Ex.rfl hj
        · obtain ⟨_, _, _, _, _, _, h5, _⟩ := p
          exact itl_stop (.inl (.inl (h5 _ _ hc))) Ex.rfl
        · rintro j σ H4 x H5 hj ⟨y2, y5, rfl, e4, hD4, hL4, hT4, hR4⟩ ⟨rfl, hx⟩
          have hx := hx _ (.inl (.inl (hT4 _ _ hc)))
          obtain ⟨k, hk, rfl⟩ := map_at hx
          have hkm := List.mem_of_getElem? hk
          have hkl := hu.line _ (mem_rowOf.mp hkm)
          obtain ⟨k1, k2⟩ := hkl.2
          simp only at k1 k2
          have hs : k.toNat < as.length := by rw [hlen]; omega
          have hb := List.getElem?_eq_getElem hs
          generalize as[k.toNat] = b at hb
          have hbm := List.mem_of_getElem? hb
          have ek : ((k.toNat : Nat) : Int) = k := Int.toNat_of_nonneg k1
          have hb4 := hR4 _ _ hb
          obtain ⟨b1', b2', _⟩ := hall b hbm
          have bL := Las b hbm
          have knot : ((rowOf u.lines (i : Int)).take j).contains k = false := by
            rw [Bool.eq_false_iff]
            intro h
            have h1 := List.contains_iff_mem.mp h
            have h2 := (nd_rowOf hu (s := (i : Int))).sublist (List.take_sublist (j + 1) _)
            rw [take_snoc hk] at h2
            have h3 := List.nodup_append.mp h2
            exact h3.2.2 k h1 k (by simp) rfl
          rw [ek, knot] at hb4
          simp only [Bool.false_eq_true, if_false, List.append_nil] at hb4
          refine ⟨_, rfl, _, rfl, D, _, k, .ref b, rfl, rfl, .inl (.inl hD4), atI_int k1 (by rw [List.getElem?_map, hb]; rfl), ?_⟩
          have hsz : ((srcI u i k).map V.int).length < sizeLine := mil' (by
            rw [List.length_map]
            have := srcI_len (u := u) (i := i) (q := k)
            omega)
          refine ⟨_, rfl, .inl ⟨rfl, _, .inl (.inl hb4)⟩, _, rfl, b, _, _, rfl, rfl, hb4, hsz, ?_⟩
          refine ⟨_, _, rfl, e4.wr b1', by rw [upd_ne b2'.symm]; exact hD4, by rw [upd_ne bL.symm]; exact hL4, ?_, ?_⟩
          · intro s' c' hc'
            rw [upd_ne (Tas b hbm c' (List.mem_of_getElem? hc')).symm]
            exact hT4 s' c' hc'
          · intro s' d hd'
            rw [take_snoc hk, contains_snoc]
            by_cases es : s' = k.toNat
            · subst es
              rw [hb] at hd'
              cases hd'
              rw [upd_same, ek, knot, beq_self_eq_true, Bool.false_or, if_pos rfl, List.map_append]
              rfl
            · have ne : d ≠ b := nodup_at nd hd' hb es
              rw [upd_ne ne, show ((s' : Int) == k) = false by rw [beq_eq_false_iff_ne]; omega, Bool.or_false]
              exact hR4 s' d hd'
        · rintro σ H4 ⟨y2, y5, rfl, e4, hD4, hL4, hT4, hR4⟩
          refine ⟨_, _, _, rfl, e4, hD4, hL4, hT4, fun s b hb => ?_⟩
          have h := hR4 s b hb
          rw [List.length_map, List.take_length] at h
          rw [srcI_succ]
          exact h
      · rintro σ H3 ⟨y2, y4, y5, rfl, e3, hD3, hL3, hT3, hR3⟩
        exact ⟨_, rfl, q D as H3 ⟨hD, e3, hD3, nd, fun b hb => ⟨(hall b hb).1, (hall b hb).2.1⟩, hlen, hR3⟩⟩
end

end K17
namespace K17
open PySem PySem.Spec PyProof.Rows L2 Nw
/-! _law_led_to: slots 0 _law_lists_here, 1 _law_taken, 2 _law_quantity, 3 _law_came, 4 _law_waiting, 5 _law_done, 6 _law_free, 7 _law_here, 8 _law_source -/
abbrev s_led_to : Stmt := topS 46
abbrev N_led_to : List Str := ["_law_lists_here", "_law_taken", "_law_quantity", "_law_came", "_law_waiting", "_law_done", "_law_free", "_law_here", "_law_source"]
abbrev P_led_to : List Str := ["_law_lists_here", "_law_taken", "_law_quantity"]
theorem sc_led_to : FnScope N_led_to P_led_to (defScope s_led_to) := ⟨rfl, rfl, rfl, by decide +kernel, rfl, by decide +kernel, by decide +kernel⟩
def optV : Option Int → V
  | none => .non
  | some x => .int x
/-- what is told of the search: who came from where, the waiting list, who is free -/
structure Led (rows : List (List Int)) (ps : List (Int × Int)) (q0 : Int) (cs : List (Int × Int)) (w : List Int) (fr : Option Int) : Prop where
  ck : (cs.map (·.1)).Nodup
  cr : ∀ p ∈ cs, (0 ≤ p.1 ∧ p.1 < 64) ∧ p.2 ∈ w
  ca : ∀ p ∈ cs, Act rows p.1 p.2
  wn : w.Nodup
  w0 : w[0]? = some q0
  wl : w.length ≤ cs.length + 1
  wp : ∀ (i : Nat) (h : Int), w[i + 1]? = some h → ∃ s k h', (s, h) ∈ ps ∧ (s, h') ∈ cs ∧ k ≤ i ∧ w[k]? = some h'
  cw : ∀ p ∈ cs, ∀ h, (p.1, h) ∈ ps → h ∈ w
  fc : ∀ f, fr = some f → f ∈ cs.map (·.1) ∧ f ∉ ps.map (·.1)
  nf : fr = none → ∀ p ∈ cs, p.1 ∈ ps.map (·.1)
theorem fst_one {ps : List (Int × Int)} (nd : (ps.map (·.1)).Nodup) {s a b : Int} (ha : (s, a) ∈ ps) (hb : (s, b) ∈ ps) : a = b := (Prod.mk.inj (fst_eq nd ha hb rfl)).2
theorem snd_one {ps : List (Int × Int)} (nd : (ps.map (·.2)).Nodup) {s t a : Int} (ha : (s, a) ∈ ps) (hb : (t, a) ∈ ps) : s = t := (Prod.mk.inj (snd_eq nd ha hb rfl)).1
theorem find_not' {ps : List (Int × Int)} {q : Int} (h : (ps.find? fun p => p.1 == q) = none) : q ∉ ps.map (·.1) := by
  intro hm
  obtain ⟨p, hp, rfl⟩ := List.mem_map.mp hm
  exact find_not h p hp rfl
section
variable {rows : List (List Int)} {ps : List (Int × Int)} {q0 : Int} {cs : List (Int × Int)} {w : List Int} {fr : Option Int}
theorem Led.few (l : Led rows ps q0 cs w fr) : cs.length ≤ 64 := by
  have := apart_few (n := 64) l.ck fun b hb => by
    obtain ⟨p, hp, rfl⟩ := List.mem_map.mp hb
    exact (l.cr p hp).1
  rw [List.length_map] at this
  exact this
theorem Led.more (l : Led rows ps q0 cs w none) (tk : Mt rows q0 ps) {s h here : Int} {dn : Nat} (hs : 0 ≤ s ∧ s < 64) (ha : Act rows s here) (hn : s ∉ cs.map (·.1)) (hh : w[dn]? = some here)
    (hp : (s, h) ∈ ps) : Led rows ps q0 (cs ++ [(s, here)]) (w ++ [h]) none := by
  have hdn : dn < w.length := (List.getElem?_eq_some_iff.mp hh).1
  have hw : h ∉ w := fun hm => by
    obtain ⟨i, hi⟩ := List.getElem?_of_mem hm
    cases i with
    | zero =>
      rw [l.w0] at hi
      cases hi
      have := tk.rg _ hp
      simp only at this
      omega
    | succ i =>
      obtain ⟨s', k, h', h1, h2, _⟩ := l.wp i h hi
      have := snd_one tk.vn hp h1
      subst this
      exact hn (List.mem_map.mpr ⟨_, h2, rfl⟩)
  refine ⟨?_, ?_, ?_, nodup_snoc l.wn hw, ?_, ?_, ?_, ?_, fun f hf => (by cases hf), fun _ p hp' => ?_⟩
  · rw [List.map_append]
    exact nodup_snoc l.ck hn
  · intro p hp'
    rcases List.mem_append.mp hp' with h1 | h1
    · exact ⟨(l.cr p h1).1, List.mem_append.mpr (.inl (l.cr p h1).2)⟩
    · obtain rfl := List.mem_singleton.mp h1
      exact ⟨hs, List.mem_append.mpr (.inl (List.mem_of_getElem? hh))⟩
  · intro p hp'
    rcases List.mem_append.mp hp' with h1 | h1
    · exact l.ca p h1
    · obtain rfl := List.mem_singleton.mp h1
      exact ha
  · rw [List.getElem?_append_left (by omega)]
    exact l.w0
  · rw [List.length_append, List.length_append, List.length_singleton, List.length_singleton]
    have := l.wl
    omega
  · intro i x hx
    by_cases hi : i + 1 < w.length
    · rw [List.getElem?_append_left hi] at hx
      obtain ⟨s', k, h', h1, h2, h3, h4⟩ := l.wp i x hx
      exact ⟨s', k, h', h1, List.mem_append.mpr (.inl h2), h3, by rw [List.getElem?_append_left (by omega)]; exact h4⟩
    · have hi2 : i + 1 = w.length := by
        have := (List.getElem?_eq_some_iff.mp hx).1
        rw [List.length_append, List.length_singleton] at this
        omega
      rw [hi2, List.getElem?_append_right (Nat.le_refl _), Nat.sub_self] at hx
      cases hx
      exact ⟨s, dn, here, hp, List.mem_append.mpr (.inr (by simp)), by omega, by rw [List.getElem?_append_left hdn]; exact hh⟩
  · intro p hp' x hx
    rcases List.mem_append.mp hp' with h1 | h1
    · exact List.mem_append.mpr (.inl (l.cw p h1 x hx))
    · obtain rfl := List.mem_singleton.mp h1
      have := fst_one tk.kn hp hx
      subst this
      exact List.mem_append.mpr (.inr (by simp))
  · rcases List.mem_append.mp hp' with h1 | h1
    · exact l.nf rfl p h1
    · obtain rfl := List.mem_singleton.mp h1
      exact List.mem_map.mpr ⟨_, hp, rfl⟩
theorem Led.free (l : Led rows ps q0 cs w none) {s here : Int} {dn : Nat} (hs : 0 ≤ s ∧ s < 64) (ha : Act rows s here) (hn : s ∉ cs.map (·.1)) (hh : w[dn]? = some here)
    (hp : s ∉ ps.map (·.1)) : Led rows ps q0 (cs ++ [(s, here)]) w (some s) := by
  refine ⟨?_, ?_, ?_, l.wn, l.w0, ?_, ?_, ?_, ?_, fun z => (by cases z)⟩
  · rw [List.map_append]
    exact nodup_snoc l.ck hn
  · intro p hp'
    rcases List.mem_append.mp hp' with h1 | h1
    · exact l.cr p h1
    · obtain rfl := List.mem_singleton.mp h1
      exact ⟨hs, List.mem_of_getElem? hh⟩
  · intro p hp'
    rcases List.mem_append.mp hp' with h1 | h1
    · exact l.ca p h1
    · obtain rfl := List.mem_singleton.mp h1
      exact ha
  · rw [List.length_append, List.length_singleton]
    have := l.wl
    omega
  · intro i x hx
    obtain ⟨s', k, h', h1, h2, h3⟩ := l.wp i x hx
    exact ⟨s', k, h', h1, List.mem_append.mpr (.inl h2), h3⟩
  · intro p hp' x hx
    rcases List.mem_append.mp hp' with h1 | h1
    · exact l.cw p h1 x hx
    · obtain rfl := List.mem_singleton.mp h1
      exact absurd (List.mem_map.mpr ⟨_, hx, rfl⟩) hp
  · intro f hf
    cases hf
    exact ⟨by rw [List.map_append]; exact List.mem_append.mpr (.inr (by simp)), hp⟩
theorem Led.closed (l : Led rows ps q0 cs w none) (h : ∀ v ∈ w, ∀ s, Act rows s v → s ∈ cs.map (·.1)) : Cl rows ps (fun v => v ∈ w) := fun q s hq ha => by
  obtain ⟨p, hp, rfl⟩ := List.mem_map.mp (h q hq s ha)
  obtain ⟨p', hp', e⟩ := List.mem_map.mp (l.nf rfl p hp)
  have h2 : (p.1, p'.2) ∈ ps := by
    rw [← e]
    exact hp'
  exact ⟨p'.2, l.cw p hp _ h2, h2⟩
end
def sp_led_to (K : PySem.W.Frag) : Sp := fun vs H Q _ => ∃ (L : Addr) (as : List Addr) (D : Addr) (ps : List (Int × Int)) (rows : List (List Int)) (q0 : Int), vs = [.ref L, .ref D, .int q0] ∧ RowsL H L as rows ∧ H D = some (.dK (kvI ps)) ∧ Mt rows q0 ps ∧ (0 ≤ q0 ∧ q0 < rows.length) ∧
  ∀ T C cs w fr H', Ex H H' → H C = none → H' C = some (.dK (kvI cs)) → H' T = some (.tup [.ref C, optV fr]) → Led rows ps q0 cs w fr → (fr = none → Cl rows ps (fun v => v ∈ w)) → Q (.ref T) H'
section
variable {P : Program} {w : World} {K : PySem.W.Frag} {mg : Str → Option Value} {base : Heap}
theorem ok_led_to {f : Addr} {fd : FuncData} (T : Txt K mg) (F : Fun K "_law_led_to" "_law_led_to" s_led_to f fd) :
    FnG P w K mg base CX0 1 f fd P_led_to (sp_led_to K) := by
  refine okG0 F sc_led_to (fun vs H Q E h => ?_) (fun cdv A outer s H vs Q E hr hq h => ?_)
  · obtain ⟨L, as, D, ps, rows, q0, rfl, _⟩ := h
    rfl
  · obtain ⟨L, as, D, ps, rows, q0, rfl, RL, hD, tk, hq0, q⟩ := h
    have hL := RL.at_
    refine ⟨_, (pss_cons (ps_asg (pe_tup (pa_cons pe_dnewK (pa_cons (pe_lst (pa_cons (pv 2) pa_nil)) (pa_cons pe_int (pa_cons pe_non pa_nil))))) (pg_tupK (n := 4) K rfl (pgs_cons (pg_name (i := 3) sc_led_to.nd rfl (by first | exact .inl rfl | exact .inr rfl)) (pgs_cons (pg_name (i := 4) sc_led_to.nd rfl (by first | exact .inl rfl | exact .inr rfl)) (pgs_cons (pg_name (i := 5) sc_led_to.nd rfl (by first | exact .inl rfl | exact .inr rfl)) (pgs_cons (pg_name (i := 6) sc_led_to.nd rfl (by first | exact .inl rfl | exact .inr rfl)) pgs_nil))))))
      (pss_cons (ps_while PassesOwn.never (PW.pt (pw_and (pt_cmpR op_lt (pv 5) (pe_callB (call_lenK K) (by rfl) T.b_len bt_len (pa_cons (pv 4) pa_nil)) (nomark _)) (pw_and1 (pt_cmpR op_isN (pv 6) pe_non (nomark _))))) (pss_cons (ps_set (i := 7) sc_led_to.nd rfl (by first | exact .inl rfl | exact .inr rfl) (pe_ix (ix_listK K) (pv 4) (pv 5) (fun _ _ => rfl)))
      (pss_cons (ps_for PassesOwn.never rfl (pi_listK K (pe_ix (ix_listK K) (pv 0) (pv 7) (fun _ _ => rfl))) (pg_name (i := 8) sc_led_to.nd rfl (by first | exact .inl rfl | exact .inr rfl)) (pss_one (ps_if (PW.pt (pw_and (pt_cmpR op_isN (pv 6) pe_non (nomark _)) (pw_and1 (pt_dNotIn hr (pv 8) (pv 3))))) (pss_cons (ps_dputK hr (pv 3) (pv 8) (pv 7) rfl)
      (pss_one (ps_if (pt_dIn hr (pv 8) (pv 1)) (pss_one (ps_expr (pe_bm PySem.F.plainAttrs_list PySem.F.slot_list_append PySem.F.type_list_append mt_append (pv 4) (pa_cons (pe_dgetK hr (pv 1) (pv 8) (fun _ _ => rfl)) pa_nil)))) (pss_one (ps_set (i := 6) sc_led_to.nd rfl (by first | exact .inl rfl | exact .inr rfl) (pv 8)))))) pss_nil)))
      (pss_one (ps_set (i := 5) sc_led_to.nd rfl (by first | exact .inl rfl | exact .inr rfl) (pe_op op_add (pv 5) pe_int))))))
      (pss_one (ps_ret (pe_tup (pa_cons (pv 3) (pa_cons (pv 6) pa_nil))))))), ?_⟩
    refine fun C hC => ?_
    have e1 : Ex H (upd H C (.dK [])) := Ex.nw hC
    have hC1 : (upd H C (.dK [])) C = some (.dK (kvI [])) := upd_same
    generalize upd H C (.dK []) = H1 at e1 hC1
    refine ⟨_, rfl, by show 1 ≤ sizeLine; decide, fun W hW => ?_⟩
    have WC : W ≠ C := fun e => by
      rw [e, hC1] at hW
      cases hW
    have hWH := e1.fr hW
    have e2 : Ex H1 (upd H1 W (.lst [.int q0])) := Ex.nw hW
    have hW2 : (upd H1 W (.lst [.int q0])) W = some (.lst ([q0].map V.int)) := upd_same
    have hC2 := e2 _ _ hC1
    generalize upd H1 W (.lst [.int q0]) = H2 at e2 hW2 hC2
    refine ⟨by show 4 ≤ sizeLine; decide, fun T0 hT0 => ?_⟩
    have e3 : Ex H2 (upd H2 T0 (.tup [.ref C, .ref W, .int 0, .non])) := Ex.nw hT0
    refine ⟨T0, _, rfl, .inl (.inl upd_same), rfl, _, _, rfl, _, _, rfl, _, _, rfl, _, _, rfl, rfl, ?_⟩
    generalize upd H2 T0 (.tup [.ref C, .ref W, .int 0, .non]) = H3 at e3
    have e03 := e1.tr (e2.tr e3)
    refine ⟨fun m σ H' => ∃ (y7 y8 : Option V) (cs : List (Int × Int)) (w : List Int) (dn : Nat) (fr : Option Int), m = 2 * (64 - cs.length) + (w.length - dn) ∧
        σ = [some (V.ref L), some (V.ref D), some (V.int q0), some (V.ref C), some (V.ref W), some (V.int (dn : Int)), some (optV fr), y7, y8] ∧ Ex H H' ∧
        H' C = some (.dK (kvI cs)) ∧ H' W = some (.lst (w.map V.int)) ∧ dn ≤ w.length ∧ Led rows ps q0 cs w fr ∧ (fr = none → ∀ i < dn, ∀ h, w[i]? = some h → ∀ s, Act rows s h → s ∈ cs.map (·.1)),
      ⟨_, _, _, [], [q0], 0, none, rfl, rfl, e03, e3 _ _ hC2, e3 _ _ hW2, Nat.zero_le _, ?_, fun _ i hi => absurd hi (Nat.not_lt_zero _)⟩, ?_⟩
    · refine ⟨List.nodup_nil, fun p hp => (by cases hp), fun p hp => (by cases hp), by simp, rfl, by simp, fun i h hi => (by simp at hi), fun p hp => (by cases hp), fun f hf => (by cases hf), fun _ p hp => (by cases hp)⟩
    · rintro m σ H4 ⟨y7, y8, cs, w, dn, fr, rfl, rfl, e4, hC4, hW4, hdn, led, scn⟩
      have sW : SqL K H4 W (w.map V.int) := .inl (.inl hW4)
      have exit : ∀ fr', fr' = fr → (fr = none → dn = w.length) → tRet (tTup (tCons (tVar 3) (tCons (tVar 6) tNil))) ⟨fun _ H' => Q V.non H', Q, fun _ _ => False, fun _ _ => False⟩
          [some (V.ref L), some (V.ref D), some (V.int q0), some (V.ref C), some (V.ref W), some (V.int (dn : Int)), some (optV fr'), y7, y8] H4 := fun fr' hfr hdw => by
        subst hfr
        exact ⟨_, rfl, _, rfl, by show 2 ≤ sizeLine; decide, fun T hT => q T C cs w fr' _ (e4.nw2 hT) hC (by rw [upd_ne (ne_of_none hC4 hT)]; exact hC4) upd_same led fun e => by
          subst e
          refine led.closed fun v hv s ha => ?_
          obtain ⟨i, hi⟩ := List.getElem?_of_mem hv
          refine scn rfl i ?_ v hi s ha
          rw [hdw rfl]
          exact (List.getElem?_eq_some_iff.mp hi).1⟩
      refine ⟨_, rfl, _, rfl, W, _, rfl, .inl sW, _, _, rfl, rfl, _, rfl, ?_⟩
      refine ite2 (fun h1 => ?_) (fun h1 => ?_)
      · have hd1 : dn < w.length := by
          have := of_decide_eq_true h1
          rw [List.length_map] at this
          omega
        refine ⟨_, rfl, rfl, _, rfl, ?_⟩
        cases fr with
        | some f =>
          rw [show decide (optV (some f) = V.non) = false from rfl]
          exact exit (some f) rfl fun z => (by cases z)
        | none =>
          rw [show decide (optV none = V.non) = true from rfl]
          refine ⟨_, fun _ _ h => h, ?_⟩
          obtain ⟨here, hh⟩ : ∃ here, w[dn]? = some here := ⟨_, List.getElem?_eq_getElem hd1⟩
          have hrg : 0 ≤ here ∧ here < rows.length := by
            cases dn with
            | zero =>
              rw [led.w0] at hh
              cases hh
              exact hq0
            | succ i =>
              obtain ⟨s', k, h', h1, _⟩ := led.wp i here hh
              have := tk.rg _ h1
              have := tk.lo h1
              simp only at *
              omega
          obtain ⟨c, hc⟩ : ∃ c, as[here.toNat]? = some c := ⟨_, List.getElem?_eq_getElem (by rw [RL.len]; omega)⟩
          obtain ⟨r, hr1, hcr⟩ := RL.row _ _ hc
          have act : ∀ s, Act rows s here ↔ s ∈ r := fun s => ⟨fun h => by
            obtain ⟨_, r', h1, h2⟩ := h
            rw [hr1] at h1
            obtain rfl := Option.some.inj h1
            exact h2, fun h => ⟨hrg.1, r, hr1, h⟩⟩
          have sC : SqL K H4 c (r.map V.int) := .inl (.inl (e4 _ _ hcr))
          have sL : SqL K H4 L (as.map V.ref) := .inl (.inl (e4 _ _ hL))
          refine ⟨_, rfl, _, rfl, W, _, (dn : Int), .int here, rfl, rfl, sW, atI_nat (by rw [List.getElem?_map, hh]; rfl), ?_⟩
          refine ⟨_, rfl, _, rfl, L, _, here, .ref c, rfl, rfl, sL, atI_int hrg.1 (by rw [List.getElem?_map, hc]; rfl), c, rfl, ⟨_, sC⟩, ?_⟩
          refine for_by (r.map V.int).length (fun j σ H' => ∃ (y8 : Option V) (cs1 : List (Int × Int)) (w1 : List Int) (fr1 : Option Int), 2 * (64 - cs1.length) + w1.length ≤ 2 * (64 - cs.length) + w.length ∧
              σ = [some (V.ref L), some (V.ref D), some (V.int q0), some (V.ref C), some (V.ref W), some (V.int (dn : Int)), some (optV fr1), some (V.int here), y8] ∧ Ex H H' ∧
              H' C = some (.dK (kvI cs1)) ∧ H' W = some (.lst (w1.map V.int)) ∧ w1[dn]? = some here ∧ Led rows ps q0 cs1 w1 fr1 ∧ (fr1 = none → (∀ i < dn, ∀ h, w1[i]? = some h → ∀ s, Act rows s h → s ∈ cs1.map (·.1)) ∧ ∀ i < j, ∀ s, r[i]? = some s → s ∈ cs1.map (·.1)))
            ⟨_, cs, w, none, Nat.le_refl _, rfl, e4, hC4, hW4, hh, led, fun z => ⟨scn z, fun i hi => absurd hi (Nat.not_lt_zero _)⟩⟩ (fun j σ H' hj p => ?_) (fun σ H' p => ?_) ?_ ?_
          · obtain ⟨_, _, _, _, _, _, e, _⟩ := p
            exact itl_go (.inl (.inl (e _ _ hcr))) Ex.rfl hj
          · obtain ⟨_, _, _, _, _, _, e, _⟩ := p
            exact itl_stop (.inl (.inl (e _ _ hcr))) Ex.rfl
          · rintro j σ H5 x H6 hj ⟨y8, cs1, w1, fr1, hm, rfl, e5, hC5, hW5, hh1, led1, scn1⟩ ⟨rfl, hx⟩
            have hx := hx _ (.inl (.inl (e5 _ _ hcr)))
            obtain ⟨s, hs, rfl⟩ := map_at hx
            have hsr := RL.rg r (List.mem_of_getElem? hr1) s (List.mem_of_getElem? hs)
            have ha : Act rows s here := (act s).mpr (List.mem_of_getElem? hs)
            have grow : ∀ {cs' : List (Int × Int)}, (∀ i < j, ∀ s, r[i]? = some s → s ∈ cs'.map (·.1)) → s ∈ cs'.map (·.1) → ∀ i < j + 1, ∀ s, r[i]? = some s → s ∈ cs'.map (·.1) := fun h2 h3 i hi s' hs' => by
              by_cases hij : i < j
              · exact h2 i hij s' hs'
              · obtain rfl : i = j := by omega
                rw [hs] at hs'
                obtain rfl := Option.some.inj hs'
                exact h3
            refine ⟨_, rfl, rfl, _, rfl, ?_⟩
            cases fr1 with
            | some f =>
              rw [show decide (optV (some f) = V.non) = false from rfl]
              exact ⟨_, cs1, w1, some f, hm, rfl, e5, hC5, hW5, hh1, led1, fun z => (by cases z)⟩
            | none =>
              rw [show decide (optV none = V.non) = true from rfl]
              refine ⟨_, rfl, _, rfl, C, _, rfl, DGet.k (k := Sum.inl s) hC5, _, rfl, ?_⟩
              rw [kvI_get]
              cases hf : cs1.find? (fun p => p.1 == s) with
              | some p => exact ⟨_, cs1, w1, none, hm, rfl, e5, hC5, hW5, hh1, led1, fun _ => ⟨(scn1 rfl).1, grow (scn1 rfl).2 (List.mem_map.mpr ⟨_, find_mem hf, rfl⟩)⟩⟩
              | none =>
                have hn := find_not' hf
                have hnn : (cs1.any fun p => p.1 == s) = false := find_none.mp hf
                have hln := led1.few
                have hlt : cs1.length < 64 := by
                  have := apart_few (n := 64) (nodup_snoc led1.ck hn) fun b hb => by
                    rcases List.mem_append.mp hb with hb | hb
                    · obtain ⟨p, hp, rfl⟩ := List.mem_map.mp hb
                      exact (led1.cr p hp).1
                    · obtain rfl := List.mem_singleton.mp hb
                      exact hsr
                  rw [List.length_append, List.length_map, List.length_singleton] at this
                  have e64 : (64 : Int).toNat = 64 := rfl
                  omega
                refine ⟨_, rfl, _, rfl, _, rfl, C, _, rfl, DPut.k (k := Sum.inl s) hC5 (mil' (by unfold kvI; rw [List.length_map]; omega)), ?_⟩
                rw [kvI_put hnn]
                have e6 : Ex H (upd H6 C (.dK (kvI (cs1 ++ [(s, here)])))) := e5.wr hC
                have hC6 : (upd H6 C (.dK (kvI (cs1 ++ [(s, here)])))) C = some (.dK (kvI (cs1 ++ [(s, here)]))) := upd_same
                have hW6 : (upd H6 C (.dK (kvI (cs1 ++ [(s, here)])))) W = some (.lst (w1.map V.int)) := by
                  rw [upd_ne WC]
                  exact hW5
                generalize upd H6 C (.dK (kvI (cs1 ++ [(s, here)]))) = H7 at e6 hC6 hW6
                have hD7 := e6 _ _ hD
                refine ⟨_, rfl, _, rfl, D, _, rfl, DGet.k (k := Sum.inl s) hD7, _, rfl, ?_⟩
                rw [kvI_get]
                cases hg : ps.find? (fun p => p.1 == s) with
                | some p =>
                  have hp := find_mem hg
                  have hdg : DGet H7 D (.int s) (some (V.int p.2)) := by
                    have h := DGet.k (k := Sum.inl s) hD7
                    rw [kvI_get, hg] at h
                    exact h
                  have hwl := led1.wl
                  refine ⟨_, rfl, .inl ⟨rfl, _, .inl (.inl hW6)⟩, _, rfl, _, rfl, D, _, rfl, hdg, W, _, _, rfl, rfl, hW6, mil' (by rw [List.length_map]; omega), ?_⟩
                  refine ⟨_, cs1 ++ [(s, here)], w1 ++ [p.2], none, ?_, rfl, e6.wr hWH, by rw [upd_ne WC.symm]; exact hC6, by rw [upd_same, List.map_append]; rfl, ?_, led1.more tk hsr ha hn hh1 hp, fun _ => ⟨fun i hi h hh' s' ha' => ?_, grow (cs' := cs1 ++ [(s, here)]) (fun i hi s' hs' => by rw [List.map_append]; exact List.mem_append.mpr (.inl ((scn1 rfl).2 i hi s' hs'))) (by rw [List.map_append]; exact List.mem_append.mpr (.inr (by simp)))⟩⟩
                  · rw [List.length_append, List.length_append, List.length_singleton, List.length_singleton]
                    omega
                  · rw [List.getElem?_append_left (List.getElem?_eq_some_iff.mp hh1).1]
                    exact hh1
                  · have hil := (List.getElem?_eq_some_iff.mp hh1).1
                    rw [List.getElem?_append_left (by omega)] at hh'
                    rw [List.map_append]
                    exact List.mem_append.mpr (.inl ((scn1 rfl).1 i hi h hh' s' ha'))
                | none =>
                  have hp := find_not' hg
                  refine ⟨_, rfl, _, cs1 ++ [(s, here)], w1, some s, ?_, rfl, e6, hC6, hW6, hh1, led1.free hsr ha hn hh1 hp, fun z => (by cases z)⟩
                  rw [List.length_append, List.length_singleton]
                  omega
          · rintro σ H5 ⟨y8, cs1, w1, fr1, hm, rfl, e5, hC5, hW5, hh1, led1, scn1⟩
            have hd2 : dn < w1.length := (List.getElem?_eq_some_iff.mp hh1).1
            refine ⟨_, rfl, _, _, rfl, rfl, _, ?_, _, _, cs1, w1, dn + 1, fr1, rfl, rfl, e5, hC5, hW5, hd2, led1, fun z i hi h hh' s ha => ?_⟩
            · omega
            · by_cases hij : i < dn
              · exact (scn1 z).1 i hij h hh' s ha
              · obtain rfl : i = dn := by omega
                rw [hh1] at hh'
                obtain rfl := Option.some.inj hh'
                obtain ⟨j, hj⟩ := List.getElem?_of_mem ((act s).mp ha)
                exact (scn1 z).2 j (by rw [List.length_map]; exact (List.getElem?_eq_some_iff.mp hj).1) s hj
      · refine exit fr rfl fun _ => ?_
        have : w.length ≤ dn := by simpa using h1
        omega
end

end K17
namespace K17
open PySem PySem.Spec PyProof.Rows L2 Nw
/-! _law_matched: slots 0 _law_lists_here, 1 _law_taken, 2 _law_quantity, 3 _law_came, 4 _law_free, 5 _law_here, 6 _law_before, 7 _law_source -/
abbrev s_matched : Stmt := topS 47
abbrev N_matched : List Str := ["_law_lists_here", "_law_taken", "_law_quantity", "_law_came", "_law_free", "_law_here", "_law_before", "_law_source"]
abbrev P_matched : List Str := ["_law_lists_here"]
theorem sc_matched : FnScope N_matched P_matched (defScope s_matched) := ⟨rfl, rfl, rfl, by decide +kernel, rfl, by decide +kernel, by decide +kernel⟩
/-- while the lines move along -/
structure Mv (rows : List (List Int)) (ps : List (Int × Int)) (q0 : Int) (cs : List (Int × Int)) (w : List Int) (cur : List (Int × Int)) (f : Int) (i : Nat) : Prop where
  ff : ∃ here, (f, here) ∈ cs ∧ w[i]? = some here
  kn : (cur.map (·.1)).Nodup
  ed : ∀ p ∈ cur, Act rows p.1 p.2 ∧ p.2 < q0 + 1
  inj : ∀ p ∈ cur, ∀ p' ∈ cur, p.1 ≠ f → p'.1 ≠ f → p.2 = p'.2 → p.1 = p'.1
  nf : ∀ h, (f, h) ∈ cur → ∃ k, i < k ∧ w[k]? = some h
  lo : ∀ p ∈ cur, ∀ k, k ≤ i → w[k]? = some p.2 → ∃ h' k', (p.1, h') ∈ cs ∧ k' < k ∧ w[k']? = some h'
  vs : ∀ v, (∃ p ∈ cur, p.1 ≠ f ∧ p.2 = v) ↔ ∃ p ∈ ps, p.2 = v
  cl : ∀ C : Int → Prop, Cl rows ps C → (∀ h, (f, h) ∈ cs → ¬ C h) ∧ ∀ p ∈ ps, C p.2 → p ∈ cur ∧ p.1 ≠ f
section
variable {rows : List (List Int)} {ps : List (Int × Int)} {q0 : Int} {cs : List (Int × Int)} {w : List Int} {fr : Option Int} {cur : List (Int × Int)} {f here s : Int} {i : Nat}
theorem Led.wr (l : Led rows ps q0 cs w fr) (tk : Mt rows q0 ps) (h0 : 0 ≤ q0) {h : Int} (hm : h ∈ w) : 0 ≤ h ∧ h < q0 + 1 := by
  obtain ⟨i, hi⟩ := List.getElem?_of_mem hm
  cases i with
  | zero =>
    rw [l.w0] at hi
    cases hi
    omega
  | succ i =>
    obtain ⟨s', k, h', h1, _⟩ := l.wp i h hi
    have h2 := tk.rg _ h1
    have h3 := tk.lo h1
    simp only at h2 h3
    omega
theorem Led.mv (l : Led rows ps q0 cs w (some f)) (tk : Mt rows q0 ps) : ∃ i, Mv rows ps q0 cs w ps f i := by
  obtain ⟨h1, h2⟩ := l.fc f rfl
  obtain ⟨p, hp, rfl⟩ := List.mem_map.mp h1
  obtain ⟨i, hi⟩ := List.getElem?_of_mem (l.cr p hp).2
  have pf : ∀ p' ∈ ps, p'.1 ≠ p.1 := fun p' hp' e => h2 (List.mem_map.mpr ⟨p', hp', e⟩)
  refine ⟨i, ⟨p.2, hp, hi⟩, tk.kn, fun p hp => ?_, fun p hp p' hp' _ _ e => ?_, fun h hh => absurd (List.mem_map.mpr ⟨_, hh, rfl⟩) h2, fun p hp k hk hw => ?_, fun v => ?_, fun C hC => ⟨fun h hh hc => ?_, fun p' hp' _ => ⟨hp', pf p' hp'⟩⟩⟩
  · have := tk.rg p hp
    exact ⟨tk.ed p hp, by omega⟩
  · have a1 : (p.1, p.2) ∈ ps := hp
    have a2 : (p'.1, p.2) ∈ ps := by
      rw [e]
      exact hp'
    exact snd_one tk.vn a1 a2
  · cases k with
    | zero =>
      rw [l.w0] at hw
      cases hw
      have := tk.rg p hp
      omega
    | succ k =>
      obtain ⟨s, k', h', h3, h4, h5, h6⟩ := l.wp k p.2 hw
      have := snd_one tk.vn (show (p.1, p.2) ∈ ps from hp) h3
      subst this
      exact ⟨h', k', h4, by omega, h6⟩
  · exact ⟨fun ⟨p', h3, _, h4⟩ => ⟨p', h3, h4⟩, fun ⟨p', h3, h4⟩ => ⟨p', h3, pf p' h3, h4⟩⟩
  · obtain ⟨c, _, h3⟩ := hC h p.1 hc (l.ca _ hh)
    exact pf _ h3 rfl
theorem Mv.end_ (l : Led rows ps q0 cs w fr) (t : Top rows q0 ps) (m : Mv rows ps q0 cs w cur f i) (hr : 0 ≤ here ∧ here < q0 + 1) (hc : (f, here) ∈ cs) (hw : w[i]? = some here) (hb : ∀ p ∈ cur, p.2 ≠ here) : Top rows (q0 + 1) (putI cur f here) := by
  have kn := putI_keys (q := f) (s := here) m.kn
  have e0 : here = q0 := by
    cases i with
    | zero =>
      rw [l.w0] at hw
      exact (Option.some.inj hw).symm
    | succ k =>
      obtain ⟨s, _, _, h1, _⟩ := l.wp k here hw
      obtain ⟨p, hp, _, e⟩ := (m.vs here).mpr ⟨_, h1, rfl⟩
      exact absurd e (hb p hp)
  refine t.got ⟨kn, fun p hp p' hp' _ _ e => ?_, fun p hp _ => ?_, fun p hp => (by cases hp), fun v => ⟨?_, ?_⟩, fun C hC => ⟨?_, fun s c h1 h2 v h3 => ?_⟩⟩
  · refine fst_eq kn hp hp' ?_
    rcases mem_putI.mp hp with h1 | ⟨h1, h2⟩
    · rcases mem_putI.mp hp' with h3 | ⟨h3, h4⟩
      · rw [h1, h3]
      · rw [h1] at e
        exact absurd e.symm (hb p' h4)
    · rcases mem_putI.mp hp' with h3 | ⟨h3, h4⟩
      · rw [h3] at e
        exact absurd e (hb p h2)
      · exact m.inj p h2 p' h4 h1 h3 e
  · rcases mem_putI.mp hp with h1 | ⟨h1, h2⟩
    · rw [h1]
      exact ⟨l.ca _ hc, hr.2⟩
    · exact m.ed p h2
  · rintro ⟨p, hp, _, e⟩
    rcases mem_putI.mp hp with h1 | ⟨h1, h2⟩
    · rw [h1] at e
      exact .inl (e.symm.trans e0)
    · obtain ⟨p', h3, h4⟩ := (m.vs v).mp ⟨p, h2, h1, e⟩
      exact .inr ⟨p', h3, List.not_mem_nil, h4⟩
  · rintro (h | ⟨p, hp, _, e⟩)
    · exact ⟨(f, here), mem_putI.mpr (.inl rfl), List.not_mem_nil, e0.trans h.symm⟩
    · obtain ⟨p', h1, h2, h3⟩ := (m.vs v).mpr ⟨p, hp, e⟩
      exact ⟨p', mem_putI.mpr (.inr ⟨h2, h1⟩), List.not_mem_nil, h3⟩
  · rw [← e0]
    exact (m.cl C hC).1 here hc
  · obtain ⟨c', h4, h5⟩ := hC c s h1 h2
    have e := fst_one t.mt.kn h3 h5
    subst e
    obtain ⟨h6, h7⟩ := (m.cl C hC).2 _ h3 h4
    exact mem_putI.mpr (.inr ⟨h7, h6⟩)
theorem Mv.next (l : Led rows ps q0 cs w fr) (m : Mv rows ps q0 cs w cur f i) (hr : 0 ≤ here ∧ here < q0 + 1) (hc : (f, here) ∈ cs) (hw : w[i]? = some here) (hs : (s, here) ∈ cur) :
    ∃ k, k < i ∧ Mv rows ps q0 cs w (putI cur f here) s k := by
  have sf : s ≠ f := fun e => by
    subst e
    obtain ⟨k, h1, h2⟩ := m.nf _ hs
    have := nd_at' l.wn hw h2
    omega
  obtain ⟨h', k', h1, h2, h3⟩ := m.lo _ hs i (Nat.le_refl _) hw
  refine ⟨k', h2, ⟨h', h1, h3⟩, putI_keys m.kn, fun p hp => ?_, fun p hp p' hp' e1 e2 e => ?_, fun h hh => ?_, fun p hp k hk hwk => ?_, fun v => ⟨?_, ?_⟩, fun C hC => ⟨fun h hh hCh => ?_, fun p hp hCp => ?_⟩⟩
  · rcases mem_putI.mp hp with h1 | ⟨h1, h2⟩
    · rw [h1]
      exact ⟨l.ca _ hc, hr.2⟩
    · exact m.ed p h2
  · rcases mem_putI.mp hp with h4 | ⟨h4, h5⟩
    · rcases mem_putI.mp hp' with h6 | ⟨h6, h7⟩
      · rw [h4, h6]
      · rw [h4] at e
        exact absurd (m.inj p' h7 _ hs h6 sf e.symm) e2
    · rcases mem_putI.mp hp' with h6 | ⟨h6, h7⟩
      · rw [h6] at e
        exact absurd (m.inj p h5 _ hs h4 sf e) e1
      · exact m.inj p h5 p' h7 h4 h6 e
  · rcases mem_putI.mp hh with h4 | ⟨h4, h5⟩
    · exact absurd (Prod.mk.inj h4).1 sf
    · have := fst_one m.kn hs h5
      subst this
      exact ⟨i, h2, hw⟩
  · rcases mem_putI.mp hp with h4 | ⟨h4, h5⟩
    · rw [h4] at hwk
      have := nd_at' l.wn hw hwk
      omega
    · exact m.lo p h5 k (by omega) hwk
  · rintro ⟨p, hp, hps, e⟩
    rcases mem_putI.mp hp with h4 | ⟨h4, h5⟩
    · refine (m.vs v).mp ⟨_, hs, sf, ?_⟩
      rw [h4] at e
      exact e
    · exact (m.vs v).mp ⟨p, h5, h4, e⟩
  · intro hv
    obtain ⟨p, h4, h5, h6⟩ := (m.vs v).mpr hv
    by_cases e : p.1 = s
    · have h7 : (s, p.2) ∈ cur := by
        rw [← e]
        exact h4
      have h8 := fst_one m.kn hs h7
      exact ⟨(f, here), mem_putI.mpr (.inl rfl), sf.symm, h8.trans h6⟩
    · exact ⟨p, mem_putI.mpr (.inr ⟨h5, h4⟩), e, h6⟩
  · obtain ⟨c, h4, h5⟩ := hC h s hCh (l.ca _ hh)
    obtain ⟨h6, _⟩ := (m.cl C hC).2 _ h5 h4
    have h7 := fst_one m.kn hs h6
    subst h7
    exact (m.cl C hC).1 here hc h4
  · obtain ⟨h4, h5⟩ := (m.cl C hC).2 p hp hCp
    refine ⟨mem_putI.mpr (.inr ⟨h5, h4⟩), fun e => ?_⟩
    have h7 : (s, p.2) ∈ cur := by
      rw [← e]
      exact h4
    have h8 := fst_one m.kn hs h7
    rw [← h8] at hCp
    exact (m.cl C hC).1 here hc hCp
end
theorem kv_at {ps : List (Int × Int)} {p : Int × Int} (nd : (ps.map (·.1)).Nodup) (hp : p ∈ ps) : valV (kvI ps) (Sum.inl p.1) = some (V.int p.2) := by
  rw [kvI_get]
  cases hf : ps.find? (fun x => x.1 == p.1) with
  | none => exact absurd rfl (find_not hf p hp)
  | some p' =>
    have := fst_one nd (show (p.1, p.2) ∈ ps from hp) (find_mem hf)
    rw [this]
    rfl
def sp_matched (K : PySem.W.Frag) : Sp := fun vs H Q _ => ∃ (L : Addr) (as : List Addr) (rows : List (List Int)), vs = [.ref L] ∧ RowsL H L as rows ∧ rows.length ≤ 20 ∧
  ∀ D ps H', Ex H H' → H D = none → H' D = some (.dK (kvI ps)) → Top rows rows.length ps → Q (.ref D) H'
section
variable {P : Program} {w : World} {K : PySem.W.Frag} {mg : Str → Option Value} {base : Heap}
theorem ok_matched {f : Addr} {fd : FuncData} (T : Txt K mg) (F : Fun K "_law_matched" "_law_matched" s_matched f fd)
    (D_led_to : DefOk P w K mg base CX0 1 "_law_led_to" P_led_to (sp_led_to K)) :
    FnG P w K mg base CX0 2 f fd P_matched (sp_matched K) := by
  refine okG0 F sc_matched (fun vs H Q E h => ?_) (fun cdv A outer s H vs Q E hr hq h => ?_)
  · obtain ⟨L, as, rows, rfl, _⟩ := h
    rfl
  · obtain ⟨L, as, rows, rfl, RL, hn20, q⟩ := h
    have hL := RL.at_
    have hal := RL.len
    refine ⟨_, (pss_cons (ps_set (i := 1) sc_matched.nd rfl (by first | exact .inl rfl | exact .inr rfl) pe_dnewK)
      (pss_cons (ps_for PassesOwn.never rfl (pi_range1 (by rfl) T.b_range (pa_cons (pe_callB (call_lenK K) (by rfl) T.b_len bt_len (pa_cons (pv 0) pa_nil)) pa_nil)) (pg_name (i := 2) sc_matched.nd rfl (by first | exact .inl rfl | exact .inr rfl)) (pss_cons (ps_asg (pe_callD D_led_to (hr.mono (by decide)) hq pass0 (pa_cons (pv 0) (pa_cons (pv 1) (pa_cons (pv 2) pa_nil)))) (pg_tupK (n := 2) K rfl (pgs_cons (pg_name (i := 3) sc_matched.nd rfl (by first | exact .inl rfl | exact .inr rfl)) (pgs_cons (pg_name (i := 4) sc_matched.nd rfl (by first | exact .inl rfl | exact .inr rfl)) pgs_nil))))
      (pss_one (ps_while PassesOwn.never (pt_cmpR op_notN (pv 4) pe_non (nomark _)) (pss_cons (ps_set (i := 5) sc_matched.nd rfl (by first | exact .inl rfl | exact .inr rfl) (pe_dgetK hr (pv 3) (pv 4) (fun _ _ => rfl)))
      (pss_cons (ps_lock (ps_setLc (i := 6) (own := [("_law_source", 7)]) rfl sc_matched.nd rfl rfl (sw_true rfl rfl rfl (by decide +kernel)) (pi_keys (pv 1)) (blkOk_by (N := N_matched) (sc := defScope s_matched) (by decide +kernel)) (fun _ _ _ _ _ => (pg_name (i := 7) sc_matched.nd rfl (by first | exact .inl rfl | exact .inr rfl))) (fun _ _ _ _ _ => (pts_one (pt_cmpR op_eq (pe_dgetK hr (pv 1) (pv 7) (fun _ _ => rfl)) (pv 5) (nomark _)))) (fun _ _ _ _ _ => (pv 7))))
      (pss_cons (ps_dputK hr (pv 1) (pv 4) (pv 5) rfl)
      (pss_one (ps_set (i := 4) sc_matched.nd rfl (by first | exact .inl rfl | exact .inr rfl) (pe_ifExp (pt_cmpR (op_neDk K hr.units) (pv 6) (pe_lst pa_nil) (nomark _)) (pe_ix (ix_listK K) (pv 6) pe_int (fun _ _ => rfl)) pe_non))))))))))
      (pss_one (ps_ret (pv 1))))), ?_⟩
    refine fun D hD => ?_
    have e1 : Ex H (upd H D (.dK [])) := Ex.nw hD
    have hD1 : (upd H D (.dK [])) D = some (.dK (kvI [])) := upd_same
    generalize upd H D (.dK []) = H1 at e1 hD1
    have sL : SqL K H L (as.map V.ref) := .inl (.inl hL)
    refine ⟨_, rfl, L, _, rfl, .inl (e1.l sL), ?_⟩
    refine ⟨_, rfl, by rw [List.length_map]; omega, by rw [List.length_map]; omega, ?_⟩
    rw [List.length_map, hal]
    refine for_by rows.length (fun i σ H' => ∃ (y2 y3 y4 y5 y6 y7 : Option V) (ps : List (Int × Int)), σ = [some (V.ref L), some (V.ref D), y2, y3, y4, y5, y6, y7] ∧ Ex H H' ∧ H' D = some (.dK (kvI ps)) ∧ Top rows (i : Int) ps)
      ⟨_, _, _, _, _, _, [], rfl, e1, hD1, top0 _⟩ (fun i σ H' hi p => (by show i < _; omega)) (fun σ H' p => (by show _ ≤ rows.length; omega)) ?_ ?_
    · rintro i σ H9 x H2 hi ⟨y2, y3, y4, y5, y6, y7, ps, rfl, e2, hD2, top⟩ ⟨rfl, rfl⟩
      have ez : (0 + (i : Int)) = (i : Int) := Int.zero_add _
      rw [ez]
      refine ⟨_, rfl, _, rfl, _, rfl, L, as, D, ps, rows, (i : Int), rfl, ⟨e2 _ _ RL.at_, RL.len, fun i b hb => (by obtain ⟨r, h1, h2⟩ := RL.row i b hb; exact ⟨r, h1, e2 _ _ h2⟩), RL.rg⟩, hD2, top.mt, ⟨by omega, by omega⟩, fun T0 C cs w fr H3 e3 hC hC3 hT3 led clo => ?_⟩
      have hD3 := e3 _ _ hD2
      have e03 := e2.tr e3
      refine ⟨T0, _, rfl, .inl (.inl hT3), rfl, _, _, rfl, _, _, rfl, rfl, ?_⟩
      have hCD : C ≠ D := fun e => by
        rw [e, hD2] at hC
        cases hC
      refine ⟨fun m σ H' => ∃ (y5 y6 y7 : Option V) (cur : List (Int × Int)) (fr1 : Option Int), σ = [some (V.ref L), some (V.ref D), some (V.int (i : Int)), some (V.ref C), some (optV fr1), y5, y6, y7] ∧ Ex H H' ∧
          H' D = some (.dK (kvI cur)) ∧ H' C = some (.dK (kvI cs)) ∧ (match fr1 with | none => Top rows ((i : Int) + 1) cur | some f => ∃ k, m = k + 1 ∧ Mv rows ps (i : Int) cs w cur f k),
        ?_, ?_⟩
      · cases fr with
        | none => exact ⟨0, _, _, _, ps, none, rfl, e03, hD3, hC3, top.out (clo rfl) (List.mem_of_getElem? led.w0)⟩
        | some f =>
          obtain ⟨k, mv⟩ := led.mv top.mt
          exact ⟨k + 1, _, _, _, ps, some f, rfl, e03, hD3, hC3, k, rfl, mv⟩
      · rintro m σ H4 ⟨y5, y6, y7, cur, fr1, rfl, e4, hD4, hC4, hm⟩
        refine ⟨_, rfl, rfl, _, rfl, ?_⟩
        cases fr1 with
        | none =>
          rw [show (!decide (optV none = V.non)) = false from rfl]
          exact ⟨_, _, _, _, _, _, cur, rfl, e4, hD4, hm⟩
        | some f =>
          rw [show (!decide (optV (some f) = V.non)) = true from rfl]
          obtain ⟨k, rfl, mv⟩ := hm
          refine ⟨_, fun _ _ h => h, ?_⟩
          obtain ⟨here, hfc, hwk⟩ := mv.ff
          have hg : DGet H4 C (.int f) (some (V.int here)) := by
            have h := DGet.k (k := Sum.inl f) hC4
            rw [kvI_get] at h
            cases hf : cs.find? (fun p => p.1 == f) with
            | none => exact absurd rfl (find_not hf _ hfc)
            | some p =>
              have := fst_one led.ck hfc (find_mem hf)
              subst this
              rw [hf] at h
              exact h
          have hr := led.wr top.mt (by omega) (List.mem_of_getElem? hwk)
          have hfr := (led.cr _ hfc).1
          simp only at hfr
          refine ⟨_, rfl, _, rfl, C, _, rfl, hg, ?_⟩
          refine ⟨D, _, hD4, trivial, fun od => ?_⟩
          have e5 : Ex H (upd H4 D (.frz od (.dK (kvI cur)))) := e4.wr hD
          have hD5 : (upd H4 D (.frz od (.dK (kvI cur)))) D = some (.frz od (.dK (kvI cur))) := upd_same
          have hC5 : (upd H4 D (.frz od (.dK (kvI cur)))) C = some (.dK (kvI cs)) := by
            rw [upd_ne hCD]
            exact hC4
          generalize upd H4 D (.frz od (.dK (kvI cur))) = H5 at e5 hD5 hC5
          refine ⟨_, rfl, D, od, rfl, .inl ⟨_, hD5, fun B hB => ?_⟩⟩
          have hcl : cur.length ≤ 64 := keys_few (k := 0) (F := []) mv.kn fun p hp => by
            obtain ⟨⟨_, r', h1, h2⟩, _⟩ := mv.ed p hp
            exact RL.rg r' (List.mem_of_getElem? h1) p.1 h2
          refine lc_by cur.length (fun j H' => Ex H5 H' ∧ H' B = some (.lst ((((cur.take j).filter fun p => p.2 == here).map (·.1)).map V.int)))
            ⟨Ex.nw hB, upd_same⟩ (fun j H' hj p => ⟨p.1 _ _ hD5, by unfold kvI; rw [List.length_map]; exact hj⟩) (fun H' p => ⟨p.1 _ _ hD5, by unfold kvI; rw [List.length_map]; exact Nat.le_refl _⟩) ?_ ?_
          · rintro j H6 x H7 hj ⟨e6, hB6⟩ ⟨rfl, kk, vv, hkv, rfl⟩
            have hkv' : (cur.map fun p : Int × Int => ((Sum.inl p.1 : Key), V.int p.2))[j]? = some (kk, vv) := hkv
            obtain ⟨p, hp, e⟩ := map_at hkv'
            obtain ⟨rfl, rfl⟩ := Prod.mk.inj e
            have hpm := List.mem_of_getElem? hp
            have hdg : DGet H7 D (.int p.1) (some (V.int p.2)) := .inl ⟨_, Sum.inl p.1, .inr ⟨_, e6 _ _ hD5⟩, rfl, (kv_at mv.kn hpm).symm⟩
            rw [take_snoc hp, List.filter_append, List.map_append, List.map_append, List.filter_cons, List.filter_nil]
            refine ⟨rfl, _, rfl, _, rfl, D, _, rfl, hdg, _, rfl, rfl, _, rfl, ?_⟩
            have ed : decide (V.int p.2 = V.int here) = (p.2 == here) := by
              rw [Bool.eq_iff_iff, decide_eq_true_eq, beq_iff_eq]
              exact ⟨fun h => V.int.inj h, fun h => by rw [h]⟩
            rw [ed]
            refine ite2 (fun h => ?_) (fun h => ?_)
            · refine ⟨_, rfl, _, hB6, mil' ?_, e6.wr hB, ?_⟩
              · rw [List.length_map, List.length_map]
                have h1 := List.length_filter_le (fun p : Int × Int => p.2 == here) (cur.take j)
                rw [List.length_take] at h1
                omega
              · rw [upd_same, if_pos h]
                rfl
            · refine ⟨e6, ?_⟩
              rw [if_neg h, List.map_nil, List.map_nil, List.append_nil]
              exact hB6
          · rintro H6 ⟨e6, hB6⟩
            rw [List.take_length] at hB6
            refine ⟨e6 _ _ hD5, ?_⟩
            have BD : B ≠ D := fun e => by
              rw [e, hD5] at hB
              cases hB
            have e7 : Ex H (upd H6 D (.dK (kvI cur))) := (e5.tr e6).wr hD
            have hD7 : (upd H6 D (.dK (kvI cur))) D = some (.dK (kvI cur)) := upd_same
            have hB7 : (upd H6 D (.dK (kvI cur))) B = some (.lst (((cur.filter fun p => p.2 == here).map (·.1)).map V.int)) := by
              rw [upd_ne BD]
              exact hB6
            have hC7 : (upd H6 D (.dK (kvI cur))) C = some (.dK (kvI cs)) := by
              rw [upd_ne hCD]
              exact e6 _ _ hC5
            generalize upd H6 D (.dK (kvI cur)) = H7 at e7 hD7 hB7 hC7
            refine ⟨_, rfl, _, rfl, _, rfl, D, _, rfl, DPut.k (k := Sum.inl f) hD7 (mil' (by unfold kvI; rw [List.length_map]; omega)), ?_⟩
            rw [kvI_putI]
            have e8 : Ex H (upd H7 D (.dK (kvI (putI cur f here)))) := e7.wr hD
            have hD8 : (upd H7 D (.dK (kvI (putI cur f here)))) D = some (.dK (kvI (putI cur f here))) := upd_same
            have hB8 : (upd H7 D (.dK (kvI (putI cur f here)))) B = some (.lst (((cur.filter fun p => p.2 == here).map (·.1)).map V.int)) := by
              rw [upd_ne BD]
              exact hB7
            have hC8 : (upd H7 D (.dK (kvI (putI cur f here)))) C = some (.dK (kvI cs)) := by
              rw [upd_ne hCD]
              exact hC7
            generalize upd H7 D (.dK (kvI (putI cur f here))) = H8 at e8 hD8 hB8 hC8
            refine ⟨_, rfl, Nat.zero_le _, fun z hz0 => ?_⟩
            have e9 : Ex H8 (upd H8 z (.lst [])) := Ex.nw hz0
            have f9 : (upd H8 z (.lst [])) z = some (.lst ([].map V.int)) := by rw [upd_same]; rfl
            generalize upd H8 z (.lst []) = H9 at e9 f9
            have hml : ((cur.filter fun p => p.2 == here).map (·.1)).length ≤ 64 := by
              rw [List.length_map]
              exact Nat.le_trans (List.length_filter_le _ _) hcl
            have dB : Dp K H9 (.ref B) _ := Da.dInts (dInts_of (e9 _ _ hB8) (by omega))
            have dz : Dp K H9 (.ref z) (dInts []) := Da.dInts (dInts_of f9 (by decide))
            refine ⟨_, _, dB, dz, sh_dInts _, sh_dInts _, _, rfl, ?_⟩
            rw [eqv_dInts]
            have hB9 := e9 _ _ hB8
            have e09 := e8.tr e9
            generalize hbl : (cur.filter fun p => p.2 == here).map (·.1) = bl at hB9
            cases bl with
            | nil =>
              have hno : ∀ p ∈ cur, p.2 ≠ here := fun p hp e => by
                have : p.1 ∈ (cur.filter fun p => p.2 == here).map (·.1) := List.mem_map.mpr ⟨p, List.mem_filter.mpr ⟨hp, by simpa using e⟩, rfl⟩
                rw [hbl] at this
                cases this
              refine ite2 (fun h => absurd h (by simp)) (fun _ => ?_)
              exact ⟨0, by omega, _, _, _, putI cur f here, none, rfl, e09, e9 _ _ hD8, e9 _ _ hC8, Mv.end_ led top mv hr hfc hwk hno⟩
            | cons s1 r1 =>
              have hs1 : (s1, here) ∈ cur := by
                have : s1 ∈ (cur.filter fun p => p.2 == here).map (·.1) := by
                  rw [hbl]
                  simp
                obtain ⟨p, hp, rfl⟩ := List.mem_map.mp this
                obtain ⟨h1, h2⟩ := List.mem_filter.mp hp
                have h3 : p.2 = here := by simpa using h2
                rw [← h3]
                exact h1
              obtain ⟨k2, hk2, mv2⟩ := mv.next led hr hfc hwk hs1
              refine ite2 (fun _ => ?_) (fun h => absurd h (by simp))
              refine ⟨_, rfl, B, _, 0, .int s1, rfl, rfl, .inl (.inl hB9), atI_int (Int.le_refl _) rfl, ?_⟩
              exact ⟨k2 + 1, by omega, _, _, _, putI cur f here, some s1, rfl, e09, e9 _ _ hD8, e9 _ _ hC8, k2, rfl, mv2⟩
    · rintro σ H2 ⟨y2, y3, y4, y5, y6, y7, ps, rfl, e2, hD2, top⟩
      exact ⟨_, rfl, q D ps H2 e2 hD hD2 top⟩
end

end K17
namespace K17
open PySem PySem.Spec PyProof.Rows L2 Nw
/-! _law_reaches_some: slots 0 _law_web_here -/
abbrev s_reaches_some : Stmt := topS 48
abbrev N_reaches_some : List Str := ["_law_web_here"]
abbrev P_reaches_some : List Str := ["_law_web_here"]
theorem sc_reaches_some : FnScope N_reaches_some P_reaches_some (defScope s_reaches_some) := ⟨rfl, rfl, rfl, by decide +kernel, rfl, by decide +kernel, by decide +kernel⟩
/-- a pairing has at most as many lines as there are quantities -/
theorem mt_le {rows : List (List Int)} {k : Int} {ps : List (Int × Int)} (hk : 0 ≤ k) (m : Mt rows k ps) : (ps.length : Int) ≤ k := by
  have := apart_few (n := k) m.vn fun b hb => by
    obtain ⟨p, hp, rfl⟩ := List.mem_map.mp hb
    exact ⟨m.lo hp, m.rg p hp⟩
  rw [List.length_map] at this
  omega
/-- all is reached -/
def AllRd (u : Wb) : Prop := ∀ b, 0 ≤ b ∧ b < u.n → Rd u b
theorem asc_srcsW {u : Wb} (hu : Wb.Wd u) (q : Int) : ascB ltIn (srcsOf u.lines q) = true := by
  unfold srcsOf
  refine asc_pw (List.pairwise_map.mpr (((pw_asc hu.lines_asc).filter _).imp_of_mem fun {a b} ha hb h => ?_))
  have h1 := ltPr_iff.mp h
  have h2 : a.2 = q := by simpa using (List.mem_filter.mp ha).2
  have h3 : b.2 = q := by simpa using (List.mem_filter.mp hb).2
  refine decide_eq_true ?_
  omega
theorem asc_srcI {u : Wb} (i : Nat) (q : Int) : ascB ltIn (srcI u i q) = true := by
  unfold srcI
  exact asc_pw (List.pairwise_map.mpr ((List.pairwise_lt_range.filter _).imp fun {a b} h => decide_eq_true (by omega)))
theorem mem_srcsOf {ls : List (Int × Int)} {s q : Int} : s ∈ srcsOf ls q ↔ (s, q) ∈ ls := by
  unfold srcsOf
  rw [List.mem_map]
  constructor
  · rintro ⟨p, hp, rfl⟩
    obtain ⟨h1, h2⟩ := List.mem_filter.mp hp
    have h3 : p.2 = q := by simpa using h2
    rw [← h3]
    exact h1
  · intro h
    exact ⟨(s, q), List.mem_filter.mpr ⟨h, by simp⟩, rfl⟩
theorem srcI_eqW {u : Wb} (hu : Wb.Wd u) (q : Int) : srcI u (srcN u) q = srcsOf u.lines q := ascI_ext (asc_srcI _ _) (asc_srcsW hu q) fun s => (mem_srcI hu).trans mem_srcsOf.symm
theorem act_lines {u : Wb} {s q : Int} (hq : 0 ≤ q ∧ q < u.n) : Act (rowsU u) s q ↔ (s, q) ∈ u.lines := by
  have el : ((q.toNat : Nat) : Int) = q := Int.toNat_of_nonneg hq.1
  have h := rowsU_at (u := u) (i := q.toNat) (by omega)
  rw [el] at h
  constructor
  · rintro ⟨_, r, h1, h2⟩
    rw [h] at h1
    obtain rfl := Option.some.inj h1
    exact mem_srcsOf.mp h2
  · intro hm
    exact ⟨hq.1, _, h, mem_srcsOf.mpr hm⟩
theorem rowsL_ofI {H H' : Hp} {p : Addr} {as : List Addr} {u : Wb} (hu : Wb.Wd u) (r : RowsAt H H' p as u.n.toNat (fun q => srcI u (srcN u) (q : Int))) : RowsL H' p as (rowsU u) := by
  refine ⟨r.at_, by rw [r.len, rowsU_len], fun i b hb => ?_, fun x hx s hs => ?_⟩
  · have hi := (List.getElem?_eq_some_iff.mp hb).1
    rw [r.len] at hi
    have h := r.row i b hb
    rw [srcI_eqW hu] at h
    exact ⟨_, rowsU_at hi, h⟩
  · unfold rowsU at hx
    obtain ⟨i, hi, rfl⟩ := List.mem_map.mp hx
    have h1 := (hu.line _ (mem_srcsOf.mp hs)).1
    have h2 := srcN_leW hu
    have h3 := src_castW u hu
    simp only at h1
    omega
/-- some filling reaches all states -/
def RS (u : Wb) : Prop := AllRd u ∧ ∃ ps, Mt (rowsU u) u.n ps ∧ (ps.length : Int) = u.n
theorem all_fl {u : Wb} (h0 : 0 ≤ u.n) {fl : List Bool} (hl : fl.length = u.n.toNat) (hf : ∀ (i : Nat), fl[i]? = some true ↔ Rd u (i : Int)) : fl.contains false = false ↔ AllRd u := by
  constructor
  · intro h b hb
    obtain ⟨x, hx⟩ : ∃ x, fl[b.toNat]? = some x := ⟨_, List.getElem?_eq_getElem (by omega)⟩
    have eb : ((b.toNat : Nat) : Int) = b := Int.toNat_of_nonneg hb.1
    cases x with
    | true =>
      have := (hf b.toNat).mp hx
      rw [eb] at this
      exact this
    | false =>
      rw [List.contains_iff_mem.mpr (List.mem_of_getElem? hx)] at h
      cases h
  · intro h
    cases e : fl.contains false with
    | false => rfl
    | true =>
      obtain ⟨i, hi⟩ := List.getElem?_of_mem (List.contains_iff_mem.mp e)
      have hil := (List.getElem?_eq_some_iff.mp hi).1
      rw [(hf i).mpr (h (i : Int) (by omega))] at hi
      cases hi
theorem inV_false {fl : List Bool} : inV (.bl false) (fl.map V.bl) = fl.contains false := by
  unfold inV
  rw [List.any_map]
  induction fl with
  | nil => rfl
  | cons b r ih =>
    rw [List.any_cons, ih, List.contains_cons]
    cases b <;> rfl
theorem flat_bls {fl : List Bool} : (fl.map V.bl).all flatV = true := by
  rw [List.all_map, List.all_eq_true]
  intro x _
  rfl
def sp_reaches_some (K : PySem.W.Frag) : Sp := fun vs H Q _ => ∃ (v : V) (u : Wb), vs = [v] ∧ Da K H (Wb.d u) v ∧ Wb.Wd u ∧ ∀ (t : Bool) H', Ex H H' → (t = true ↔ RS u) → Q (.bl t) H'
section
variable {P : Program} {w : World} {K : PySem.W.Frag} {mg : Str → Option Value} {base : Heap}
theorem ok_reaches_some {f : Addr} {fd : FuncData} (T : Txt K mg) (F : Fun K "_law_reaches_some" "_law_reaches_some" s_reaches_some f fd)
    (D_come_to : DefOk P w K mg base CX0 2 "_law_come_to" P_come_to (sp_come_to K))
    (D_sources : DefOk P w K mg base CX0 2 "_law_sources" P_sources (sp_sources K))
    (D_matched : DefOk P w K mg base CX0 2 "_law_matched" P_matched (sp_matched K)) :
    FnG P w K mg base CX0 3 f fd P_reaches_some (sp_reaches_some K) := by
  refine okG0 F sc_reaches_some (fun vs H Q E h => ?_) (fun cdv A outer s H vs Q E hr hq h => ?_)
  · obtain ⟨v, u, rfl, _⟩ := h
    rfl
  · obtain ⟨v, u, rfl, hd, hu, q⟩ := h
    obtain ⟨tw, x2, x3, rfl, hS, g2, g3⟩ := Wb.at hd
    have b1 := hu.lo
    have b2 := hu.hi
    refine ⟨_, (pss_one (ps_ret (pe_and (pe_cmpR (op_notInK K) pe_bl (pe_callD D_come_to (hr.mono (by decide)) hq pass0 (pa_cons (pv 0) pa_nil)) (by rfl)) (pe_one (pe_cmpR op_eq (pe_callB (call_lenDK K) (by rfl) T.b_len bt_len (pa_cons (pe_callD D_matched (hr.mono (by decide)) hq pass0 (pa_cons (pe_callD D_sources (hr.mono (by decide)) hq pass0 (pa_cons (pv 0) pa_nil)) pa_nil)) pa_nil)) (pe_ix (ix_tupK K) (pv 0) pe_int (fun _ _ => rfl)) (nomark _)))))), ?_⟩
    refine ⟨_, rfl, .ref tw, u, rfl, hd, hu, fun p fl H1 e1 hp hl hf => ?_⟩
    refine ⟨p, _, rfl, .inl (.inl (.inl hp)), rfl, flat_bls, ?_⟩
    rw [if_pos rfl, inV_false]
    refine ⟨_, rfl, ?_⟩
    have af := all_fl (by omega) hl hf
    cases hc : fl.contains false with
    | true =>
      refine q false H1 e1 ⟨fun h => (by cases h), fun h => ?_⟩
      have := af.mpr h.1
      rw [hc] at this
      cases this
    | false =>
      rw [Bool.not_false, if_pos rfl]
      have ha := af.mp hc
      refine ⟨_, rfl, .ref tw, u, rfl, hd.up e1, hu, fun L as H2 R => ?_⟩
      have RW := rowsL_ofI hu R
      refine ⟨L, as, rowsU u, rfl, RW, by rw [rowsU_len]; omega, fun D ps H3 e3 hD hD3 top => ?_⟩
      have e03 := (e1.tr R.ex).tr e3
      have kl : (kvI ps).length = ps.length := by
        unfold kvI
        rw [List.length_map]
      refine ⟨D, _, rfl, hD3, ?_⟩
      rw [kl]
      refine ⟨_, rfl, tw, _, 0, _, rfl, rfl, e03.t hS, rfl, rfl, ?_⟩
      have en : ((u.n.toNat : Nat) : Int) = u.n := Int.toNat_of_nonneg (by omega)
      rw [rowsU_len, en] at top
      refine q _ H3 e03 ⟨fun h => ⟨ha, ps, top.mt, V.int.inj (of_decide_eq_true h)⟩, fun h => decide_eq_true ?_⟩
      obtain ⟨_, ps', m', l'⟩ := h
      have h1 := top.le m'
      have h2 := mt_le (by omega) top.mt
      exact congrArg V.int (by omega)
end

end K17
namespace K17
open PySem PySem.Spec PyProof.Rows L2 Nw
/-! _law_tap: slots 0 _law_cell, 1 _law_turn, 2 _law_whole -/
abbrev s_tap : Stmt := topS 34
abbrev N_tap : List Str := ["_law_cell", "_law_turn", "_law_whole"]
abbrev P_tap : List Str := ["_law_cell", "_law_turn"]
theorem sc_tap : FnScope N_tap P_tap (defScope s_tap) := ⟨rfl, rfl, rfl, by decide +kernel, rfl, by decide +kernel, by decide +kernel⟩
/-- a tap: as a purse, whose numbers stay small -/
abbrev Tap (H : Hp) (p : Addr) : Prop := Purse H p 5000000000
def sp_tap (K : PySem.W.Frag) : Sp := fun vs H Q _ => ∃ (c k : Int), vs = [.int c, .int k] ∧ (0 ≤ k ∧ k ≤ 63) ∧ ∀ p H', H p = none → Ex H H' → Tap H' p → Q (.ref p) H'
section
variable {P : Program} {w : World} {K : PySem.W.Frag} {mg : Str → Option Value} {base : Heap}
theorem ok_tap {f : Addr} {fd : FuncData} (T : Txt K mg) (F : Fun K "_law_tap" "_law_tap" s_tap f fd) :
    FnG P w K mg base CX0 1 f fd P_tap (sp_tap K) := by
  refine okG0 F sc_tap (fun vs H Q E h => ?_) (fun cdv A outer s H vs Q E hr hq h => ?_)
  · obtain ⟨c, k, rfl, _⟩ := h
    rfl
  · obtain ⟨c, k, rfl, hk, q⟩ := h
    refine ⟨_, (pss_cons (ps_set (i := 2) sc_tap.nd rfl (by first | exact .inl rfl | exact .inr rfl) (pe_op op_add (pe_op op_mul pe_int (pe_callB call_abs (by rfl) T.b_abs bt_abs (pa_cons (pv 0) pa_nil))) (pe_callTy call_int1 (by rfl) T.b_int bt_int (pa_cons (pe_cmpR op_lt (pv 0) pe_int (nomark _)) pa_nil))))
      (pss_one (ps_ret (pe_lst (pa_cons (pv 2) (pa_cons (pe_op op_add (pe_op op_add (pe_op op_modN (pe_callTy call_int1 (by rfl) T.b_int bt_int (pa_cons (pv 2) pa_nil)) pe_int) (pe_op op_mul pe_int (pv 1))) pe_int) (pa_cons (pe_op op_add (pe_op op_add (pe_op op_modN (pe_callTy call_int1 (by rfl) T.b_int bt_int (pa_cons (pv 2) pa_nil)) pe_int) (pe_op op_mul pe_int (pv 1))) pe_int) pa_nil))))))), ?_⟩
    refine ⟨_, rfl, _, rfl, _, _, rfl, rfl, .inl ⟨by decide, by decide⟩, _, rfl, _, _, rfl, rfl, .inr ⟨_, rfl, _, _, rfl, rfl, ?_⟩⟩
    have h0 : 0 ≤ 2 * (if c < 0 then -c else c) + (if decide (c < 0) then 1 else 0) := by
      by_cases h : c < 0
      · rw [if_pos h]
        split <;> omega
      · rw [if_neg h]
        split <;> omega
    have h1 := fmod_in (a := 2 * (if c < 0 then -c else c) + (if decide (c < 0) then 1 else 0)) (m := 4294967291) (by decide)
    have h2 := fmod_in (a := 2 * (if c < 0 then -c else c) + (if decide (c < 0) then 1 else 0)) (m := 2147483587) (by decide)
    refine ⟨_, rfl, _, rfl, .inl ⟨_, rfl, _, _, rfl, rfl, (by decide : (4294967291 : Int) ≠ 0), _, rfl, _, _, rfl, rfl, .inl ⟨by decide, by decide⟩, _, _, rfl, rfl, _, _, rfl, rfl, ?_⟩⟩
    refine ⟨_, rfl, .inl ⟨_, rfl, _, _, rfl, rfl, (by decide : (2147483587 : Int) ≠ 0), _, rfl, _, _, rfl, rfl, .inl ⟨by decide, by decide⟩, _, _, rfl, rfl, _, _, rfl, rfl, ?_⟩⟩
    refine ⟨by show 3 ≤ sizeLine; decide, fun p hp => ?_⟩
    exact q p _ hp (Ex.nw hp) ⟨_, _, _, upd_same, h0, ⟨by omega, by rw [p42]; omega⟩, by omega, by omega⟩
end

/-! _law_draw: slots 0 _law_tap_here, 1 _law_bound, 2 _law_found -/
abbrev s_draw : Stmt := topS 35
abbrev N_draw : List Str := ["_law_tap_here", "_law_bound", "_law_found"]
abbrev P_draw : List Str := ["_law_tap_here", "_law_bound"]
theorem sc_draw : FnScope N_draw P_draw (defScope s_draw) := ⟨rfl, rfl, rfl, by decide +kernel, rfl, by decide +kernel, by decide +kernel⟩
def sp_draw (K : PySem.W.Frag) : Sp := fun vs H Q _ => ∃ (p : Addr) (m : Int), vs = [.ref p, .int m] ∧ (0 < m ∧ m < 1000000000000000000000000000000000000000000000000000000000000) ∧ Tap H p ∧
  ∀ z H', (0 ≤ z ∧ z < m) → Tap H' p → ExD p H H' → Q (.int z) H'
section
variable {P : Program} {w : World} {K : PySem.W.Frag} {mg : Str → Option Value} {base : Heap}
theorem ok_draw {f : Addr} {fd : FuncData} (T : Txt K mg) (F : Fun K "_law_draw" "_law_draw" s_draw f fd) :
    FnG P w K mg base CX0 1 f fd P_draw (sp_draw K) := by
  refine okG0 F sc_draw (fun vs H Q E h => ?_) (fun cdv A outer s H vs Q E hr hq h => ?_)
  · obtain ⟨p, m, rfl, _⟩ := h
    rfl
  · obtain ⟨p, m, rfl, hm, ⟨b, c, e, hp, hb, hc, he⟩, q⟩ := h
    have hS : SqL K H p [.int b, .int c, .int e] := .inl (.inl hp)
    refine ⟨_, (pss_cons (ps_if (pt_cmpR op_ge (pe_ix (ix_listK K) (pv 0) pe_int (fun _ _ => rfl)) (pe_op op_powW pe_int pe_int) (nomark _)) (pss_cons (ps_set (i := 2) sc_draw.nd rfl (by first | exact .inl rfl | exact .inr rfl) (pe_op op_modN (pe_callTy call_int1 (by rfl) T.b_int bt_int (pa_cons (pe_ix (ix_listK K) (pv 0) pe_int (fun _ _ => rfl)) pa_nil)) (pv 1)))
      (pss_cons (ps_asg (pe_op op_fdivW (pe_ix (ix_listK K) (pv 0) pe_int (fun _ _ => rfl)) (pv 1)) (pg_sub (pv 0) pe_int set_list))
      (pss_one (ps_ret (pv 2))))) pss_nil)
      (pss_cons (ps_asg (pe_op op_modN (pe_callTy call_int1 (by rfl) T.b_int bt_int (pa_cons (pe_op op_add (pe_op op_mul (pe_ix (ix_listK K) (pv 0) pe_int (fun _ _ => rfl)) pe_int) pe_int) pa_nil)) pe_int) (pg_sub (pv 0) pe_int set_list))
      (pss_cons (ps_asg (pe_op op_modN (pe_callTy call_int1 (by rfl) T.b_int bt_int (pa_cons (pe_op op_add (pe_op op_mul (pe_ix (ix_listK K) (pv 0) pe_int (fun _ _ => rfl)) (pe_ix (ix_listK K) (pv 0) pe_int (fun _ _ => rfl))) (pe_ix (ix_listK K) (pv 0) pe_int (fun _ _ => rfl))) pa_nil)) pe_int) (pg_sub (pv 0) pe_int set_list))
      (pss_one (ps_ret (pe_op op_modN (pe_callTy call_int1 (by rfl) T.b_int bt_int (pa_cons (pe_op op_add (pe_op op_fdivW (pe_ix (ix_listK K) (pv 0) pe_int (fun _ _ => rfl)) pe_int) (pe_op op_fdivW (pe_ix (ix_listK K) (pv 0) pe_int (fun _ _ => rfl)) pe_int)) pa_nil)) (pv 1))))))), ?_⟩
    refine ⟨_, rfl, p, _, 0, _, rfl, rfl, hS, rfl, _, _, rfl, rfl, cpow10 (by decide) (by decide), _, _, rfl, rfl, _, rfl, ?_⟩
    refine ite2 (fun h1 => ?_) (fun h1 => ?_)
    · refine ⟨_, rfl, p, _, 0, _, rfl, rfl, hS, rfl, .inl ⟨_, rfl, _, rfl, _, _, rfl, rfl, by omega, ?_⟩⟩
      refine ⟨_, rfl, p, _, 0, _, rfl, rfl, hS, rfl, _, rfl, _, _, rfl, rfl, great_div hm.1 hm.2, ?_⟩
      refine ⟨_, rfl, p, _, 0, 0, rfl, rfl, hp, rfl, _, rfl, ?_⟩
      exact q _ _ (fmod_in hm.1) ⟨_, _, _, upd_same, div_in hb hm.1, hc, he.1, he.2⟩ ExD.put
    · have h2 := fmod_in (a := c * 69069 + 40503) (m := 4294967291) (by decide)
      have h3 := fmod_in (a := e * e + (c * 69069 + 40503).fmod 4294967291) (m := 2147483587) (by decide)
      refine ⟨_, rfl, p, _, 1, _, rfl, rfl, hS, rfl, _, _, rfl, rfl, .inr ⟨by decide, by decide⟩, _, _, rfl, rfl, .inl ⟨_, rfl, _, _, rfl, rfl, (by decide : (4294967291 : Int) ≠ 0), ?_⟩⟩
      refine ⟨_, rfl, p, _, 1, 1, rfl, rfl, hp, rfl, ?_⟩
      have hp2 : (upd H p (.lst [.int b, .int ((c * 69069 + 40503).fmod 4294967291), .int e])) p = some (.lst [.int b, .int ((c * 69069 + 40503).fmod 4294967291), .int e]) := upd_same
      have hS2 : SqL K (upd H p (.lst [.int b, .int ((c * 69069 + 40503).fmod 4294967291), .int e])) p [.int b, .int ((c * 69069 + 40503).fmod 4294967291), .int e] := .inl (.inl hp2)
      refine ⟨_, rfl, p, _, 2, _, rfl, rfl, hS2, rfl, _, rfl, p, _, 2, _, rfl, rfl, hS2, rfl, _, _, rfl, rfl, .inl ⟨by omega, by omega⟩, _, rfl, p, _, 1, _, rfl, rfl, hS2, rfl, _, _, rfl, rfl, .inl ⟨_, rfl, _, _, rfl, rfl, (by decide : (2147483587 : Int) ≠ 0), ?_⟩⟩
      refine ⟨_, rfl, p, _, 2, 2, rfl, rfl, hp2, rfl, ?_⟩
      have hp3 : (upd (upd H p (.lst [.int b, .int ((c * 69069 + 40503).fmod 4294967291), .int e])) p (.lst [.int b, .int ((c * 69069 + 40503).fmod 4294967291), .int ((e * e + ((c * 69069 + 40503).fmod 4294967291)).fmod 2147483587)])) p = some (.lst [.int b, .int ((c * 69069 + 40503).fmod 4294967291), .int ((e * e + ((c * 69069 + 40503).fmod 4294967291)).fmod 2147483587)]) := upd_same
      have hS3 : SqL K (upd (upd H p (.lst [.int b, .int ((c * 69069 + 40503).fmod 4294967291), .int e])) p (.lst [.int b, .int ((c * 69069 + 40503).fmod 4294967291), .int ((e * e + ((c * 69069 + 40503).fmod 4294967291)).fmod 2147483587)])) p [.int b, .int ((c * 69069 + 40503).fmod 4294967291), .int ((e * e + ((c * 69069 + 40503).fmod 4294967291)).fmod 2147483587)] := .inl (.inl hp3)
      refine ⟨_, rfl, p, _, 1, _, rfl, rfl, hS3, rfl, _, _, rfl, rfl, small_div' (by decide) (by decide), _, rfl, p, _, 2, _, rfl, rfl, hS3, rfl, _, _, rfl, rfl, small_div' (by decide) (by decide), _, _, rfl, rfl, .inl ⟨_, rfl, _, rfl, _, _, rfl, rfl, by omega, ?_⟩⟩
      exact q _ _ (fmod_in hm.1) ⟨_, _, _, hp3, hb, ⟨h2.1, by rw [p42]; omega⟩, h3.1, by omega⟩ (ExD.put.tr ExD.put)
end

/-! _law_cells: slots 0 _law_script, 1 _law_many -/
abbrev s_cells : Stmt := topS 36
abbrev N_cells : List Str := ["_law_script", "_law_many"]
abbrev P_cells : List Str := ["_law_script", "_law_many"]
theorem sc_cells : FnScope N_cells P_cells (defScope s_cells) := ⟨rfl, rfl, rfl, by decide +kernel, rfl, by decide +kernel, by decide +kernel⟩
def sp_cells (K : PySem.W.Frag) : Sp := fun vs H Q _ => ∃ (a : Addr) (ns : List Int) (m : Int), vs = [.ref a, .int m] ∧ SqL K H a (ns.map V.int) ∧ ns.length ≤ 63 ∧ (1 ≤ m ∧ m ≤ 63) ∧
  ∀ l (cs : List Int) H', H l = none → Ex H H' → H' l = some (.lst (cs.map V.int)) → ((cs.length : Int) ≤ m) → Q (.ref l) H'
section
variable {P : Program} {w : World} {K : PySem.W.Frag} {mg : Str → Option Value} {base : Heap}
theorem ok_cells {f : Addr} {fd : FuncData} (T : Txt K mg) (F : Fun K "_law_cells" "_law_cells" s_cells f fd) :
    FnG P w K mg base CX0 1 f fd P_cells (sp_cells K) := by
  refine okG0 F sc_cells (fun vs H Q E h => ?_) (fun cdv A outer s H vs Q E hr hq h => ?_)
  · obtain ⟨a, ns, m, rfl, _⟩ := h
    rfl
  · obtain ⟨a, ns, m, rfl, hS, hn, hm, q⟩ := h
    refine ⟨_, (pss_one (ps_ret (pe_slice (sl_listK K) (pe_op (op_catS K) (pv 0) (pe_lst (pa_cons pe_int pa_nil))) po_none (po_some (pe_callB (call_max2 rfl) (by rfl) T.b_max bt_max (pa_cons pe_int (pa_cons (pe_callB (call_min2 rfl) (by rfl) T.b_min bt_min (pa_cons (pv 1) (pa_cons (pe_callB (call_lenK K) (by rfl) T.b_len bt_len (pa_cons (pv 0) pa_nil)) pa_nil))) pa_nil))))))), ?_⟩
    refine ⟨_, rfl, by show 1 ≤ sizeLine; decide, fun b hb => ?_⟩
    have e1 : Ex H (upd H b (.lst [.int 0])) := Ex.nw hb
    have f1 : (upd H b (.lst [.int 0])) b = some (.lst [.int 0]) := upd_same
    generalize upd H b (.lst [.int 0]) = H1 at e1 f1
    refine ⟨a, b, _, _, rfl, rfl, e1.l hS, .inl (.inl f1), by rw [List.length_map, List.length_singleton]; omega, fun c hc => ?_⟩
    have e2 : Ex H1 (upd H1 c (.lst (ns.map V.int ++ [.int 0]))) := Ex.nw hc
    have f2 : (upd H1 c (.lst (ns.map V.int ++ [.int 0]))) c = some (.lst (ns.map V.int ++ [.int 0])) := upd_same
    generalize upd H1 c (.lst (ns.map V.int ++ [.int 0])) = H2 at e2 f2
    refine ⟨_, rfl, _, rfl, a, _, rfl, .inl ((e1.tr e2).l hS), ?_⟩
    have hmm : ∃ k : Int, k = (if (if ((ns.map V.int).length : Int) < m then ((ns.map V.int).length : Int) else m) > 1 then (if ((ns.map V.int).length : Int) < m then ((ns.map V.int).length : Int) else m) else 1) ∧ 0 ≤ k ∧ k ≤ m := by
      refine ⟨_, rfl, ?_, ?_⟩
      · split <;> split <;> omega
      · split <;> split <;> omega
    obtain ⟨k, ek, k0, km⟩ := hmm
    refine ⟨_, _, rfl, _, _, rfl, k, by rw [ek], c, _, rfl, .inl (.inl f2), fun l hl => ?_⟩
    have es : ns.map V.int ++ [V.int 0] = (ns ++ [0]).map V.int := by
      rw [List.map_append]
      rfl
    have ec : cutV (ns.map V.int ++ [V.int 0]) none (some k) = ((ns ++ [0]).take (min k.toNat (ns.length + 1))).map V.int := by
      unfold cutV
      rw [show k = ((k.toNat : Nat) : Int) by omega, HT.sIx_nat, HT.sIx_none, List.drop_zero, Nat.sub_zero, es, List.map_take, List.length_map, List.length_append, List.length_singleton]
      rfl
    rw [ec]
    refine q l _ _ ((e1.tr e2).fr hl) ((e1.tr e2).tr (Ex.nw hl)) upd_same ?_
    rw [List.length_take]
    omega
end

/-! _law_order: slots 0 _law_tap_here, 1 _law_count, 2 _law_left, 3 _law_found, 4 _law_turn -/
abbrev s_order : Stmt := topS 37
abbrev N_order : List Str := ["_law_tap_here", "_law_count", "_law_left", "_law_found", "_law_turn"]
abbrev P_order : List Str := ["_law_tap_here", "_law_count"]
theorem sc_order : FnScope N_order P_order (defScope s_order) := ⟨rfl, rfl, rfl, by decide +kernel, rfl, by decide +kernel, by decide +kernel⟩
theorem rgV_io (n : Int) : rgV 0 n = (iota n).map V.int := by
  unfold rgV iota
  rw [List.map_map, show (n - 0) = n by omega]
  refine List.map_congr_left fun i _ => ?_
  show V.int (0 + (i : Int)) = V.int (i : Int)
  rw [Int.zero_add]
/-- some order of the quantities, off the tap -/
def sp_order (K : PySem.W.Frag) : Sp := fun vs H Q _ => ∃ (p : Addr) (n : Int), vs = [.ref p, .int n] ∧ (1 ≤ n ∧ n ≤ 20) ∧ Tap H p ∧
  ∀ (l : Addr) (o : List Int) H', H l = none → ExD p H H' → Tap H' p → H' l = some (.lst (o.map V.int)) → IsOrd n o → Q (.ref l) H'
section
variable {P : Program} {w : World} {K : PySem.W.Frag} {mg : Str → Option Value} {base : Heap}
theorem ok_order {f : Addr} {fd : FuncData} (T : Txt K mg) (F : Fun K "_law_order" "_law_order" s_order f fd)
    (D_draw : DefOk P w K mg base CX0 1 "_law_draw" P_draw (sp_draw K)) :
    FnG P w K mg base CX0 2 f fd P_order (sp_order K) := by
  refine okG0 F sc_order (fun vs H Q E h => ?_) (fun cdv A outer s H vs Q E hr hq h => ?_)
  · obtain ⟨p, n, rfl, _⟩ := h
    rfl
  · obtain ⟨p, n, rfl, hn, hp, q⟩ := h
    refine ⟨_, (pss_cons (ps_set (i := 2) sc_order.nd rfl (by first | exact .inl rfl | exact .inr rfl) (pe_listRg rfl (by rfl) T.b_list (prg_1 (by rfl) T.b_range (pv 1))))
      (pss_cons (ps_set (i := 3) sc_order.nd rfl (by first | exact .inl rfl | exact .inr rfl) (pe_lst pa_nil))
      (pss_cons (ps_for PassesOwn.never rfl (pi_range1 (by rfl) T.b_range (pa_cons (pv 1) pa_nil)) (pg_name (i := 4) sc_order.nd rfl (by first | exact .inl rfl | exact .inr rfl)) (pss_one (ps_expr (pe_bm PySem.F.plainAttrs_list PySem.F.slot_list_append PySem.F.type_list_append mt_append (pv 3) (pa_cons (pe_bm PySem.F.plainAttrs_list PySem.F.slot_list_pop PySem.F.type_list_pop mt_popAt (pv 2) (pa_cons (pe_callD D_draw (hr.mono (by decide)) hq pass0 (pa_cons (pv 0) (pa_cons (pe_callB (call_lenK K) (by rfl) T.b_len bt_len (pa_cons (pv 2) pa_nil)) pa_nil))) pa_nil)) pa_nil)))))
      (pss_one (ps_ret (pv 3)))))), ?_⟩
    refine ⟨_, rfl, n, rfl, RgOk.of_le (by omega) (by omega) (by omega) (by omega), fun L hL => ?_⟩
    have pL := hp.off hL
    refine ⟨Nat.zero_le _, fun F2 hF2 => ?_⟩
    have FL : F2 ≠ L := fun e => by
      rw [e, upd_same] at hF2
      cases hF2
    have HF : H F2 = none := by
      rw [upd_ne FL] at hF2
      exact hF2
    have pF := hp.off HF
    refine ⟨_, rfl, _, rfl, by omega, by omega, ?_⟩
    refine for_by n.toNat (fun i σ H' => ∃ (y : Option V) (left found : List Int), σ = [some (V.ref p), some (V.int n), some (V.ref L), some (V.ref F2), y] ∧ found.length = i ∧ ExD p H H' ∧ Tap H' p ∧
        H' L = some (.lst (left.map V.int)) ∧ H' F2 = some (.lst (found.map V.int)) ∧ (left ++ found).Perm (iota n))
      ⟨_, iota n, [], rfl, rfl, (ExD.nw hL).wr HF, (hp.put pL.symm).put pF.symm, ?_, upd_same, by rw [List.append_nil]⟩ (fun i σ H' hi _ => hi) (fun σ H' _ => Nat.le_refl _) ?_ ?_
    · rw [upd_ne FL.symm, upd_same, rgV_io]
    · rintro i σ H1 x H2 hi ⟨y, left, found, rfl, hfl, e1, p1, hL1, hF1, hp1⟩ ⟨rfl, rfl⟩
      have hll : left.length + found.length = n.toNat := by
        have := hp1.length_eq
        rw [List.length_append, List.length_map, List.length_range] at this
        exact this
      refine ⟨_, rfl, .inl ⟨rfl, _, .inl (.inl hF1)⟩, ?_⟩
      refine ⟨_, rfl, .inl ⟨rfl, _, .inl (.inl hL1)⟩, ?_⟩
      refine ⟨_, rfl, _, rfl, L, _, rfl, .inl (.inl (.inl hL1)), ?_⟩
      refine ⟨p, _, rfl, by rw [List.length_map]; omega, p1, fun z H3 hz p3 e3 => ?_⟩
      rw [List.length_map] at hz
      have hL3 := e3 _ _ pL hL1
      have hF3 := e3 _ _ pF hF1
      have hzl : z.toNat < left.length := by omega
      have hx := List.getElem?_eq_getElem hzl
      generalize left[z.toNat] = x at hx
      refine ⟨L, _, z, z.toNat, .int x, rfl, rfl, hL3, by omega, by omega, seqIndex_of hz.1 (by rw [List.length_map]; omega), by rw [List.getElem?_map, hx]; rfl, ?_⟩
      have hF4 : (upd H3 L (.lst ((left.map V.int).eraseIdx z.toNat))) F2 = some (.lst (found.map V.int)) := by
        rw [upd_ne FL]
        exact hF3
      refine ⟨F2, _, _, rfl, rfl, hF4, mil' (by rw [List.length_map]; omega), ?_⟩
      have hel := List.length_eraseIdx_of_lt hzl
      refine ⟨_, left.eraseIdx z.toNat, found ++ [x], rfl, ?_, ?_, ?_, ?_, ?_, ?_⟩
      · rw [List.length_append, hfl]
        rfl
      · exact ((e1.tr e3).wr hL).wr HF
      · exact (p3.put (o := .lst ((left.map V.int).eraseIdx z.toNat)) pL.symm).put (o := .lst (found.map V.int ++ [.int x])) pF.symm
      · rw [upd_ne FL.symm, upd_same, map_pop]
      · rw [upd_same, List.map_append]
        rfl
      · have h2 := pop_perm hx
        refine List.Perm.trans ?_ hp1
        have h3 : (left.eraseIdx z.toNat ++ (found ++ [x])).Perm (x :: left.eraseIdx z.toNat ++ found) := by
          rw [← List.append_assoc]
          exact List.perm_append_comm
        exact h3.trans (h2.append_right found)
    · rintro σ H1 ⟨y, left, found, rfl, hfl, e1, p1, hL1, hF1, hp1⟩
      have hll : left.length + found.length = n.toNat := by
        have := hp1.length_eq
        rw [List.length_append, List.length_map, List.length_range] at this
        exact this
      have h0 : left = [] := List.length_eq_zero_iff.mp (by omega)
      subst h0
      rw [List.nil_append] at hp1
      exact ⟨_, rfl, q F2 found H1 HF e1 p1 hF1 hp1⟩
end

/-! _law_pairs: slots 0 _law_tap_here, 1 _law_order_here, 2 _law_kind, 3 _law_count, 4 _law_dense, 5 _law_found, 6 _law_k, 7 _law_m, 8 _law_is_there -/
abbrev s_pairs : Stmt := topS 38
abbrev N_pairs : List Str := ["_law_tap_here", "_law_order_here", "_law_kind", "_law_count", "_law_dense", "_law_found", "_law_k", "_law_m", "_law_is_there"]
abbrev P_pairs : List Str := ["_law_tap_here", "_law_order_here", "_law_kind"]
theorem sc_pairs : FnScope N_pairs P_pairs (defScope s_pairs) := ⟨rfl, rfl, rfl, by decide +kernel, rfl, by decide +kernel, by decide +kernel⟩
/-- the pairs of an order at pairs of places -/
def atP (o : List Int) (j : Int × Int) : Int × Int := (o.getD j.1.toNat 0, o.getD j.2.toNat 0)
theorem atP_nodup {o : List Int} {n : Int} (ho : IsOrd n o) {J : List (Int × Int)} (hJ : ascB ltPr J = true) (hb : ∀ j ∈ J, (0 ≤ j.1 ∧ j.1 < n) ∧ (0 ≤ j.2 ∧ j.2 < n)) : (J.map (atP o)).Nodup := by
  have hl := ho.len
  rw [List.nodup_iff_pairwise_ne, List.pairwise_map]
  refine (nodup_asc hJ).imp_of_mem fun {a b} ha hb' hne he => hne ?_
  have h1 := hb a ha
  have h2 := hb b hb'
  simp only [atP, Prod.mk.injEq] at he
  have key : ∀ x y : Int, (0 ≤ x ∧ x < n) → (0 ≤ y ∧ y < n) → o.getD x.toNat 0 = o.getD y.toNat 0 → x = y := by
    intro x y hx hy h
    have gx := List.getElem?_eq_getElem (show x.toNat < o.length by omega)
    have gy := List.getElem?_eq_getElem (show y.toNat < o.length by omega)
    rw [List.getD_eq_getElem?_getD, gx, List.getD_eq_getElem?_getD, gy] at h
    simp only [Option.getD_some] at h
    by_cases e : x.toNat = y.toNat
    · omega
    · exact absurd h (nodup_at ho.nd gx gy e)
  exact Prod.ext (key _ _ h1.1 h2.1 he.1) (key _ _ h1.2 h2.2 he.2)
/-- some pairs, off the tap -/
def sp_pairs (K : PySem.W.Frag) : Sp := fun vs H Q _ => ∃ (p a : Addr) (o : List Int) (n kind : Int), vs = [.ref p, .ref a, .int kind] ∧ H a = some (.lst (o.map V.int)) ∧ a ≠ p ∧ IsOrd n o ∧ (1 ≤ n ∧ n ≤ 20) ∧ Tap H p ∧
  ∀ (l : Addr) (xs : List V) (ps : List (Int × Int)) H', H l = none → ExD p H H' → Tap H' p → H' l = some (.lst xs) → DaAll K (rm H' p) (ps.map dPair) xs → ascB ltPr ps = true → (∀ q ∈ ps, (0 ≤ q.1 ∧ q.1 < n) ∧ (0 ≤ q.2 ∧ q.2 < n)) → ps.length ≤ 1300 → Q (.ref l) H'
section
variable {P : Program} {w : World} {K : PySem.W.Frag} {mg : Str → Option Value} {base : Heap}
theorem ok_pairs {f : Addr} {fd : FuncData} (T : Txt K mg) (F : Fun K "_law_pairs" "_law_pairs" s_pairs f fd)
    (D_draw : DefOk P w K mg base CX0 1 "_law_draw" P_draw (sp_draw K)) :
    FnG P w K mg base CX0 2 f fd P_pairs (sp_pairs K) := by
  refine okG0 F sc_pairs (fun vs H Q E h => ?_) (fun cdv A outer s H vs Q E hr hq h => ?_)
  · obtain ⟨p, a, o, n, kind, rfl, _⟩ := h
    rfl
  · obtain ⟨p, a, o, n, kind, rfl, ha, nap, ho, hn, hp, q⟩ := h
    have hol := ho.len
    have sA : SqL K H a (o.map V.int) := .inl (.inl ha)
    refine ⟨_, (pss_cons (ps_par3 (i := 3) (j := 4) (l := 5) (by rfl) sc_pairs.nd rfl rfl rfl (by decide) (by decide) (by decide) rfl rfl rfl (pa_cons (pe_callB (call_lenK K) (by rfl) T.b_len bt_len (pa_cons (pv 1) pa_nil)) (pa_cons (pe_op op_add pe_int (pe_callD D_draw (hr.mono (by decide)) hq pass0 (pa_cons (pv 0) (pa_cons pe_int pa_nil)))) (pa_cons (pe_lst pa_nil) pa_nil))) (by rfl))
      (pss_cons (ps_for PassesOwn.never rfl (pi_range1 (by rfl) T.b_range (pa_cons (pv 3) pa_nil)) (pg_name (i := 6) sc_pairs.nd rfl (by first | exact .inl rfl | exact .inr rfl)) (pss_one (ps_for PassesOwn.never rfl (pi_range1 (by rfl) T.b_range (pa_cons (pv 3) pa_nil)) (pg_name (i := 7) sc_pairs.nd rfl (by first | exact .inl rfl | exact .inr rfl)) (pss_cons (ps_if (PW.pt (pw_and (pt_cmpR op_lt (pv 2) pe_int (nomark _)) (pw_and1 (pt_cmpR op_le (pv 7) (pe_op op_add (pv 6) pe_int) (nomark _))))) (pss_one (ps_set (i := 8) sc_pairs.nd rfl (by first | exact .inl rfl | exact .inr rfl) (pe_or (pe_cmpR op_eq (pv 7) (pe_op op_add (pv 6) pe_int) (nomark _)) (pe_one (pe_cmpR op_eq (pe_callD D_draw (hr.mono (by decide)) hq pass0 (pa_cons (pv 0) (pa_cons (pv 4) pa_nil))) pe_int (nomark _)))))) (pss_one (ps_if (pt_cmpR op_eq (pv 2) pe_int (nomark _)) (pss_one (ps_set (i := 8) sc_pairs.nd rfl (by first | exact .inl rfl | exact .inr rfl) (pe_cmpR op_eq (pe_callD D_draw (hr.mono (by decide)) hq pass0 (pa_cons (pv 0) (pa_cons pe_int pa_nil))) pe_int (nomark _)))) (pss_one (ps_set (i := 8) sc_pairs.nd rfl (by first | exact .inl rfl | exact .inr rfl) (pe_and (pe_cmpR op_gt (pv 2) pe_int (nomark _)) (pe_one (pe_cmpR op_ne (pe_cmpR op_lt (pe_callD D_draw (hr.mono (by decide)) hq pass0 (pa_cons (pv 0) (pa_cons (pe_op op_add pe_int (pv 3)) pa_nil))) pe_int (nomark _)) (pe_cmpR op_eq (pv 2) pe_int (nomark _)) (nomark _)))))))))
      (pss_one (ps_if (pt_val (pv 8)) (pss_one (ps_expr (pe_bm PySem.F.plainAttrs_list PySem.F.slot_list_append PySem.F.type_list_append mt_append (pv 5) (pa_cons (pe_tup (pa_cons (pe_ix (ix_listK K) (pv 1) (pv 6) (fun _ _ => rfl)) (pa_cons (pe_ix (ix_listK K) (pv 1) (pv 7) (fun _ _ => rfl)) pa_nil))) pa_nil)))) pss_nil))))))
      (pss_one (ps_ret (pe_callB (cr_sortedPOk K) (by rfl) T.b_sorted bt_sorted (pa_cons (pv 5) pa_nil)))))), ?_⟩
    refine ⟨_, rfl, a, _, rfl, .inl sA, _, rfl, p, 4, rfl, by decide, hp, fun z H1 hz p1 e1 => ⟨_, _, rfl, rfl, Nat.zero_le _, fun L hL => ⟨_, _, _, rfl, ?_⟩⟩⟩
    have pL := p1.off hL
    have HL : H L = none := Purse.fr e1 p1 hL
    have e2 : ExD p H (upd H1 L (.lst [])) := e1.tr (ExD.nw hL)
    have p2 := p1.up (Ex.nw (o := .lst []) hL)
    have f2 : (upd H1 L (.lst [])) L = some (.lst []) := upd_same
    generalize upd H1 L (.lst []) = H2 at e2 p2 f2
    rw [List.length_map]
    refine ⟨_, rfl, _, rfl, by omega, by omega, ?_⟩
    refine for_by o.length (fun i σ H' => ∃ y6 y7 y8, σ = [some (V.ref p), some (V.ref a), some (V.int kind), some (V.int (o.length : Int)), some (V.int (2 + z)), some (V.ref L), y6, y7, y8] ∧
        ExD p H H' ∧ Tap H' p ∧ ∃ (acc : List V) (J : List (Int × Int)), H' L = some (.lst acc) ∧ DaAll K (rm (rm H' p) L) ((J.map (atP o)).map dPair) acc ∧ ascB ltPr J = true ∧
        (∀ j ∈ J, (0 ≤ j.1 ∧ j.1 < (i : Int)) ∧ (0 ≤ j.2 ∧ j.2 < n)) ∧ J.length ≤ 20 * i)
      ⟨_, _, _, rfl, e2, p2, [], [], f2, rfl, rfl, fun j hj => (by cases hj), Nat.le_refl _⟩ (fun i σ H' hi _ => (by show i < _; omega)) (fun σ H' _ => (by show _ ≤ o.length; omega)) ?_ ?_
    · rintro i σ H3 x H4 hi ⟨y6, y7, y8, rfl, e3, p3, acc, J, hL3, hA3, hJ, hJb, hJl⟩ ⟨rfl, rfl⟩
      refine ⟨_, rfl, _, rfl, by omega, by omega, ?_⟩
      refine for_by o.length (fun j σ H' => ∃ y7 y8, σ = [some (V.ref p), some (V.ref a), some (V.int kind), some (V.int (o.length : Int)), some (V.int (2 + z)), some (V.ref L), some (V.int (0 + (i : Int))), y7, y8] ∧
          ExD p H H' ∧ Tap H' p ∧ ∃ (acc : List V) (J : List (Int × Int)), H' L = some (.lst acc) ∧ DaAll K (rm (rm H' p) L) ((J.map (atP o)).map dPair) acc ∧ ascB ltPr J = true ∧
          (∀ q ∈ J, ((0 ≤ q.1 ∧ q.1 < (i : Int)) ∧ (0 ≤ q.2 ∧ q.2 < n)) ∨ (q.1 = (i : Int) ∧ (0 ≤ q.2 ∧ q.2 < (j : Int)))) ∧ J.length ≤ 20 * i + j)
        ⟨_, _, rfl, e3, p3, acc, J, hL3, hA3, hJ, fun q hq => .inl (hJb q hq), by omega⟩ (fun j σ H' hj _ => (by show j < _; omega)) (fun σ H' _ => (by show _ ≤ o.length; omega)) ?_ ?_
      · rintro j σ H5 x H6 hj ⟨y7, y8, rfl, e5, p5, acc, J, hL5, hA5, hJ, hJb, hJl⟩ ⟨rfl, rfl⟩
        have fin : ∀ (H7 : Hp), ExD p H6 H7 → Tap H7 p → ExD p H H7 ∧ Tap H7 p ∧ ∃ (acc : List V) (J : List (Int × Int)), H7 L = some (.lst acc) ∧ DaAll K (rm (rm H7 p) L) ((J.map (atP o)).map dPair) acc ∧ ascB ltPr J = true ∧
            (∀ q ∈ J, ((0 ≤ q.1 ∧ q.1 < (i : Int)) ∧ (0 ≤ q.2 ∧ q.2 < n)) ∨ (q.1 = (i : Int) ∧ (0 ≤ q.2 ∧ q.2 < ((j + 1 : Nat) : Int)))) ∧ J.length ≤ 20 * i + (j + 1) := by
          intro H7 e7 p7
          refine ⟨e5.tr e7, p7, acc, J, e7 _ _ pL hL5, hA5.up (Ex.rm e7.rm), hJ, fun q hq => ?_, by omega⟩
          rcases hJb q hq with h | h
          · exact .inl h
          · exact .inr ⟨h.1, by omega⟩
        have put : ∀ (H7 : Hp), ExD p H6 H7 → Tap H7 p → ∀ (T : Addr), H7 T = none → ∀ (H8 : Hp), H8 = upd (upd H7 T (.tup [.int (o.getD i 0), .int (o.getD j 0)])) L (.lst (acc ++ [.ref T])) →
            ExD p H H8 ∧ Tap H8 p ∧ ∃ (acc : List V) (J : List (Int × Int)), H8 L = some (.lst acc) ∧ DaAll K (rm (rm H8 p) L) ((J.map (atP o)).map dPair) acc ∧ ascB ltPr J = true ∧
            (∀ q ∈ J, ((0 ≤ q.1 ∧ q.1 < (i : Int)) ∧ (0 ≤ q.2 ∧ q.2 < n)) ∨ (q.1 = (i : Int) ∧ (0 ≤ q.2 ∧ q.2 < ((j + 1 : Nat) : Int)))) ∧ J.length ≤ 20 * i + (j + 1) := by
          rintro H7 e7 p7 T hT H8 rfl
          have hL7 := e7 _ _ pL hL5
          have TL : T ≠ L := fun e => by
            rw [e, hL7] at hT
            cases hT
          have Tp := p7.off hT
          refine ⟨((e5.tr e7).tr (ExD.nw hT)).wr HL, (p7.up (Ex.nw hT)).put pL.symm, acc ++ [.ref T], J ++ [((i : Int), (j : Int))], upd_same, ?_, ?_, ?_, ?_⟩
          · rw [List.map_append, List.map_append]
            refine ((hA5.up (Ex.rm e7.rm)).up (ex_rm2 fun b o n1 n2 h => ?_)).app ⟨_, _, rfl, dPair_of (p := atP o ((i : Int), (j : Int))) ?_, rfl⟩
            · rw [upd_ne n2, upd_ne (ne_of_none h hT)]
              exact h
            · rw [rm_ne TL, rm_ne Tp, upd_ne TL, upd_same]
              rfl
          · refine ascP_snoc hJ fun t ht => ltPr_iff.mpr ?_
            rcases hJb t ht with h | h
            · exact .inl h.1.2
            · exact .inr ⟨h.1, h.2.2⟩
          · intro q hq
            rcases List.mem_append.mp hq with hq | hq
            · rcases hJb q hq with h | h
              · exact .inl h
              · exact .inr ⟨h.1, by omega⟩
            · obtain rfl := List.mem_singleton.mp hq
              exact .inr ⟨rfl, by simp only; omega, by simp only; omega⟩
          · rw [List.length_append, List.length_singleton]
            omega
        have gi := List.getElem?_eq_getElem hi
        have gj := List.getElem?_eq_getElem hj
        have di : o.getD i 0 = o[i] := by rw [List.getD_eq_getElem?_getD, gi]; rfl
        have dj : o.getD j 0 = o[j] := by rw [List.getD_eq_getElem?_getD, gj]; rfl
        have ai : atI (o.map V.int) (0 + (i : Int)) = some (.int (o.getD i 0)) := by
          rw [Int.zero_add, di]
          exact atI_nat (by rw [List.getElem?_map, gi]; rfl)
        have aj : atI (o.map V.int) (0 + (j : Int)) = some (.int (o.getD j 0)) := by
          rw [Int.zero_add, dj]
          exact atI_nat (by rw [List.getElem?_map, gj]; rfl)
        have d0 : ExD p H6 H6 := fun _ _ _ h => h
        refine ⟨_, rfl, _, _, rfl, rfl, _, rfl, ite2 (fun _ => ?_) (fun _ => ?_)⟩
        · refine ⟨_, rfl, _, rfl, _, _, rfl, rfl, _, _, rfl, rfl, _, rfl, ite2 (fun _ => ?_) (fun _ => ?_)⟩
          · refine ⟨_, rfl, _, rfl, _, _, rfl, rfl, rfl, _, rfl, ite2 (fun _ => ?_) (fun _ => ?_)⟩
            · refine ⟨_, rfl, _, rfl, ite2 (fun _ => ?_) (fun _ => ⟨_, _, rfl, fin H6 d0 p5⟩)⟩
              have hL7 := d0 _ _ pL hL5
              have sA7 : SqL K H6 a (o.map V.int) := ExD.l (e5.tr d0) nap sA
              refine ⟨_, rfl, .inl ⟨rfl, _, .inl (.inl hL7)⟩, ?_⟩
              refine ⟨_, rfl, _, rfl, a, _, _, _, rfl, rfl, sA7, ai, _, rfl, _, rfl, a, _, _, _, rfl, rfl, sA7, aj, by show 2 ≤ sizeLine; decide, fun T hT => ?_⟩
              have TL : T ≠ L := fun e => by
                rw [e, hL7] at hT
                cases hT
              have hal := hA5.len
              rw [List.length_map, List.length_map] at hal
              exact ⟨L, _, _, rfl, rfl, by rw [upd_ne TL.symm]; exact hL7, mil' (by omega), _, _, rfl, put H6 d0 p5 T hT _ rfl⟩
            · refine ⟨_, rfl, _, rfl, p, 2 + z, rfl, by omega, p5, fun z2 H7 hz2 p7 e7 => ⟨rfl, ?_⟩⟩
              refine ⟨_, rfl, _, rfl, ite2 (fun _ => ?_) (fun _ => ⟨_, _, rfl, fin H7 e7 p7⟩)⟩
              have hL7 := e7 _ _ pL hL5
              have sA7 : SqL K H7 a (o.map V.int) := ExD.l (e5.tr e7) nap sA
              refine ⟨_, rfl, .inl ⟨rfl, _, .inl (.inl hL7)⟩, ?_⟩
              refine ⟨_, rfl, _, rfl, a, _, _, _, rfl, rfl, sA7, ai, _, rfl, _, rfl, a, _, _, _, rfl, rfl, sA7, aj, by show 2 ≤ sizeLine; decide, fun T hT => ?_⟩
              have TL : T ≠ L := fun e => by
                rw [e, hL7] at hT
                cases hT
              have hal := hA5.len
              rw [List.length_map, List.length_map] at hal
              exact ⟨L, _, _, rfl, rfl, by rw [upd_ne TL.symm]; exact hL7, mil' (by omega), _, _, rfl, put H7 e7 p7 T hT _ rfl⟩
          · refine ⟨_, rfl, rfl, _, rfl, ite2 (fun _ => ?_) (fun _ => ?_)⟩
            · refine ⟨_, rfl, p, 2, rfl, by decide, p5, fun z2 H7 hz2 p7 e7 => ⟨rfl, ?_⟩⟩
              refine ⟨_, rfl, _, rfl, ite2 (fun _ => ?_) (fun _ => ⟨_, _, rfl, fin H7 e7 p7⟩)⟩
              have hL7 := e7 _ _ pL hL5
              have sA7 : SqL K H7 a (o.map V.int) := ExD.l (e5.tr e7) nap sA
              refine ⟨_, rfl, .inl ⟨rfl, _, .inl (.inl hL7)⟩, ?_⟩
              refine ⟨_, rfl, _, rfl, a, _, _, _, rfl, rfl, sA7, ai, _, rfl, _, rfl, a, _, _, _, rfl, rfl, sA7, aj, by show 2 ≤ sizeLine; decide, fun T hT => ?_⟩
              have TL : T ≠ L := fun e => by
                rw [e, hL7] at hT
                cases hT
              have hal := hA5.len
              rw [List.length_map, List.length_map] at hal
              exact ⟨L, _, _, rfl, rfl, by rw [upd_ne TL.symm]; exact hL7, mil' (by omega), _, _, rfl, put H7 e7 p7 T hT _ rfl⟩
            · refine ⟨_, rfl, _, _, rfl, rfl, _, rfl, ite2 (fun _ => ?_) (fun _ => ?_)⟩
              · refine ⟨_, rfl, _, rfl, _, _, rfl, rfl, p, 2 + (o.length : Int), rfl, by omega, p5, fun z2 H7 hz2 p7 e7 => ⟨_, _, rfl, rfl, _, rfl, rfl, rfl, ?_⟩⟩
                refine ⟨_, rfl, _, rfl, ite2 (fun _ => ?_) (fun _ => ⟨_, _, rfl, fin H7 e7 p7⟩)⟩
                have hL7 := e7 _ _ pL hL5
                have sA7 : SqL K H7 a (o.map V.int) := ExD.l (e5.tr e7) nap sA
                refine ⟨_, rfl, .inl ⟨rfl, _, .inl (.inl hL7)⟩, ?_⟩
                refine ⟨_, rfl, _, rfl, a, _, _, _, rfl, rfl, sA7, ai, _, rfl, _, rfl, a, _, _, _, rfl, rfl, sA7, aj, by show 2 ≤ sizeLine; decide, fun T hT => ?_⟩
                have TL : T ≠ L := fun e => by
                  rw [e, hL7] at hT
                  cases hT
                have hal := hA5.len
                rw [List.length_map, List.length_map] at hal
                exact ⟨L, _, _, rfl, rfl, by rw [upd_ne TL.symm]; exact hL7, mil' (by omega), _, _, rfl, put H7 e7 p7 T hT _ rfl⟩
              · refine ⟨_, rfl, _, rfl, ite2 (fun _ => ?_) (fun _ => ⟨_, _, rfl, fin H6 d0 p5⟩)⟩
                have hL7 := d0 _ _ pL hL5
                have sA7 : SqL K H6 a (o.map V.int) := ExD.l (e5.tr d0) nap sA
                refine ⟨_, rfl, .inl ⟨rfl, _, .inl (.inl hL7)⟩, ?_⟩
                refine ⟨_, rfl, _, rfl, a, _, _, _, rfl, rfl, sA7, ai, _, rfl, _, rfl, a, _, _, _, rfl, rfl, sA7, aj, by show 2 ≤ sizeLine; decide, fun T hT => ?_⟩
                have TL : T ≠ L := fun e => by
                  rw [e, hL7] at hT
                  cases hT
                have hal := hA5.len
                rw [List.length_map, List.length_map] at hal
                exact ⟨L, _, _, rfl, rfl, by rw [upd_ne TL.symm]; exact hL7, mil' (by omega), _, _, rfl, put H6 d0 p5 T hT _ rfl⟩
        · refine ⟨_, rfl, rfl, _, rfl, ite2 (fun _ => ?_) (fun _ => ?_)⟩
          · refine ⟨_, rfl, p, 2, rfl, by decide, p5, fun z2 H7 hz2 p7 e7 => ⟨rfl, ?_⟩⟩
            refine ⟨_, rfl, _, rfl, ite2 (fun _ => ?_) (fun _ => ⟨_, _, rfl, fin H7 e7 p7⟩)⟩
            have hL7 := e7 _ _ pL hL5
            have sA7 : SqL K H7 a (o.map V.int) := ExD.l (e5.tr e7) nap sA
            refine ⟨_, rfl, .inl ⟨rfl, _, .inl (.inl hL7)⟩, ?_⟩
            refine ⟨_, rfl, _, rfl, a, _, _, _, rfl, rfl, sA7, ai, _, rfl, _, rfl, a, _, _, _, rfl, rfl, sA7, aj, by show 2 ≤ sizeLine; decide, fun T hT => ?_⟩
            have TL : T ≠ L := fun e => by
              rw [e, hL7] at hT
              cases hT
            have hal := hA5.len
            rw [List.length_map, List.length_map] at hal
            exact ⟨L, _, _, rfl, rfl, by rw [upd_ne TL.symm]; exact hL7, mil' (by omega), _, _, rfl, put H7 e7 p7 T hT _ rfl⟩
          · refine ⟨_, rfl, _, _, rfl, rfl, _, rfl, ite2 (fun _ => ?_) (fun _ => ?_)⟩
            · refine ⟨_, rfl, _, rfl, _, _, rfl, rfl, p, 2 + (o.length : Int), rfl, by omega, p5, fun z2 H7 hz2 p7 e7 => ⟨_, _, rfl, rfl, _, rfl, rfl, rfl, ?_⟩⟩
              refine ⟨_, rfl, _, rfl, ite2 (fun _ => ?_) (fun _ => ⟨_, _, rfl, fin H7 e7 p7⟩)⟩
              have hL7 := e7 _ _ pL hL5
              have sA7 : SqL K H7 a (o.map V.int) := ExD.l (e5.tr e7) nap sA
              refine ⟨_, rfl, .inl ⟨rfl, _, .inl (.inl hL7)⟩, ?_⟩
              refine ⟨_, rfl, _, rfl, a, _, _, _, rfl, rfl, sA7, ai, _, rfl, _, rfl, a, _, _, _, rfl, rfl, sA7, aj, by show 2 ≤ sizeLine; decide, fun T hT => ?_⟩
              have TL : T ≠ L := fun e => by
                rw [e, hL7] at hT
                cases hT
              have hal := hA5.len
              rw [List.length_map, List.length_map] at hal
              exact ⟨L, _, _, rfl, rfl, by rw [upd_ne TL.symm]; exact hL7, mil' (by omega), _, _, rfl, put H7 e7 p7 T hT _ rfl⟩
            · refine ⟨_, rfl, _, rfl, ite2 (fun _ => ?_) (fun _ => ⟨_, _, rfl, fin H6 d0 p5⟩)⟩
              have hL7 := d0 _ _ pL hL5
              have sA7 : SqL K H6 a (o.map V.int) := ExD.l (e5.tr d0) nap sA
              refine ⟨_, rfl, .inl ⟨rfl, _, .inl (.inl hL7)⟩, ?_⟩
              refine ⟨_, rfl, _, rfl, a, _, _, _, rfl, rfl, sA7, ai, _, rfl, _, rfl, a, _, _, _, rfl, rfl, sA7, aj, by show 2 ≤ sizeLine; decide, fun T hT => ?_⟩
              have TL : T ≠ L := fun e => by
                rw [e, hL7] at hT
                cases hT
              have hal := hA5.len
              rw [List.length_map, List.length_map] at hal
              exact ⟨L, _, _, rfl, rfl, by rw [upd_ne TL.symm]; exact hL7, mil' (by omega), _, _, rfl, put H6 d0 p5 T hT _ rfl⟩
      · rintro σ H5 ⟨y7, y8, rfl, e5, p5, acc, J, hL5, hA5, hJ, hJb, hJl⟩
        refine ⟨_, _, _, rfl, e5, p5, acc, J, hL5, hA5, hJ, fun q hq => ?_, by omega⟩
        rcases hJb q hq with h | h
        · exact ⟨⟨h.1.1, by omega⟩, h.2⟩
        · exact ⟨⟨by omega, by omega⟩, ⟨h.2.1, by omega⟩⟩
    · rintro σ H3 ⟨y6, y7, y8, rfl, e3, p3, acc, J, hL3, hA3, hJ, hJb, hJl⟩
      have hA4 : DaAll K H3 ((J.map (atP o)).map dPair) acc := hA3.up (rm_ex.tr rm_ex)
      obtain ⟨k1, k2⟩ := keys_of hA3
      have k1' : ∀ x ∈ acc, ∃ t, x = V.ref t ∧ H3 t = some (.tup [.int (keyOf (rm (rm H3 p) L) x).1, .int (keyOf (rm (rm H3 p) L) x).2]) := fun x hx => by
        obtain ⟨t, h1, h2⟩ := k1 x hx
        exact ⟨t, h1, rm_ex _ _ (rm_ex _ _ h2)⟩
      refine ⟨_, rfl, L, acc, keyOf (rm (rm H3 p) L), rfl, .inl (.inl hL3), k1', fun ys l s1 s2 hl => ?_⟩
      have hJb' : ∀ j ∈ J, (0 ≤ j.1 ∧ j.1 < n) ∧ (0 ≤ j.2 ∧ j.2 < n) := fun j hj => by
        have := hJb j hj
        exact ⟨⟨this.1.1, by omega⟩, this.2⟩
      obtain ⟨M, m1, m2, m3, m4⟩ := sortedP hA3 (atP_nodup ho hJ hJb') s1 s2
      have lp := p3.off hl
      refine q l ys M _ (Purse.fr e3 p3 hl) (e3.tr (ExD.nw hl)) (p3.up (Ex.nw hl)) upd_same (m1.up ((rm_ex (H := rm H3 p) (p := L)).tr (Ex.nw hl).rm)) m2 (fun x hx => ?_) ?_
      · obtain ⟨j, hj, rfl⟩ := List.mem_map.mp ((m3 x).mp hx)
        have hb := hJb' j hj
        have g : ∀ y : Int, 0 ≤ y ∧ y < n → 0 ≤ o.getD y.toNat 0 ∧ o.getD y.toNat 0 < n := fun y hy => by
          have gy := List.getElem?_eq_getElem (show y.toNat < o.length by omega)
          rw [List.getD_eq_getElem?_getD, gy]
          exact ho.mem.mp (List.getElem_mem _)
        exact ⟨g _ hb.1, g _ hb.2⟩
      · rw [m4, List.length_map]
        omega
end

end K17
namespace K17
open PySem PySem.Spec PyProof.Rows L2 Nw
/-! _law_nudges: slots 0 _law_tap_here, 1 _law_order_here, 2 _law_kind, 3 _law_found, 4 _law_wide, 5 _law_turn, 6 _law_some, 7 _law_one -/
abbrev s_nudges : Stmt := topS 39
abbrev N_nudges : List Str := ["_law_tap_here", "_law_order_here", "_law_kind", "_law_found", "_law_wide", "_law_turn", "_law_some", "_law_one"]
abbrev P_nudges : List Str := ["_law_tap_here", "_law_order_here", "_law_kind"]
theorem sc_nudges : FnScope N_nudges P_nudges (defScope s_nudges) := ⟨rfl, rfl, rfl, by decide +kernel, rfl, by decide +kernel, by decide +kernel⟩
theorem pw_len0 {j : Nat} : ∀ {is : List Nat} {lo : Nat}, is.Pairwise (· < ·) → (∀ k ∈ is, lo ≤ k ∧ k < j) → is.length ≤ j - lo
  | [], _, _, _ => Nat.zero_le _
  | x :: r, lo, h, hb => by
    rw [List.pairwise_cons] at h
    have h1 := hb x (by simp)
    have ih := pw_len0 (lo := x + 1) h.2 fun k hk => ⟨h.1 k hk, (hb k (List.mem_cons_of_mem _ hk)).2⟩
    rw [List.length_cons]
    omega
theorem pw_len {j : Nat} {is : List Nat} (h : is.Pairwise (· < ·)) (hb : ∀ k ∈ is, k < j) : is.length ≤ j := pw_len0 (lo := 0) h fun k hk => ⟨Nat.zero_le _, hb k hk⟩
/-- some nudges, off the tap -/
def sp_nudges (K : PySem.W.Frag) : Sp := fun vs H Q _ => ∃ (p a : Addr) (o : List Int) (n kind : Int), vs = [.ref p, .ref a, .int kind] ∧ H a = some (.lst (o.map V.int)) ∧ a ≠ p ∧ IsOrd n o ∧ (1 ≤ n ∧ n ≤ 20) ∧ Tap H p ∧
  ∀ (l : Addr) (xs : List V) (ns : List (List Int)) H', H l = none → ExD p H H' → Tap H' p → H' l = some (.lst xs) → DaAll K (rm H' p) (ns.map dInts) xs → ns.length ≤ 8 → (∀ r ∈ ns, r ≠ [] ∧ (∀ t ∈ r, 0 ≤ t ∧ t < n) ∧ ascB ltIn r = true) → Q (.ref l) H'
section
variable {P : Program} {w : World} {K : PySem.W.Frag} {mg : Str → Option Value} {base : Heap}
theorem ok_nudges {f : Addr} {fd : FuncData} (T : Txt K mg) (F : Fun K "_law_nudges" "_law_nudges" s_nudges f fd)
    (D_draw : DefOk P w K mg base CX0 1 "_law_draw" P_draw (sp_draw K)) :
    FnG P w K mg base CX0 2 f fd P_nudges (sp_nudges K) := by
  refine okG0 F sc_nudges (fun vs H Q E h => ?_) (fun cdv A outer s H vs Q E hr hq h => ?_)
  · obtain ⟨p, a, o, n, kind, rfl, _⟩ := h
    rfl
  · obtain ⟨p, a, o, n, kind, rfl, ha, nap, ho, hn, hp, q⟩ := h
    have hol := ho.len
    have sA : SqL K H a (o.map V.int) := .inl (.inl ha)
    have h0 := List.getElem?_eq_getElem (show 0 < o.length by omega)
    generalize o[0] = o0 at h0
    have hin : ∀ t ∈ o, 0 ≤ t ∧ t < n := fun t ht => ho.mem.mp ht
    refine ⟨_, (pss_cons (ps_set (i := 3) sc_nudges.nd rfl (by first | exact .inl rfl | exact .inr rfl) (pe_ifExp (PW.pt (pw_and (pt_cmpR op_lt (pv 2) pe_int (nomark _)) (pw_and1 (pt_cmpR op_gt (pe_callD D_draw (hr.mono (by decide)) hq pass0 (pa_cons (pv 0) (pa_cons pe_int pa_nil))) pe_int (nomark _))))) (pe_lst (pa_cons (pe_lst (pa_cons (pe_ix (ix_listK K) (pv 1) pe_int (fun _ _ => rfl)) pa_nil)) pa_nil)) (pe_lst pa_nil)))
      (pss_cons (ps_set (i := 4) sc_nudges.nd rfl (by first | exact .inl rfl | exact .inr rfl) (pe_op op_add pe_int (pe_callD D_draw (hr.mono (by decide)) hq pass0 (pa_cons (pv 0) (pa_cons pe_int pa_nil)))))
      (pss_cons (ps_for PassesOwn.never rfl (pi_range1 (by rfl) T.b_range (pa_cons (pe_callD D_draw (hr.mono (by decide)) hq pass0 (pa_cons (pv 0) (pa_cons (pe_ix (ix_listK K) (pe_lst (pa_cons pe_int (pa_cons pe_int (pa_cons (pe_op op_sub pe_int (pe_callB (call_lenK K) (by rfl) T.b_len bt_len (pa_cons (pv 3) pa_nil))) pa_nil)))) (pe_callD D_draw (hr.mono (by decide)) hq pass0 (pa_cons (pv 0) (pa_cons pe_int pa_nil))) (fun _ _ => rfl)) pa_nil))) pa_nil)) (pg_name (i := 5) sc_nudges.nd rfl (by first | exact .inl rfl | exact .inr rfl)) (pss_cons (ps_set (i := 6) sc_nudges.nd rfl (by first | exact .inl rfl | exact .inr rfl) (pe_callB (cr_sortedIk K) (by rfl) T.b_sorted bt_sorted (pa_cons (pe_lc (own := [("_law_one", 7)]) rfl sc_nudges.nd (pi_listK K (pv 1)) (blkOk_by (N := N_nudges) (sc := defScope s_nudges) (by decide +kernel)) (fun _ _ _ _ _ => (pg_name (i := 7) sc_nudges.nd rfl (by first | exact .inl rfl | exact .inr rfl))) (fun _ _ _ _ _ => (pts_one (pt_cmpR op_eq (pe_callD D_draw (hr.mono (by decide)) hq pass0 (pa_cons (pv 0) (pa_cons (pv 4) pa_nil))) pe_int (nomark _)))) (fun _ _ _ _ _ => (pv 7))) pa_nil)))
      (pss_one (ps_expr (pe_bm PySem.F.plainAttrs_list PySem.F.slot_list_append PySem.F.type_list_append mt_append (pv 3) (pa_cons (pe_ifExp (pt_cmpR (op_neDk K hr.units) (pv 6) (pe_lst pa_nil) (nomark _)) (pv 6) (pe_lst (pa_cons (pe_ix (ix_listK K) (pv 1) (pe_callD D_draw (hr.mono (by decide)) hq pass0 (pa_cons (pv 0) (pa_cons (pe_callB (call_lenK K) (by rfl) T.b_len bt_len (pa_cons (pv 1) pa_nil)) pa_nil))) (fun _ _ => rfl)) pa_nil))) pa_nil))))))
      (pss_one (ps_ret (pv 3)))))), ?_⟩
    refine ⟨_, rfl, _, _, rfl, rfl, _, rfl, ite2 (fun _ => ?_) (fun _ => ?_)⟩
    · refine ⟨_, rfl, p, 5, rfl, by decide, hp, fun z0 H1 hz0 p1 e1 => ⟨_, _, rfl, rfl, _, rfl, ite2 (fun _ => ?_) (fun _ => ?_)⟩⟩
      · refine ⟨_, rfl, a, _, 0, .int o0, rfl, rfl, ExD.l e1 nap sA, atI_int (by decide) (by rw [List.getElem?_map]; rw [show Int.toNat 0 = 0 from rfl, h0]; rfl), by show 1 ≤ sizeLine; decide, fun C hC => ?_⟩
        have e2 : Ex H1 (upd H1 C (.lst [.int o0])) := Ex.nw hC
        have f2 : (upd H1 C (.lst [.int o0])) C = some (.lst [.int o0]) := upd_same
        have Cp := p1.off hC
        have p2 := p1.up e2
        generalize upd H1 C (.lst [.int o0]) = H2 at e2 f2 p2
        refine ⟨by show 1 ≤ sizeLine; decide, fun L hL => ?_⟩
        have CL : C ≠ L := fun e => by
          rw [e, hL] at f2
          cases f2
        have Lp := p2.off hL
        have HL : H L = none := Purse.fr (e1.tr e2.d) p2 hL
        have e3 : ExD p H (upd H2 L (.lst [.ref C])) := (e1.tr e2.d).tr (ExD.nw hL)
        have p3 := p2.up (Ex.nw (o := .lst [.ref C]) hL)
        have f3 : (upd H2 L (.lst [.ref C])) L = some (.lst [.ref C]) := upd_same
        have g3 : DaAll K (rm (rm (upd H2 L (.lst [.ref C])) p) L) ([[o0]].map dInts) [.ref C] := ⟨_, _, rfl, dInts_of (r := [o0]) (by rw [rm_ne CL, rm_ne Cp, upd_ne CL]; exact f2) (by show 1 ≤ 100000; decide), rfl⟩
        generalize upd H2 L (.lst [.ref C]) = H3 at e3 p3 f3 g3
        have hns : ∀ r ∈ [[o0]], r ≠ [] ∧ (∀ t ∈ r, 0 ≤ t ∧ t < n) ∧ ascB ltIn r = true := fun r hr => by
          obtain rfl := List.mem_singleton.mp hr
          exact ⟨by simp, fun t ht => by
            obtain rfl := List.mem_singleton.mp ht
            exact hin _ (List.mem_of_getElem? h0), rfl⟩
        have hnl : ([[o0]] : List (List Int)).length ≤ 1 := Nat.le_refl 1
        have hxl : ([V.ref C] : List V).length = ([[o0]] : List (List Int)).length := rfl
        have hle : (([V.ref C] : List V).length : Nat) = 1 := rfl
        refine ⟨_, rfl, p, 4, rfl, by decide, p3, fun z1 H4 hz1 p4 e4 => ⟨_, _, rfl, rfl, ?_⟩⟩
        have f4 := e4 _ _ Lp f3
        have g4 := g3.up (Ex.rm e4.rm)
        have e04 := e3.tr e4
        -- how many more
        refine ⟨_, rfl, _, rfl, L, _, rfl, .inl (.inl (.inl f4)), _, _, rfl, rfl, by show 3 ≤ sizeLine; decide, fun B hB => ?_⟩
        have Bp := p4.off hB
        have eB : Ex H4 (upd H4 B (.lst [.int 2, .int 4, .int (9 - ((([V.ref C] : List V).length : Nat) : Int))])) := Ex.nw hB
        have fB : (upd H4 B (.lst [.int 2, .int 4, .int (9 - ((([V.ref C] : List V).length : Nat) : Int))])) B = some (.lst [.int 2, .int 4, .int (9 - ((([V.ref C] : List V).length : Nat) : Int))]) := upd_same
        have pB := p4.up eB
        generalize upd H4 B (.lst [.int 2, .int 4, .int (9 - ((([V.ref C] : List V).length : Nat) : Int))]) = H5 at eB fB pB
        refine ⟨_, rfl, p, 3, rfl, by decide, pB, fun z2 H6 hz2 p6 e6 => ?_⟩
        have fB6 := e6 _ _ Bp fB
        obtain ⟨mx, hmx, hat⟩ : ∃ mx : Int, (1 ≤ mx ∧ mx ≤ 9 - ((([V.ref C] : List V).length : Nat) : Int)) ∧ atI [V.int 2, V.int 4, V.int (9 - ((([V.ref C] : List V).length : Nat) : Int))] z2 = some (.int mx) := by
          rcases (show z2 = 0 ∨ z2 = 1 ∨ z2 = 2 by omega) with rfl | rfl | rfl
          · exact ⟨2, ⟨by decide, (by decide : (2 : Int) ≤ 9 - ((1 : Nat) : Int))⟩, rfl⟩
          · exact ⟨4, ⟨by decide, (by decide : (4 : Int) ≤ 9 - ((1 : Nat) : Int))⟩, rfl⟩
          · exact ⟨9 - ((([V.ref C] : List V).length : Nat) : Int), ⟨(by decide : (1 : Int) ≤ 9 - ((1 : Nat) : Int)), Int.le_refl _⟩, rfl⟩
        refine ⟨B, _, z2, .int mx, rfl, rfl, .inl (.inl fB6), hat, p, mx, rfl, by omega, p6, fun z3 H7 hz3 p7 e7 => ⟨_, rfl, by omega, by omega, ?_⟩⟩
        have e47 := (eB.d.tr e6).tr e7
        have f7 := e47 _ _ Lp f4
        have g7 := g4.up (Ex.rm e47.rm)
        refine for_by z3.toNat (fun i σ H' => ∃ y5 y6 y7, σ = [some (V.ref p), some (V.ref a), some (V.int kind), some (V.ref L), some (V.int (1 + z1)), y5, y6, y7] ∧ ExD p H H' ∧ Tap H' p ∧ ∃ (acc : List V) (ns : List (List Int)),
            H' L = some (.lst acc) ∧ DaAll K (rm (rm H' p) L) (ns.map dInts) acc ∧ ns.length = (([V.ref C] : List V).length : Nat) + i ∧ ∀ r ∈ ns, r ≠ [] ∧ (∀ t ∈ r, 0 ≤ t ∧ t < n) ∧ ascB ltIn r = true)
          ⟨_, _, _, rfl, e04.tr e47, p7, _, [[o0]], f7, g7, rfl, hns⟩ (fun i σ H' hi _ => hi) (fun σ H' _ => Nat.le_refl _) ?_ ?_
        · rintro i σ K1 x K2 hi ⟨y5, y6, y7, rfl, k1, t1, acc, ns, hL1, hA1, hl1, hr1⟩ ⟨rfl, rfl⟩
          have sA1 := ExD.l k1 nap sA
          have hal := hA1.len
          rw [List.length_map] at hal
          refine ⟨_, rfl, a, rfl, ⟨_, sA1⟩, fun D hD => ?_⟩
          have Dp' := t1.off hD
          have DL : D ≠ L := fun e => by
            rw [e, hL1] at hD
            cases hD
          refine lc_by o.length (fun j H' => ExD p K2 H' ∧ Tap H' p ∧ ∃ (is : List Nat), H' D = some (.lst ((is.map fun k => o.getD k 0).map V.int)) ∧ is.Pairwise (· < ·) ∧ ∀ k ∈ is, k < j)
            ⟨ExD.nw hD, t1.put Dp'.symm, [], upd_same, List.Pairwise.nil, fun k hk => (by cases hk)⟩ (fun j H' hj pv => ?_) (fun H' pv => ?_) ?_ ?_
          · exact itl_go (ExD.l pv.1 nap sA1) Ex.rfl (by rw [List.length_map]; exact hj)
          · have := itl_stop (ExD.l pv.1 nap sA1) Ex.rfl
            rw [List.length_map] at this
            exact this
          · rintro j K3 x K4 hj ⟨k3, t3, is, hD3, hpw, hlt⟩ y
            obtain ⟨rfl, hx⟩ := itl_yld y (ExD.l k3 nap sA1) Ex.rfl
            obtain ⟨t, ht, rfl⟩ := map_at hx
            have isl : is.length ≤ j := by
              exact pw_len hpw hlt
            refine ⟨rfl, ?_⟩
            refine ⟨_, rfl, _, rfl, p, 1 + z1, rfl, by omega, t3, fun z4 K5 hz4 t5 k5 => ⟨rfl, _, rfl, ite2 (fun _ => ?_) (fun _ => ?_)⟩⟩
            · have hD5 := k5 _ _ Dp' hD3
              refine ⟨_, rfl, _, hD5, mil' (by rw [List.length_map, List.length_map]; omega), (k3.tr k5).wr hD, t5.put Dp'.symm, is ++ [j], ?_, ?_, ?_⟩
              · rw [upd_same, List.map_append, List.map_append]
                have e : o.getD j 0 = t := by rw [List.getD_eq_getElem?_getD, ht]; rfl
                simp only [List.map_cons, List.map_nil, e]
              · rw [List.pairwise_append]
                exact ⟨hpw, List.pairwise_singleton _ _, fun a ha b hb => by
                  obtain rfl := List.mem_singleton.mp hb
                  exact hlt a ha⟩
              · intro k hk
                rcases List.mem_append.mp hk with hk | hk
                · have := hlt k hk
                  omega
                · obtain rfl := List.mem_singleton.mp hk
                  omega
            · exact ⟨k3.tr k5, t5, is, k5 _ _ Dp' hD3, hpw, fun k hk => by have := hlt k hk; omega⟩
          · rintro K3 ⟨k3, t3, is, hD3, hpw, hlt⟩
            have isl : is.length ≤ o.length := pw_len hpw hlt
            have hnd : (is.map fun k => o.getD k 0).Nodup := by
              rw [List.nodup_iff_pairwise_ne, List.pairwise_map]
              refine hpw.imp_of_mem fun {x y} hx hy hxy he => ?_
              have gx := List.getElem?_eq_getElem (hlt x hx)
              have gy := List.getElem?_eq_getElem (hlt y hy)
              rw [List.getD_eq_getElem?_getD, gx, List.getD_eq_getElem?_getD, gy] at he
              simp only [Option.getD_some] at he
              exact nodup_at ho.nd gx gy (by omega) he
            have hmem : ∀ t ∈ is.map fun k => o.getD k 0, t ∈ o := fun t ht => by
              obtain ⟨k, hk, rfl⟩ := List.mem_map.mp ht
              have gk := List.getElem?_eq_getElem (hlt k hk)
              rw [List.getD_eq_getElem?_getD, gk]
              exact List.getElem_mem _
            have hsl : (is.map fun k => o.getD k 0).length ≤ 20 := by
              rw [List.length_map]
              omega
            generalize (is.map fun k => o.getD k 0) = some0 at hD3 hnd hmem hsl
            refine ⟨D, some0, rfl, .inl (.inl hD3), fun r S hperm hsort hS => ?_⟩
            have Sp := t3.off hS
            have hL3 := k3 _ _ Lp hL1
            have SL : S ≠ L := fun e => by
              rw [e, hL3] at hS
              cases hS
            have k4 : ExD p K2 (upd K3 S (.lst (r.map V.int))) := k3.tr (ExD.nw hS)
            have t4 := t3.up (Ex.nw (o := .lst (r.map V.int)) hS)
            have hS4 : (upd K3 S (.lst (r.map V.int))) S = some (.lst (r.map V.int)) := upd_same
            have hL4 : (upd K3 S (.lst (r.map V.int))) L = some (.lst acc) := by
              rw [upd_ne SL.symm]
              exact hL3
            generalize upd K3 S (.lst (r.map V.int)) = K4 at k4 t4 hS4 hL4
            have hasc := asc_sortedI hperm hsort hnd
            have hrl : r.length ≤ 20 := by
              rw [hperm.length_eq]
              exact hsl
            have hrin : ∀ t ∈ r, 0 ≤ t ∧ t < n := fun t ht => hin t (hmem t (hperm.mem_iff.mp ht))
            refine ⟨_, rfl, .inl ⟨rfl, _, .inl (.inl hL4)⟩, ?_⟩
            refine ⟨_, rfl, Nat.zero_le _, fun Z hZ => ?_⟩
            have eZ : Ex K4 (upd K4 Z (.lst [])) := Ex.nw hZ
            have dS : Da K (upd K4 Z (.lst [])) (dInts r) (.ref S) := dInts_of (eZ _ _ hS4) (by omega)
            have dZ : Da K (upd K4 Z (.lst [])) (dInts []) (.ref Z) := dInts_of (r := []) upd_same (by decide)
            have tZ := t4.up eZ
            generalize upd K4 Z (.lst []) = K5 at eZ dS dZ tZ
            refine ⟨_, _, dS.dInts, dZ.dInts, sh_dInts _, sh_dInts _, _, rfl, ?_⟩
            rw [eqv_dInts]
            have hL5 := eZ _ _ hL4
            have k5 := k4.tr eZ.d
            refine ite2 (fun h1 => ?_) (fun _ => ?_)
            · refine ⟨_, rfl, L, _, _, rfl, rfl, hL5, mil' (by omega), _, _, _, rfl, (k1.tr k5).wr HL, tZ.put Lp.symm, acc ++ [.ref S], ns ++ [r], upd_same, ?_, ?_, ?_⟩
              · rw [List.map_append]
                refine ((hA1.up (Ex.rm k5.rm)).up (ex_rm2 fun b o n1 n2 h => ?_)).app ⟨_, _, rfl, dInts_of ?_ (by omega), rfl⟩
                · rw [upd_ne n2]
                  exact h
                · rw [rm_ne SL, rm_ne Sp, upd_ne SL]
                  exact eZ _ _ hS4
              · rw [List.length_append, hl1]
                exact Nat.add_assoc _ _ _
              · intro s hs
                rcases List.mem_append.mp hs with hs | hs
                · exact hr1 s hs
                · obtain rfl := List.mem_singleton.mp hs
                  exact ⟨by simpa using h1, hrin, hasc⟩
            · have sA5 := ExD.l (k1.tr k5) nap sA
              refine ⟨_, rfl, _, rfl, _, rfl, a, _, rfl, .inl sA5, p, _, rfl, by rw [List.length_map]; omega, tZ, fun z5 K6 hz5 t6 k6 => ?_⟩
              rw [List.length_map] at hz5
              have gz := List.getElem?_eq_getElem (show z5.toNat < o.length by omega)
              generalize o[z5.toNat] = t0 at gz
              refine ⟨a, _, z5, .int t0, rfl, rfl, ExD.l k6 nap sA5, atI_int hz5.1 (by rw [List.getElem?_map, gz]; rfl), by show 1 ≤ sizeLine; decide, fun S2 hS2 => ?_⟩
              have S2p := t6.off hS2
              have hL6 := k6 _ _ Lp hL5
              have S2L : S2 ≠ L := fun e => by
                rw [e, hL6] at hS2
                cases hS2
              have k7 : ExD p K2 (upd K6 S2 (.lst [.int t0])) := (k5.tr k6).tr (ExD.nw hS2)
              have t7 := t6.up (Ex.nw (o := .lst [.int t0]) hS2)
              have hS7 : (upd K6 S2 (.lst [.int t0])) S2 = some (.lst [.int t0]) := upd_same
              have hL7 : (upd K6 S2 (.lst [.int t0])) L = some (.lst acc) := by
                rw [upd_ne S2L.symm]
                exact hL6
              generalize upd K6 S2 (.lst [.int t0]) = K7 at k7 t7 hS7 hL7
              refine ⟨L, _, _, rfl, rfl, hL7, mil' (by omega), _, _, _, rfl, (k1.tr k7).wr HL, t7.put Lp.symm, acc ++ [.ref S2], ns ++ [[t0]], upd_same, ?_, ?_, ?_⟩
              · rw [List.map_append]
                refine ((hA1.up (Ex.rm k7.rm)).up (ex_rm2 fun b o n1 n2 h => ?_)).app ⟨_, _, rfl, dInts_of (r := [t0]) ?_ (by show 1 ≤ 100000; decide), rfl⟩
                · rw [upd_ne n2]
                  exact h
                · rw [rm_ne S2L, rm_ne S2p, upd_ne S2L]
                  exact hS7
              · rw [List.length_append, hl1]
                exact Nat.add_assoc _ _ _
              · intro s hs
                rcases List.mem_append.mp hs with hs | hs
                · exact hr1 s hs
                · obtain rfl := List.mem_singleton.mp hs
                  exact ⟨by simp, fun t ht => by
                    obtain rfl := List.mem_singleton.mp ht
                    exact hin _ (List.mem_of_getElem? gz), rfl⟩
        · rintro σ K1 ⟨y5, y6, y7, rfl, k1, t1, acc, ns, hL1, hA1, hl1, hr1⟩
          exact ⟨_, rfl, q L acc ns K1 HL k1 t1 hL1 (hA1.up rm_ex) (by omega) hr1⟩
      · refine ⟨Nat.zero_le _, fun L hL => ?_⟩
        have Lp := p1.off hL
        have HL : H L = none := Purse.fr e1 p1 hL
        have e3 : ExD p H (upd H1 L (.lst [])) := e1.tr (ExD.nw hL)
        have p3 := p1.up (Ex.nw (o := .lst []) hL)
        have f3 : (upd H1 L (.lst [])) L = some (.lst []) := upd_same
        generalize upd H1 L (.lst []) = H3 at e3 p3 f3
        have g3 : DaAll K (rm (rm H3 p) L) (([] : List (List Int)).map dInts) [] := rfl
        have hns : ∀ r ∈ ([] : List (List Int)), r ≠ [] ∧ (∀ t ∈ r, 0 ≤ t ∧ t < n) ∧ ascB ltIn r = true := fun r hr => by cases hr
        have hnl : ([] : List (List Int)).length ≤ 1 := Nat.zero_le 1
        have hle : (([] : List V).length : Nat) = 0 := rfl
        refine ⟨_, rfl, p, 4, rfl, by decide, p3, fun z1 H4 hz1 p4 e4 => ⟨_, _, rfl, rfl, ?_⟩⟩
        have f4 := e4 _ _ Lp f3
        have g4 := g3.up (Ex.rm e4.rm)
        have e04 := e3.tr e4
        -- how many more
        refine ⟨_, rfl, _, rfl, L, _, rfl, .inl (.inl (.inl f4)), _, _, rfl, rfl, by show 3 ≤ sizeLine; decide, fun B hB => ?_⟩
        have Bp := p4.off hB
        have eB : Ex H4 (upd H4 B (.lst [.int 2, .int 4, .int (9 - ((([] : List V).length : Nat) : Int))])) := Ex.nw hB
        have fB : (upd H4 B (.lst [.int 2, .int 4, .int (9 - ((([] : List V).length : Nat) : Int))])) B = some (.lst [.int 2, .int 4, .int (9 - ((([] : List V).length : Nat) : Int))]) := upd_same
        have pB := p4.up eB
        generalize upd H4 B (.lst [.int 2, .int 4, .int (9 - ((([] : List V).length : Nat) : Int))]) = H5 at eB fB pB
        refine ⟨_, rfl, p, 3, rfl, by decide, pB, fun z2 H6 hz2 p6 e6 => ?_⟩
        have fB6 := e6 _ _ Bp fB
        obtain ⟨mx, hmx, hat⟩ : ∃ mx : Int, (1 ≤ mx ∧ mx ≤ 9 - ((([] : List V).length : Nat) : Int)) ∧ atI [V.int 2, V.int 4, V.int (9 - ((([] : List V).length : Nat) : Int))] z2 = some (.int mx) := by
          rcases (show z2 = 0 ∨ z2 = 1 ∨ z2 = 2 by omega) with rfl | rfl | rfl
          · exact ⟨2, ⟨by decide, (by decide : (2 : Int) ≤ 9 - ((0 : Nat) : Int))⟩, rfl⟩
          · exact ⟨4, ⟨by decide, (by decide : (4 : Int) ≤ 9 - ((0 : Nat) : Int))⟩, rfl⟩
          · exact ⟨9 - ((([] : List V).length : Nat) : Int), ⟨(by decide : (1 : Int) ≤ 9 - ((0 : Nat) : Int)), Int.le_refl _⟩, rfl⟩
        refine ⟨B, _, z2, .int mx, rfl, rfl, .inl (.inl fB6), hat, p, mx, rfl, by omega, p6, fun z3 H7 hz3 p7 e7 => ⟨_, rfl, by omega, by omega, ?_⟩⟩
        have e47 := (eB.d.tr e6).tr e7
        have f7 := e47 _ _ Lp f4
        have g7 := g4.up (Ex.rm e47.rm)
        refine for_by z3.toNat (fun i σ H' => ∃ y5 y6 y7, σ = [some (V.ref p), some (V.ref a), some (V.int kind), some (V.ref L), some (V.int (1 + z1)), y5, y6, y7] ∧ ExD p H H' ∧ Tap H' p ∧ ∃ (acc : List V) (ns : List (List Int)),
            H' L = some (.lst acc) ∧ DaAll K (rm (rm H' p) L) (ns.map dInts) acc ∧ ns.length = (([] : List V).length : Nat) + i ∧ ∀ r ∈ ns, r ≠ [] ∧ (∀ t ∈ r, 0 ≤ t ∧ t < n) ∧ ascB ltIn r = true)
          ⟨_, _, _, rfl, e04.tr e47, p7, _, [], f7, g7, rfl, hns⟩ (fun i σ H' hi _ => hi) (fun σ H' _ => Nat.le_refl _) ?_ ?_
        · rintro i σ K1 x K2 hi ⟨y5, y6, y7, rfl, k1, t1, acc, ns, hL1, hA1, hl1, hr1⟩ ⟨rfl, rfl⟩
          have sA1 := ExD.l k1 nap sA
          have hal := hA1.len
          rw [List.length_map] at hal
          refine ⟨_, rfl, a, rfl, ⟨_, sA1⟩, fun D hD => ?_⟩
          have Dp' := t1.off hD
          have DL : D ≠ L := fun e => by
            rw [e, hL1] at hD
            cases hD
          refine lc_by o.length (fun j H' => ExD p K2 H' ∧ Tap H' p ∧ ∃ (is : List Nat), H' D = some (.lst ((is.map fun k => o.getD k 0).map V.int)) ∧ is.Pairwise (· < ·) ∧ ∀ k ∈ is, k < j)
            ⟨ExD.nw hD, t1.put Dp'.symm, [], upd_same, List.Pairwise.nil, fun k hk => (by cases hk)⟩ (fun j H' hj pv => ?_) (fun H' pv => ?_) ?_ ?_
          · exact itl_go (ExD.l pv.1 nap sA1) Ex.rfl (by rw [List.length_map]; exact hj)
          · have := itl_stop (ExD.l pv.1 nap sA1) Ex.rfl
            rw [List.length_map] at this
            exact this
          · rintro j K3 x K4 hj ⟨k3, t3, is, hD3, hpw, hlt⟩ y
            obtain ⟨rfl, hx⟩ := itl_yld y (ExD.l k3 nap sA1) Ex.rfl
            obtain ⟨t, ht, rfl⟩ := map_at hx
            have isl : is.length ≤ j := by
              exact pw_len hpw hlt
            refine ⟨rfl, ?_⟩
            refine ⟨_, rfl, _, rfl, p, 1 + z1, rfl, by omega, t3, fun z4 K5 hz4 t5 k5 => ⟨rfl, _, rfl, ite2 (fun _ => ?_) (fun _ => ?_)⟩⟩
            · have hD5 := k5 _ _ Dp' hD3
              refine ⟨_, rfl, _, hD5, mil' (by rw [List.length_map, List.length_map]; omega), (k3.tr k5).wr hD, t5.put Dp'.symm, is ++ [j], ?_, ?_, ?_⟩
              · rw [upd_same, List.map_append, List.map_append]
                have e : o.getD j 0 = t := by rw [List.getD_eq_getElem?_getD, ht]; rfl
                simp only [List.map_cons, List.map_nil, e]
              · rw [List.pairwise_append]
                exact ⟨hpw, List.pairwise_singleton _ _, fun a ha b hb => by
                  obtain rfl := List.mem_singleton.mp hb
                  exact hlt a ha⟩
              · intro k hk
                rcases List.mem_append.mp hk with hk | hk
                · have := hlt k hk
                  omega
                · obtain rfl := List.mem_singleton.mp hk
                  omega
            · exact ⟨k3.tr k5, t5, is, k5 _ _ Dp' hD3, hpw, fun k hk => by have := hlt k hk; omega⟩
          · rintro K3 ⟨k3, t3, is, hD3, hpw, hlt⟩
            have isl : is.length ≤ o.length := pw_len hpw hlt
            have hnd : (is.map fun k => o.getD k 0).Nodup := by
              rw [List.nodup_iff_pairwise_ne, List.pairwise_map]
              refine hpw.imp_of_mem fun {x y} hx hy hxy he => ?_
              have gx := List.getElem?_eq_getElem (hlt x hx)
              have gy := List.getElem?_eq_getElem (hlt y hy)
              rw [List.getD_eq_getElem?_getD, gx, List.getD_eq_getElem?_getD, gy] at he
              simp only [Option.getD_some] at he
              exact nodup_at ho.nd gx gy (by omega) he
            have hmem : ∀ t ∈ is.map fun k => o.getD k 0, t ∈ o := fun t ht => by
              obtain ⟨k, hk, rfl⟩ := List.mem_map.mp ht
              have gk := List.getElem?_eq_getElem (hlt k hk)
              rw [List.getD_eq_getElem?_getD, gk]
              exact List.getElem_mem _
            have hsl : (is.map fun k => o.getD k 0).length ≤ 20 := by
              rw [List.length_map]
              omega
            generalize (is.map fun k => o.getD k 0) = some0 at hD3 hnd hmem hsl
            refine ⟨D, some0, rfl, .inl (.inl hD3), fun r S hperm hsort hS => ?_⟩
            have Sp := t3.off hS
            have hL3 := k3 _ _ Lp hL1
            have SL : S ≠ L := fun e => by
              rw [e, hL3] at hS
              cases hS
            have k4 : ExD p K2 (upd K3 S (.lst (r.map V.int))) := k3.tr (ExD.nw hS)
            have t4 := t3.up (Ex.nw (o := .lst (r.map V.int)) hS)
            have hS4 : (upd K3 S (.lst (r.map V.int))) S = some (.lst (r.map V.int)) := upd_same
            have hL4 : (upd K3 S (.lst (r.map V.int))) L = some (.lst acc) := by
              rw [upd_ne SL.symm]
              exact hL3
            generalize upd K3 S (.lst (r.map V.int)) = K4 at k4 t4 hS4 hL4
            have hasc := asc_sortedI hperm hsort hnd
            have hrl : r.length ≤ 20 := by
              rw [hperm.length_eq]
              exact hsl
            have hrin : ∀ t ∈ r, 0 ≤ t ∧ t < n := fun t ht => hin t (hmem t (hperm.mem_iff.mp ht))
            refine ⟨_, rfl, .inl ⟨rfl, _, .inl (.inl hL4)⟩, ?_⟩
            refine ⟨_, rfl, Nat.zero_le _, fun Z hZ => ?_⟩
            have eZ : Ex K4 (upd K4 Z (.lst [])) := Ex.nw hZ
            have dS : Da K (upd K4 Z (.lst [])) (dInts r) (.ref S) := dInts_of (eZ _ _ hS4) (by omega)
            have dZ : Da K (upd K4 Z (.lst [])) (dInts []) (.ref Z) := dInts_of (r := []) upd_same (by decide)
            have tZ := t4.up eZ
            generalize upd K4 Z (.lst []) = K5 at eZ dS dZ tZ
            refine ⟨_, _, dS.dInts, dZ.dInts, sh_dInts _, sh_dInts _, _, rfl, ?_⟩
            rw [eqv_dInts]
            have hL5 := eZ _ _ hL4
            have k5 := k4.tr eZ.d
            refine ite2 (fun h1 => ?_) (fun _ => ?_)
            · refine ⟨_, rfl, L, _, _, rfl, rfl, hL5, mil' (by omega), _, _, _, rfl, (k1.tr k5).wr HL, tZ.put Lp.symm, acc ++ [.ref S], ns ++ [r], upd_same, ?_, ?_, ?_⟩
              · rw [List.map_append]
                refine ((hA1.up (Ex.rm k5.rm)).up (ex_rm2 fun b o n1 n2 h => ?_)).app ⟨_, _, rfl, dInts_of ?_ (by omega), rfl⟩
                · rw [upd_ne n2]
                  exact h
                · rw [rm_ne SL, rm_ne Sp, upd_ne SL]
                  exact eZ _ _ hS4
              · rw [List.length_append, hl1]
                exact Nat.add_assoc _ _ _
              · intro s hs
                rcases List.mem_append.mp hs with hs | hs
                · exact hr1 s hs
                · obtain rfl := List.mem_singleton.mp hs
                  exact ⟨by simpa using h1, hrin, hasc⟩
            · have sA5 := ExD.l (k1.tr k5) nap sA
              refine ⟨_, rfl, _, rfl, _, rfl, a, _, rfl, .inl sA5, p, _, rfl, by rw [List.length_map]; omega, tZ, fun z5 K6 hz5 t6 k6 => ?_⟩
              rw [List.length_map] at hz5
              have gz := List.getElem?_eq_getElem (show z5.toNat < o.length by omega)
              generalize o[z5.toNat] = t0 at gz
              refine ⟨a, _, z5, .int t0, rfl, rfl, ExD.l k6 nap sA5, atI_int hz5.1 (by rw [List.getElem?_map, gz]; rfl), by show 1 ≤ sizeLine; decide, fun S2 hS2 => ?_⟩
              have S2p := t6.off hS2
              have hL6 := k6 _ _ Lp hL5
              have S2L : S2 ≠ L := fun e => by
                rw [e, hL6] at hS2
                cases hS2
              have k7 : ExD p K2 (upd K6 S2 (.lst [.int t0])) := (k5.tr k6).tr (ExD.nw hS2)
              have t7 := t6.up (Ex.nw (o := .lst [.int t0]) hS2)
              have hS7 : (upd K6 S2 (.lst [.int t0])) S2 = some (.lst [.int t0]) := upd_same
              have hL7 : (upd K6 S2 (.lst [.int t0])) L = some (.lst acc) := by
                rw [upd_ne S2L.symm]
                exact hL6
              generalize upd K6 S2 (.lst [.int t0]) = K7 at k7 t7 hS7 hL7
              refine ⟨L, _, _, rfl, rfl, hL7, mil' (by omega), _, _, _, rfl, (k1.tr k7).wr HL, t7.put Lp.symm, acc ++ [.ref S2], ns ++ [[t0]], upd_same, ?_, ?_, ?_⟩
              · rw [List.map_append]
                refine ((hA1.up (Ex.rm k7.rm)).up (ex_rm2 fun b o n1 n2 h => ?_)).app ⟨_, _, rfl, dInts_of (r := [t0]) ?_ (by show 1 ≤ 100000; decide), rfl⟩
                · rw [upd_ne n2]
                  exact h
                · rw [rm_ne S2L, rm_ne S2p, upd_ne S2L]
                  exact hS7
              · rw [List.length_append, hl1]
                exact Nat.add_assoc _ _ _
              · intro s hs
                rcases List.mem_append.mp hs with hs | hs
                · exact hr1 s hs
                · obtain rfl := List.mem_singleton.mp hs
                  exact ⟨by simp, fun t ht => by
                    obtain rfl := List.mem_singleton.mp ht
                    exact hin _ (List.mem_of_getElem? gz), rfl⟩
        · rintro σ K1 ⟨y5, y6, y7, rfl, k1, t1, acc, ns, hL1, hA1, hl1, hr1⟩
          exact ⟨_, rfl, q L acc ns K1 HL k1 t1 hL1 (hA1.up rm_ex) (by omega) hr1⟩
    · refine ⟨Nat.zero_le _, fun L hL => ?_⟩
      have Lp := hp.off hL
      have HL : H L = none := hL
      have e3 : ExD p H (upd H L (.lst [])) := ExD.nw hL
      have p3 := hp.up (Ex.nw (o := .lst []) hL)
      have f3 : (upd H L (.lst [])) L = some (.lst []) := upd_same
      generalize upd H L (.lst []) = H3 at e3 p3 f3
      have g3 : DaAll K (rm (rm H3 p) L) (([] : List (List Int)).map dInts) [] := rfl
      have hns : ∀ r ∈ ([] : List (List Int)), r ≠ [] ∧ (∀ t ∈ r, 0 ≤ t ∧ t < n) ∧ ascB ltIn r = true := fun r hr => by cases hr
      have hnl : ([] : List (List Int)).length ≤ 1 := Nat.zero_le 1
      have hle : (([] : List V).length : Nat) = 0 := rfl
      refine ⟨_, rfl, p, 4, rfl, by decide, p3, fun z1 H4 hz1 p4 e4 => ⟨_, _, rfl, rfl, ?_⟩⟩
      have f4 := e4 _ _ Lp f3
      have g4 := g3.up (Ex.rm e4.rm)
      have e04 := e3.tr e4
      -- how many more
      refine ⟨_, rfl, _, rfl, L, _, rfl, .inl (.inl (.inl f4)), _, _, rfl, rfl, by show 3 ≤ sizeLine; decide, fun B hB => ?_⟩
      have Bp := p4.off hB
      have eB : Ex H4 (upd H4 B (.lst [.int 2, .int 4, .int (9 - ((([] : List V).length : Nat) : Int))])) := Ex.nw hB
      have fB : (upd H4 B (.lst [.int 2, .int 4, .int (9 - ((([] : List V).length : Nat) : Int))])) B = some (.lst [.int 2, .int 4, .int (9 - ((([] : List V).length : Nat) : Int))]) := upd_same
      have pB := p4.up eB
      generalize upd H4 B (.lst [.int 2, .int 4, .int (9 - ((([] : List V).length : Nat) : Int))]) = H5 at eB fB pB
      refine ⟨_, rfl, p, 3, rfl, by decide, pB, fun z2 H6 hz2 p6 e6 => ?_⟩
      have fB6 := e6 _ _ Bp fB
      obtain ⟨mx, hmx, hat⟩ : ∃ mx : Int, (1 ≤ mx ∧ mx ≤ 9 - ((([] : List V).length : Nat) : Int)) ∧ atI [V.int 2, V.int 4, V.int (9 - ((([] : List V).length : Nat) : Int))] z2 = some (.int mx) := by
        rcases (show z2 = 0 ∨ z2 = 1 ∨ z2 = 2 by omega) with rfl | rfl | rfl
        · exact ⟨2, ⟨by decide, (by decide : (2 : Int) ≤ 9 - ((0 : Nat) : Int))⟩, rfl⟩
        · exact ⟨4, ⟨by decide, (by decide : (4 : Int) ≤ 9 - ((0 : Nat) : Int))⟩, rfl⟩
        · exact ⟨9 - ((([] : List V).length : Nat) : Int), ⟨(by decide : (1 : Int) ≤ 9 - ((0 : Nat) : Int)), Int.le_refl _⟩, rfl⟩
      refine ⟨B, _, z2, .int mx, rfl, rfl, .inl (.inl fB6), hat, p, mx, rfl, by omega, p6, fun z3 H7 hz3 p7 e7 => ⟨_, rfl, by omega, by omega, ?_⟩⟩
      have e47 := (eB.d.tr e6).tr e7
      have f7 := e47 _ _ Lp f4
      have g7 := g4.up (Ex.rm e47.rm)
      refine for_by z3.toNat (fun i σ H' => ∃ y5 y6 y7, σ = [some (V.ref p), some (V.ref a), some (V.int kind), some (V.ref L), some (V.int (1 + z1)), y5, y6, y7] ∧ ExD p H H' ∧ Tap H' p ∧ ∃ (acc : List V) (ns : List (List Int)),
          H' L = some (.lst acc) ∧ DaAll K (rm (rm H' p) L) (ns.map dInts) acc ∧ ns.length = (([] : List V).length : Nat) + i ∧ ∀ r ∈ ns, r ≠ [] ∧ (∀ t ∈ r, 0 ≤ t ∧ t < n) ∧ ascB ltIn r = true)
        ⟨_, _, _, rfl, e04.tr e47, p7, _, [], f7, g7, rfl, hns⟩ (fun i σ H' hi _ => hi) (fun σ H' _ => Nat.le_refl _) ?_ ?_
      · rintro i σ K1 x K2 hi ⟨y5, y6, y7, rfl, k1, t1, acc, ns, hL1, hA1, hl1, hr1⟩ ⟨rfl, rfl⟩
        have sA1 := ExD.l k1 nap sA
        have hal := hA1.len
        rw [List.length_map] at hal
        refine ⟨_, rfl, a, rfl, ⟨_, sA1⟩, fun D hD => ?_⟩
        have Dp' := t1.off hD
        have DL : D ≠ L := fun e => by
          rw [e, hL1] at hD
          cases hD
        refine lc_by o.length (fun j H' => ExD p K2 H' ∧ Tap H' p ∧ ∃ (is : List Nat), H' D = some (.lst ((is.map fun k => o.getD k 0).map V.int)) ∧ is.Pairwise (· < ·) ∧ ∀ k ∈ is, k < j)
          ⟨ExD.nw hD, t1.put Dp'.symm, [], upd_same, List.Pairwise.nil, fun k hk => (by cases hk)⟩ (fun j H' hj pv => ?_) (fun H' pv => ?_) ?_ ?_
        · exact itl_go (ExD.l pv.1 nap sA1) Ex.rfl (by rw [List.length_map]; exact hj)
        · have := itl_stop (ExD.l pv.1 nap sA1) Ex.rfl
          rw [List.length_map] at this
          exact this
        · rintro j K3 x K4 hj ⟨k3, t3, is, hD3, hpw, hlt⟩ y
          obtain ⟨rfl, hx⟩ := itl_yld y (ExD.l k3 nap sA1) Ex.rfl
          obtain ⟨t, ht, rfl⟩ := map_at hx
          have isl : is.length ≤ j := by
            exact pw_len hpw hlt
          refine ⟨rfl, ?_⟩
          refine ⟨_, rfl, _, rfl, p, 1 + z1, rfl, by omega, t3, fun z4 K5 hz4 t5 k5 => ⟨rfl, _, rfl, ite2 (fun _ => ?_) (fun _ => ?_)⟩⟩
          · have hD5 := k5 _ _ Dp' hD3
            refine ⟨_, rfl, _, hD5, mil' (by rw [List.length_map, List.length_map]; omega), (k3.tr k5).wr hD, t5.put Dp'.symm, is ++ [j], ?_, ?_, ?_⟩
            · rw [upd_same, List.map_append, List.map_append]
              have e : o.getD j 0 = t := by rw [List.getD_eq_getElem?_getD, ht]; rfl
              simp only [List.map_cons, List.map_nil, e]
            · rw [List.pairwise_append]
              exact ⟨hpw, List.pairwise_singleton _ _, fun a ha b hb => by
                obtain rfl := List.mem_singleton.mp hb
                exact hlt a ha⟩
            · intro k hk
              rcases List.mem_append.mp hk with hk | hk
              · have := hlt k hk
                omega
              · obtain rfl := List.mem_singleton.mp hk
                omega
          · exact ⟨k3.tr k5, t5, is, k5 _ _ Dp' hD3, hpw, fun k hk => by have := hlt k hk; omega⟩
        · rintro K3 ⟨k3, t3, is, hD3, hpw, hlt⟩
          have isl : is.length ≤ o.length := pw_len hpw hlt
          have hnd : (is.map fun k => o.getD k 0).Nodup := by
            rw [List.nodup_iff_pairwise_ne, List.pairwise_map]
            refine hpw.imp_of_mem fun {x y} hx hy hxy he => ?_
            have gx := List.getElem?_eq_getElem (hlt x hx)
            have gy := List.getElem?_eq_getElem (hlt y hy)
            rw [List.getD_eq_getElem?_getD, gx, List.getD_eq_getElem?_getD, gy] at he
            simp only [Option.getD_some] at he
            exact nodup_at ho.nd gx gy (by omega) he
          have hmem : ∀ t ∈ is.map fun k => o.getD k 0, t ∈ o := fun t ht => by
            obtain ⟨k, hk, rfl⟩ := List.mem_map.mp ht
            have gk := List.getElem?_eq_getElem (hlt k hk)
            rw [List.getD_eq_getElem?_getD, gk]
            exact List.getElem_mem _
          have hsl : (is.map fun k => o.getD k 0).length ≤ 20 := by
            rw [List.length_map]
            omega
          generalize (is.map fun k => o.getD k 0) = some0 at hD3 hnd hmem hsl
          refine ⟨D, some0, rfl, .inl (.inl hD3), fun r S hperm hsort hS => ?_⟩
          have Sp := t3.off hS
          have hL3 := k3 _ _ Lp hL1
          have SL : S ≠ L := fun e => by
            rw [e, hL3] at hS
            cases hS
          have k4 : ExD p K2 (upd K3 S (.lst (r.map V.int))) := k3.tr (ExD.nw hS)
          have t4 := t3.up (Ex.nw (o := .lst (r.map V.int)) hS)
          have hS4 : (upd K3 S (.lst (r.map V.int))) S = some (.lst (r.map V.int)) := upd_same
          have hL4 : (upd K3 S (.lst (r.map V.int))) L = some (.lst acc) := by
            rw [upd_ne SL.symm]
            exact hL3
          generalize upd K3 S (.lst (r.map V.int)) = K4 at k4 t4 hS4 hL4
          have hasc := asc_sortedI hperm hsort hnd
          have hrl : r.length ≤ 20 := by
            rw [hperm.length_eq]
            exact hsl
          have hrin : ∀ t ∈ r, 0 ≤ t ∧ t < n := fun t ht => hin t (hmem t (hperm.mem_iff.mp ht))
          refine ⟨_, rfl, .inl ⟨rfl, _, .inl (.inl hL4)⟩, ?_⟩
          refine ⟨_, rfl, Nat.zero_le _, fun Z hZ => ?_⟩
          have eZ : Ex K4 (upd K4 Z (.lst [])) := Ex.nw hZ
          have dS : Da K (upd K4 Z (.lst [])) (dInts r) (.ref S) := dInts_of (eZ _ _ hS4) (by omega)
          have dZ : Da K (upd K4 Z (.lst [])) (dInts []) (.ref Z) := dInts_of (r := []) upd_same (by decide)
          have tZ := t4.up eZ
          generalize upd K4 Z (.lst []) = K5 at eZ dS dZ tZ
          refine ⟨_, _, dS.dInts, dZ.dInts, sh_dInts _, sh_dInts _, _, rfl, ?_⟩
          rw [eqv_dInts]
          have hL5 := eZ _ _ hL4
          have k5 := k4.tr eZ.d
          refine ite2 (fun h1 => ?_) (fun _ => ?_)
          · refine ⟨_, rfl, L, _, _, rfl, rfl, hL5, mil' (by omega), _, _, _, rfl, (k1.tr k5).wr HL, tZ.put Lp.symm, acc ++ [.ref S], ns ++ [r], upd_same, ?_, ?_, ?_⟩
            · rw [List.map_append]
              refine ((hA1.up (Ex.rm k5.rm)).up (ex_rm2 fun b o n1 n2 h => ?_)).app ⟨_, _, rfl, dInts_of ?_ (by omega), rfl⟩
              · rw [upd_ne n2]
                exact h
              · rw [rm_ne SL, rm_ne Sp, upd_ne SL]
                exact eZ _ _ hS4
            · rw [List.length_append, hl1]
              exact Nat.add_assoc _ _ _
            · intro s hs
              rcases List.mem_append.mp hs with hs | hs
              · exact hr1 s hs
              · obtain rfl := List.mem_singleton.mp hs
                exact ⟨by simpa using h1, hrin, hasc⟩
          · have sA5 := ExD.l (k1.tr k5) nap sA
            refine ⟨_, rfl, _, rfl, _, rfl, a, _, rfl, .inl sA5, p, _, rfl, by rw [List.length_map]; omega, tZ, fun z5 K6 hz5 t6 k6 => ?_⟩
            rw [List.length_map] at hz5
            have gz := List.getElem?_eq_getElem (show z5.toNat < o.length by omega)
            generalize o[z5.toNat] = t0 at gz
            refine ⟨a, _, z5, .int t0, rfl, rfl, ExD.l k6 nap sA5, atI_int hz5.1 (by rw [List.getElem?_map, gz]; rfl), by show 1 ≤ sizeLine; decide, fun S2 hS2 => ?_⟩
            have S2p := t6.off hS2
            have hL6 := k6 _ _ Lp hL5
            have S2L : S2 ≠ L := fun e => by
              rw [e, hL6] at hS2
              cases hS2
            have k7 : ExD p K2 (upd K6 S2 (.lst [.int t0])) := (k5.tr k6).tr (ExD.nw hS2)
            have t7 := t6.up (Ex.nw (o := .lst [.int t0]) hS2)
            have hS7 : (upd K6 S2 (.lst [.int t0])) S2 = some (.lst [.int t0]) := upd_same
            have hL7 : (upd K6 S2 (.lst [.int t0])) L = some (.lst acc) := by
              rw [upd_ne S2L.symm]
              exact hL6
            generalize upd K6 S2 (.lst [.int t0]) = K7 at k7 t7 hS7 hL7
            refine ⟨L, _, _, rfl, rfl, hL7, mil' (by omega), _, _, _, rfl, (k1.tr k7).wr HL, t7.put Lp.symm, acc ++ [.ref S2], ns ++ [[t0]], upd_same, ?_, ?_, ?_⟩
            · rw [List.map_append]
              refine ((hA1.up (Ex.rm k7.rm)).up (ex_rm2 fun b o n1 n2 h => ?_)).app ⟨_, _, rfl, dInts_of (r := [t0]) ?_ (by show 1 ≤ 100000; decide), rfl⟩
              · rw [upd_ne n2]
                exact h
              · rw [rm_ne S2L, rm_ne S2p, upd_ne S2L]
                exact hS7
            · rw [List.length_append, hl1]
              exact Nat.add_assoc _ _ _
            · intro s hs
              rcases List.mem_append.mp hs with hs | hs
              · exact hr1 s hs
              · obtain rfl := List.mem_singleton.mp hs
                exact ⟨by simp, fun t ht => by
                  obtain rfl := List.mem_singleton.mp ht
                  exact hin _ (List.mem_of_getElem? gz), rfl⟩
      · rintro σ K1 ⟨y5, y6, y7, rfl, k1, t1, acc, ns, hL1, hA1, hl1, hr1⟩
        exact ⟨_, rfl, q L acc ns K1 HL k1 t1 hL1 (hA1.up rm_ex) (by omega) hr1⟩
end

/-! _law_web: slots 0 _law_tap_here, 1 _law_size, 2 _law_order_here, 3 _law_kind -/
abbrev s_web : Stmt := topS 40
abbrev N_web : List Str := ["_law_tap_here", "_law_size", "_law_order_here", "_law_kind"]
abbrev P_web : List Str := ["_law_tap_here", "_law_size"]
theorem sc_web : FnScope N_web P_web (defScope s_web) := ⟨rfl, rfl, rfl, by decide +kernel, rfl, by decide +kernel, by decide +kernel⟩
/-- some web, off the tap -/
def sp_web (K : PySem.W.Frag) : Sp := fun vs H Q _ => ∃ (p : Addr) (size : Int), vs = [.ref p, .int size] ∧ (1 ≤ size ∧ size ≤ 20) ∧ Tap H p ∧
  ∀ (v : V) (u : Wb) H', ExD p H H' → Tap H' p → Da K (rm H' p) u.d v → u.Ok → u.n ≤ size → Q v H'
section
variable {P : Program} {w : World} {K : PySem.W.Frag} {mg : Str → Option Value} {base : Heap}
theorem ok_web {f : Addr} {fd : FuncData} (T : Txt K mg) (F : Fun K "_law_web" "_law_web" s_web f fd)
    (D_draw : DefOk P w K mg base CX0 1 "_law_draw" P_draw (sp_draw K))
    (D_order : DefOk P w K mg base CX0 2 "_law_order" P_order (sp_order K))
    (D_pairs : DefOk P w K mg base CX0 2 "_law_pairs" P_pairs (sp_pairs K))
    (D_nudges : DefOk P w K mg base CX0 2 "_law_nudges" P_nudges (sp_nudges K)) :
    FnG P w K mg base CX0 3 f fd P_web (sp_web K) := by
  refine okG0 F sc_web (fun vs H Q E h => ?_) (fun cdv A outer s H vs Q E hr hq h => ?_)
  · obtain ⟨p, size, rfl, _⟩ := h
    rfl
  · obtain ⟨p, size, rfl, hs, hp, q⟩ := h
    refine ⟨_, (pss_cons (ps_par (i := 2) (j := 3) (by rfl) sc_web.nd rfl rfl (by decide) rfl rfl (pa_cons (pe_callD D_order (hr.mono (by decide)) hq pass0 (pa_cons (pv 0) (pa_cons (pe_op op_add pe_int (pe_callD D_draw (hr.mono (by decide)) hq pass0 (pa_cons (pv 0) (pa_cons (pv 1) pa_nil)))) pa_nil))) (pa_cons (pe_callD D_draw (hr.mono (by decide)) hq pass0 (pa_cons (pv 0) (pa_cons pe_int pa_nil))) pa_nil)) (by rfl))
      (pss_one (ps_ret (pe_tup (pa_cons (pe_callB (call_lenK K) (by rfl) T.b_len bt_len (pa_cons (pv 2) pa_nil)) (pa_cons (pe_callD D_pairs (hr.mono (by decide)) hq pass0 (pa_cons (pv 0) (pa_cons (pv 2) (pa_cons (pv 3) pa_nil)))) (pa_cons (pe_callD D_nudges (hr.mono (by decide)) hq pass0 (pa_cons (pv 0) (pa_cons (pv 2) (pa_cons (pv 3) pa_nil)))) pa_nil))))))), ?_⟩
    refine ⟨_, rfl, _, rfl, _, rfl, p, size, rfl, by omega, hp, fun z1 H1 hz1 p1 e1 => ⟨_, _, rfl, rfl, ?_⟩⟩
    refine ⟨p, 1 + z1, rfl, by omega, p1, fun a o H2 hn2 e2 p2 ha ho => ?_⟩
    have ap := p1.off hn2
    have hol := ho.len
    refine ⟨_, rfl, p, 5, rfl, by decide, p2, fun kind H3 hk p3 e3 => ⟨_, _, rfl, ?_⟩⟩
    have ha3 := e3 _ _ ap ha
    refine ⟨_, rfl, a, _, rfl, .inl (.inl (.inl ha3)), ?_⟩
    refine ⟨_, rfl, _, rfl, _, rfl, p, a, o, 1 + z1, kind, rfl, ha3, ap, ho, by omega, p3, fun L xs ps H4 hL e4 p4 hL4 hA4 hps hpb hpl => ?_⟩
    have ha4 := e4 _ _ ap ha3
    have Lp := p3.off hL
    refine ⟨_, rfl, _, rfl, _, rfl, p, a, o, 1 + z1, kind, rfl, ha4, ap, ho, by omega, p4, fun M ys ns H5 hM e5 p5 hM5 hA5 hnl hns => ?_⟩
    have Mp := p4.off hM
    refine ⟨by show 3 ≤ sizeLine; decide, fun T hT => ?_⟩
    have Tp := p5.off hT
    have hL5 := e5 _ _ Lp hL4
    have TL : T ≠ L := fun e => by
      rw [e, hL5] at hT
      cases hT
    have TM : T ≠ M := fun e => by
      rw [e, hM5] at hT
      cases hT
    have hlen : (((o.map V.int).length : Nat) : Int) = 1 + z1 := by
      rw [List.length_map]
      omega
    rw [hlen]
    refine q (.ref T) ⟨1 + z1, ps, ns⟩ _ ((((e1.tr e2).tr e3).tr e4).tr (e5.tr (ExD.nw hT))) (p5.up (Ex.nw hT)) ?_ ?_ (by show 1 + z1 ≤ size; omega)
    · refine ⟨T, _, rfl, by rw [rm_ne Tp, upd_same], _, _, rfl, rfl, _, _, rfl, ⟨L, xs, rfl, ?_, ?_, ?_⟩, _, _, rfl, ⟨M, ys, rfl, ?_, ?_, ?_⟩, rfl⟩
      · rw [rm_ne Lp, upd_ne TL.symm]
        exact hL5
      · exact hA4.up (e5.rm.tr (Ex.nw hT).rm)
      · rw [List.length_map]
        show ps.length ≤ 100000
        omega
      · rw [rm_ne Mp, upd_ne TM.symm]
        exact hM5
      · exact hA5.up (Ex.nw hT).rm
      · rw [List.length_map]
        show ns.length ≤ 100000
        omega
    · exact ⟨by show 1 ≤ 1 + z1; omega, by show 1 + z1 ≤ 20; omega, hpb, hps, hnl, hns⟩
end

end K17
namespace K17
open PySem PySem.Spec PyProof.Rows L2 Nw
/-! _law_copy: slots 0 _law_web_here, 1 _law_some -/
abbrev s_copy : Stmt := topS 41
abbrev N_copy : List Str := ["_law_web_here", "_law_some"]
abbrev P_copy : List Str := ["_law_web_here"]
theorem sc_copy : FnScope N_copy P_copy (defScope s_copy) := ⟨rfl, rfl, rfl, by decide +kernel, rfl, by decide +kernel, by decide +kernel⟩
/-- a copy whose lists are new -/
def sp_copy (K : PySem.W.Frag) : Sp := fun vs H Q _ => ∃ v u, vs = [v] ∧ Da K H (Wb.d u) v ∧ u.Ok ∧
  ∀ T L1 L2 xs bs H', NewW K H H' u T L1 L2 xs bs → Q (.ref T) H'
section
variable {P : Program} {w : World} {K : PySem.W.Frag} {mg : Str → Option Value} {base : Heap}
theorem ok_copy {f : Addr} {fd : FuncData} (T : Txt K mg) (F : Fun K "_law_copy" "_law_copy" s_copy f fd) :
    FnG P w K mg base CX0 1 f fd P_copy (sp_copy K) := by
  refine okG0 F sc_copy (fun vs H Q E h => ?_) (fun cdv A outer s H vs Q E hr hq h => ?_)
  · obtain ⟨v, u, rfl, _⟩ := h
    rfl
  · obtain ⟨v, u, rfl, hd, hu, q⟩ := h
    obtain ⟨t, x2, x3, rfl, hS, g2, g3⟩ := Wb.at hd
    obtain ⟨a2, ys, rfl, hL2, hA2, hz2⟩ := g2
    obtain ⟨a, xs, rfl, hL, hA, hz⟩ := g3
    have hl := hA.len
    rw [List.length_map] at hl
    have b3 := hu.few
    refine ⟨_, (pss_one (ps_ret (pe_tup (pa_cons (pe_ix (ix_tupK K) (pv 0) pe_int (fun _ _ => rfl)) (pa_cons (pe_callTy (call_listK K) (by rfl) T.b_list bt_list (pa_cons (pe_ix (ix_tupK K) (pv 0) pe_int (fun _ _ => rfl)) pa_nil)) (pa_cons (pe_lc (own := [("_law_some", 1)]) rfl sc_copy.nd (pi_listK K (pe_ix (ix_tupK K) (pv 0) pe_int (fun _ _ => rfl))) (blkOk_by (N := N_copy) (sc := defScope s_copy) (by decide +kernel)) (fun _ _ _ _ _ => (pg_name (i := 1) sc_copy.nd rfl (by first | exact .inl rfl | exact .inr rfl))) (fun _ _ _ _ _ => pts_nil) (fun _ _ _ _ _ => (pe_callTy (call_listK K) (by rfl) T.b_list bt_list (pa_cons (pv 1) pa_nil)))) pa_nil)))))), ?_⟩
    refine ⟨_, rfl, t, _, 0, _, rfl, rfl, hS, rfl, ?_⟩
    refine ⟨_, rfl, t, _, 1, _, rfl, rfl, hS, rfl, a2, _, rfl, .inl (.inl (.inl hL2)), fun b hb => ?_⟩
    have e1 : Ex H (upd H b (.lst ys)) := Ex.nw hb
    have f1 : (upd H b (.lst ys)) b = some (.lst ys) := upd_same
    generalize upd H b (.lst ys) = H1 at e1 f1
    have hX : SqL K H1 a xs := .inl (.inl (e1 _ _ hL))
    refine ⟨_, rfl, t, _, 2, _, rfl, rfl, e1.t hS, rfl, a, rfl, ⟨_, hX⟩, fun D hD => ?_⟩
    refine lc_by xs.length (fun i H' => ∃ bs : List Addr, NewR H1 H' (u.ns.take i) D bs)
      ⟨[], NewR.nil hD⟩ (fun i H' hi p => (by obtain ⟨_, h1⟩ := p; exact itl_go hX h1.ex hi)) (fun H' p => (by obtain ⟨_, h1⟩ := p; exact itl_stop hX h1.ex)) ?_ ?_
    · rintro i H2 x H3 hi ⟨bs, R⟩ y
      obtain ⟨rfl, hx⟩ := itl_yld y hX R.ex
      obtain ⟨dr, hdr, hxd⟩ := hA.at' hx
      obtain ⟨r, hrr, rfl⟩ := map_at hdr
      obtain ⟨ar, rfl, hr0⟩ := dInts_at hxd
      have hr3 := (e1.tr R.ex).l hr0
      refine ⟨rfl, _, rfl, ar, _, rfl, .inl hr3, fun l hl' => ?_⟩
      have e4 : Ex H3 (upd H3 l (.lst (r.map V.int))) := Ex.nw hl'
      have f4 : (upd H3 l (.lst (r.map V.int))) l = some (.lst (r.map V.int)) := upd_same
      generalize upd H3 l (.lst (r.map V.int)) = H4 at e4 f4
      have hbl := R.len
      rw [List.length_take] at hbl
      refine ⟨_, e4 _ _ R.at_, mil' (by rw [List.length_map]; omega), bs ++ [l], ?_⟩
      rw [take_snoc hrr]
      exact R.snoc e4 hl' f4
    · rintro H2 ⟨bs, R⟩
      rw [← hl, List.take_length] at R
      refine ⟨by show 3 ≤ sizeLine; decide, fun T hT => ?_⟩
      have e3 : Ex H2 (upd H2 T (.tup [.int u.n, .ref b, .ref D])) := Ex.nw hT
      have f3 : (upd H2 T (.tup [.int u.n, .ref b, .ref D])) T = some (.tup [.int u.n, .ref b, .ref D]) := upd_same
      generalize upd H2 T (.tup [.int u.n, .ref b, .ref D]) = H3 at e3 f3
      refine q T b D ys bs H3 ⟨(e1.tr R.ex).tr e3, f3, hb, e3 _ _ (R.ex _ _ f1), hA2.up ((e1.tr R.ex).tr e3), e1.fr R.new, e3 _ _ R.at_, R.len, ?_, R.nd, ?_⟩
      · intro k b' hb'
        obtain ⟨n, r, h1, h2⟩ := R.row k b' hb'
        refine ⟨⟨e1.fr n.1, n.2, fun e => ?_⟩, r, h1, e3 _ _ h2⟩
        rw [← e, n.1] at f1
        cases f1
      · intro e
        rw [e, R.new] at f1
        cases f1
end

end K17
namespace K17
open PySem PySem.Spec PyProof.Rows L2 Nw
/-! single_nudges: slots 0 web, 1 count, 2 pairs, 3 nudges, 4 behind, 5 cut_off, 6 room, 7 paired, 8 acted_on, 9 source, 10 target, 11 found, 12 quantity, 13 missed -/
abbrev s_single_nudges : Stmt := topS 32
abbrev N_single_nudges : List Str := ["web", "count", "pairs", "nudges", "behind", "cut_off", "room", "paired", "acted_on", "source", "target", "found", "quantity", "missed"]
abbrev P_single_nudges : List Str := ["web"]
theorem sc_single_nudges : FnScope N_single_nudges P_single_nudges (defScope s_single_nudges) := ⟨rfl, rfl, rfl, by decide +kernel, rfl, by decide +kernel, by decide +kernel⟩
/-- a web with more nudges -/
def Wb.more (u : Wb) (rs : List (List Int)) : Wb := ⟨u.n, u.ps, u.ns ++ rs⟩
theorem more_wd {u : Wb} (hu : u.Ok) {rs : List (List Int)} (hl : rs.length ≤ 23) (h : ∀ r ∈ rs, (∀ t ∈ r, 0 ≤ t ∧ t < u.n) ∧ ascB ltIn r = true) : Wb.Wd (Wb.more u rs) := by
  refine ⟨hu.lo, hu.hi, hu.ps, hu.asc, ?_, fun r hr => ?_⟩
  · show (u.ns ++ rs).length ≤ 31
    rw [List.length_append]
    have := hu.few
    omega
  · rcases List.mem_append.mp hr with hr | hr
    · exact ⟨trivial, (hu.ns r hr).2⟩
    · exact ⟨trivial, h r hr⟩
section
open Classical
/-- a room that is not reached, by its first quantity -/
noncomputable def cutB (u : Wb) (r : List Int) : Bool := decide (¬ Rd u (r.headD 0))
/-- the first rooms that are cut off -/
noncomputable def cutOf (u : Wb) : List (List Int) := (firstOf u.ps u.n).filter (cutB u)
end
open Classical in
theorem cutB_iff {u : Wb} {r : List Int} : cutB u r = true ↔ ¬ Rd u (r.headD 0) := decide_eq_true_iff
theorem first_mem {u : Wb} {r : List Int} (h : r ∈ firstOf u.ps u.n) : r.head? = some (r.headD 0) ∧ (r.headD 0 ∈ r) ∧ (∃ a, (0 ≤ a ∧ a < u.n) ∧ r = roomOf u.ps u.n a) := by
  obtain ⟨a, ha, rfl⟩ := mem_rooms (List.mem_filter.mp h).1
  have h1 := room_self (ps := u.ps) ha
  refine ⟨?_, ?_, a, ha, rfl⟩
  · cases e : roomOf u.ps u.n a with
    | nil =>
      rw [e] at h1
      cases h1
    | cons x r => rfl
  · cases e : roomOf u.ps u.n a with
    | nil =>
      rw [e] at h1
      cases h1
    | cons x r => exact List.mem_cons_self
theorem first_len {u : Wb} : (firstOf u.ps u.n).length ≤ u.n.toNat := Nat.le_trans (List.length_filter_le _ _) roomsTo_len
theorem cut_len {u : Wb} : (cutOf u).length ≤ u.n.toNat := Nat.le_trans (List.length_filter_le _ _) first_len
theorem cut_mem {u : Wb} {r : List Int} (h : r ∈ cutOf u) : r ∈ firstOf u.ps u.n ∧ ¬ Rd u (r.headD 0) := by
  obtain ⟨h1, h2⟩ := List.mem_filter.mp h
  exact ⟨h1, cutB_iff.mp h2⟩
theorem cut_wd {u : Wb} (hu : u.Ok) : Wb.Wd (Wb.more u (cutOf u)) := by
  have b1 := hu.lo
  have b2 := hu.hi
  refine more_wd hu (by have := cut_len (u := u); omega) fun r hr => ?_
  obtain ⟨_, _, a, ha, rfl⟩ := first_mem (cut_mem hr).1
  exact ⟨fun t ht => (mem_room.mp ht).1, asc_room⟩
/-- the targets that old sources have in a pairing -/
def oldT (u : Wb) (ps : List (Int × Int)) : List Int := (ps.filter fun p => decide (p.1 < u.n + (u.ns.length : Int))).map (·.2)
def foundS (u : Wb) (ps : List (Int × Int)) : List Int := (iota u.n).filter fun q => !(oldT u ps).contains q
def missF (u : Wb) (ps : List (Int × Int)) (r : List Int) : Bool := !(r.any fun q => (foundS u ps).contains q)
noncomputable def missS (u : Wb) (ps : List (Int × Int)) : List Int := ((cutOf u).filter (missF u ps)).map fun r => r.headD 0
/-- what single nudges are told -/
def FewS (u : Wb) (S : List Int) : Prop := ∃ ps, Top (rowsU (Wb.more u (cutOf u))) u.n ps ∧ ps = tpU (Wb.more u (cutOf u)) ∧ S.Perm (foundS u ps ++ missS u ps) ∧ S.Pairwise (· ≤ ·)
theorem FewS.uniq {u : Wb} {S S' : List Int} (a : FewS u S) (b : FewS u S') : S = S' := by
  obtain ⟨ps, _, rfl, h1, h2⟩ := a
  obtain ⟨ps', _, rfl, h3, h4⟩ := b
  exact (h1.trans h3.symm).eq_of_pairwise (fun x y _ _ hx hy => Int.le_antisymm hx hy) h2 h4
theorem FewS.len {u : Wb} {S : List Int} (a : FewS u S) : S.length ≤ 2 * u.n.toNat := by
  obtain ⟨ps, _, _, h1, _⟩ := a
  rw [h1.length_eq, List.length_append]
  unfold foundS missS
  rw [List.length_map]
  have e1 := List.length_filter_le (fun q => !(oldT u ps).contains q) (iota u.n)
  have e2 := List.length_filter_le (missF u ps) (cutOf u)
  have e3 := cut_len (u := u)
  rw [List.length_map, List.length_range] at e1
  omega
def sp_single_nudges (K : PySem.W.Frag) : Sp := fun vs H Q _ => ∃ (v : V) (u : Wb), vs = [v] ∧ Da K H (Wb.d u) v ∧ u.Ok ∧ ∀ (p : Addr) (S : List Int) H', H p = none → Ex H H' → H' p = some (.lst (S.map V.int)) → FewS u S → Q (.ref p) H'
section
variable {P : Program} {w : World} {K : PySem.W.Frag} {mg : Str → Option Value} {base : Heap}
theorem ok_single_nudges {f : Addr} {fd : FuncData} (T : Txt K mg) (F : Fun K "single_nudges" "single_nudges" s_single_nudges f fd)
    (D_check_web : DefOk P w K mg base CX0 7 "check_web" P_check_web (sp_check_web K))
    (D_targets_of_paired : DefOk P w K mg base CX0 67 "targets_of_paired" P_targets_of_paired (sp_targets_of_paired K))
    (D_first_rooms : DefOk P w K mg base CX0 8 "first_rooms" P_first_rooms (sp_first_rooms K))
    (D_reached_quantities : DefOk P w K mg base CX0 3 "reached_quantities" P_reached_quantities (sp_reached_quantities K)) :
    FnG P w K mg base CX0 68 f fd P_single_nudges (sp_single_nudges K) := by
  refine okG0 F sc_single_nudges (fun vs H Q E h => ?_) (fun cdv A outer s H vs Q E hr hq h => ?_)
  · obtain ⟨v, u, rfl, _⟩ := h
    rfl
  · obtain ⟨v, u, rfl, hd, hu, q⟩ := h
    obtain ⟨tw, x2, x3, rfl, hS, g2, g3⟩ := Wb.at hd
    have b1 := hu.lo
    have b2 := hu.hi
    have b3 := hu.few
    refine ⟨_, (pss_cons (ps_expr (pe_callD D_check_web (hr.mono (by decide)) hq pass0 (pa_cons (pv 0) pa_nil)))
      (pss_cons (ps_asg (pv 0) (pg_tupK (n := 3) K rfl (pgs_cons (pg_name (i := 1) sc_single_nudges.nd rfl (by first | exact .inl rfl | exact .inr rfl)) (pgs_cons (pg_name (i := 2) sc_single_nudges.nd rfl (by first | exact .inl rfl | exact .inr rfl)) (pgs_cons (pg_name (i := 3) sc_single_nudges.nd rfl (by first | exact .inl rfl | exact .inr rfl)) pgs_nil)))))
      (pss_cons (ps_set (i := 4) sc_single_nudges.nd rfl (by first | exact .inl rfl | exact .inr rfl) (pe_callD D_reached_quantities (hr.mono (by decide)) hq pass0 (pa_cons (pv 0) pa_nil)))
      (pss_cons (ps_setLc (i := 5) (own := [("room", 6)]) rfl sc_single_nudges.nd rfl rfl (sw_true rfl rfl rfl (by decide +kernel)) (pi_listK K (pe_callD D_first_rooms (hr.mono (by decide)) hq pass0 (pa_cons (pv 0) pa_nil))) (blkOk_by (N := N_single_nudges) (sc := defScope s_single_nudges) (by decide +kernel)) (fun _ _ _ _ _ => (pg_name (i := 6) sc_single_nudges.nd rfl (by first | exact .inl rfl | exact .inr rfl))) (fun _ _ _ _ _ => (pts_one (pt_dNotIn hr (pe_ix (ix_listK K) (pv 6) pe_int (fun _ _ => rfl)) (pv 4)))) (fun _ _ _ _ _ => (pv 6)))
      (pss_cons (ps_set (i := 7) sc_single_nudges.nd rfl (by first | exact .inl rfl | exact .inr rfl) (pe_callD D_targets_of_paired (hr.mono (by decide)) hq pass0 (pa_cons (pe_tup (pa_cons (pv 1) (pa_cons (pv 2) (pa_cons (pe_op (op_catS K) (pv 3) (pv 5)) pa_nil)))) pa_nil)))
      (pss_cons (ps_set (i := 8) sc_single_nudges.nd rfl (by first | exact .inl rfl | exact .inr rfl) (pe_lock (pe_lc (own := [("source", 9), ("target", 10)]) rfl sc_single_nudges.nd (pi_items (pv 7)) (blkOk_by (N := N_single_nudges) (sc := defScope s_single_nudges) (by decide +kernel)) (fun _ _ _ _ _ => (pg_tupK (n := 2) K rfl (pgs_cons (pg_name (i := 9) sc_single_nudges.nd rfl (by first | exact .inl rfl | exact .inr rfl)) (pgs_cons (pg_name (i := 10) sc_single_nudges.nd rfl (by first | exact .inl rfl | exact .inr rfl)) pgs_nil)))) (fun _ _ _ _ _ => (pts_one (pt_cmpR op_lt (pv 9) (pe_op op_add (pv 1) (pe_callB (call_lenK K) (by rfl) T.b_len bt_len (pa_cons (pv 3) pa_nil))) (nomark _)))) (fun _ _ _ _ _ => (pv 10)))))
      (pss_cons (ps_set (i := 11) sc_single_nudges.nd rfl (by first | exact .inl rfl | exact .inr rfl) (pe_lc (own := [("quantity", 12)]) rfl sc_single_nudges.nd (pi_range1 (by rfl) T.b_range (pa_cons (pv 1) pa_nil)) (blkOk_by (N := N_single_nudges) (sc := defScope s_single_nudges) (by decide +kernel)) (fun _ _ _ _ _ => (pg_name (i := 12) sc_single_nudges.nd rfl (by first | exact .inl rfl | exact .inr rfl))) (fun _ _ _ _ _ => (pts_one (pt_cmpR (op_notInK K) (pv 12) (pv 8) (by rfl)))) (fun _ _ _ _ _ => (pv 12))))
      (pss_cons (ps_setLc (i := 13) (own := [("room", 6)]) rfl sc_single_nudges.nd rfl rfl (sw_true rfl rfl rfl (by decide +kernel)) (pi_listK K (pv 5)) (blkOk_by (N := N_single_nudges) (sc := defScope s_single_nudges) (by decide +kernel)) (fun _ _ _ _ _ => (pg_name (i := 6) sc_single_nudges.nd rfl (by first | exact .inl rfl | exact .inr rfl))) (fun _ _ _ _ _ => (pts_one (pt_not (pt_val (pe_callB (cr_anyK K rfl) (by rfl) T.b_any bt_any (pa_cons (pe_lc (own := [("quantity", 12)]) rfl sc_single_nudges.nd (pi_listK K (pv 6)) (blkOk_by (by kernel_rfl)) (fun _ _ _ _ _ => (pg_name (i := 12) sc_single_nudges.nd rfl (by first | exact .inl rfl | exact .inr rfl))) (fun _ _ _ _ _ => pts_nil) (fun _ _ _ _ _ => (pe_cmpR (op_inK K) (pv 12) (pv 11) (by rfl)))) pa_nil)))))) (fun _ _ _ _ _ => (pe_ix (ix_listK K) (pv 6) pe_int (fun _ _ => rfl))))
      (pss_one (ps_ret (pe_callB (cr_sortedIk K) (by rfl) T.b_sorted bt_sorted (pa_cons (pe_op (op_catS K) (pv 11) (pv 13)) pa_nil)))))))))))), ?_⟩
    refine ⟨_, rfl, _, _, rfl, hd, hu.web, fun H1 e1 => ?_⟩
    refine ⟨_, rfl, tw, _, rfl, e1.t hS, rfl, _, _, rfl, _, _, rfl, _, _, rfl, rfl, ?_⟩
    refine ⟨_, rfl, .ref tw, u, rfl, hd.up e1, hu, fun D vis H2 e2 hD nd hm => ?_⟩
    have e02 := e1.tr e2
    refine ⟨_, rfl, .ref tw, u, rfl, hd.up e02, hu, fun L bs H3 R => ⟨L, rfl, ⟨_, .inl (.inl R.at_)⟩, fun G hG => ?_⟩⟩
    have sL : SqL K H3 L (bs.map V.ref) := .inl (.inl R.at_)
    have hl := R.len
    have fl := first_len (u := u)
    generalize hfs : firstOf u.ps u.n = fs at R hl fl
    refine lc_by (bs.map V.ref).length (fun i H' => Ex H3 H' ∧ H' G = some (.lst ((((bs.zip fs).take i).filter fun z => cutB u z.2).map fun z => V.ref z.1)))
      ⟨Ex.nw hG, upd_same⟩ (fun i H' hi p => itl_go sL p.1 hi) (fun H' p => itl_stop sL p.1) ?_ ?_
    · rintro i H4 x H5 hi ⟨e4, hG4⟩ y
      obtain ⟨rfl, hx⟩ := itl_yld y sL e4
      obtain ⟨b, hb, rfl⟩ := map_at hx
      obtain ⟨_, r, hr1, hr2⟩ := R.row i b hb
      have hr5 := e4 _ _ hr2
      have hz : (bs.zip fs)[i]? = some (b, r) := List.getElem?_zip_eq_some.mpr ⟨hb, hr1⟩
      obtain ⟨fh, _, _⟩ := first_mem (u := u) (r := r) (by rw [hfs]; exact List.mem_of_getElem? hr1)
      have h0 : (r.map V.int)[0]? = some (.int (r.headD 0)) := by
        rw [List.getElem?_map, ← List.head?_eq_getElem?, fh]
        rfl
      refine ⟨rfl, _, rfl, b, _, 0, _, rfl, rfl, .inl (.inl hr5), atI_int (Int.le_refl _) h0, ?_⟩
      refine ⟨_, rfl, D, _, rfl, DGet.k (k := Sum.inl (r.headD 0)) ((R.ex.tr e4) _ _ hD), ?_⟩
      rw [visK_get]
      have hcut : cutB u r = !vis.contains (r.headD 0) := by
        rw [Bool.eq_iff_iff, cutB_iff, Bool.not_eq_true', ← Bool.not_eq_true, List.contains_iff_mem, hm]
      rw [← hcut, take_snoc hz, List.filter_append, List.map_append, List.filter_cons, List.filter_nil]
      refine ⟨_, rfl, ?_⟩
      refine ite2 (fun h => ?_) (fun h => ?_)
      · refine ⟨_, rfl, _, hG4, mil' ?_, e4.wr hG, ?_⟩
        · rw [List.length_map]
          have h1 := List.length_filter_le (fun z : Addr × List Int => cutB u z.2) ((bs.zip fs).take i)
          rw [List.length_take, List.length_zip] at h1
          omega
        · rw [upd_same, if_pos h]
          rfl
      · refine ⟨e4, ?_⟩
        rw [if_neg h, List.map_nil, List.append_nil]
        exact hG4
    · rintro H4 ⟨e4, hG4⟩
      rw [List.length_map, List.take_of_length_le (by rw [List.length_zip]; omega)] at hG4
      have hcz : ((bs.zip fs).filter fun z => cutB u z.2).map (·.2) = cutOf u := by
        unfold cutOf
        rw [hfs]
        exact zip_filter hl
      have cat : ∀ (k : Nat) (b : Addr), (((bs.zip fs).filter fun z => cutB u z.2).map (·.1))[k]? = some b → ∃ r, (cutOf u)[k]? = some r ∧ H4 b = some (.lst (r.map V.int)) ∧ r.length ≤ 20 := fun k b hb => by
        obtain ⟨z, hz, rfl⟩ := map_at hb
        obtain ⟨j, hj1, hj2⟩ := zip_at hl (List.mem_filter.mp (List.mem_of_getElem? hz)).1
        obtain ⟨_, r, n2, n3⟩ := R.row j z.1 hj1
        rw [hj2] at n2
        cases n2
        obtain ⟨_, _, a, ha, er⟩ := first_mem (u := u) (r := z.2) (by rw [hfs]; exact List.mem_of_getElem? hj2)
        refine ⟨z.2, ?_, e4 _ _ n3, ?_⟩
        · rw [← hcz, List.getElem?_map, hz]
          rfl
        · rw [er]
          have := room_len (ps := u.ps) (n := u.n) (a := a)
          omega
      have clen : (((bs.zip fs).filter fun z => cutB u z.2).map (·.1)).length = (cutOf u).length := by
        rw [← hcz, List.length_map, List.length_map]
      have hG4' : H4 G = some (.lst ((((bs.zip fs).filter fun z => cutB u z.2).map (·.1)).map V.ref)) := by
        rw [hG4, List.map_map]
        rfl
      generalize ((bs.zip fs).filter fun z => cutB u z.2).map (·.1) = cs at cat clen hG4'
      clear hG4 hcz
      have cl := cut_len (u := u)
      have e14 := e02.tr (R.ex.tr e4)
      obtain ⟨a3, xs, rfl, hL3, hA3, hz3⟩ := g3
      have hl3 := hA3.len
      rw [List.length_map] at hl3
      refine ⟨_, rfl, _, rfl, _, rfl, _, rfl, a3, G, _, _, rfl, rfl, .inl (.inl (e14 _ _ hL3)), .inl (.inl hG4'), by rw [List.length_map]; omega, fun N hN => ?_⟩
      have hN5 : (upd H4 N (.lst (xs ++ cs.map V.ref))) N = some (.lst (xs ++ cs.map V.ref)) := upd_same
      have e5 : Ex H4 (upd H4 N (.lst (xs ++ cs.map V.ref))) := Ex.nw hN
      generalize upd H4 N (.lst (xs ++ cs.map V.ref)) = H5 at hN5 e5
      refine ⟨by show 3 ≤ sizeLine; decide, fun T hT => ?_⟩
      have hT6 : (upd H5 T (.tup [.int u.n, x2, .ref N])) T = some (.tup [.int u.n, x2, .ref N]) := upd_same
      have e6 : Ex H5 (upd H5 T (.tup [.int u.n, x2, .ref N])) := Ex.nw hT
      generalize upd H5 T (.tup [.int u.n, x2, .ref N]) = H6 at hT6 e6
      have e16 := e14.tr (e5.tr e6)
      have dm : Da K H6 (Wb.d (Wb.more u (cutOf u))) (.ref T) := by
        refine ⟨T, _, rfl, hT6, _, _, rfl, rfl, _, _, rfl, g2.up e16, _, _, rfl, ⟨N, _, rfl, e6 _ _ hN5, ?_, ?_⟩, rfl⟩
        · rw [show (Wb.more u (cutOf u)).ns = u.ns ++ cutOf u from rfl, List.map_append]
          refine (hA3.up e16).app (rows_of clen fun k b hb => ?_)
          obtain ⟨r, h1, h2, h3⟩ := cat k b hb
          exact ⟨r, h1, (e5.tr e6) _ _ h2, by omega⟩
        · rw [show (Wb.more u (cutOf u)).ns = u.ns ++ cutOf u from rfl, List.length_map, List.length_append]
          omega
      refine ⟨.ref T, Wb.more u (cutOf u), rfl, dm, cut_wd hu, fun M ps H7 e7 hM hM7 top etp => ?_⟩
      have e17 := e16.tr e7
      have plen : (ps.length : Int) ≤ u.n := mt_le (by omega) top.mt
      -- the targets of the old sources
      refine ⟨M, _, hM7, trivial, fun od => ?_⟩
      have e8 : Ex H6 (upd H7 M (.frz od (.dK (kvI ps)))) := e7.wr hM
      have hM8 : (upd H7 M (.frz od (.dK (kvI ps)))) M = some (.frz od (.dK (kvI ps))) := upd_same
      generalize upd H7 M (.frz od (.dK (kvI ps))) = H8 at e8 hM8
      refine ⟨_, rfl, M, od, _, rfl, hM8, fun B hB => ?_⟩
      refine lc_by ps.length (fun j H' => Ex H8 H' ∧ H' B = some (.lst ((((ps.take j).filter fun p => decide (p.1 < u.n + (u.ns.length : Int))).map (·.2)).map V.int)))
        ⟨Ex.nw hB, upd_same⟩ (fun j H' hj p => ⟨p.1 _ _ hM8, by unfold kvI; rw [List.length_map]; exact hj⟩) (fun H' p => ⟨p.1 _ _ hM8, by unfold kvI; rw [List.length_map]; exact Nat.le_refl _⟩) ?_ ?_
      · rintro j H9 x H10 hj ⟨e9, hB9⟩ ⟨t2, kk, vv, hkv, rfl, hn2, rfl⟩
        have hkv' : (ps.map fun p : Int × Int => ((Sum.inl p.1 : Key), V.int p.2))[j]? = some (kk, vv) := hkv
        obtain ⟨p, hp, e⟩ := map_at hkv'
        obtain ⟨rfl, rfl⟩ := Prod.mk.inj e
        have hB10 : (upd H9 t2 (.tup [kV (Sum.inl p.1), V.int p.2])) B = some (.lst ((((ps.take j).filter fun p => decide (p.1 < u.n + (u.ns.length : Int))).map (·.2)).map V.int)) := (Ex.nw hn2) _ _ hB9
        have e10 : Ex H8 (upd H9 t2 (.tup [kV (Sum.inl p.1), V.int p.2])) := e9.tr (Ex.nw hn2)
        have hT10 : (upd H9 t2 (.tup [kV (Sum.inl p.1), V.int p.2])) t2 = some (.tup [kV (Sum.inl p.1), V.int p.2]) := upd_same
        generalize upd H9 t2 (.tup [kV (Sum.inl p.1), V.int p.2]) = H10 at hB10 e10 hT10
        refine ⟨t2, _, rfl, .inl (.inl hT10), rfl, _, _, rfl, _, _, rfl, rfl, rfl, ?_⟩
        have hL10 := (e14.tr ((e5.tr e6).tr (e8.tr e10))) _ _ hL3
        refine ⟨_, rfl, _, rfl, _, rfl, a3, _, rfl, .inl (.inl (.inl hL10)), _, _, rfl, rfl, _, _, rfl, rfl, _, rfl, ?_⟩
        rw [← hl3, take_snoc hp, List.filter_append, List.map_append, List.map_append, List.filter_cons, List.filter_nil]
        refine ite2 (fun h => ?_) (fun h => ?_)
        · refine ⟨_, rfl, _, hB10, mil' ?_, e10.wr hB, ?_⟩
          · rw [List.length_map, List.length_map]
            have h1 := List.length_filter_le (fun p : Int × Int => decide (p.1 < u.n + (u.ns.length : Int))) (ps.take j)
            rw [List.length_take] at h1
            omega
          · rw [upd_same, if_pos h]
            rfl
        · refine ⟨e10, ?_⟩
          rw [if_neg h, List.map_nil, List.map_nil, List.append_nil]
          exact hB10
      · rintro H9 ⟨e9, hB9⟩
        rw [List.take_length] at hB9
        refine ⟨e9 _ _ hM8, ?_⟩
        have BM : B ≠ M := fun e => by
          rw [e, hM8] at hB
          cases hB
        have e10 : Ex H6 (upd H9 M (.dK (kvI ps))) := (e8.tr e9).wr hM
        have hB10 : (upd H9 M (.dK (kvI ps))) B = some (.lst ((oldT u ps).map V.int)) := by
          rw [upd_ne BM]
          exact hB9
        generalize upd H9 M (.dK (kvI ps)) = H10 at e10 hB10
        -- those without an old source
        refine ⟨_, rfl, _, rfl, by omega, by omega, fun C hC => ?_⟩
        refine lc_by u.n.toNat (fun j H' => Ex H10 H' ∧ H' C = some (.lst ((((iota u.n).take j).filter fun q => !(oldT u ps).contains q).map V.int)))
          ⟨Ex.nw hC, upd_same⟩ (fun i H' hi p => (by show i < _; omega)) (fun H' p => (by show _ ≤ u.n.toNat; omega)) ?_ ?_
        · rintro j H9 x H11 hj ⟨e11, hC11⟩ ⟨rfl, rfl⟩
          rw [show (0 : Int) + (j : Int) = (j : Int) by omega]
          have hk : (iota u.n)[j]? = some (j : Int) := iota_at (by omega)
          rw [take_snoc hk, List.filter_append, List.map_append, List.filter_cons, List.filter_nil]
          refine ⟨rfl, _, rfl, _, rfl, B, _, rfl, .inl (.inl (.inl (e11 _ _ hB10))), rfl, flat_ints, ?_⟩
          rw [if_pos rfl, inV_int]
          refine ⟨_, rfl, ?_⟩
          refine ite2 (fun h => ?_) (fun h => ?_)
          · refine ⟨_, rfl, _, hC11, mil' ?_, e11.wr hC, ?_⟩
            · rw [List.length_map]
              have h1 := List.length_filter_le (fun q => !(oldT u ps).contains q) ((iota u.n).take j)
              rw [List.length_take] at h1
              omega
            · rw [upd_same, if_pos h]
              rfl
          · refine ⟨e11, ?_⟩
            rw [if_neg h, List.map_nil, List.append_nil]
            exact hC11
        · rintro H11 ⟨e11, hC11⟩
          rw [List.take_of_length_le (by rw [List.length_map, List.length_range]; omega)] at hC11
          have hC11' : H11 C = some (.lst ((foundS u ps).map V.int)) := hC11
          have fdl : (foundS u ps).length ≤ 20 := by
            have h1 := List.length_filter_le (fun q => !(oldT u ps).contains q) (iota u.n)
            rw [List.length_map, List.length_range] at h1
            show ((iota u.n).filter fun q => !(oldT u ps).contains q).length ≤ 20
            omega
          have hmf : ∀ r, missF u ps r = !(r.any fun q => (foundS u ps).contains q) := fun r => rfl
          have hmS : missS u ps = ((cutOf u).filter (missF u ps)).map fun r => r.headD 0 := rfl
          have e4b : Ex H4 H11 := (e5.tr e6).tr (e10.tr e11)
          have hG11 := e4b _ _ hG4'
          have cat' : ∀ (k : Nat) (b : Addr), cs[k]? = some b → ∃ r, (cutOf u)[k]? = some r ∧ H11 b = some (.lst (r.map V.int)) ∧ r.length ≤ 20 := fun k b hb => by
            obtain ⟨r, h1, h2, h3⟩ := cat k b hb
            exact ⟨r, h1, e4b _ _ h2, h3⟩
          have chd : ∀ r ∈ cutOf u, r.head? = some (r.headD 0) := fun r hr => (first_mem (cut_mem hr).1).1
          have fin : ∀ (p : Addr) (S : List Int) H', H11 p = none → Ex H11 H' → H' p = some (.lst (S.map V.int)) → S.Perm (foundS u ps ++ missS u ps) → S.Pairwise (· ≤ ·) → Q (.ref p) H' := fun p S H' h1 h2 h3 h4 h5 => q p S H' (e14.fr (e4b.fr h1)) ((e14.tr e4b).tr h2) h3 ⟨ps, top, etp, h4, h5⟩
          generalize missS u ps = ms at hmS fin
          generalize cutOf u = ct at hmS clen cl cat' chd
          clear cat
          have sG : SqL K H11 G (cs.map V.ref) := .inl (.inl hG11)
          refine ⟨_, rfl, G, rfl, ⟨_, sG⟩, fun M2 hM2 => ?_⟩
          refine lc_by (cs.map V.ref).length (fun i H' => Ex H11 H' ∧ H' M2 = some (.lst ((((ct.take i).filter (missF u ps)).map fun r => r.headD 0).map V.int)))
            ⟨Ex.nw hM2, upd_same⟩ (fun i H' hi p => itl_go sG p.1 hi) (fun H' p => itl_stop sG p.1) ?_ ?_
          · rintro i H12 x H13 hi ⟨e12, hM12⟩ y
            obtain ⟨rfl, hx⟩ := itl_yld y sG e12
            obtain ⟨b, hb, rfl⟩ := map_at hx
            obtain ⟨r, hr1, hr2, hr3⟩ := cat' i b hb
            have hr13 := e12 _ _ hr2
            have sR : SqL K H13 b (r.map V.int) := .inl (.inl hr13)
            refine ⟨rfl, _, rfl, b, rfl, ⟨_, sR⟩, fun A2 hA2 => ?_⟩
            refine lc_by (r.map V.int).length (fun j H' => Ex H13 H' ∧ H' A2 = some (.lst (((r.take j).map fun q => (foundS u ps).contains q).map V.bl)))
              ⟨Ex.nw hA2, upd_same⟩ (fun j H' hj p => itl_go sR p.1 hj) (fun H' p => itl_stop sR p.1) ?_ ?_
            · rintro j H14 x H15 hj ⟨e14', hA14⟩ y
              obtain ⟨rfl, hx⟩ := itl_yld y sR e14'
              obtain ⟨k, hk, rfl⟩ := map_at hx
              have hC15 := (e12.tr e14') _ _ hC11'
              refine ⟨rfl, _, rfl, _, rfl, C, _, rfl, .inl (.inl (.inl hC15)), rfl, flat_ints, _, hA14, mil' ?_, e14'.wr hA2, ?_⟩
              · rw [List.length_map, List.length_map, List.length_take]
                omega
              · rw [show (if false = true then !inV (.int k) ((foundS u ps).map V.int) else inV (.int k) ((foundS u ps).map V.int)) = (foundS u ps).contains k from inV_int, upd_same, take_snoc hk, List.map_append, List.map_append]
                rfl
            · rintro H14 ⟨e14', hA14⟩
              rw [List.length_map, List.take_length] at hA14
              refine ⟨A2, _, rfl, .inl (.inl hA14), _, rfl, ?_⟩
              have hM14 := e14' _ _ hM12
              rw [List.any_map, show (r.any (id ∘ fun q => (foundS u ps).contains q)) = (r.any fun q => (foundS u ps).contains q) from rfl]
              show (if (!(r.any fun q => (foundS u ps).contains q)) = true then _ else _)
              rw [← hmf r, take_snoc hr1, List.filter_append, List.map_append, List.map_append, List.filter_cons, List.filter_nil]
              refine ite2 (fun h => ?_) (fun h => ?_)
              · have h0 : (r.map V.int)[0]? = some (.int (r.headD 0)) := by
                  rw [List.getElem?_map, ← List.head?_eq_getElem?, chd r (List.mem_of_getElem? hr1)]
                  rfl
                refine ⟨_, rfl, b, _, 0, _, rfl, rfl, .inl (.inl (e14' _ _ hr13)), atI_int (Int.le_refl _) h0, _, hM14, mil' ?_, (e12.tr e14').wr hM2, ?_⟩
                · rw [List.length_map, List.length_map]
                  have h1 := List.length_filter_le (missF u ps) (ct.take i)
                  rw [List.length_take] at h1
                  omega
                · rw [upd_same, if_pos h]
                  rfl
              · refine ⟨e12.tr e14', ?_⟩
                rw [if_neg h, List.map_nil, List.map_nil, List.append_nil]
                exact hM14
          · rintro H12 ⟨e12, hM12⟩
            rw [List.length_map, clen, List.take_length, ← hmS] at hM12
            have msl : ms.length ≤ 20 := by
              rw [hmS, List.length_map]
              have h1 := List.length_filter_le (missF u ps) ct
              omega
            refine ⟨_, rfl, _, rfl, C, M2, _, _, rfl, rfl, .inl (.inl (e12 _ _ hC11')), .inl (.inl hM12), by rw [List.length_map, List.length_map]; omega, fun p hp => ?_⟩
            rw [← List.map_append]
            refine ⟨p, _, rfl, .inl (.inl upd_same), fun S p2 perm srt hp2 => ?_⟩
            exact fin p2 S _ (e12.fr ((Ex.nw hp).fr hp2)) (e12.tr ((Ex.nw hp).tr (Ex.nw hp2))) upd_same perm srt
end

end K17
namespace K17
open PySem PySem.Spec PyProof.Rows L2 Nw
/-! fewest_single: slots 0 web -/
abbrev s_fewest_single : Stmt := topS 31
abbrev N_fewest_single : List Str := ["web"]
abbrev P_fewest_single : List Str := ["web"]
theorem sc_fewest_single : FnScope N_fewest_single P_fewest_single (defScope s_fewest_single) := ⟨rfl, rfl, rfl, by decide +kernel, rfl, by decide +kernel, by decide +kernel⟩
def sp_fewest_single (K : PySem.W.Frag) : Sp := fun vs H Q _ => ∃ (v : V) (u : Wb), vs = [v] ∧ Da K H (Wb.d u) v ∧ u.Ok ∧ ∀ (S : List Int) H', Ex H H' → FewS u S → Q (.int (S.length : Int)) H'
section
variable {P : Program} {w : World} {K : PySem.W.Frag} {mg : Str → Option Value} {base : Heap}
theorem ok_fewest_single {f : Addr} {fd : FuncData} (T : Txt K mg) (F : Fun K "fewest_single" "fewest_single" s_fewest_single f fd)
    (D_single_nudges : DefOk P w K mg base CX0 68 "single_nudges" P_single_nudges (sp_single_nudges K)) :
    FnG P w K mg base CX0 69 f fd P_fewest_single (sp_fewest_single K) := by
  refine okG0 F sc_fewest_single (fun vs H Q E h => ?_) (fun cdv A outer s H vs Q E hr hq h => ?_)
  · obtain ⟨v, u, rfl, _⟩ := h
    rfl
  · obtain ⟨v, u, rfl, hd, hu, q⟩ := h
    refine ⟨_, (pss_one (ps_ret (pe_callB (call_lenK K) (by rfl) T.b_len bt_len (pa_cons (pe_callD D_single_nudges (hr.mono (by decide)) hq pass0 (pa_cons (pv 0) pa_nil)) pa_nil)))), ?_⟩
    refine ⟨_, rfl, v, u, rfl, hd, hu, fun p S H' hp e hS fs => ?_⟩
    refine ⟨p, _, rfl, .inl (.inl (.inl hS)), ?_⟩
    rw [List.length_map]
    exact q S H' e fs
end

end K17
namespace K17
open PySem PySem.Spec PyProof.Rows L2 Nw
/-! _law_cut_rooms: slots 0 _law_web_here, 1 _law_leads, 2 _law_one, 3 _law_turn, 4 _law_other, 5 _law_found, 6 _law_pushed, 7 _law_some, 8 _law_room, 9 _law_into, 10 _law_pair -/
abbrev s_cut_rooms : Stmt := topS 49
abbrev N_cut_rooms : List Str := ["_law_web_here", "_law_leads", "_law_one", "_law_turn", "_law_other", "_law_found", "_law_pushed", "_law_some", "_law_room", "_law_into", "_law_pair"]
abbrev P_cut_rooms : List Str := ["_law_web_here"]
theorem sc_cut_rooms : FnScope N_cut_rooms P_cut_rooms (defScope s_cut_rooms) := ⟨rfl, rfl, rfl, by decide +kernel, rfl, by decide +kernel, by decide +kernel⟩
theorem first_back {ps : List (Int × Int)} {r : List Int} (hf : isFirst ps r = true) {s t : Int} (h : (s, t) ∈ ps) (ht : t ∈ r) : s ∈ r := by
  unfold isFirst at hf
  rw [List.isEmpty_iff, List.filter_eq_nil_iff] at hf
  have h1 := hf (s, t) h
  by_cases e : s ∈ r
  · exact e
  · refine absurd ?_ h1
    rw [Bool.and_eq_true, List.contains_iff_mem]
    exact ⟨ht, by simpa using e⟩
theorem first_rch {ps : List (Int × Int)} {r : List Int} (hf : isFirst ps r = true) {a b : Int} (h : Rch ps a b) : b ∈ r → a ∈ r := by
  induction h with
  | here => exact id
  | step e _ ih => exact fun hb => first_back hf e (ih hb)
theorem room_hd {ps : List (Int × Int)} {n a : Int} (ha : 0 ≤ a ∧ a < n) : (roomOf ps n a).headD 0 ∈ roomOf ps n a := by
  have h1 := room_self (ps := ps) ha
  cases e : roomOf ps n a with
  | nil =>
    rw [e] at h1
    cases h1
  | cons x r => exact List.mem_cons_self
theorem cut_eq {u : Wb} {a : Int} (ha : 0 ≤ a ∧ a < u.n) (hf : isFirst u.ps (roomOf u.ps u.n a) = true) : cutB u (roomOf u.ps u.n a) = ((roomOf u.ps u.n a).filter fun q => u.ns.flatten.contains q).isEmpty := by
  have hm := room_hd (ps := u.ps) ha
  rw [Bool.eq_iff_iff, cutB_iff, List.isEmpty_iff, List.filter_eq_nil_iff]
  constructor
  · intro h q hq hc
    have h1 := (mem_room.mp hq).2
    have h2 := (mem_room.mp hm).2
    exact h ⟨q, List.contains_iff_mem.mp hc, h1.2.trans h2.1⟩
  · rintro h ⟨q, hq, r⟩
    exact h q (first_rch hf r hm) (List.contains_iff_mem.mpr hq)
noncomputable def cutTo (u : Wb) (i : Nat) : List (List Int) := ((roomsTo u.ps u.n i).filter (isFirst u.ps)).filter (cutB u)
theorem cutTo_step {u : Wb} {i : Nat} (hk : (i : Int) < u.n) : cutTo u (i + 1) = if isHead u.ps u.n (i : Int) = true ∧ isFirst u.ps (roomOf u.ps u.n (i : Int)) = true ∧ cutB u (roomOf u.ps u.n (i : Int)) = true then cutTo u i ++ [roomOf u.ps u.n (i : Int)] else cutTo u i := by
  unfold cutTo
  rw [roomsTo_step hk]
  by_cases h1 : isHead u.ps u.n (i : Int) = true
  · rw [if_pos h1, List.filter_append, List.filter_append]
    by_cases h2 : isFirst u.ps (roomOf u.ps u.n (i : Int)) = true
    · by_cases h3 : cutB u (roomOf u.ps u.n (i : Int)) = true
      · rw [if_pos ⟨h1, h2, h3⟩]
        simp [h2, h3]
      · rw [if_neg fun h => h3 h.2.2]
        simp [h2, h3]
    · rw [if_neg fun h => h2 h.2.1]
      simp [h2]
  · rw [if_neg h1, if_neg fun h => h1 h.1]
theorem app_ne {α : Type} {l : List α} {x : α} : (l ++ [x]).isEmpty = false := by cases l <;> rfl
theorem cutTo_len {u : Wb} {i : Nat} : (cutTo u i).length ≤ i := Nat.le_trans (List.length_filter_le _ _) (Nat.le_trans (List.length_filter_le _ _) roomsTo_len)
theorem shr_cast {m k : Nat} : V.int (((m : Nat) : Int) / 2 ^ k) = V.int (((m / 2 ^ k : Nat)) : Int) := by
  congr 1
theorem bit_dec {m k : Nat} : decide (V.int (((m / 2 ^ k % 2 : Nat)) : Int) = V.int 1) = m.testBit k := by
  rw [Nat.testBit_eq_decide_div_mod_eq, dec_int]
  rw [Bool.eq_iff_iff, beq_iff_eq, decide_eq_true_eq]
  omega
def sp_cut_rooms (K : PySem.W.Frag) : Sp := fun vs H Q _ => ∃ v u, vs = [v] ∧ Da K H (Wb.d u) v ∧ u.Ok ∧ ∀ L bs H', NewR H H' (cutOf u) L bs → Q (.ref L) H'
section
open Classical
variable {P : Program} {w : World} {K : PySem.W.Frag} {mg : Str → Option Value} {base : Heap}
theorem ok_cut_rooms {f : Addr} {fd : FuncData} (T : Txt K mg) (F : Fun K "_law_cut_rooms" "_law_cut_rooms" s_cut_rooms f fd) :
    FnG P w K mg base CX0 1 f fd P_cut_rooms (sp_cut_rooms K) := by
  refine okG0 F sc_cut_rooms (fun vs H Q E h => ?_) (fun cdv A outer s H vs Q E hr hq h => ?_)
  · obtain ⟨v, u, rfl, _⟩ := h
    rfl
  · obtain ⟨v, u, rfl, hd, hu, q⟩ := h
    have b1 := hu.lo
    have b2 := hu.hi
    have b3 := hu.few
    have b4 := hu.len
    obtain ⟨t, x2, x3, rfl, hS, g2, g3⟩ := Wb.at hd
    obtain ⟨a2, ys, rfl, hL2, hA2, hz2⟩ := g2
    obtain ⟨a3, xs, rfl, hL3, hA3, hz3⟩ := g3
    have hY : SqL K H a2 ys := .inl (.inl hL2)
    have hX : SqL K H a3 xs := .inl (.inl hL3)
    have hl2 := hA2.len
    rw [List.length_map] at hl2
    have hl3 := hA3.len
    rw [List.length_map] at hl3
    have ff : u.ns.flatten.length ≤ 160 := flat_few (m := 20) (k := 8) (fun r hr => hu.row hr) b3
    refine ⟨_, (pss_cons (ps_set (i := 1) sc_cut_rooms.nd rfl (by first | exact .inl rfl | exact .inr rfl) (pe_lc (own := [("_law_one", 2)]) rfl sc_cut_rooms.nd (pi_range1 (by rfl) T.b_range (pa_cons (pe_ix (ix_tupK K) (pv 0) pe_int (fun _ _ => rfl)) pa_nil)) (blkOk_by (N := N_cut_rooms) (sc := defScope s_cut_rooms) (by decide +kernel)) (fun _ _ _ _ _ => (pg_name (i := 2) sc_cut_rooms.nd rfl (by first | exact .inl rfl | exact .inr rfl))) (fun _ _ _ _ _ => pts_nil) (fun _ _ _ _ _ => (pe_op op_oneShl pe_int (pv 2)))))
      (pss_cons (ps_for PassesOwn.never rfl (pi_range1 (by rfl) T.b_range (pa_cons (pe_ix (ix_tupK K) (pv 0) pe_int (fun _ _ => rfl)) pa_nil)) (pg_name (i := 3) sc_cut_rooms.nd rfl (by first | exact .inl rfl | exact .inr rfl)) (pss_one (ps_for PassesOwn.never rfl (pi_listK K (pe_ix (ix_tupK K) (pv 0) pe_int (fun _ _ => rfl))) (pg_tupK (n := 2) K rfl (pgs_cons (pg_name (i := 2) sc_cut_rooms.nd rfl (by first | exact .inl rfl | exact .inr rfl)) (pgs_cons (pg_name (i := 4) sc_cut_rooms.nd rfl (by first | exact .inl rfl | exact .inr rfl)) pgs_nil))) (pss_one (ps_asg (pe_op op_orB (pe_ix (ix_listK K) (pv 1) (pv 2) (fun _ _ => rfl)) (pe_ix (ix_listK K) (pv 1) (pv 4) (fun _ _ => rfl))) (pg_sub (pv 1) (pv 2) set_list))))))
      (pss_cons (ps_asg (pe_tup (pa_cons (pe_lst pa_nil) (pa_cons (pe_lst pa_nil) pa_nil))) (pg_tupK (n := 2) K rfl (pgs_cons (pg_name (i := 5) sc_cut_rooms.nd rfl (by first | exact .inl rfl | exact .inr rfl)) (pgs_cons (pg_name (i := 6) sc_cut_rooms.nd rfl (by first | exact .inl rfl | exact .inr rfl)) pgs_nil))))
      (pss_cons (ps_for PassesOwn.never rfl (pi_listK K (pe_ix (ix_tupK K) (pv 0) pe_int (fun _ _ => rfl))) (pg_name (i := 7) sc_cut_rooms.nd rfl (by first | exact .inl rfl | exact .inr rfl)) (pss_one (ps_expr (pe_bm PySem.F.plainAttrs_list PySem.F.slot_list_extend PySem.F.type_list_extend mt_extend (pv 6) (pa_cons (pv 7) pa_nil)))))
      (pss_cons (ps_for PassesOwn.never rfl (pi_range1 (by rfl) T.b_range (pa_cons (pe_ix (ix_tupK K) (pv 0) pe_int (fun _ _ => rfl)) pa_nil)) (pg_name (i := 2) sc_cut_rooms.nd rfl (by first | exact .inl rfl | exact .inr rfl)) (pss_cons (ps_set (i := 8) sc_cut_rooms.nd rfl (by first | exact .inl rfl | exact .inr rfl) (pe_lc (own := [("_law_other", 4)]) rfl sc_cut_rooms.nd (pi_range1 (by rfl) T.b_range (pa_cons (pe_ix (ix_tupK K) (pv 0) pe_int (fun _ _ => rfl)) pa_nil)) (blkOk_by (N := N_cut_rooms) (sc := defScope s_cut_rooms) (by decide +kernel)) (fun _ _ _ _ _ => (pg_name (i := 4) sc_cut_rooms.nd rfl (by first | exact .inl rfl | exact .inr rfl))) (fun _ _ _ _ _ => (pts_one (PW.pt (pw_and (pt_cmpR op_eq (pe_op op_odd (pe_op op_shrN (pe_ix (ix_listK K) (pv 1) (pv 2) (fun _ _ => rfl)) (pv 4)) pe_int) pe_int (nomark _)) (pw_and1 (pt_cmpR op_eq (pe_op op_odd (pe_op op_shrN (pe_ix (ix_listK K) (pv 1) (pv 4) (fun _ _ => rfl)) (pv 2)) pe_int) pe_int (nomark _))))))) (fun _ _ _ _ _ => (pv 4))))
      (pss_cons (ps_setLc (i := 9) (own := [("_law_pair", 10)]) rfl sc_cut_rooms.nd rfl rfl (sw_true rfl rfl rfl (by decide +kernel)) (pi_listK K (pe_ix (ix_tupK K) (pv 0) pe_int (fun _ _ => rfl))) (blkOk_by (N := N_cut_rooms) (sc := defScope s_cut_rooms) (by decide +kernel)) (fun _ _ _ _ _ => (pg_name (i := 10) sc_cut_rooms.nd rfl (by first | exact .inl rfl | exact .inr rfl))) (fun _ _ _ _ _ => (pts_one (PW.pt (pw_and (pt_cmpR (op_inK K) (pe_ix (ix_tupK K) (pv 10) pe_int (fun _ _ => rfl)) (pv 8) (by rfl)) (pw_and1 (pt_cmpR (op_notInK K) (pe_ix (ix_tupK K) (pv 10) pe_int (fun _ _ => rfl)) (pv 8) (by rfl))))))) (fun _ _ _ _ _ => (pv 10)))
      (pss_one (ps_if (PW.pt (pw_and (pt_cmpR op_eq (pe_ix (ix_listK K) (pv 8) pe_int (fun _ _ => rfl)) (pv 2) (nomark _)) (pw_and (pt_cmpR (op_eqNil K hr) (pv 9) (pe_lst pa_nil) (nomark _)) (pw_and1 (pt_cmpR (op_eqNil K hr) (pe_lc (own := [("_law_other", 4)]) rfl sc_cut_rooms.nd (pi_listK K (pv 8)) (blkOk_by (N := N_cut_rooms) (sc := defScope s_cut_rooms) (by decide +kernel)) (fun _ _ _ _ _ => (pg_name (i := 4) sc_cut_rooms.nd rfl (by first | exact .inl rfl | exact .inr rfl))) (fun _ _ _ _ _ => (pts_one (pt_cmpR (op_inK K) (pv 4) (pv 6) (by rfl)))) (fun _ _ _ _ _ => (pv 4))) (pe_lst pa_nil) (nomark _)))))) (pss_one (ps_expr (pe_bm PySem.F.plainAttrs_list PySem.F.slot_list_append PySem.F.type_list_append mt_append (pv 5) (pa_cons (pv 8) pa_nil)))) pss_nil)))))
      (pss_one (ps_ret (pv 5)))))))), ?_⟩
    refine ⟨_, rfl, t, _, 0, _, rfl, rfl, hS, rfl, ?_⟩
    refine ⟨_, rfl, by omega, by omega, fun L hL => ?_⟩
    refine lc_by u.n.toNat (fun i H' => Ex H H' ∧ H' L = some (.lst (((List.range i).map fun a => 2 ^ a).map fun m => V.int ((m : Nat) : Int))))
      ⟨Ex.nw hL, upd_same⟩ (fun i H' hi p => (by show i < _; omega)) (fun H' p => (by show _ ≤ u.n.toNat; omega)) ?_ ?_
    · rintro i H9 x H2 hi ⟨e2, hL2⟩ ⟨rfl, rfl⟩
      rw [show (0 : Int) + (i : Int) = (i : Int) by omega]
      refine ⟨rfl, _, rfl, i, rfl, rfl, by omega, _, hL2, mil' ?_, e2.wr hL, ?_⟩
      · rw [List.length_map, List.length_map, List.length_range]
        omega
      · rw [upd_same, List.range_succ, List.map_append, List.map_append]
        have : ((2 ^ i : Nat) : Int) = (2 : Int) ^ i := by
          rw [Int.natCast_pow]
          rfl
        rw [List.map_cons, List.map_nil, List.map_cons, List.map_nil, this]
    · rintro H2 ⟨e2, hL2⟩
      refine ⟨_, rfl, t, _, 0, _, rfl, rfl, e2.t hS, rfl, ?_⟩
      refine ⟨_, rfl, by omega, by omega, ?_⟩
      have hps : ∀ p ∈ u.ps, (0 ≤ p.1 ∧ p.1 < ((u.n.toNat : Nat) : Int)) ∧ (0 ≤ p.2 ∧ p.2 < ((u.n.toNat : Nat) : Int)) := fun p hp => by
        have := hu.ps p hp
        omega
      refine for_by u.n.toNat (fun i σ H' => ∃ y2 y3 y4, σ = [some (V.ref t), some (V.ref L), y2, y3, y4, none, none, none, none, none, none] ∧ Ex H H' ∧ ∃ ms, H' L = some (.lst (ms.map fun m => V.int ((m : Nat) : Int))) ∧ Lead u.ps u.n.toNat i ms)
        ⟨_, _, _, rfl, e2, _, hL2, Lead.zero _ _⟩ (fun i σ H' hi p => (by show i < _; omega)) (fun σ H' p => (by show _ ≤ u.n.toNat; omega)) ?_ ?_
      · rintro i σ H9 x H4 hi ⟨y2, y3, y4, rfl, e4, ms, hL4, hM⟩ ⟨rfl, rfl⟩
        refine ⟨_, rfl, t, _, 1, _, rfl, rfl, e4.t hS, rfl, ?_⟩
        have hY4 := e4.l hY
        refine ⟨a2, rfl, ⟨_, hY4⟩, ?_⟩
        refine for_by ys.length (fun j σ H' => ∃ y2 y4, σ = [some (V.ref t), some (V.ref L), y2, some (V.int (0 + (i : Int))), y4, none, none, none, none, none, none] ∧ Ex H H' ∧ ∃ ms, H' L = some (.lst (ms.map fun m => V.int ((m : Nat) : Int))) ∧ LeadI u.ps u.n.toNat i j ms)
          ⟨_, _, rfl, e4, ms, hL4, LeadI.zero hM⟩ (fun j σ H' hj p => ?_) (fun σ H' p => ?_) ?_ ?_
        · obtain ⟨_, _, _, e5, _⟩ := p
          exact itl_go hY e5 hj
        · obtain ⟨_, _, _, e5, _⟩ := p
          exact itl_stop hY e5
        · rintro j σ H5 x H6 hj ⟨y2, y4, rfl, e5, ms, hL5, hM⟩ y
          obtain ⟨rfl, hx⟩ := itl_yld y hY e5
          obtain ⟨p, hp, b, rfl, hSb⟩ := pairs_at hA2 hx
          have hpr := hps p (List.mem_of_getElem? hp)
          have hl := hM.len
          have h1 : p.1.toNat < ms.length := by omega
          have h2 : p.2.toNat < ms.length := by omega
          refine ⟨b, _, rfl, e5.t hSb, rfl, _, _, rfl, _, _, rfl, rfl, ?_⟩
          have sL : SqL K H6 L (ms.map fun m => V.int ((m : Nat) : Int)) := .inl (.inl hL5)
          have g1 : (ms.map fun m => V.int ((m : Nat) : Int))[p.1.toNat]? = some (V.int ((ms.getD p.1.toNat 0 : Nat) : Int)) := by
            rw [List.getElem?_map, List.getD_eq_getElem?_getD, List.getElem?_eq_getElem h1]
            rfl
          have g2 : (ms.map fun m => V.int ((m : Nat) : Int))[p.2.toNat]? = some (V.int ((ms.getD p.2.toNat 0 : Nat) : Int)) := by
            rw [List.getElem?_map, List.getD_eq_getElem?_getD, List.getElem?_eq_getElem h2]
            rfl
          refine ⟨_, rfl, _, rfl, L, _, p.1, _, rfl, rfl, sL, atI_int hpr.1.1 g1, ?_⟩
          refine ⟨_, rfl, _, rfl, L, _, p.2, _, rfl, rfl, sL, atI_int hpr.2.1 g2, _, _, rfl, rfl, ?_⟩
          refine ⟨_, rfl, _, rfl, L, _, p.1, p.1.toNat, rfl, rfl, hL5, ixN_int hpr.1.1 (by rw [List.length_map]; omega), ?_⟩
          refine ⟨_, _, rfl, e5.wr hL, _, ?_, hM.step hp hpr⟩
          rw [upd_same, List.map_set]
        · rintro σ H5 ⟨y2, y4, rfl, e5, ms, hL5, hM⟩
          rw [← hl2] at hM
          exact ⟨_, _, _, rfl, e5, ms, hL5, hM.fin⟩
      · rintro σ H4 ⟨y2, y3, y4, rfl, e4, ms, hL4, hM⟩
        have hml := hM.len
        have hat : ∀ a : Nat, a < u.n.toNat → (ms.map fun m => V.int ((m : Nat) : Int))[a]? = some (V.int ((ms.getD a 0 : Nat) : Int)) := fun a ha => by
          rw [List.getElem?_map, List.getD_eq_getElem?_getD, List.getElem?_eq_getElem (by omega)]
          rfl
        have hbit : ∀ a j : Nat, a < u.n.toNat → j < u.n.toNat → ((ms.getD a 0).testBit j = true ↔ Rch u.ps (a : Int) (j : Int)) := fun a j ha hj => hM.all hps ha hj
        refine ⟨Nat.zero_le _, fun F2 hF2 => ⟨Nat.zero_le _, fun P2 hP2 => ⟨by show 2 ≤ sizeLine; decide, fun T0 hT0 => ?_⟩⟩⟩
        refine ⟨T0, _, rfl, .inl (.inl upd_same), rfl, _, _, rfl, _, _, rfl, rfl, ?_⟩
        have FP : F2 ≠ P2 := fun e => by
          rw [e, upd_same] at hP2
          cases hP2
        have PT : P2 ≠ T0 := fun e => by
          rw [e, upd_same] at hT0
          cases hT0
        have FT : F2 ≠ T0 := fun e => by
          rw [← e, upd_ne FP, upd_same] at hT0
          cases hT0
        have e5 : Ex H4 (upd (upd (upd H4 F2 (.lst [])) P2 (.lst [])) T0 (.tup [.ref F2, .ref P2])) := (Ex.nw hF2).tr ((Ex.nw hP2).tr (Ex.nw hT0))
        have R5 : NewR H (upd (upd (upd H4 F2 (.lst [])) P2 (.lst [])) T0 (.tup [.ref F2, .ref P2])) (cutTo u 0) F2 [] :=
          ⟨e4.tr e5, e4.fr hF2, by rw [upd_ne FT, upd_ne FP, upd_same]; rfl, rfl, fun k b hb => by simp at hb, List.nodup_nil⟩
        have hP5 : (upd (upd (upd H4 F2 (.lst [])) P2 (.lst [])) T0 (.tup [.ref F2, .ref P2])) P2 = some (.lst ([] : List V)) := by rw [upd_ne PT, upd_same]
        have PH4 : H4 P2 = none := (Ex.nw hF2).fr hP2
        generalize upd (upd (upd H4 F2 (.lst [])) P2 (.lst [])) T0 (.tup [.ref F2, .ref P2]) = H5 at e5 R5 hP5
        have e05 := e4.tr e5
        refine ⟨_, rfl, t, _, 2, _, rfl, rfl, e05.t hS, rfl, a3, rfl, ⟨_, e05.l hX⟩, ?_⟩
        refine for_by xs.length (fun i σ H' => ∃ y7, σ = [some (V.ref t), some (V.ref L), y2, y3, y4, some (V.ref F2), some (V.ref P2), y7, none, none, none] ∧ Ex H4 H' ∧ NewR H H' (cutTo u 0) F2 [] ∧ H' P2 = some (.lst ((u.ns.take i).flatten.map V.int)))
          ⟨_, rfl, e5, R5, hP5⟩ (fun i σ H' hi p => ?_) (fun σ H' p => ?_) ?_ ?_
        · obtain ⟨_, _, e6, _⟩ := p
          exact itl_go hX (e4.tr e6) hi
        · obtain ⟨_, _, e6, _⟩ := p
          exact itl_stop hX (e4.tr e6)
        · rintro i σ H6 x H7 hi ⟨y7, rfl, e6, R6, hP6⟩ y
          obtain ⟨rfl, hx⟩ := itl_yld y hX (e4.tr e6)
          obtain ⟨dr, hdr, hxd⟩ := hA3.at' hx
          obtain ⟨r, hrr, rfl⟩ := map_at hdr
          obtain ⟨ar, zs, rfl, hLr, hAr, _⟩ := hxd
          obtain rfl := DaAll.ints.mp hAr
          have hr6 := (e4.tr e6) _ _ hLr
          have hrl := hu.row (List.mem_of_getElem? hrr)
          have ftl : (u.ns.take i).flatten.length ≤ 160 := flat_few (m := 20) (k := 8) (fun r hr => hu.row (List.mem_of_mem_take hr)) (by rw [List.length_take]; omega)
          refine ⟨_, rfl, .inl ⟨rfl, _, .inl (.inl hP6)⟩, _, rfl, P2, ar, _, _, rfl, rfl, hP6, hr6, Nat.le_of_lt (mil' (by rw [List.length_map, List.length_map]; omega)), ?_⟩
          refine ⟨_, rfl, e6.wr PH4, ⟨R6.ex.wr (e4.fr PH4), R6.new, by rw [upd_ne FP.symm.symm]; exact R6.at_, rfl, fun k b hb => by simp at hb, List.nodup_nil⟩, ?_⟩
          rw [upd_same, flat_take hrr, List.map_append]
        · rintro σ H6 ⟨y7, rfl, e6, R6, hP6⟩
          rw [← hl3, List.take_length] at hP6
          generalize hpu : u.ns.flatten = pu at hP6 ff
          have e06 := e4.tr e6
          refine ⟨_, rfl, t, _, 0, _, rfl, rfl, e06.t hS, rfl, ?_⟩
          refine ⟨_, rfl, by omega, by omega, ?_⟩
          refine for_by u.n.toNat (fun i σ H' => ∃ z2 z4 z8 z9 bs, σ = [some (V.ref t), some (V.ref L), z2, y3, z4, some (V.ref F2), some (V.ref P2), y7, z8, z9, none] ∧ Ex H4 H' ∧ NewR H H' (cutTo u i) F2 bs ∧ H' P2 = some (.lst (pu.map V.int)))
            ⟨_, _, _, _, [], rfl, e6, R6, hP6⟩ (fun i σ H' hi p => (by show i < _; omega)) (fun σ H' p => (by show _ ≤ u.n.toNat; omega)) ?_ ?_
          · rintro i σ H9 x H7 hi ⟨z2, z4, z8, z9, bs, rfl, e7, R7, hP7⟩ ⟨rfl, rfl⟩
            rw [show (0 : Int) + (i : Int) = (i : Int) by omega]
            have hin : (i : Int) < u.n := by omega
            have e07 := e4.tr e7
            have sL : SqL K H7 L (ms.map fun m => V.int ((m : Nat) : Int)) := .inl (.inl (e7 _ _ hL4))
            refine ⟨_, rfl, t, _, 0, _, rfl, rfl, e07.t hS, rfl, ?_⟩
            refine ⟨_, rfl, by omega, by omega, fun G hG => ?_⟩
            refine lc_by u.n.toNat (fun j H' => Ex H7 H' ∧ H' G = some (.lst ((((iota u.n).take j).filter fun b => decide (Mu u.ps (i : Int) b)).map V.int)))
              ⟨Ex.nw hG, upd_same⟩ (fun i H' hi p => (by show i < _; omega)) (fun H' p => (by show _ ≤ u.n.toNat; omega)) ?_ ?_
            · rintro j H9 x H8 hj ⟨e8, hG8⟩ ⟨rfl, rfl⟩
              rw [show (0 : Int) + (j : Int) = (j : Int) by omega]
              have sL8 := e8.l sL
              have hk : (iota u.n)[j]? = some (j : Int) := iota_at (by omega)
              rw [take_snoc hk, List.filter_append, List.map_append, List.filter_cons, List.filter_nil]
              refine ⟨rfl, _, rfl, _, rfl, L, _, (i : Int), _, rfl, rfl, sL8, atI_int (by omega) (by rw [Int.toNat_natCast]; exact hat i hi), ?_⟩
              refine ⟨_, rfl, _, j, rfl, rfl, _, shr_cast, rfl, rfl, _, rfl, ?_⟩
              rw [bit_dec]
              refine ite2 (fun h1 => ?_) (fun h1 => ?_)
              · have r1 := (hbit i j hi hj).mp h1
                refine ⟨_, rfl, _, rfl, L, _, (j : Int), _, rfl, rfl, sL8, atI_int (by omega) (by rw [Int.toNat_natCast]; exact hat j hj), ?_⟩
                refine ⟨_, rfl, _, i, rfl, rfl, _, shr_cast, rfl, rfl, _, rfl, ?_⟩
                rw [bit_dec]
                refine ite2 (fun h2 => ?_) (fun h2 => ?_)
                · have r2 := (hbit j i hj hi).mp h2
                  refine ⟨_, rfl, _, hG8, mil' ?_, e8.wr hG, ?_⟩
                  · rw [List.length_map]
                    have h3 := List.length_filter_le (fun b => decide (Mu u.ps (i : Int) b)) ((iota u.n).take j)
                    rw [List.length_take] at h3
                    omega
                  · rw [upd_same, if_pos (decide_eq_true (show Mu u.ps (i : Int) (j : Int) from ⟨r1, r2⟩))]
                    rfl
                · refine ⟨e8, ?_⟩
                  rw [if_neg (fun e => h2 ((hbit j i hj hi).mpr (of_decide_eq_true e).2)), List.map_nil, List.append_nil]
                  exact hG8
              · refine ⟨e8, ?_⟩
                rw [if_neg (fun e => h1 ((hbit i j hi hj).mpr (of_decide_eq_true e).1)), List.map_nil, List.append_nil]
                exact hG8
            · rintro H8 ⟨e8, hG8⟩
              rw [List.take_of_length_le (by unfold iota; rw [List.length_map, List.length_range]; exact Nat.le_refl _)] at hG8
              have hG8' : H8 G = some (.lst ((roomOf u.ps u.n (i : Int)).map V.int)) := hG8
              have hself := room_self (ps := u.ps) (n := u.n) (a := (i : Int)) ⟨by omega, hin⟩
              have hce := cut_eq (u := u) (a := (i : Int)) ⟨by omega, hin⟩
              have rlen := room_len (ps := u.ps) (n := u.n) (a := (i : Int))
              have hst := cutTo_step (u := u) hin
              have hih : isHead u.ps u.n (i : Int) = true ↔ (roomOf u.ps u.n (i : Int)).head? = some (i : Int) := decide_eq_true_iff
              rw [hpu] at hce
              generalize roomOf u.ps u.n (i : Int) = rm at hG8' hself hce rlen hst hih
              clear hG8
              have e48 := e7.tr e8
              have e08 := e4.tr e48
              have hY8 := e08.l hY
              -- the pairs into it
              refine ⟨_, rfl, t, _, 1, _, rfl, rfl, e08.t hS, rfl, a2, rfl, ⟨_, hY8⟩, fun I hI => ?_⟩
              refine lc_by ys.length (fun j H' => Ex H8 H' ∧ ∃ acc : List V, H' I = some (.lst acc) ∧ acc.isEmpty = ((u.ps.take j).filter fun p => rm.contains p.2 && !rm.contains p.1).isEmpty ∧ acc.length ≤ j)
                ⟨Ex.nw hI, [], upd_same, rfl, Nat.le_refl _⟩ (fun j H' hj p => itl_go hY8 p.1 hj) (fun H' p => itl_stop hY8 p.1) ?_ ?_
              · rintro j H9 x H10 hj ⟨e9, acc, hI9, hae, hal⟩ y
                obtain ⟨rfl, hx⟩ := itl_yld y hY8 e9
                obtain ⟨p, hp, b, rfl, hSb⟩ := pairs_at hA2 hx
                have hb9 := (e08.tr e9).t hSb
                rw [take_snoc hp, List.filter_append, List.filter_cons, List.filter_nil]
                refine ⟨rfl, _, rfl, b, _, 1, _, rfl, rfl, hb9, rfl, ?_⟩
                refine ⟨_, rfl, G, _, rfl, .inl (.inl (.inl (e9 _ _ hG8'))), rfl, flat_ints, ?_⟩
                rw [show (if false = true then !inV (.int p.2) (rm.map V.int) else inV (.int p.2) (rm.map V.int)) = rm.contains p.2 from inV_int]
                refine ⟨_, rfl, ?_⟩
                refine ite2 (fun h1 => ?_) (fun h1 => ?_)
                · refine ⟨_, rfl, b, _, 0, _, rfl, rfl, hb9, rfl, ?_⟩
                  refine ⟨_, rfl, G, _, rfl, .inl (.inl (.inl (e9 _ _ hG8'))), rfl, flat_ints, ?_⟩
                  rw [if_pos rfl, inV_int]
                  refine ⟨_, rfl, ?_⟩
                  refine ite2 (fun h2 => ?_) (fun h2 => ?_)
                  · refine ⟨_, rfl, acc, hI9, mil' (by omega), e9.wr hI, acc ++ [.ref b], upd_same, ?_, by rw [List.length_append, List.length_singleton]; omega⟩
                    rw [if_pos (by rw [h1, h2]; rfl), app_ne, app_ne]
                  · refine ⟨e9, acc, hI9, ?_, by omega⟩
                    rw [if_neg (by rw [h1]; simpa using h2), List.append_nil]
                    exact hae
                · refine ⟨e9, acc, hI9, ?_, by omega⟩
                  rw [if_neg (by intro e; rw [Bool.and_eq_true] at e; exact h1 e.1), List.append_nil]
                  exact hae
              · rintro H9 ⟨e9, acc, hI9, hae, hal⟩
                rw [← hl2, List.take_length] at hae
                have hae' : acc.isEmpty = isFirst u.ps rm := hae
                obtain ⟨m, r, hr⟩ : ∃ m r, rm = m :: r := by
                  cases hc : rm with
                  | nil =>
                    rw [hc] at hself
                    cases hself
                  | cons m r => exact ⟨m, r, rfl⟩
                have hG9 := e9 _ _ hG8'
                have hP9 := (e8.tr e9) _ _ hP7
                have R9 := rup R7 (e8.tr e9)
                have e49 := e48.tr e9
                refine ⟨_, rfl, G, _, 0, .int m, rfl, rfl, .inl (.inl hG9), atI_int (by decide) (by rw [hr]; rfl), ?_⟩
                refine ⟨_, rfl, rfl, _, rfl, ?_⟩
                have hno : ∀ {H' : Hp}, Ex H9 H' → ¬ (isHead u.ps u.n (i : Int) = true ∧ isFirst u.ps rm = true ∧ cutB u rm = true) → NewR H H' (cutTo u (i + 1)) F2 bs := fun e' hn => by
                  rw [hst, if_neg hn]
                  exact rup R9 e'
                refine ite2 (fun h1 => ?_) (fun h1 => ?_)
                · have hm2 : m = (i : Int) := by simpa using h1
                  have hh1 : isHead u.ps u.n (i : Int) = true := hih.mpr (by rw [hr, hm2]; rfl)
                  refine ⟨_, rfl, Nat.zero_le _, fun z hz => ?_⟩
                  have ez : Ex H9 (upd H9 z (.lst [])) := Ex.nw hz
                  have hz0 : (upd H9 z (.lst [])) z = some (.lst []) := upd_same
                  generalize upd H9 z (.lst []) = H10 at ez hz0
                  refine ⟨I, z, acc, rfl, rfl, .inl (.inl (ez _ _ hI9)), .inl (.inl hz0), _, rfl, ?_⟩
                  rw [hae']
                  refine ite2 (fun h2 => ?_) (fun h2 => ?_)
                  · have hG10 := ez _ _ hG9
                    have sG10 : SqL K H10 G (rm.map V.int) := .inl (.inl hG10)
                    refine ⟨_, rfl, G, rfl, ⟨_, sG10⟩, fun J hJ => ?_⟩
                    refine lc_by (rm.map V.int).length (fun j H' => Ex H10 H' ∧ H' J = some (.lst (((rm.take j).filter fun q => pu.contains q).map V.int)))
                      ⟨Ex.nw hJ, upd_same⟩ (fun j H' hj p => itl_go sG10 p.1 hj) (fun H' p => itl_stop sG10 p.1) ?_ ?_
                    · rintro j H11 x H12 hj ⟨e11, hJ11⟩ y
                      obtain ⟨rfl, hx⟩ := itl_yld y sG10 e11
                      obtain ⟨k, hk, rfl⟩ := map_at hx
                      rw [take_snoc hk, List.filter_append, List.map_append, List.filter_cons, List.filter_nil]
                      refine ⟨rfl, _, rfl, _, rfl, P2, _, rfl, .inl (.inl (.inl ((ez.tr e11) _ _ hP9))), rfl, flat_ints, ?_⟩
                      rw [show (if false = true then !inV (.int k) (pu.map V.int) else inV (.int k) (pu.map V.int)) = pu.contains k from inV_int]
                      refine ⟨_, rfl, ?_⟩
                      refine ite2 (fun h3 => ?_) (fun h3 => ?_)
                      · refine ⟨_, rfl, _, hJ11, mil' ?_, e11.wr hJ, ?_⟩
                        · rw [List.length_map]
                          have h4 := List.length_filter_le (fun q => pu.contains q) (rm.take j)
                          rw [List.length_take] at h4
                          omega
                        · rw [upd_same, if_pos h3]
                          rfl
                      · refine ⟨e11, ?_⟩
                        rw [if_neg h3, List.map_nil, List.append_nil]
                        exact hJ11
                    · rintro H11 ⟨e11, hJ11⟩
                      rw [List.length_map, List.take_length] at hJ11
                      refine ⟨Nat.zero_le _, fun z2 hz2 => ?_⟩
                      have ez2 : Ex H11 (upd H11 z2 (.lst [])) := Ex.nw hz2
                      have hz20 : (upd H11 z2 (.lst [])) z2 = some (.lst []) := upd_same
                      generalize upd H11 z2 (.lst []) = H12 at ez2 hz20
                      have e912 := ez.tr (e11.tr ez2)
                      refine ⟨J, z2, _, rfl, rfl, .inl (.inl (ez2 _ _ hJ11)), .inl (.inl hz20), _, rfl, ?_⟩
                      have eie : (((rm.filter fun q => pu.contains q).map V.int).isEmpty) = cutB u rm := by
                        rw [hce h2]
                        cases rm.filter fun q => pu.contains q <;> rfl
                      rw [eie]

                      refine ite2 (fun h3 => ?_) (fun h3 => ?_)
                      · have hF12 := e912 _ _ R9.at_
                        refine ⟨_, rfl, .inl ⟨rfl, _, .inl (.inl hF12)⟩, _, rfl, F2, _, _, rfl, rfl, hF12, mil' ?_, ?_⟩
                        · rw [List.length_map, R9.len]
                          have := cutTo_len (u := u) (i := i)
                          omega
                        · refine ⟨_, _, _, _, bs ++ [G], rfl, (e49.tr e912).wr hF2, ?_, ?_⟩
                          · rw [hst, if_pos ⟨hh1, h2, h3⟩]
                            exact R7.snoc ((e8.tr e9).tr e912) hG ((e9.tr e912) _ _ hG8')
                          · rw [upd_ne FP.symm]
                            exact e912 _ _ hP9
                      · exact ⟨_, _, _, _, bs, rfl, e49.tr e912, hno e912 fun h => h3 h.2.2, e912 _ _ hP9⟩
                  · exact ⟨_, _, _, _, bs, rfl, e49.tr ez, hno ez fun h => h2 h.2.1, ez _ _ hP9⟩
                · refine ⟨_, _, _, _, bs, rfl, e49, hno Ex.rfl fun h => h1 ?_, hP9⟩
                  have := hih.mp h.1
                  rw [hr] at this
                  have := Option.some.inj this
                  rw [this]
                  simp
          · rintro σ H7 ⟨z2, z4, z8, z9, bs, rfl, e7, R7, hP7⟩
            exact ⟨_, rfl, q F2 bs H7 R7⟩
end

end K17
namespace K17
open PySem PySem.Spec PyProof.Rows L2 Nw
/-! _law_fewest: slots 0 _law_web_here, 1 _law_lists_here, 2 _law_rooms_here, 3 _law_k, 4 _law_one, 5 _law_row -/
abbrev s_fewest : Stmt := topS 50
abbrev N_fewest : List Str := ["_law_web_here", "_law_lists_here", "_law_rooms_here", "_law_k", "_law_one", "_law_row"]
abbrev P_fewest : List Str := ["_law_web_here"]
theorem sc_fewest : FnScope N_fewest P_fewest (defScope s_fewest) := ⟨rfl, rfl, rfl, by decide +kernel, rfl, by decide +kernel, by decide +kernel⟩
theorem pushed_app {n : Int} : ∀ {a b : List (List Int)} {i : Nat}, pushedFrom n i (a ++ b) = pushedFrom n i a ++ pushedFrom n (i + a.length) b
  | [], b, i => by simp [pushedFrom]
  | r :: a, b, i => by
    show pushedAt n i r ++ pushedFrom n (i + 1) (a ++ b) = (pushedAt n i r ++ pushedFrom n (i + 1) a) ++ pushedFrom n (i + (a.length + 1)) b
    rw [pushed_app (a := a) (b := b) (i := i + 1), List.append_assoc, show i + 1 + a.length = i + (a.length + 1) by omega]
theorem srcs_snoc {ls : List (Int × Int)} {s t q : Int} : srcsOf (ls ++ [(s, t)]) q = srcsOf ls q ++ if t = q then [s] else [] := by
  unfold srcsOf
  rw [List.filter_append, List.map_append, List.filter_cons, List.filter_nil]
  by_cases h : t = q
  · rw [if_pos h, if_pos (by simpa using h)]
    rfl
  · rw [if_neg h, if_neg (by simpa using h)]
    rfl
theorem srcs_len {ls : List (Int × Int)} {q : Int} : (srcsOf ls q).length ≤ ls.length := by
  unfold srcsOf
  rw [List.length_map]
  exact List.length_filter_le _ _
noncomputable def lsK (u : Wb) (k : Nat) : List (Int × Int) := u.lines ++ pushedFrom u.n u.ns.length ((cutOf u).take k)
theorem lsK_end {u : Wb} : lsK u (cutOf u).length = (Wb.more u (cutOf u)).lines := by
  unfold lsK
  rw [List.take_length]
  show (u.ps ++ pushedFrom u.n 0 u.ns) ++ _ = u.ps ++ pushedFrom u.n 0 (u.ns ++ cutOf u)
  rw [pushed_app, List.append_assoc, Nat.zero_add]
theorem lsK_succ {u : Wb} {k : Nat} {r : List Int} (h : (cutOf u)[k]? = some r) : lsK u (k + 1) = lsK u k ++ r.map fun t => (u.n + ((u.ns.length + k : Nat) : Int), t) := by
  unfold lsK
  rw [pushedFrom_take _ _ _ _ _ h, List.append_assoc]
  rfl
theorem cut_row {u : Wb} (hu : u.Ok) {r : List Int} (h : r ∈ cutOf u) : r.length ≤ 20 ∧ ∀ t ∈ r, 0 ≤ t ∧ t < u.n := by
  obtain ⟨_, _, a, ha, rfl⟩ := first_mem (cut_mem h).1
  have := room_len (ps := u.ps) (n := u.n) (a := a)
  have := hu.hi
  have := hu.lo
  exact ⟨by omega, fun t ht => (mem_room.mp ht).1⟩
theorem lsK_len {u : Wb} (hu : u.Ok) {k : Nat} : (lsK u k).length ≤ 4000 := by
  unfold lsK
  rw [List.length_append]
  have h1 := hu.lines_len
  have h2 := pushed_len u.n ((cutOf u).take k) u.ns.length fun r hr => (cut_row hu (List.mem_of_mem_take hr)).1
  have h3 := cut_len (u := u)
  have h4 := hu.hi
  rw [List.length_take] at h2
  have h5 := hu.len
  omega
/-- the number of single nudges that the law is due -/
def FewN (u : Wb) (k : Int) : Prop := ∃ ps, Top (rowsU (Wb.more u (cutOf u))) u.n ps ∧ k = ((cutOf u).length : Int) + u.n - (ps.length : Int)
/-- what the rows and the rooms are while sources are added -/
structure AddI (H H' : Hp) (L C : Addr) (as bs : List Addr) (ct : List (List Int)) (ls : List (Int × Int)) : Prop where
  ex : Ex H H'
  at_ : H' L = some (.lst (as.map V.ref))
  cat_ : H' C = some (.lst (bs.map V.ref))
  room : ∀ (k : Nat) (c : Addr), bs[k]? = some c → ∃ r, ct[k]? = some r ∧ H' c = some (.lst (r.map V.int))
  row : ∀ (i : Nat) (b : Addr), as[i]? = some b → H' b = some (.lst ((srcsOf ls (i : Int)).map V.int))
theorem AddI.step {H H' : Hp} {L C : Addr} {as bs : List Addr} {ct : List (List Int)} {ls : List (Int × Int)} (h : AddI H H' L C as bs ct ls) (nd : as.Nodup) (off : ∀ b ∈ as, H b = none ∧ b ≠ L ∧ b ≠ C ∧ b ∉ bs) {i : Nat} {b : Addr} (hb : as[i]? = some b) {s : Int} :
    AddI H (upd H' b (.lst ((srcsOf ls (i : Int)).map V.int ++ [V.int s]))) L C as bs ct (ls ++ [(s, (i : Int))]) := by
  obtain ⟨o1, o2, o3, o4⟩ := off b (List.mem_of_getElem? hb)
  refine ⟨h.ex.wr o1, by rw [upd_ne o2.symm]; exact h.at_, by rw [upd_ne o3.symm]; exact h.cat_, fun k c hc => ?_, fun j c hc => ?_⟩
  · obtain ⟨r, h1, h2⟩ := h.room k c hc
    exact ⟨r, h1, by rw [upd_ne fun e => o4 (by rw [← e]; exact List.mem_of_getElem? hc)]; exact h2⟩
  · rw [srcs_snoc]
    by_cases e : c = b
    · subst e
      have := nd_any nd hc hb
      subst this
      rw [upd_same, if_pos rfl, List.map_append]
      rfl
    · have ne : ¬ ((i : Int) = (j : Int)) := fun e2 => by
        have : i = j := by omega
        subst this
        rw [hc] at hb
        exact e (Option.some.inj hb)
      rw [upd_ne e, if_neg ne, List.append_nil]
      exact h.row j c hc
def sp_fewest (K : PySem.W.Frag) : Sp := fun vs H Q _ => ∃ (v : V) (u : Wb), vs = [v] ∧ Da K H (Wb.d u) v ∧ u.Ok ∧ ∀ (k : Int) H', Ex H H' → FewN u k → Q (.int k) H'
section
variable {P : Program} {w : World} {K : PySem.W.Frag} {mg : Str → Option Value} {base : Heap}
theorem ok_fewest {f : Addr} {fd : FuncData} (T : Txt K mg) (F : Fun K "_law_fewest" "_law_fewest" s_fewest f fd)
    (D_sources : DefOk P w K mg base CX0 2 "_law_sources" P_sources (sp_sources K))
    (D_matched : DefOk P w K mg base CX0 2 "_law_matched" P_matched (sp_matched K))
    (D_cut_rooms : DefOk P w K mg base CX0 1 "_law_cut_rooms" P_cut_rooms (sp_cut_rooms K)) :
    FnG P w K mg base CX0 3 f fd P_fewest (sp_fewest K) := by
  refine okG0 F sc_fewest (fun vs H Q E h => ?_) (fun cdv A outer s H vs Q E hr hq h => ?_)
  · obtain ⟨v, u, rfl, _⟩ := h
    rfl
  · obtain ⟨v, u, rfl, hd, hu, q⟩ := h
    obtain ⟨tw, x2, x3, rfl, hS, g2, ⟨a3, xs, rfl, hL3, hA3, hz3⟩⟩ := Wb.at hd
    have b1 := hu.lo
    have b2 := hu.hi
    have hl3 := hA3.len
    rw [List.length_map] at hl3
    refine ⟨_, (pss_cons (ps_par (i := 1) (j := 2) (by rfl) sc_fewest.nd rfl rfl (by decide) rfl rfl (pa_cons (pe_callD D_sources (hr.mono (by decide)) hq pass0 (pa_cons (pv 0) pa_nil)) (pa_cons (pe_callD D_cut_rooms (hr.mono (by decide)) hq pass0 (pa_cons (pv 0) pa_nil)) pa_nil)) (by rfl))
      (pss_cons (ps_for PassesOwn.never rfl (pi_range1 (by rfl) T.b_range (pa_cons (pe_callB (call_lenK K) (by rfl) T.b_len bt_len (pa_cons (pv 2) pa_nil)) pa_nil)) (pg_name (i := 3) sc_fewest.nd rfl (by first | exact .inl rfl | exact .inr rfl)) (pss_one (ps_for PassesOwn.never rfl (pi_listK K (pe_ix (ix_listK K) (pv 2) (pv 3) (fun _ _ => rfl))) (pg_name (i := 4) sc_fewest.nd rfl (by first | exact .inl rfl | exact .inr rfl)) (pss_cons (ps_set (i := 5) sc_fewest.nd rfl (by first | exact .inl rfl | exact .inr rfl) (pe_ix (ix_listK K) (pv 1) (pv 4) (fun _ _ => rfl)))
      (pss_one (ps_expr (pe_bm PySem.F.plainAttrs_list PySem.F.slot_list_append PySem.F.type_list_append mt_append (pv 5) (pa_cons (pe_op op_add (pe_op op_add (pe_ix (ix_tupK K) (pv 0) pe_int (fun _ _ => rfl)) (pe_callB (call_lenK K) (by rfl) T.b_len bt_len (pa_cons (pe_ix (ix_tupK K) (pv 0) pe_int (fun _ _ => rfl)) pa_nil))) (pv 3)) pa_nil))))))))
      (pss_one (ps_ret (pe_op op_sub (pe_op op_add (pe_callB (call_lenK K) (by rfl) T.b_len bt_len (pa_cons (pv 2) pa_nil)) (pe_ix (ix_tupK K) (pv 0) pe_int (fun _ _ => rfl))) (pe_callB (call_lenDK K) (by rfl) T.b_len bt_len (pa_cons (pe_callD D_matched (hr.mono (by decide)) hq pass0 (pa_cons (pv 1) pa_nil)) pa_nil))))))), ?_⟩
    refine ⟨_, rfl, .ref tw, u, rfl, hd, hu, fun L as H1 R => ?_⟩
    refine ⟨_, rfl, .ref tw, u, rfl, hd.up R.ex, hu, fun C bs H2 RC => ?_⟩
    have hct := cut_len (u := u)
    have hrw : ∀ r ∈ cutOf u, r.length ≤ 20 ∧ ∀ t ∈ r, 0 ≤ t ∧ t < u.n := fun r hr => cut_row hu hr
    have hbl := RC.len
    have off : ∀ b ∈ as, H b = none ∧ b ≠ L ∧ b ≠ C ∧ b ∉ bs := fun b hb => by
      obtain ⟨o1, o2⟩ := R.off b hb
      obtain ⟨i, hi⟩ := List.getElem?_of_mem hb
      have hb1 := R.row i b hi
      refine ⟨o1, o2, fun e => ?_, fun hm => ?_⟩
      · have := RC.new
        rw [← e, hb1] at this
        cases this
      · obtain ⟨k, hk⟩ := List.getElem?_of_mem hm
        have := (RC.row k b hk).1.1
        rw [hb1] at this
        cases this
    have A2 : AddI H H2 L C as bs (cutOf u) (lsK u 0) := by
      refine ⟨R.ex.tr RC.ex, RC.ex _ _ R.at_, RC.at_, fun k c hc => (RC.row k c hc).2, fun i b hb => ?_⟩
      have h1 := RC.ex _ _ (R.row i b hb)
      rw [srcI_eqW hu] at h1
      rw [h1]
      show _ = some (HO.lst ((srcsOf (u.lines ++ []) (i : Int)).map V.int))
      rw [List.append_nil]
    generalize hc0 : cutOf u = ct at hct hrw hbl A2
    have lsl : ∀ {k : Nat}, (lsK u k).length ≤ 4000 := lsK_len hu
    have hsuc : ∀ {k : Nat} {r : List Int}, ct[k]? = some r → lsK u (k + 1) = lsK u k ++ r.map fun t => (u.n + ((u.ns.length + k : Nat) : Int), t) := fun h => lsK_succ (by rw [hc0]; exact h)
    refine ⟨_, _, rfl, ?_⟩
    have sC2 : SqL K H2 C (bs.map V.ref) := .inl (.inl A2.cat_)
    refine ⟨_, rfl, C, _, rfl, .inl sC2, ?_⟩
    refine ⟨_, rfl, by rw [List.length_map]; omega, by rw [List.length_map]; omega, ?_⟩
    rw [List.length_map, hbl]
    refine for_by ct.length (fun i σ H' => ∃ y3 y4 y5, σ = [some (V.ref tw), some (V.ref L), some (V.ref C), y3, y4, y5] ∧ AddI H H' L C as bs ct (lsK u i))
      ⟨_, _, _, rfl, A2⟩ (fun i σ H' hi p => (by show i < _; omega)) (fun σ H' p => (by show _ ≤ ct.length; omega)) ?_ ?_
    · rintro i σ H9 x H3 hi ⟨y3, y4, y5, rfl, A3⟩ ⟨rfl, rfl⟩
      have ez : (0 + (i : Int)) = (i : Int) := Int.zero_add _
      rw [ez]
      obtain ⟨c, hc⟩ : ∃ c, bs[i]? = some c := ⟨_, List.getElem?_eq_getElem (by omega)⟩
      obtain ⟨r, hr, hcr⟩ := A3.room i c hc
      have hrm := List.mem_of_getElem? hr
      refine ⟨_, rfl, _, rfl, C, _, (i : Int), .ref c, rfl, rfl, .inl (.inl A3.cat_), atI_nat (by rw [List.getElem?_map, hc]; rfl), ?_⟩
      refine ⟨c, rfl, ⟨_, .inl (.inl hcr)⟩, ?_⟩
      refine for_by (r.map V.int).length (fun j σ H' => ∃ y4 y5, σ = [some (V.ref tw), some (V.ref L), some (V.ref C), some (V.int (i : Int)), y4, y5] ∧ AddI H H' L C as bs ct (lsK u i ++ (r.take j).map fun t => (u.n + ((u.ns.length + i : Nat) : Int), t)))
        ⟨_, _, rfl, by rw [List.take_zero, List.map_nil, List.append_nil]; exact A3⟩ (fun j σ H' hj p => ?_) (fun σ H' p => ?_) ?_ ?_
      · obtain ⟨_, _, _, A4⟩ := p
        obtain ⟨r', h1, h2⟩ := A4.room i c hc
        rw [hr] at h1
        cases h1
        exact itl_go (.inl (.inl h2)) Ex.rfl hj
      · obtain ⟨_, _, _, A4⟩ := p
        obtain ⟨r', h1, h2⟩ := A4.room i c hc
        rw [hr] at h1
        cases h1
        exact itl_stop (.inl (.inl h2)) Ex.rfl
      · rintro j σ H4 x H5 hj ⟨y4, y5, rfl, A4⟩ ⟨rfl, hx⟩
        obtain ⟨r', h1, h2⟩ := A4.room i c hc
        rw [hr] at h1
        cases h1
        have hx := hx _ (.inl (.inl h2))
        obtain ⟨k, hk, rfl⟩ := map_at hx
        obtain ⟨k1, k2⟩ := (hrw r hrm).2 k (List.mem_of_getElem? hk)
        have ral := R.len
        have hs : k.toNat < as.length := by omega
        have hb := List.getElem?_eq_getElem hs
        generalize as[k.toNat] = b at hb
        have ek : ((k.toNat : Nat) : Int) = k := Int.toNat_of_nonneg k1
        have hb4 := A4.row _ _ hb
        have A5 := A4.step R.nd off hb (s := u.n + ((u.ns.length + i : Nat) : Int))
        rw [ek] at hb4 A5
        have hS4 := A4.ex.t hS
        refine ⟨_, rfl, _, rfl, L, _, k, .ref b, rfl, rfl, .inl (.inl A4.at_), atI_int k1 (by rw [List.getElem?_map, hb]; rfl), ?_⟩
        refine ⟨_, rfl, .inl ⟨rfl, _, .inl (.inl hb4)⟩, ?_⟩
        refine ⟨_, rfl, tw, _, 0, _, rfl, rfl, hS4, rfl, _, rfl, tw, _, 2, _, rfl, rfl, hS4, rfl, a3, _, rfl, .inl (.inl (.inl (A4.ex _ _ hL3))), _, _, rfl, rfl, _, rfl, _, _, rfl, rfl, ?_⟩
        refine ⟨b, _, _, rfl, rfl, hb4, mil' ?_, ?_⟩
        · rw [List.length_map]
          have h3 := srcs_len (ls := lsK u i ++ (r.take j).map fun t => (u.n + ((u.ns.length + i : Nat) : Int), t)) (q := k)
          have h4 := lsl (k := i)
          have h5 := (hrw r hrm).1
          rw [List.length_append, List.length_map, List.length_take] at h3
          omega
        · refine ⟨_, _, rfl, ?_⟩
          rw [take_snoc hk, List.map_append, ← List.append_assoc]
          have es : u.n + (xs.length : Int) + (i : Int) = u.n + ((u.ns.length + i : Nat) : Int) := by omega
          dsimp only
          rw [es]
          exact A5
      · rintro σ H4 ⟨y4, y5, rfl, A4⟩
        rw [List.length_map, List.take_length, ← hsuc hr] at A4
        exact ⟨_, _, _, rfl, A4⟩
    · rintro σ H3 ⟨y3, y4, y5, rfl, A3⟩
      subst hc0
      rw [lsK_end] at A3
      have RL : RowsL H3 L as (rowsU (Wb.more u (cutOf u))) := by
        refine ⟨A3.at_, by rw [rowsU_len, R.len]; rfl, fun i b hb => ?_, fun x hx s hs => ?_⟩
        · have hi := (List.getElem?_eq_some_iff.mp hb).1
          rw [R.len] at hi
          exact ⟨_, rowsU_at hi, A3.row i b hb⟩
        · unfold rowsU at hx
          obtain ⟨i, _, rfl⟩ := List.mem_map.mp hx
          exact srcs_rg (cut_wd hu) hs
      refine ⟨_, rfl, C, _, rfl, .inl (.inl (.inl A3.cat_)), _, rfl, tw, _, 0, _, rfl, rfl, A3.ex.t hS, rfl, _, _, rfl, rfl, ?_⟩
      refine ⟨_, rfl, L, as, _, rfl, RL, by rw [rowsU_len]; show u.n.toNat ≤ 20; omega, fun D ps H4 e4 hD hD4 top => ?_⟩
      have kl : (kvI ps).length = ps.length := by
        unfold kvI
        rw [List.length_map]
      have en : ((u.n.toNat : Nat) : Int) = u.n := Int.toNat_of_nonneg (by omega)
      rw [rowsU_len] at top
      rw [show ((Wb.more u (cutOf u)).n.toNat : Int) = u.n from en] at top
      refine ⟨D, _, rfl, hD4, _, _, rfl, rfl, ?_⟩
      rw [kl, List.length_map, hbl]
      exact q _ H4 (A3.ex.tr e4) ⟨ps, top, rfl⟩
end

end K17
namespace K17
open PySem PySem.Spec PyProof.Rows L2 Nw
/-! _law_is_enough: slots 0 _law_web_here, 1 _law_row, 2 _law_one -/
abbrev s_is_enough : Stmt := topS 52
abbrev N_is_enough : List Str := ["_law_web_here", "_law_row", "_law_one"]
abbrev P_is_enough : List Str := ["_law_web_here", "_law_row"]
theorem sc_is_enough : FnScope N_is_enough P_is_enough (defScope s_is_enough) := ⟨rfl, rfl, rfl, by decide +kernel, rfl, by decide +kernel, by decide +kernel⟩
def sgl (L : List Int) : List (List Int) := L.map fun q => [q]
theorem sgl_wd {u : Wb} (hu : u.Ok) {L : List Int} (hl : L.length ≤ 23) (h : ∀ q ∈ L, 0 ≤ q ∧ q < u.n) : Wb.Wd (Wb.more u (sgl L)) := by
  refine more_wd hu (by unfold sgl; rw [List.length_map]; exact hl) fun r hr => ?_
  obtain ⟨q, hq, rfl⟩ := List.mem_map.mp hr
  refine ⟨fun t ht => ?_, rfl⟩
  obtain rfl := List.mem_singleton.mp ht
  exact h t hq
def sp_is_enough (K : PySem.W.Frag) : Sp := fun vs H Q _ => ∃ (v : V) (u : Wb) (a : Addr) (L : List Int), vs = [v, .ref a] ∧ Da K H (Wb.d u) v ∧ u.Ok ∧ H a = some (.lst (L.map V.int)) ∧ L.length ≤ 23 ∧ (∀ q ∈ L, 0 ≤ q ∧ q < u.n) ∧
  ∀ (t : Bool) H', Ex H H' → (t = true ↔ RS (Wb.more u (sgl L))) → Q (.bl t) H'
section
variable {P : Program} {w : World} {K : PySem.W.Frag} {mg : Str → Option Value} {base : Heap}
theorem ok_is_enough {f : Addr} {fd : FuncData} (T : Txt K mg) (F : Fun K "_law_is_enough" "_law_is_enough" s_is_enough f fd)
    (D_reaches_some : DefOk P w K mg base CX0 3 "_law_reaches_some" P_reaches_some (sp_reaches_some K)) :
    FnG P w K mg base CX0 4 f fd P_is_enough (sp_is_enough K) := by
  refine okG0 F sc_is_enough (fun vs H Q E h => ?_) (fun cdv A outer s H vs Q E hr hq h => ?_)
  · obtain ⟨v, u, a, L, rfl, _⟩ := h
    rfl
  · obtain ⟨v, u, a, L, rfl, hd, hu, hL, hl, hrg, q⟩ := h
    obtain ⟨tw, x2, x3, rfl, hS, g2, ⟨a3, xs, rfl, hL3, hA3, hz3⟩⟩ := Wb.at hd
    have b1 := hu.lo
    have b2 := hu.hi
    have b3 := hu.few
    have hl3 := hA3.len
    rw [List.length_map] at hl3
    refine ⟨_, (pss_one (ps_ret (pe_callD D_reaches_some (hr.mono (by decide)) hq pass0 (pa_cons (pe_tup (pa_cons (pe_ix (ix_tupK K) (pv 0) pe_int (fun _ _ => rfl)) (pa_cons (pe_ix (ix_tupK K) (pv 0) pe_int (fun _ _ => rfl)) (pa_cons (pe_op (op_catS K) (pe_ix (ix_tupK K) (pv 0) pe_int (fun _ _ => rfl)) (pe_lc (own := [("_law_one", 2)]) rfl sc_is_enough.nd (pi_listK K (pv 1)) (blkOk_by (N := N_is_enough) (sc := defScope s_is_enough) (by decide +kernel)) (fun _ _ _ _ _ => (pg_name (i := 2) sc_is_enough.nd rfl (by first | exact .inl rfl | exact .inr rfl))) (fun _ _ _ _ _ => pts_nil) (fun _ _ _ _ _ => (pe_lst (pa_cons (pv 2) pa_nil))))) pa_nil)))) pa_nil)))), ?_⟩
    refine ⟨_, rfl, tw, _, 0, _, rfl, rfl, hS, rfl, ?_⟩
    refine ⟨_, rfl, tw, _, 1, _, rfl, rfl, hS, rfl, ?_⟩
    refine ⟨_, rfl, tw, _, 2, _, rfl, rfl, hS, rfl, ?_⟩
    have sL : SqL K H a (L.map V.int) := .inl (.inl hL)
    refine ⟨_, rfl, a, rfl, ⟨_, sL⟩, fun D hD => ?_⟩
    refine lc_by (L.map V.int).length (fun i H' => Ex H H' ∧ ∃ bs, NewR H H' (sgl (L.take i)) D bs)
      ⟨Ex.nw hD, [], NewR.nil hD⟩ (fun i H' hi p => itl_go sL p.1 hi) (fun H' p => itl_stop sL p.1) ?_ ?_
    · rintro i H1 x H2 hi ⟨e1, bs, R1⟩ y
      obtain ⟨rfl, hx⟩ := itl_yld y sL e1
      obtain ⟨k, hk, rfl⟩ := map_at hx
      refine ⟨rfl, _, rfl, by show 1 ≤ sizeLine; decide, fun b hb => ?_⟩
      have eb : Ex H2 (upd H2 b (.lst [.int k])) := Ex.nw hb
      have hb3 : (upd H2 b (.lst [.int k])) b = some (.lst (([k] : List Int).map V.int)) := upd_same
      generalize upd H2 b (.lst [.int k]) = H3 at eb hb3
      refine ⟨bs.map V.ref, eb _ _ R1.at_, mil' ?_, (e1.tr eb).wr hD, bs ++ [b], ?_⟩
      · rw [List.length_map, R1.len]
        unfold sgl
        rw [List.length_map, List.length_take]
        omega
      · rw [take_snoc hk]
        unfold sgl
        rw [List.map_append]
        exact R1.snoc eb hb hb3
    · rintro H1 ⟨e1, bs, R1⟩
      rw [List.length_map, List.take_length] at R1
      have hbl := R1.len
      unfold sgl at hbl
      rw [List.length_map] at hbl
      refine ⟨a3, D, _, _, rfl, rfl, .inl (.inl (e1 _ _ hL3)), .inl (.inl R1.at_), by rw [List.length_map]; omega, fun N hN => ?_⟩
      have hN5 : (upd H1 N (.lst (xs ++ bs.map V.ref))) N = some (.lst (xs ++ bs.map V.ref)) := upd_same
      have e5 : Ex H1 (upd H1 N (.lst (xs ++ bs.map V.ref))) := Ex.nw hN
      generalize upd H1 N (.lst (xs ++ bs.map V.ref)) = H5 at hN5 e5
      refine ⟨by show 3 ≤ sizeLine; decide, fun T hT => ?_⟩
      have hT6 : (upd H5 T (.tup [.int u.n, x2, .ref N])) T = some (.tup [.int u.n, x2, .ref N]) := upd_same
      have e6 : Ex H5 (upd H5 T (.tup [.int u.n, x2, .ref N])) := Ex.nw hT
      generalize upd H5 T (.tup [.int u.n, x2, .ref N]) = H6 at hT6 e6
      have e16 := e1.tr (e5.tr e6)
      have dm : Da K H6 (Wb.d (Wb.more u (sgl L))) (.ref T) := by
        refine ⟨T, _, rfl, hT6, _, _, rfl, rfl, _, _, rfl, g2.up e16, _, _, rfl, ⟨N, _, rfl, e6 _ _ hN5, ?_, ?_⟩, rfl⟩
        · rw [show (Wb.more u (sgl L)).ns = u.ns ++ sgl L from rfl, List.map_append]
          refine (hA3.up e16).app (rows_of R1.len fun k b hb => ?_)
          obtain ⟨_, r, h1, h2⟩ := R1.row k b hb
          refine ⟨r, h1, (e5.tr e6) _ _ h2, ?_⟩
          obtain ⟨q0, _, rfl⟩ := List.mem_map.mp (List.mem_of_getElem? h1)
          show 1 ≤ 100000
          decide
        · rw [show (Wb.more u (sgl L)).ns = u.ns ++ sgl L from rfl, List.length_map, List.length_append]
          unfold sgl
          rw [List.length_map]
          omega
      exact ⟨.ref T, _, rfl, dm, sgl_wd hu hl hrg, fun t H7 e7 ht => q t H7 (e16.tr e7) ht⟩
end

end K17
namespace K17
open PySem PySem.Spec PyProof.Rows L2 Nw
/-! _law_lists: slots 0 _law_count, 1 _law_many, 2 _law_found, 3 _law_turn, 4 _law_longer, 5 _law_row, 6 _law_one -/
abbrev s_lists : Stmt := topS 51
abbrev N_lists : List Str := ["_law_count", "_law_many", "_law_found", "_law_turn", "_law_longer", "_law_row", "_law_one"]
abbrev P_lists : List Str := ["_law_count", "_law_many"]
theorem sc_lists : FnScope N_lists P_lists (defScope s_lists) := ⟨rfl, rfl, rfl, by decide +kernel, rfl, by decide +kernel, by decide +kernel⟩
/-- lists of so many quantities, at their places -/
structure LtsI (H : Hp) (n : Int) (m k : Nat) (L : Addr) (bs : List Addr) : Prop where
  at_ : H L = some (.lst (bs.map V.ref))
  len : bs.length ≤ k
  row : ∀ b ∈ bs, b ≠ L ∧ ∃ r : List Int, H b = some (.lst (r.map V.int)) ∧ r.length = m ∧ ∀ t ∈ r, 0 ≤ t ∧ t < n
theorem LtsI.up {H H' : Hp} {n : Int} {m k : Nat} {L : Addr} {bs : List Addr} (h : LtsI H n m k L bs) (e : Ex H H') : LtsI H' n m k L bs :=
  ⟨e _ _ h.at_, h.len, fun b hb => by
    obtain ⟨h0, r, h1, h2⟩ := h.row b hb
    exact ⟨h0, r, e _ _ h1, h2⟩⟩
def sp_lists (K : PySem.W.Frag) : Sp := fun vs H Q _ => ∃ (n : Int) (m : Nat), vs = [.int n, .int (m : Int)] ∧ (0 ≤ n ∧ n ≤ 7) ∧ m ≤ 6 ∧
  ∀ (L : Addr) (bs : List Addr) H', Ex H H' → LtsI H' n m 117649 L bs → Q (.ref L) H'
section
variable {P : Program} {w : World} {K : PySem.W.Frag} {mg : Str → Option Value} {base : Heap}
theorem ok_lists {f : Addr} {fd : FuncData} (T : Txt K mg) (F : Fun K "_law_lists" "_law_lists" s_lists f fd) :
    FnG P w K mg base CX0 1 f fd P_lists (sp_lists K) := by
  refine okG0 F sc_lists (fun vs H Q E h => ?_) (fun cdv A outer s H vs Q E hr hq h => ?_)
  · obtain ⟨n, m, rfl, _⟩ := h
    rfl
  · obtain ⟨n, m, rfl, hn, hm, q⟩ := h
    refine ⟨_, (pss_cons (ps_set (i := 2) sc_lists.nd rfl (by first | exact .inl rfl | exact .inr rfl) (pe_lst (pa_cons (pe_lst pa_nil) pa_nil)))
      (pss_cons (ps_for PassesOwn.never rfl (pi_range1 (by rfl) T.b_range (pa_cons (pv 1) pa_nil)) (pg_name (i := 3) sc_lists.nd rfl (by first | exact .inl rfl | exact .inr rfl)) (pss_cons (ps_set (i := 4) sc_lists.nd rfl (by first | exact .inl rfl | exact .inr rfl) (pe_lst pa_nil))
      (pss_cons (ps_for PassesOwn.never rfl (pi_listK K (pv 2)) (pg_name (i := 5) sc_lists.nd rfl (by first | exact .inl rfl | exact .inr rfl)) (pss_one (ps_expr (pe_bm PySem.F.plainAttrs_list PySem.F.slot_list_extend PySem.F.type_list_extend mt_extend (pv 4) (pa_cons (pe_lc (own := [("_law_one", 6)]) rfl sc_lists.nd (pi_range2 (by rfl) T.b_range (pa_cons (pe_ifExp (pt_cmpR (op_neNil K hr) (pv 5) (pe_lst pa_nil) (nomark _)) (pe_op op_add (pe_ix (ix_listK K) (pv 5) (pe_un un_neg pe_int) (fun _ _ => rfl)) pe_int) pe_int) (pa_cons (pv 0) pa_nil))) (blkOk_by (N := N_lists) (sc := defScope s_lists) (by decide +kernel)) (fun _ _ _ _ _ => (pg_name (i := 6) sc_lists.nd rfl (by first | exact .inl rfl | exact .inr rfl))) (fun _ _ _ _ _ => pts_nil) (fun _ _ _ _ _ => (pe_op (op_catS K) (pv 5) (pe_lst (pa_cons (pv 6) pa_nil))))) pa_nil)))))
      (pss_one (ps_set (i := 2) sc_lists.nd rfl (by first | exact .inl rfl | exact .inr rfl) (pv 4))))))
      (pss_one (ps_ret (pv 2))))), ?_⟩
    refine ⟨Nat.zero_le _, fun z hz => ?_⟩
    have e1 : Ex H (upd H z (.lst [])) := Ex.nw hz
    have f1 : (upd H z (.lst [])) z = some (.lst (([] : List Int).map V.int)) := upd_same
    generalize upd H z (.lst []) = H1 at e1 f1
    refine ⟨by show 1 ≤ sizeLine; decide, fun L0 hL0 => ?_⟩
    have e2 : Ex H1 (upd H1 L0 (.lst [.ref z])) := Ex.nw hL0
    have f2 : (upd H1 L0 (.lst [.ref z])) L0 = some (.lst (([z] : List Addr).map V.ref)) := upd_same
    generalize upd H1 L0 (.lst [.ref z]) = H2 at e2 f2
    have S0 : LtsI H2 n 0 (7 ^ 0) L0 [z] := ⟨f2, Nat.le_refl _, fun b hb => by
      obtain rfl := List.mem_singleton.mp hb
      refine ⟨fun e => ?_, [], e2 _ _ f1, rfl, fun t ht => by cases ht⟩
      rw [e, hL0] at f1
      cases f1⟩
    refine ⟨_, rfl, (m : Int), rfl, by omega, by omega, ?_⟩
    refine for_by m (fun i σ H' => ∃ y3 y4 y5 Li bs, σ = [some (V.int n), some (V.int (m : Int)), some (V.ref Li), y3, y4, y5, none] ∧ Ex H H' ∧ LtsI H' n i (7 ^ i) Li bs)
      ⟨_, _, _, L0, [z], rfl, e1.tr e2, S0⟩ (fun i σ H' hi p => (by show i < (m : Int).toNat; omega)) (fun σ H' p => (by show (m : Int).toNat ≤ m; omega)) ?_ ?_
    · rintro i σ H9 x H3 hi ⟨y3, y4, y5, Li, bs, rfl, e3, S3⟩ ⟨rfl, rfl⟩
      refine ⟨Nat.zero_le _, fun W hW => ?_⟩
      have eW : Ex H3 (upd H3 W (.lst [])) := Ex.nw hW
      have fW : (upd H3 W (.lst [])) W = some (.lst (([] : List Addr).map V.ref)) := upd_same
      generalize upd H3 W (.lst []) = H4 at eW fW
      have S4 := S3.up eW
      have sL4 : SqL K H4 Li (bs.map V.ref) := .inl (.inl S4.at_)
      have pw : 7 ^ (i + 1) = 7 ^ i * 7 := Nat.pow_succ 7 i
      have pb : 7 ^ i ≤ 7 ^ 5 := Nat.pow_le_pow_right (by decide) (by omega)
      have p5 : 7 ^ 5 = 16807 := by decide
      refine ⟨_, rfl, Li, rfl, ⟨_, sL4⟩, ?_⟩
      refine for_by (bs.map V.ref).length (fun j σ H' => ∃ y5 cs, σ = [some (V.int n), some (V.int (m : Int)), some (V.ref Li), some (V.int (0 + (i : Int))), some (V.ref W), y5, none] ∧ Ex H3 H' ∧ LtsI H' n (i + 1) (j * 7) W cs)
        ⟨_, [], rfl, eW, fW, Nat.zero_le _, fun b hb => by cases hb⟩ (fun j σ H' hj p => ?_) (fun σ H' p => ?_) ?_ ?_
      · obtain ⟨_, _, _, e5, _⟩ := p
        exact itl_go (.inl (.inl S3.at_)) e5 hj
      · obtain ⟨_, _, _, e5, _⟩ := p
        exact itl_stop (.inl (.inl S3.at_)) e5
      · rintro j σ H5 x H6 hj ⟨y5, cs, rfl, e5, S5⟩ y
        obtain ⟨rfl, hx⟩ := itl_yld y (K := K) (.inl (.inl S3.at_)) e5
        obtain ⟨b, hb, rfl⟩ := map_at hx
        obtain ⟨_, r, hr3, hrl, hrg⟩ := S3.row b (List.mem_of_getElem? hb)
        have hr6 := e5 _ _ hr3
        have WH3 : H3 W = none := hW
        refine ⟨_, rfl, .inl ⟨rfl, _, .inl (.inl S5.at_)⟩, ?_⟩
        refine ⟨_, rfl, Nat.zero_le _, fun z hz => ?_⟩
        have ez : Ex H6 (upd H6 z (.lst [])) := Ex.nw hz
        have hz0 : (upd H6 z (.lst [])) z = some (.lst []) := upd_same
        generalize upd H6 z (.lst []) = H7 at ez hz0
        have hr7 := ez _ _ hr6
        have S7 := S5.up ez
        have hW7 := S7.at_
        refine ⟨b, z, _, rfl, rfl, .inl (.inl hr7), .inl (.inl hz0), _, rfl, ?_⟩
        refine ite2 (fun h => ?_) (fun h => ?_)
        · have h0 : 0 < r.length := by
            cases r with
            | nil => simp at h
            | cons x r => exact Nat.succ_pos _
          obtain ⟨a, ha, hat⟩ := atI_prev h0
          obtain ⟨a0, a1⟩ := hrg a ha
          refine ⟨_, rfl, _, rfl, b, _, _, _, rfl, rfl, .inl (.inl hr7), hat, _, _, rfl, rfl, ?_⟩
          refine ⟨_, rfl, (a + 1), n, rfl, ⟨by omega, by omega, by omega, by omega⟩, fun D hD => ?_⟩
          have DW : D ≠ W := fun e => by
            rw [e, hW7] at hD
            cases hD
          refine lc_by (n - (a + 1)).toNat (fun k H' => Ex H7 H' ∧ ∃ ds : List Addr, LtsI H' n (i + 1) k D ds)
            ⟨Ex.nw hD, [], upd_same, Nat.zero_le _, fun b hb => by cases hb⟩ (fun k H' hk p => hk) (fun H' p => Nat.le_refl _) ?_ ?_
          · rintro k H8 x H9 hk ⟨e8, ds, S8⟩ ⟨rfl, rfl⟩
            refine ⟨rfl, _, rfl, _, rfl, by show 1 ≤ sizeLine; decide, fun g hg => ?_⟩
            have eg : Ex H9 (upd H9 g (.lst [.int ((a + 1) + (k : Int))])) := Ex.nw hg
            have fg : (upd H9 g (.lst [.int ((a + 1) + (k : Int))])) g = some (.lst (([(a + 1) + (k : Int)] : List Int).map V.int)) := upd_same
            generalize upd H9 g (.lst [.int ((a + 1) + (k : Int))]) = H10 at eg fg
            refine ⟨b, g, _, _, rfl, rfl, .inl (.inl ((e8.tr eg) _ _ hr7)), .inl (.inl fg), by rw [List.length_map, List.length_map, List.length_singleton]; omega, fun c hc => ?_⟩
            rw [← List.map_append]
            have ec : Ex H10 (upd H10 c (.lst ((r ++ [(a + 1) + (k : Int)]).map V.int))) := Ex.nw hc
            have fc : (upd H10 c (.lst ((r ++ [(a + 1) + (k : Int)]).map V.int))) c = some (.lst ((r ++ [(a + 1) + (k : Int)]).map V.int)) := upd_same
            generalize upd H10 c (.lst ((r ++ [(a + 1) + (k : Int)]).map V.int)) = H11 at ec fc
            have S11 := S8.up (eg.tr ec)
            have s11 := S11.len
            have cD : c ≠ D := fun e => by
              rw [e, eg _ _ S8.at_] at hc
              cases hc
            refine ⟨_, S11.at_, mil' (by rw [List.length_map]; omega), ((e8.tr (eg.tr ec))).wr hD, ds ++ [c], ?_⟩
            refine ⟨by rw [upd_same, List.map_append]; rfl, by rw [List.length_append, List.length_singleton]; omega, fun b2 hb2 => ?_⟩
            rcases List.mem_append.mp hb2 with hb2 | hb2
            · obtain ⟨c0, r2, c1, c2⟩ := S11.row b2 hb2
              exact ⟨c0, r2, by rw [upd_ne c0]; exact c1, c2⟩
            · obtain rfl := List.mem_singleton.mp hb2
              refine ⟨cD, r ++ [(a + 1) + (k : Int)], by rw [upd_ne cD]; exact fc, by rw [List.length_append, hrl]; rfl, fun t ht => ?_⟩
              rcases List.mem_append.mp ht with ht | ht
              · exact hrg t ht
              · obtain rfl := List.mem_singleton.mp ht
                omega
          · rintro H8 ⟨e8, ds, S8⟩
            have s8 := S8.len
            have S8' := S7.up e8
            have s7 := S7.len
            rw [List.length_map] at hj
            have hbs := S3.len
            refine ⟨W, D, _, _, rfl, rfl, S8'.at_, S8.at_, Nat.le_of_lt (mil' (by rw [List.length_map, List.length_map]; omega)), ?_⟩
            refine ⟨_, cs ++ ds, rfl, ((e5.tr ez).tr e8).wr WH3, by rw [upd_same, List.map_append], by rw [List.length_append]; omega, fun b2 hb2 => ?_⟩
            rcases List.mem_append.mp hb2 with hb2 | hb2
            · obtain ⟨c0, r2, c1, c2⟩ := S8'.row b2 hb2
              exact ⟨c0, r2, by rw [upd_ne c0]; exact c1, c2⟩
            · obtain ⟨c0, r2, c1, c2⟩ := S8.row b2 hb2
              have bW : b2 ≠ W := fun e => by
                rw [e] at c1
                have h5 := HO.lst.inj (Option.some.inj (c1.symm.trans S8'.at_))
                cases r2 with
                | nil => exact absurd c2.1 (Nat.succ_ne_zero i).symm
                | cons x r2 =>
                  cases cs with
                  | nil => cases h5
                  | cons y cs => exact nomatch (List.cons.inj h5).1
              exact ⟨bW, r2, by rw [upd_ne bW]; exact c1, c2⟩
        · have l0 : 0 ≤ n := hn.1
          refine ⟨_, rfl, (0 : Int), n, rfl, ⟨by omega, by omega, by omega, by omega⟩, fun D hD => ?_⟩
          have DW : D ≠ W := fun e => by
            rw [e, hW7] at hD
            cases hD
          refine lc_by (n - (0 : Int)).toNat (fun k H' => Ex H7 H' ∧ ∃ ds : List Addr, LtsI H' n (i + 1) k D ds)
            ⟨Ex.nw hD, [], upd_same, Nat.zero_le _, fun b hb => by cases hb⟩ (fun k H' hk p => hk) (fun H' p => Nat.le_refl _) ?_ ?_
          · rintro k H8 x H9 hk ⟨e8, ds, S8⟩ ⟨rfl, rfl⟩
            refine ⟨rfl, _, rfl, _, rfl, by show 1 ≤ sizeLine; decide, fun g hg => ?_⟩
            have eg : Ex H9 (upd H9 g (.lst [.int ((0 : Int) + (k : Int))])) := Ex.nw hg
            have fg : (upd H9 g (.lst [.int ((0 : Int) + (k : Int))])) g = some (.lst (([(0 : Int) + (k : Int)] : List Int).map V.int)) := upd_same
            generalize upd H9 g (.lst [.int ((0 : Int) + (k : Int))]) = H10 at eg fg
            refine ⟨b, g, _, _, rfl, rfl, .inl (.inl ((e8.tr eg) _ _ hr7)), .inl (.inl fg), by rw [List.length_map, List.length_map, List.length_singleton]; omega, fun c hc => ?_⟩
            rw [← List.map_append]
            have ec : Ex H10 (upd H10 c (.lst ((r ++ [(0 : Int) + (k : Int)]).map V.int))) := Ex.nw hc
            have fc : (upd H10 c (.lst ((r ++ [(0 : Int) + (k : Int)]).map V.int))) c = some (.lst ((r ++ [(0 : Int) + (k : Int)]).map V.int)) := upd_same
            generalize upd H10 c (.lst ((r ++ [(0 : Int) + (k : Int)]).map V.int)) = H11 at ec fc
            have S11 := S8.up (eg.tr ec)
            have s11 := S11.len
            have cD : c ≠ D := fun e => by
              rw [e, eg _ _ S8.at_] at hc
              cases hc
            refine ⟨_, S11.at_, mil' (by rw [List.length_map]; omega), ((e8.tr (eg.tr ec))).wr hD, ds ++ [c], ?_⟩
            refine ⟨by rw [upd_same, List.map_append]; rfl, by rw [List.length_append, List.length_singleton]; omega, fun b2 hb2 => ?_⟩
            rcases List.mem_append.mp hb2 with hb2 | hb2
            · obtain ⟨c0, r2, c1, c2⟩ := S11.row b2 hb2
              exact ⟨c0, r2, by rw [upd_ne c0]; exact c1, c2⟩
            · obtain rfl := List.mem_singleton.mp hb2
              refine ⟨cD, r ++ [(0 : Int) + (k : Int)], by rw [upd_ne cD]; exact fc, by rw [List.length_append, hrl]; rfl, fun t ht => ?_⟩
              rcases List.mem_append.mp ht with ht | ht
              · exact hrg t ht
              · obtain rfl := List.mem_singleton.mp ht
                omega
          · rintro H8 ⟨e8, ds, S8⟩
            have s8 := S8.len
            have S8' := S7.up e8
            have s7 := S7.len
            rw [List.length_map] at hj
            have hbs := S3.len
            refine ⟨W, D, _, _, rfl, rfl, S8'.at_, S8.at_, Nat.le_of_lt (mil' (by rw [List.length_map, List.length_map]; omega)), ?_⟩
            refine ⟨_, cs ++ ds, rfl, ((e5.tr ez).tr e8).wr WH3, by rw [upd_same, List.map_append], by rw [List.length_append]; omega, fun b2 hb2 => ?_⟩
            rcases List.mem_append.mp hb2 with hb2 | hb2
            · obtain ⟨c0, r2, c1, c2⟩ := S8'.row b2 hb2
              exact ⟨c0, r2, by rw [upd_ne c0]; exact c1, c2⟩
            · obtain ⟨c0, r2, c1, c2⟩ := S8.row b2 hb2
              have bW : b2 ≠ W := fun e => by
                rw [e] at c1
                have h5 := HO.lst.inj (Option.some.inj (c1.symm.trans S8'.at_))
                cases r2 with
                | nil => exact absurd c2.1 (Nat.succ_ne_zero i).symm
                | cons x r2 =>
                  cases cs with
                  | nil => cases h5
                  | cons y cs => exact nomatch (List.cons.inj h5).1
              exact ⟨bW, r2, by rw [upd_ne bW]; exact c1, c2⟩
      · rintro σ H5 ⟨y5, cs, rfl, e5, S5⟩
        refine ⟨_, rfl, _, _, _, W, cs, rfl, e3.tr e5, ⟨S5.at_, ?_, S5.row⟩⟩
        have h1 := S5.len
        have h2 := S3.len
        rw [List.length_map] at h1
        omega
    · rintro σ H3 ⟨y3, y4, y5, Li, bs, rfl, e3, S3⟩
      refine ⟨_, rfl, q Li bs H3 e3 ⟨S3.at_, ?_, S3.row⟩⟩
      have h1 := S3.len
      have h2 : 7 ^ m ≤ 7 ^ 6 := Nat.pow_le_pow_right (by decide) hm
      have h3 : 7 ^ 6 = 117649 := by decide
      omega
end

end K17
namespace K17
open PySem PySem.Spec PyProof.Rows L2 Nw
/-! _law_told: slots 0 _law_web_here, 1 _law_passed, 2 _law_many, 3 _law_found, 4 _law_one, 5 _law_k, 6 _law_row, 7 _law_kept -/
abbrev s_told : Stmt := topS 53
abbrev N_told : List Str := ["_law_web_here", "_law_passed", "_law_many", "_law_found", "_law_one", "_law_k", "_law_row", "_law_kept"]
abbrev P_told : List Str := ["_law_web_here"]
theorem sc_told : FnScope N_told P_told (defScope s_told) := ⟨rfl, rfl, rfl, by decide +kernel, rfl, by decide +kernel, by decide +kernel⟩
theorem len_split {α : Type} (p : α → Bool) : ∀ l : List α, l.length = (l.filter p).length + (l.filter fun x => !p x).length
  | [] => rfl
  | x :: l => by
    have ih := len_split p l
    rw [List.filter_cons, List.filter_cons]
    cases h : p x with
    | true =>
      simp only [if_pos, Bool.not_true, Bool.false_eq_true, if_false, List.length_cons]
      omega
    | false =>
      simp only [Bool.not_false, Bool.false_eq_true, if_false, if_pos, List.length_cons]
      omega
theorem mem_pushed {n : Int} : ∀ {L : List (List Int)} {i : Nat} {s t : Int}, (s, t) ∈ pushedFrom n i L ↔ ∃ (k : Nat) (r : List Int), L[k]? = some r ∧ s = n + ((i + k : Nat) : Int) ∧ t ∈ r
  | [], i, s, t => ⟨fun h => (by cases h), fun ⟨k, r, h, _⟩ => (by simp at h)⟩
  | a :: L, i, s, t => by
    have ih := mem_pushed (n := n) (L := L) (i := i + 1) (s := s) (t := t)
    simp only [pushedFrom, List.mem_append]
    rw [ih]
    constructor
    · rintro (h | ⟨k, r, h1, h2, h3⟩)
      · obtain ⟨x, hx, e⟩ := List.mem_map.mp h
        obtain ⟨e1, e2⟩ := Prod.mk.inj e
        exact ⟨0, a, rfl, by rw [← e1]; rfl, by rw [← e2]; exact hx⟩
      · exact ⟨k + 1, r, by simpa using h1, by rw [h2]; congr 2; omega, h3⟩
    · rintro ⟨k, r, h1, h2, h3⟩
      cases k with
      | zero =>
        obtain rfl := Option.some.inj h1
        exact .inl (List.mem_map.mpr ⟨t, h3, by rw [h2]; rfl⟩)
      | succ k => exact .inr ⟨k, r, by simpa using h1, by rw [h2]; congr 2; omega, h3⟩
/-- the number of the old sources -/
def oldN (u : Wb) : Int := u.n + (u.ns.length : Int)
theorem more_old {u : Wb} {rs : List (List Int)} {s q : Int} (h : (s, q) ∈ u.lines) : (s, q) ∈ (Wb.more u rs).lines := by
  rcases List.mem_append.mp h with h | h
  · exact List.mem_append.mpr (.inl h)
  · obtain ⟨k, r, h1, h2, h3⟩ := mem_pushed.mp h
    refine List.mem_append.mpr (.inr (mem_pushed.mpr ⟨k, r, ?_, h2, h3⟩))
    show (u.ns ++ rs)[k]? = _
    rw [List.getElem?_append_left (List.getElem?_eq_some_iff.mp h1).1]
    exact h1
theorem more_new {u : Wb} {rs : List (List Int)} {j : Nat} {r : List Int} {q : Int} (h : rs[j]? = some r) (hq : q ∈ r) : (oldN u + (j : Int), q) ∈ (Wb.more u rs).lines := by
  refine List.mem_append.mpr (.inr (mem_pushed.mpr ⟨u.ns.length + j, r, ?_, ?_, hq⟩))
  · show (u.ns ++ rs)[u.ns.length + j]? = _
    rw [List.getElem?_append_right (by omega), Nat.add_sub_cancel_left]
    exact h
  · show oldN u + (j : Int) = u.n + ((0 + (u.ns.length + j) : Nat) : Int)
    unfold oldN
    omega
theorem more_low {u : Wb} {rs : List (List Int)} {s q : Int} (hs : s < oldN u) (h : (s, q) ∈ (Wb.more u rs).lines) : (s, q) ∈ u.lines := by
  unfold oldN at hs
  rcases List.mem_append.mp h with h | h
  · exact List.mem_append.mpr (.inl h)
  · obtain ⟨k, r, h1, h2, h3⟩ := mem_pushed.mp h
    have h2' : s = u.n + ((0 + k : Nat) : Int) := h2
    have hk : k < u.ns.length := by omega
    have h1' : (u.ns ++ rs)[k]? = some r := h1
    rw [List.getElem?_append_left hk] at h1'
    exact List.mem_append.mpr (.inr (mem_pushed.mpr ⟨k, r, h1', h2', h3⟩))
theorem more_high {u : Wb} (hp : ∀ p ∈ u.ps, p.1 < u.n) {rs : List (List Int)} {s q : Int} (hs : ¬ s < oldN u) (h : (s, q) ∈ (Wb.more u rs).lines) : ∃ (j : Nat) (r : List Int), rs[j]? = some r ∧ s = oldN u + (j : Int) ∧ q ∈ r := by
  unfold oldN at hs
  rcases List.mem_append.mp h with h | h
  · have := hp _ h
    simp only at this
    omega
  · obtain ⟨k, r, h1, h2, h3⟩ := mem_pushed.mp h
    have h2' : s = u.n + ((0 + k : Nat) : Int) := h2
    have hk : u.ns.length ≤ k := by omega
    have h1' : (u.ns ++ rs)[k]? = some r := h1
    rw [List.getElem?_append_right hk] at h1'
    refine ⟨k - u.ns.length, r, h1', ?_, h3⟩
    unfold oldN
    omega
theorem rd_more {u : Wb} {rs : List (List Int)} {b : Int} (h : Rd u b) : Rd (Wb.more u rs) b := by
  obtain ⟨q, hq, r⟩ := h
  refine ⟨q, ?_, r⟩
  show q ∈ (u.ns ++ rs).flatten
  rw [List.flatten_append]
  exact List.mem_append.mpr (.inl hq)
/-! rooms -/
theorem room_same {ps : List (Int × Int)} {n a b : Int} (h : b ∈ roomOf ps n a) : roomOf ps n b = roomOf ps n a := by
  have hm := (mem_room.mp h).2
  refine asc_ext asc_room asc_room fun x => ?_
  rw [mem_room, mem_room]
  exact ⟨fun ⟨h1, h2⟩ => ⟨h1, hm.trans h2⟩, fun ⟨h1, h2⟩ => ⟨h1, hm.symm.trans h2⟩⟩
theorem room_in {ps : List (Int × Int)} {n b : Int} (hb : 0 ≤ b ∧ b < n) : roomOf ps n b ∈ roomsOf ps n := by
  have hm := room_hd (ps := ps) hb
  have hs := room_same hm
  have hr := (mem_room.mp hm).1
  generalize hh : (roomOf ps n b).headD 0 = m at hm hs hr
  refine List.mem_map.mpr ⟨m, List.mem_filter.mpr ⟨?_, ?_⟩, hs⟩
  · rw [List.take_of_length_le (by unfold iota; rw [List.length_map, List.length_range]; exact Nat.le_refl _)]
    exact mem_iota.mpr hr
  · unfold isHead
    rw [decide_eq_true_eq, hs]
    cases e : roomOf ps n b with
    | nil =>
      rw [e] at hm
      cases hm
    | cons x r =>
      rw [e] at hh
      rw [← hh]
      rfl
theorem rooms_meet {ps : List (Int × Int)} {n q : Int} {k1 k2 : Nat} {r1 r2 : List Int} (h1 : r1 ∈ roomsTo ps n k1) (h2 : r2 ∈ roomsTo ps n k2) (q1 : q ∈ r1) (q2 : q ∈ r2) : r1 = r2 := by
  obtain ⟨a, ha, rfl⟩ := mem_rooms h1
  obtain ⟨b, hb, rfl⟩ := mem_rooms h2
  exact (room_same q1).symm.trans (room_same q2)
theorem rooms_nodup {ps : List (Int × Int)} {n : Int} {k : Nat} : (roomsTo ps n k).Nodup := by
  unfold roomsTo
  refine List.pairwise_map.mpr (List.Pairwise.imp_of_mem (fun {a b} ha hb hab e => hab ?_) (((nodup_iota n).sublist (List.take_sublist _ _)).filter _))
  have h1 : (roomOf ps n a).head? = some a := of_decide_eq_true (List.mem_filter.mp ha).2
  have h2 : (roomOf ps n b).head? = some b := of_decide_eq_true (List.mem_filter.mp hb).2
  rw [e, h2] at h1
  exact (Option.some.inj h1).symm
theorem cut_nodup {u : Wb} : (cutOf u).Nodup := (rooms_nodup.filter _).filter _
theorem cut_room {u : Wb} {r : List Int} (h : r ∈ cutOf u) : r ∈ roomsTo u.ps u.n u.n.toNat := (List.mem_filter.mp (cut_mem h).1).1
theorem cut_meet {u : Wb} {r1 r2 : List Int} {q : Int} (h1 : r1 ∈ cutOf u) (h2 : r2 ∈ cutOf u) (q1 : q ∈ r1) (q2 : q ∈ r2) : r1 = r2 := rooms_meet (cut_room h1) (cut_room h2) q1 q2
section
open Classical
/-- each is led to from a first room -/
theorem first_leads {ps : List (Int × Int)} {n : Int} (hp : ∀ p ∈ ps, (0 ≤ p.1 ∧ p.1 < n) ∧ (0 ≤ p.2 ∧ p.2 < n)) : ∀ (m : Nat) (b : Int), 0 ≤ b ∧ b < n → ((iota n).filter fun x => decide (Rch ps x b)).length ≤ m → ∃ r ∈ firstOf ps n, ∃ a ∈ r, Rch ps a b
  | 0, b, hb, hm => by
    have : b ∈ (iota n).filter fun x => decide (Rch ps x b) := List.mem_filter.mpr ⟨mem_iota.mpr hb, decide_eq_true (.here b)⟩
    have := List.length_pos_of_mem this
    omega
  | m + 1, b, hb, hm => by
    by_cases hf : isFirst ps (roomOf ps n b) = true
    · exact ⟨roomOf ps n b, List.mem_filter.mpr ⟨room_in hb, hf⟩, b, room_self hb, .here b⟩
    · have : ∃ p ∈ ps, p.2 ∈ roomOf ps n b ∧ p.1 ∉ roomOf ps n b := by
        refine Classical.byContradiction fun z => hf ?_
        unfold isFirst
        rw [List.isEmpty_iff, List.filter_eq_nil_iff]
        intro p hpm hc
        rw [Bool.and_eq_true, List.contains_iff_mem] at hc
        refine z ⟨p, hpm, hc.1, fun h => ?_⟩
        have := hc.2
        rw [List.contains_iff_mem.mpr h] at this
        cases this
      obtain ⟨p, hpm, h2, h1⟩ := this
      have hs := (hp p hpm).1
      have hmu := (mem_room.mp h2).2
      have sb : Rch ps p.1 b := Rch.step hpm hmu.2
      have lt := filter_more (p := fun x => decide (Rch ps x p.1)) (q := fun x => decide (Rch ps x b)) (fun x h => decide_eq_true ((of_decide_eq_true h).trans sb)) (l := iota n) (y := b) (mem_iota.mpr hb) (decide_eq_true (.here b)) (decide_eq_false fun h => h1 (mem_room.mpr ⟨hs, h, sb⟩))
      obtain ⟨r, hr, a, ha, hab⟩ := first_leads hp m p.1 hs (by omega)
      exact ⟨r, hr, a, ha, hab.trans sb⟩
end
theorem first_led {u : Wb} (hu : u.Ok) {b : Int} (hb : 0 ≤ b ∧ b < u.n) : ∃ r ∈ firstOf u.ps u.n, ∃ a ∈ r, Rch u.ps a b := first_leads hu.ps _ b hb (Nat.le_refl _)
/-- who is in a cut room is not reached -/
theorem cut_un {u : Wb} {r : List Int} (h : r ∈ cutOf u) {q : Int} (hq : q ∈ r) : ¬ Rd u q := fun hd => by
  obtain ⟨h1, h2⟩ := cut_mem h
  obtain ⟨_, hm, a, ha, rfl⟩ := first_mem h1
  obtain ⟨s, hs, hr⟩ := hd
  have e1 := (mem_room.mp hq).2
  have e2 := (mem_room.mp hm).2
  exact h2 ⟨s, hs, (hr.trans e1.2).trans e2.1⟩
theorem cut_first {u : Wb} {r : List Int} (h : r ∈ cutOf u) : isFirst u.ps r = true := (List.mem_filter.mp (cut_mem h).1).2
/-- with single nudges all is reached just if each cut room has one -/
theorem all_rd {u : Wb} (hu : u.Ok) {L : List Int} : AllRd (Wb.more u (sgl L)) ↔ ∀ r ∈ cutOf u, ∃ q ∈ L, q ∈ r := by
  constructor
  · intro h r hr
    obtain ⟨h1, _⟩ := cut_mem hr
    obtain ⟨_, hm, a, ha, er⟩ := first_mem h1
    have hrg : 0 ≤ r.headD 0 ∧ r.headD 0 < u.n := by
      rw [er] at hm ⊢
      exact (mem_room.mp hm).1
    obtain ⟨s, hs, hw⟩ := h (r.headD 0) hrg
    have hs' : s ∈ (u.ns ++ sgl L).flatten := hs
    have sr : s ∈ r := first_rch (cut_first hr) hw hm
    rw [List.flatten_append] at hs'
    rcases List.mem_append.mp hs' with hs' | hs'
    · exact absurd ⟨s, hs', .here s⟩ (cut_un hr sr)
    · obtain ⟨l, h2, h3⟩ := List.mem_flatten.mp hs'
      obtain ⟨q, hq, rfl⟩ := List.mem_map.mp h2
      obtain rfl := List.mem_singleton.mp h3
      exact ⟨s, hq, sr⟩
  · intro h b hb
    obtain ⟨r, hr, a, ha, hab⟩ := first_led hu hb
    obtain ⟨_, hm, a0, ha0, er⟩ := first_mem hr
    have mu : ∀ x ∈ r, ∀ y ∈ r, Rch u.ps x y := fun x hx y hy => by
      rw [er] at hx hy
      exact (mem_room.mp hx).2.2.trans (mem_room.mp hy).2.1
    by_cases hd : Rd u (r.headD 0)
    · obtain ⟨s, hs, hw⟩ := hd
      exact rd_more ⟨s, hs, (hw.trans (mu _ hm _ ha)).trans hab⟩
    · have hc : r ∈ cutOf u := List.mem_filter.mpr ⟨hr, cutB_iff.mpr hd⟩
      obtain ⟨q, hq, hqr⟩ := h r hc
      refine ⟨q, ?_, (mu _ hqr _ ha).trans hab⟩
      show q ∈ (u.ns ++ sgl L).flatten
      rw [List.flatten_append]
      exact List.mem_append.mpr (.inr (List.mem_flatten.mpr ⟨[q], List.mem_map.mpr ⟨q, hq, rfl⟩, by simp⟩))
/-! how many -/
theorem idx_at {α : Type} [BEq α] [LawfulBEq α] {l : List α} {x : α} (h : x ∈ l) : l[l.idxOf x]? = some x := by
  have hl := List.idxOf_lt_length_iff.mpr h
  rw [List.getElem?_eq_getElem hl, List.getElem_idxOf]
theorem idx_inj {α : Type} [BEq α] [LawfulBEq α] {l : List α} {x y : α} (hx : x ∈ l) (hy : y ∈ l) (e : l.idxOf x = l.idxOf y) : x = y := by
  have h1 := idx_at hx
  rw [e, idx_at hy] at h1
  exact (Option.some.inj h1).symm
theorem nd_map {α β : Type} {l : List α} {f : α → β} (nd : l.Nodup) (h : ∀ a ∈ l, ∀ b ∈ l, f a = f b → a = b) : (l.map f).Nodup :=
  List.pairwise_map.mpr (List.Pairwise.imp_of_mem (fun {a b} ha hb hab e => hab (h a ha b hb e)) nd)
def oldP (u : Wb) (ps : List (Int × Int)) : List (Int × Int) := ps.filter fun p => decide (p.1 < oldN u)
def newP (u : Wb) (ps : List (Int × Int)) : List (Int × Int) := ps.filter fun p => !decide (p.1 < oldN u)
theorem split_on {u : Wb} {ps : List (Int × Int)} : ps.length = (oldP u ps).length + (newP u ps).length := len_split _ ps
theorem mem_oldP {u : Wb} {ps : List (Int × Int)} {p : Int × Int} : p ∈ oldP u ps ↔ p ∈ ps ∧ p.1 < oldN u := by
  unfold oldP
  rw [List.mem_filter, decide_eq_true_eq]
theorem mem_newP {u : Wb} {ps : List (Int × Int)} {p : Int × Int} : p ∈ newP u ps ↔ p ∈ ps ∧ ¬ p.1 < oldN u := by
  unfold newP
  rw [List.mem_filter, Bool.not_eq_true', decide_eq_false_iff_not]
theorem mem_oldT {u : Wb} {ps : List (Int × Int)} {q : Int} : q ∈ oldT u ps ↔ ∃ p ∈ oldP u ps, p.2 = q := List.mem_map
theorem mem_found {u : Wb} {ps : List (Int × Int)} {q : Int} : q ∈ foundS u ps ↔ (0 ≤ q ∧ q < u.n) ∧ ∀ p ∈ oldP u ps, p.2 ≠ q := by
  unfold foundS
  rw [List.mem_filter, mem_iota, Bool.not_eq_true', ← Bool.not_eq_true, List.contains_iff_mem, mem_oldT]
  exact ⟨fun ⟨h1, h2⟩ => ⟨h1, fun p hp e => h2 ⟨p, hp, e⟩⟩, fun ⟨h1, h2⟩ => ⟨h1, fun ⟨p, hp, e⟩ => h2 p hp e⟩⟩
section
variable {u : Wb} {rs : List (List Int)} {ps : List (Int × Int)}
theorem mt_ln (m : Mt (rowsU (Wb.more u rs)) u.n ps) {p : Int × Int} (h : p ∈ ps) : (0 ≤ p.2 ∧ p.2 < u.n) ∧ p ∈ (Wb.more u rs).lines := by
  have rg : 0 ≤ p.2 ∧ p.2 < (Wb.more u rs).n := ⟨m.lo h, m.rg p h⟩
  exact ⟨rg, (act_lines rg).mp (m.ed p h)⟩
theorem mt_of_ln {rs' : List (List Int)} {s q : Int} (rg : 0 ≤ q ∧ q < u.n) (h : (s, q) ∈ (Wb.more u rs').lines) : Act (rowsU (Wb.more u rs')) s q := (act_lines (u := Wb.more u rs') rg).mpr h
theorem new_at (hu : u.Ok) (m : Mt (rowsU (Wb.more u rs)) u.n ps) {p : Int × Int} (h : p ∈ newP u ps) : ∃ (j : Nat) (r : List Int), rs[j]? = some r ∧ p.1 = oldN u + (j : Int) ∧ p.2 ∈ r := by
  obtain ⟨h1, h2⟩ := mem_newP.mp h
  exact more_high (fun p hp => (hu.ps p hp).1.2) h2 (mt_ln m h1).2
theorem found_len (hn : 0 ≤ u.n) (m : Mt (rowsU (Wb.more u rs)) u.n ps) : (foundS u ps).length + (oldP u ps).length = u.n.toNat := by
  have sub : (oldP u ps).Sublist ps := List.filter_sublist
  have perm : ((oldP u ps).map (·.2) ++ foundS u ps).Perm (iota u.n) := by
    refine (List.perm_ext_iff_of_nodup (List.nodup_append.mpr ⟨m.vn.sublist (sub.map _), (nodup_iota u.n).filter _, fun x hx z hz e => ?_⟩) (nodup_iota u.n)).mpr fun q => ?_
    · obtain ⟨p, hp, e2⟩ := List.mem_map.mp hx
      exact (mem_found.mp hz).2 p hp (e2.trans e)
    · show q ∈ (oldP u ps).map (·.2) ++ foundS u ps ↔ _
      rw [List.mem_append, mem_iota, mem_found]
      constructor
      · rintro (h | h)
        · obtain ⟨p, hp, rfl⟩ := List.mem_map.mp h
          exact (mt_ln m (sub.mem hp)).1
        · exact h.1
      · intro h
        by_cases e : ∃ p ∈ oldP u ps, p.2 = q
        · obtain ⟨p, hp, e⟩ := e
          exact .inl (List.mem_map.mpr ⟨p, hp, e⟩)
        · exact .inr ⟨h, fun p hp e2 => e ⟨p, hp, e2⟩⟩
  have := perm.length_eq
  rw [List.length_append, List.length_map, List.length_map, List.length_range] at this
  omega
theorem miss_len (hu : u.Ok) (t : Top (rowsU (Wb.more u (cutOf u))) u.n ps) : (missS u ps).length + (newP u ps).length = (cutOf u).length := by
  have m := t.mt
  have ndn : (newP u ps).Nodup := (nodup_fst m.kn).filter _
  have hs := len_split (missF u ps) (cutOf u)
  have e1 : (missS u ps).length = ((cutOf u).filter (missF u ps)).length := List.length_map ..
  have hit : ∀ r, (!missF u ps r) = true ↔ ∃ q ∈ r, q ∈ foundS u ps := fun r => by
    unfold missF
    rw [Bool.not_not, List.any_eq_true]
    exact ⟨fun ⟨q, h1, h2⟩ => ⟨q, h1, List.contains_iff_mem.mp h2⟩, fun ⟨q, h1, h2⟩ => ⟨q, h1, List.contains_iff_mem.mpr h2⟩⟩
  have l1 : (newP u ps).length ≤ ((cutOf u).filter fun r => !missF u ps r).length := by
    refine rel_len (R := fun (p : Int × Int) (r : List Int) => ∃ j : Nat, (cutOf u)[j]? = some r ∧ p.1 = oldN u + (j : Int)) ndn (fun a ha b hb r h1 h2 => ?_) fun p hp => ?_
    · obtain ⟨j, g1, g2⟩ := h1
      obtain ⟨k, g3, g4⟩ := h2
      have := nd_any cut_nodup g1 g3
      subst this
      exact fst_eq m.kn (mem_newP.mp ha).1 (mem_newP.mp hb).1 (g2.trans g4.symm)
    · obtain ⟨j, r, g1, g2, g3⟩ := new_at hu m hp
      refine ⟨r, List.mem_filter.mpr ⟨List.mem_of_getElem? g1, (hit r).mpr ⟨p.2, g3, mem_found.mpr ⟨(mt_ln m (mem_newP.mp hp).1).1, fun p' hp' e => ?_⟩⟩⟩, j, g1, g2⟩
      obtain ⟨h3, h4⟩ := mem_oldP.mp hp'
      have := snd_eq m.vn h3 (mem_newP.mp hp).1 e
      subst this
      exact (mem_newP.mp hp).2 h4
  have l2 : ((cutOf u).filter fun r => !missF u ps r).length ≤ (newP u ps).length := by
    refine rel_len (R := fun (r : List Int) (p : Int × Int) => ∃ j : Nat, (cutOf u)[j]? = some r ∧ p.1 = oldN u + (j : Int)) (cut_nodup.filter _) (fun a ha b hb p h1 h2 => ?_) fun r hr => ?_
    · obtain ⟨j, g1, g2⟩ := h1
      obtain ⟨k, g3, g4⟩ := h2
      have : j = k := by omega
      subst this
      exact Option.some.inj (g1.symm.trans g3)
    · obtain ⟨hc, hh⟩ := List.mem_filter.mp hr
      obtain ⟨q, hq, hf⟩ := (hit r).mp hh
      obtain ⟨hqr, hqo⟩ := mem_found.mp hf
      obtain ⟨k, hk⟩ := List.getElem?_of_mem hc
      refine Classical.byContradiction fun z => ?_
      have nk : ∀ p ∈ ps, p.1 ≠ oldN u + (k : Int) := fun p hp e => by
        refine z ⟨p, mem_newP.mpr ⟨hp, ?_⟩, k, hk, e⟩
        rw [e]
        omega
      have nq : ∀ p ∈ ps, p.2 ≠ q := fun p hp e => by
        by_cases ho : p.1 < oldN u
        · exact hqo p (mem_oldP.mpr ⟨hp, ho⟩) e
        · obtain ⟨j, r', g1, g2, g3⟩ := new_at hu m (mem_newP.mpr ⟨hp, ho⟩)
          rw [e] at g3
          have := cut_meet (List.mem_of_getElem? g1) hc g3 hq
          subst this
          have := nd_any cut_nodup g1 hk
          subst this
          exact nk p hp g2
      have m' : Mt (rowsU (Wb.more u (cutOf u))) u.n ((oldN u + (k : Int), q) :: ps) := by
        refine ⟨?_, ?_, fun p hp => ?_, fun p hp => ?_⟩
        · rw [List.map_cons, List.nodup_cons]
          refine ⟨fun hm => ?_, m.kn⟩
          obtain ⟨p, hp, e⟩ := List.mem_map.mp hm
          exact nk p hp e
        · rw [List.map_cons, List.nodup_cons]
          refine ⟨fun hm => ?_, m.vn⟩
          obtain ⟨p, hp, e⟩ := List.mem_map.mp hm
          exact nq p hp e
        · rcases List.mem_cons.mp hp with rfl | hp
          · exact hqr.2
          · exact m.rg p hp
        · rcases List.mem_cons.mp hp with rfl | hp
          · exact mt_of_ln hqr (more_new hk hq)
          · exact m.ed p hp
      have := t.le m'
      rw [List.length_cons] at this
      omega
  omega
end
theorem FewS.count {u : Wb} (hu : u.Ok) {S : List Int} (f : FewS u S) : FewN u (S.length : Int) := by
  obtain ⟨ps, t, _, hp, _⟩ := f
  refine ⟨ps, t, ?_⟩
  have h1 := found_len (by have := hu.lo; omega) t.mt
  have h2 := miss_len hu t
  have h3 := split_on (u := u) (ps := ps)
  have h4 := hu.lo
  rw [hp.length_eq, List.length_append]
  omega
theorem FewN.uniq {u : Wb} {k j : Int} (a : FewN u k) (b : FewN u j) : k = j := by
  obtain ⟨ps, t, rfl⟩ := a
  obtain ⟨ps', t', rfl⟩ := b
  have := t.eq t'
  omega
theorem FewS.mem {u : Wb} {S : List Int} (f : FewS u S) : (∀ q ∈ S, 0 ≤ q ∧ q < u.n) ∧ S.Nodup := by
  obtain ⟨ps, t, _, hp, _⟩ := f
  constructor
  · intro q hq
    rcases List.mem_append.mp (hp.mem_iff.mp hq) with h | h
    · exact (mem_found.mp h).1
    · obtain ⟨r, hr, rfl⟩ := List.mem_map.mp h
      have hc := (List.mem_filter.mp hr).1
      obtain ⟨_, hm, a, ha, er⟩ := first_mem (cut_mem hc).1
      rw [er] at hm ⊢
      exact (mem_room.mp hm).1
  · refine hp.nodup_iff.mpr (List.nodup_append.mpr ⟨(nodup_iota u.n).filter _, nd_map (cut_nodup.filter _) fun a ha b hb e => ?_, fun x hx y hy e => ?_⟩)
    · have h1 := (first_mem (cut_mem (List.mem_filter.mp ha).1).1).2.1
      have h2 := (first_mem (cut_mem (List.mem_filter.mp hb).1).1).2.1
      rw [e] at h1
      exact cut_meet (List.mem_filter.mp ha).1 (List.mem_filter.mp hb).1 h1 h2
    · obtain ⟨r, hr, rfl⟩ := List.mem_map.mp hy
      obtain ⟨h1, h2⟩ := List.mem_filter.mp hr
      have h3 := (first_mem (cut_mem h1).1).2.1
      unfold missF at h2
      rw [Bool.not_eq_true', ← Bool.not_eq_true, List.any_eq_true] at h2
      refine h2 ⟨_, h3, List.contains_iff_mem.mpr ?_⟩
      rw [← e]
      exact hx
theorem FewS.asc {u : Wb} {S : List Int} (f : FewS u S) : ascB ltIn S = true := by
  have h2 := f.mem.2
  obtain ⟨ps, t, _, hp, h1⟩ := f
  exact asc_of_le h1 h2
theorem FewS.few {u : Wb} {S : List Int} (f : FewS u S) : S.length ≤ u.n.toNat := apart_few f.mem.2 f.mem.1
theorem FewS.rs {u : Wb} (hu : u.Ok) {S : List Int} (f : FewS u S) : RS (Wb.more u (sgl S)) := by
  have hrg := f.mem.1
  obtain ⟨ps, t, _, hp, _⟩ := f
  have m := t.mt
  have lo := hu.lo
  refine ⟨(all_rd hu).mpr fun r hr => ?_, ?_⟩
  · by_cases hh : ∃ q ∈ r, q ∈ foundS u ps
    · obtain ⟨q, h1, h2⟩ := hh
      exact ⟨q, hp.mem_iff.mpr (List.mem_append.mpr (.inl h2)), h1⟩
    · refine ⟨r.headD 0, hp.mem_iff.mpr (List.mem_append.mpr (.inr (List.mem_map.mpr ⟨r, List.mem_filter.mpr ⟨hr, ?_⟩, rfl⟩))), (first_mem (cut_mem hr).1).2.1⟩
      unfold missF
      rw [Bool.not_eq_true', ← Bool.not_eq_true, List.any_eq_true]
      exact fun ⟨q, h1, h2⟩ => hh ⟨q, h1, List.contains_iff_mem.mp h2⟩
  · have sub : (oldP u ps).Sublist ps := List.filter_sublist
    have fS : ∀ q ∈ foundS u ps, q ∈ S := fun q hq => hp.mem_iff.mpr (List.mem_append.mpr (.inl hq))
    have fl := found_len (by omega) m
    refine ⟨oldP u ps ++ (foundS u ps).map fun q => (oldN u + ((S.idxOf q : Nat) : Int), q), ⟨?_, ?_, fun p hp => ?_, fun p hp => ?_⟩, ?_⟩
    · rw [List.map_append, List.map_map]
      refine List.nodup_append.mpr ⟨m.kn.sublist (sub.map _), nd_map ((nodup_iota u.n).filter _) fun a ha b hb e => ?_, fun x hx y hy e => ?_⟩
      · have e' : oldN u + ((S.idxOf a : Nat) : Int) = oldN u + ((S.idxOf b : Nat) : Int) := e
        exact idx_inj (fS a ha) (fS b hb) (by omega)
      · obtain ⟨p, h1, rfl⟩ := List.mem_map.mp hx
        obtain ⟨q, _, rfl⟩ := List.mem_map.mp hy
        have h2 := (mem_oldP.mp h1).2
        have e' : p.1 = oldN u + ((S.idxOf q : Nat) : Int) := e
        omega
    · rw [List.map_append, List.map_map, show ((foundS u ps).map ((fun x : Int × Int => x.2) ∘ fun q => (oldN u + ((S.idxOf q : Nat) : Int), q))) = foundS u ps from List.map_id _]
      refine List.nodup_append.mpr ⟨m.vn.sublist (sub.map _), (nodup_iota u.n).filter _, fun x hx y hy e => ?_⟩
      obtain ⟨p, h1, rfl⟩ := List.mem_map.mp hx
      exact (mem_found.mp hy).2 p h1 e
    · rcases List.mem_append.mp hp with hp | hp
      · exact m.rg p (sub.mem hp)
      · obtain ⟨q, hq, rfl⟩ := List.mem_map.mp hp
        exact (mem_found.mp hq).1.2
    · rcases List.mem_append.mp hp with hp | hp
      · obtain ⟨h1, h2⟩ := mem_oldP.mp hp
        obtain ⟨h3, h4⟩ := mt_ln m h1
        exact mt_of_ln h3 (more_old (more_low h2 h4))
      · obtain ⟨q, hq, rfl⟩ := List.mem_map.mp hp
        refine mt_of_ln (mem_found.mp hq).1 (more_new (r := [q]) ?_ (by simp))
        unfold sgl
        rw [List.getElem?_map, idx_at (fS q hq)]
        rfl
    · rw [List.length_append, List.length_map]
      show (((oldP u ps).length + (foundS u ps).length : Nat) : Int) = u.n
      omega
/-- fewer are not enough -/
theorem FewS.least {u : Wb} (hu : u.Ok) {S L : List Int} (f : FewS u S) (h : RS (Wb.more u (sgl L))) : S.length ≤ L.length := by
  obtain ⟨ps, t, hk⟩ := f.count hu
  have lo := hu.lo
  obtain ⟨all, ps', m', l'⟩ := h
  have l'' : (ps'.length : Int) = u.n := l'
  have hit := (all_rd hu).mp all
  have nw : ∀ p ∈ newP u ps', ∃ j : Nat, L[j]? = some p.2 ∧ p.1 = oldN u + (j : Int) := fun p hp => by
    obtain ⟨j, r, h1, h2, h3⟩ := new_at hu m' hp
    unfold sgl at h1
    obtain ⟨q, h4, rfl⟩ := map_at h1
    rw [List.mem_singleton.mp h3]
    exact ⟨j, h4, h2⟩
  have subo : (oldP u ps').Sublist ps' := List.filter_sublist
  have subn : (newP u ps').Sublist ps' := List.filter_sublist
  generalize hU : (newP u ps').map (·.2) = U
  have mU : ∀ q, q ∈ U ↔ ∃ p ∈ newP u ps', p.2 = q := fun q => by
    rw [← hU]
    exact List.mem_map
  have ndU : U.Nodup := by
    rw [← hU]
    exact m'.vn.sublist (subn.map _)
  have lU : U.length = (newP u ps').length := by rw [← hU, List.length_map]
  have UL : ∀ q ∈ U, q ∈ L := fun q hq => by
    obtain ⟨p, hp, rfl⟩ := (mU q).mp hq
    obtain ⟨j, h1, _⟩ := nw p hp
    exact List.mem_of_getElem? h1
  have Urg : ∀ q ∈ U, (0 ≤ q ∧ q < u.n) ∧ ∀ p ∈ oldP u ps', p.2 ≠ q := fun q hq => by
    obtain ⟨p, hp, rfl⟩ := (mU q).mp hq
    refine ⟨(mt_ln m' (subn.mem hp)).1, fun p' hp' e => ?_⟩
    have := snd_eq m'.vn (subo.mem hp') (subn.mem hp) e
    subst this
    exact (mem_newP.mp hp).2 (mem_oldP.mp hp').2
  generalize hhu : (fun r : List Int => r.any fun q => U.contains q) = hu'
  have mh : ∀ r, hu' r = true ↔ ∃ q ∈ r, q ∈ U := fun r => by
    rw [← hhu]
    show (r.any fun q => U.contains q) = true ↔ _
    rw [List.any_eq_true]
    exact ⟨fun ⟨q, h1, h2⟩ => ⟨q, h1, List.contains_iff_mem.mp h2⟩, fun ⟨q, h1, h2⟩ => ⟨q, h1, List.contains_iff_mem.mpr h2⟩⟩
  have hs := len_split hu' (cutOf u)
  -- the rooms that have one of them are paired too
  have pick : ∀ r ∈ (cutOf u).filter hu', ∃ q, q ∈ r ∧ q ∈ U := fun r hr => by
    obtain ⟨q, h1, h2⟩ := (mh r).mp (List.mem_filter.mp hr).2
    exact ⟨q, h1, h2⟩
  have ext : ∃ g : List Int → Int, ∀ r ∈ (cutOf u).filter hu', g r ∈ r ∧ g r ∈ U := by
    refine ⟨fun r => (r.find? fun q => U.contains q).getD 0, fun r hr => ?_⟩
    obtain ⟨q, h1, h2⟩ := pick r hr
    have h3 : (r.find? fun q => U.contains q).isSome = true := List.find?_isSome.mpr ⟨q, h1, List.contains_iff_mem.mpr h2⟩
    obtain ⟨x, hx⟩ := Option.isSome_iff_exists.mp h3
    show (r.find? fun q => U.contains q).getD 0 ∈ r ∧ (r.find? fun q => U.contains q).getD 0 ∈ U
    rw [hx]
    exact ⟨List.mem_of_find?_eq_some hx, List.contains_iff_mem.mp (List.find?_some hx)⟩
  obtain ⟨g, hg⟩ := ext
  have m2 : Mt (rowsU (Wb.more u (cutOf u))) u.n (oldP u ps' ++ ((cutOf u).filter hu').map fun r => (oldN u + (((cutOf u).idxOf r : Nat) : Int), g r)) := by
    refine ⟨?_, ?_, fun p hp => ?_, fun p hp => ?_⟩
    · rw [List.map_append, List.map_map]
      refine List.nodup_append.mpr ⟨m'.kn.sublist (subo.map _), nd_map (cut_nodup.filter _) fun a ha b hb e => ?_, fun x hx y hy e => ?_⟩
      · have e' : oldN u + (((cutOf u).idxOf a : Nat) : Int) = oldN u + (((cutOf u).idxOf b : Nat) : Int) := e
        exact idx_inj (List.mem_filter.mp ha).1 (List.mem_filter.mp hb).1 (by omega)
      · obtain ⟨p, h1, rfl⟩ := List.mem_map.mp hx
        obtain ⟨r, _, rfl⟩ := List.mem_map.mp hy
        have h2 := (mem_oldP.mp h1).2
        have e' : p.1 = oldN u + (((cutOf u).idxOf r : Nat) : Int) := e
        omega
    · rw [List.map_append, List.map_map]
      refine List.nodup_append.mpr ⟨m'.vn.sublist (subo.map _), nd_map (cut_nodup.filter _) fun a ha b hb e => ?_, fun x hx y hy e => ?_⟩
      · have e' : g a = g b := e
        have h1 := (hg a ha).1
        rw [e'] at h1
        exact cut_meet (List.mem_filter.mp ha).1 (List.mem_filter.mp hb).1 h1 (hg b hb).1
      · obtain ⟨p, h1, rfl⟩ := List.mem_map.mp hx
        obtain ⟨r, hr, rfl⟩ := List.mem_map.mp hy
        exact (Urg _ (hg r hr).2).2 p h1 e
    · rcases List.mem_append.mp hp with hp | hp
      · exact m'.rg p (subo.mem hp)
      · obtain ⟨r, hr, rfl⟩ := List.mem_map.mp hp
        exact (Urg _ (hg r hr).2).1.2
    · rcases List.mem_append.mp hp with hp | hp
      · obtain ⟨h1, h2⟩ := mem_oldP.mp hp
        obtain ⟨h3, h4⟩ := mt_ln m' h1
        exact mt_of_ln h3 (more_old (more_low h2 h4))
      · obtain ⟨r, hr, rfl⟩ := List.mem_map.mp hp
        exact mt_of_ln (Urg _ (hg r hr).2).1 (more_new (idx_at (List.mem_filter.mp hr).1) (hg r hr).1)
  have le1 := t.le m2
  rw [List.length_append, List.length_map] at le1
  -- the others have another one each
  have ext2 : ∃ g : List Int → Int, ∀ r ∈ (cutOf u).filter fun r => !hu' r, g r ∈ r ∧ g r ∈ L := by
    refine ⟨fun r => (r.find? fun q => L.contains q).getD 0, fun r hr => ?_⟩
    obtain ⟨q, h1, h2⟩ := hit r (List.mem_filter.mp hr).1
    have h3 : (r.find? fun q => L.contains q).isSome = true := List.find?_isSome.mpr ⟨q, h2, List.contains_iff_mem.mpr h1⟩
    obtain ⟨x, hx⟩ := Option.isSome_iff_exists.mp h3
    show (r.find? fun q => L.contains q).getD 0 ∈ r ∧ (r.find? fun q => L.contains q).getD 0 ∈ L
    rw [hx]
    exact ⟨List.mem_of_find?_eq_some hx, List.contains_iff_mem.mp (List.find?_some hx)⟩
  obtain ⟨g2, hg2⟩ := ext2
  have le2 : (U ++ ((cutOf u).filter fun r => !hu' r).map g2).length ≤ L.length := by
    refine rel_len (R := fun a b : Int => a = b) (List.nodup_append.mpr ⟨ndU, nd_map (cut_nodup.filter _) fun a ha b hb e => ?_, fun x hx y hy e => ?_⟩) (fun a _ b _ x e1 e2 => e1.trans e2.symm) fun q hq => ⟨q, ?_, rfl⟩
    · have h1 := (hg2 a ha).1
      rw [e] at h1
      exact cut_meet (List.mem_filter.mp ha).1 (List.mem_filter.mp hb).1 h1 (hg2 b hb).1
    · obtain ⟨r, hr, rfl⟩ := List.mem_map.mp hy
      have h1 := (List.mem_filter.mp hr).2
      rw [(mh r).mpr ⟨_, (hg2 r hr).1, by rw [← e]; exact hx⟩] at h1
      cases h1
    · rcases List.mem_append.mp hq with hq | hq
      · exact UL q hq
      · obtain ⟨r, hr, rfl⟩ := List.mem_map.mp hq
        exact (hg2 r hr).2
  rw [List.length_append, List.length_map, lU] at le2
  have h3 := split_on (u := u) (ps := ps')
  omega
theorem asc_lt_at {l : List Int} (h : ascB ltIn l = true) {j : Nat} {a b : Int} (ha : l[j]? = some a) (hb : l[j + 1]? = some b) : a < b := by
  obtain ⟨h1, rfl⟩ := List.getElem?_eq_some_iff.mp ha
  obtain ⟨h2, rfl⟩ := List.getElem?_eq_some_iff.mp hb
  exact ltIn_yes (List.pairwise_iff_getElem.mp (pwI_asc h) j (j + 1) h1 h2 (Nat.lt_succ_self j))
def sp_told (K : PySem.W.Frag) : Sp := fun vs H Q _ => ∃ v u, vs = [v] ∧ Da K H (Wb.d u) v ∧ u.Ok ∧ ∀ H', Ex H H' → Q (.bl true) H'
section
variable {P : Program} {w : World} {K : PySem.W.Frag} {mg : Str → Option Value} {base : Heap}
theorem ok_told {f : Addr} {fd : FuncData} (T : Txt K mg) (F : Fun K "_law_told" "_law_told" s_told f fd)
    (D_fewest_single : DefOk P w K mg base CX0 69 "fewest_single" P_fewest_single (sp_fewest_single K))
    (D_single_nudges : DefOk P w K mg base CX0 68 "single_nudges" P_single_nudges (sp_single_nudges K))
    (D_copy : DefOk P w K mg base CX0 1 "_law_copy" P_copy (sp_copy K))
    (D_fewest : DefOk P w K mg base CX0 3 "_law_fewest" P_fewest (sp_fewest K))
    (D_lists : DefOk P w K mg base CX0 1 "_law_lists" P_lists (sp_lists K))
    (D_is_enough : DefOk P w K mg base CX0 4 "_law_is_enough" P_is_enough (sp_is_enough K)) :
    FnG P w K mg base CX0 70 f fd P_told (sp_told K) := by
  refine okG0 F sc_told (fun vs H Q E h => ?_) (fun cdv A outer s H vs Q E hr hq h => ?_)
  · obtain ⟨v, u, rfl, _⟩ := h
    rfl
  · obtain ⟨v, u, rfl, hd, hu, q⟩ := h
    obtain ⟨tw, x2, x3, rfl, hS, g2, g3⟩ := Wb.at hd
    have b1 := hu.lo
    have b2 := hu.hi
    refine ⟨_, (pss_cons (ps_set (i := 1) sc_told.nd rfl (by first | exact .inl rfl | exact .inr rfl) (pe_callD D_copy (hr.mono (by decide)) hq pass0 (pa_cons (pv 0) pa_nil)))
      (pss_cons (ps_asg (pe_tup (pa_cons (pe_callD D_fewest_single (hr.mono (by decide)) hq pass0 (pa_cons (pv 1) pa_nil)) (pa_cons (pe_callD D_single_nudges (hr.mono (by decide)) hq pass0 (pa_cons (pv 1) pa_nil)) pa_nil))) (pg_tupK (n := 2) K rfl (pgs_cons (pg_name (i := 2) sc_told.nd rfl (by first | exact .inl rfl | exact .inr rfl)) (pgs_cons (pg_name (i := 3) sc_told.nd rfl (by first | exact .inl rfl | exact .inr rfl)) pgs_nil))))
      (pss_cons (ps_if (PW.pt (pw_or (pt_not (pt_val (pe_callB (call_isiK K) (by rfl) T.b_isinstance bt_isinstance (pa_cons (pv 2) (pa_cons (pe_bty T.b_int bt_int) pa_nil))))) (pw_or (pt_val (pe_callB (call_isiK K) (by rfl) T.b_isinstance bt_isinstance (pa_cons (pv 2) (pa_cons (pe_bty T.b_bool bt_bool) pa_nil)))) (pw_or (pt_not (pt_val (pe_callB (call_isiK K) (by rfl) T.b_isinstance bt_isinstance (pa_cons (pv 3) (pa_cons (pe_bty T.b_list bt_list) pa_nil))))) (pw_or1 (pt_cmpR (op_neDk K hr.units) (pv 1) (pv 0) (nomark _))))))) (pss_one (ps_ret pe_bl)) pss_nil)
      (pss_cons (ps_if (pt_cmpR (op_neNil K hr) (pe_lc (own := [("_law_one", 4)]) rfl sc_told.nd (pi_listK K (pv 3)) (blkOk_by (N := N_told) (sc := defScope s_told) (by decide +kernel)) (fun _ _ _ _ _ => (pg_name (i := 4) sc_told.nd rfl (by first | exact .inl rfl | exact .inr rfl))) (fun _ _ _ _ _ => (pts_one (PW.pt (pw_or (pt_not (pt_val (pe_callB (call_isiK K) (by rfl) T.b_isinstance bt_isinstance (pa_cons (pv 4) (pa_cons (pe_bty T.b_int bt_int) pa_nil))))) (pw_or (pt_val (pe_callB (call_isiK K) (by rfl) T.b_isinstance bt_isinstance (pa_cons (pv 4) (pa_cons (pe_bty T.b_bool bt_bool) pa_nil)))) (pw_or1 (pt_not (pt_chain op_le op_lt pe_int (pv 4) (pe_ix (ix_tupK K) (pv 0) pe_int (fun _ _ => rfl)))))))))) (fun _ _ _ _ _ => (pv 4))) (pe_lst pa_nil) (nomark _)) (pss_one (ps_ret pe_bl)) pss_nil)
      (pss_cons (ps_if (pt_cmpR (op_neNil K hr) (pe_lc (own := [("_law_k", 5)]) rfl sc_told.nd (pi_range2 (by rfl) T.b_range (pa_cons pe_int (pa_cons (pe_callB (call_lenK K) (by rfl) T.b_len bt_len (pa_cons (pv 3) pa_nil)) pa_nil))) (blkOk_by (N := N_told) (sc := defScope s_told) (by decide +kernel)) (fun _ _ _ _ _ => (pg_name (i := 5) sc_told.nd rfl (by first | exact .inl rfl | exact .inr rfl))) (fun _ _ _ _ _ => (pts_one (pt_cmpR op_ge (pe_ix (ix_listK K) (pv 3) (pe_op op_sub (pv 5) pe_int) (fun _ _ => rfl)) (pe_ix (ix_listK K) (pv 3) (pv 5) (fun _ _ => rfl)) (nomark _)))) (fun _ _ _ _ _ => (pv 5))) (pe_lst pa_nil) (nomark _)) (pss_one (ps_ret pe_bl)) pss_nil)
      (pss_cons (ps_if (PW.pt (pw_or (pt_cmpR op_ne (pe_callB (call_lenK K) (by rfl) T.b_len bt_len (pa_cons (pv 3) pa_nil)) (pv 2) (nomark _)) (pw_or (pt_cmpR op_ne (pv 2) (pe_callD D_fewest (hr.mono (by decide)) hq pass0 (pa_cons (pv 0) pa_nil)) (nomark _)) (pw_or1 (pt_not (pt_val (pe_callD D_is_enough (hr.mono (by decide)) hq pass0 (pa_cons (pv 0) (pa_cons (pv 3) pa_nil))))))))) (pss_one (ps_ret pe_bl)) pss_nil)
      (pss_cons (ps_if (PW.pt (pw_and (pt_cmpR op_lt (pe_ix (ix_tupK K) (pv 0) pe_int (fun _ _ => rfl)) pe_int (nomark _)) (pw_and1 (pt_cmpR op_gt (pv 2) pe_int (nomark _))))) (pss_one (ps_if (pt_cmpR (op_neNil K hr) (pe_lc (own := [("_law_row", 6)]) rfl sc_told.nd (pi_listK K (pe_callD D_lists (hr.mono (by decide)) hq pass0 (pa_cons (pe_ix (ix_tupK K) (pv 0) pe_int (fun _ _ => rfl)) (pa_cons (pe_op op_sub (pv 2) pe_int) pa_nil)))) (blkOk_by (N := N_told) (sc := defScope s_told) (by decide +kernel)) (fun _ _ _ _ _ => (pg_name (i := 6) sc_told.nd rfl (by first | exact .inl rfl | exact .inr rfl))) (fun _ _ _ _ _ => (pts_one (pt_val (pe_callD D_is_enough (hr.mono (by decide)) hq pass0 (pa_cons (pv 0) (pa_cons (pv 6) pa_nil)))))) (fun _ _ _ _ _ => (pv 6))) (pe_lst pa_nil) (nomark _)) (pss_one (ps_ret pe_bl)) pss_nil)) pss_nil)
      (pss_cons (ps_set (i := 7) sc_told.nd rfl (by first | exact .inl rfl | exact .inr rfl) (pe_callTy (call_listK K) (by rfl) T.b_list bt_list (pa_cons (pv 3) pa_nil)))
      (pss_cons (ps_expr (pe_bm PySem.F.plainAttrs_list PySem.F.slot_list_append PySem.F.type_list_append mt_append (pv 3) (pa_cons pe_int pa_nil)))
      (pss_one (ps_ret (pe_and (pe_cmpR (op_eqDk K hr.units) (pe_callD D_single_nudges (hr.mono (by decide)) hq pass0 (pa_cons (pv 1) pa_nil)) (pv 7) (nomark _)) (pe_one (pe_cmpR (op_eqDk K hr.units) (pv 1) (pv 0) (nomark _))))))))))))))), ?_⟩
    refine ⟨_, rfl, .ref tw, u, rfl, hd, hu, fun c C1 C2 cx cb H1 NW => ?_⟩
    have e1 := NW.ex
    have dc1 := NW.da hu
    clear NW
    refine ⟨_, rfl, .ref c, u, rfl, dc1, hu, fun S H2 e2 fs => ?_⟩
    refine ⟨_, rfl, .ref c, u, rfl, dc1.up e2, hu, fun p S2 H3 hp e3' hS3' fs2 => ?_⟩
    obtain rfl := fs.uniq fs2
    refine ⟨by show 2 ≤ sizeLine; decide, fun T0 hT0 => ?_⟩
    have hT1 : (upd H3 T0 (.tup [.int (S.length : Int), .ref p])) T0 = some (.tup [.int (S.length : Int), .ref p]) := upd_same
    have e3 := e3'.tr (Ex.nw (o := .tup [.int (S.length : Int), .ref p]) hT0)
    have hS3 := (Ex.nw (o := .tup [.int (S.length : Int), .ref p]) hT0) _ _ hS3'
    generalize upd H3 T0 (.tup [.int (S.length : Int), .ref p]) = H4 at hT1 e3 hS3
    clear e3' hS3' hT0
    refine ⟨T0, _, rfl, .inl (.inl hT1), rfl, _, _, rfl, _, _, rfl, rfl, ?_⟩
    have e02 := e1.tr e2
    have e03 := e02.tr e3
    have dc2 := dc1.up e2
    have dv2 := hd.up e02
    have sfew := fs.few
    have smem := fs.mem.1
    have sasc := fs.asc
    have sl20 : S.length ≤ 20 := by omega
    -- the kinds
    have di : Da K H4 (.int (S.length : Int)) (.int (S.length : Int)) := rfl
    have dS : Da K H4 (dInts S) (.ref p) := dInts_of hS3 (by omega)
    refine ⟨_, rfl, _, _, _, _, _, rfl, .ty _, di.ty, isa_int _, _, rfl, ite2 (fun h => absurd h (by simp [show isA "int" (PyData.int (S.length : Int)) = true from rfl])) (fun _ => ?_)⟩
    refine ⟨_, rfl, _, _, _, _, _, rfl, .ty _, di.ty, isa_bool _, _, rfl, ite2 (fun h => absurd h (by simp [show isA "bool" (PyData.int (S.length : Int)) = false from rfl])) (fun _ => ?_)⟩
    refine ⟨_, rfl, _, _, _, _, _, rfl, .ty _, dS.ty, isa_list _, _, rfl, ite2 (fun h => absurd h (by simp [show isA "list" (dInts S) = true from rfl])) (fun _ => ?_)⟩
    refine ⟨_, rfl, _, rfl, u.d, u.d, (dc2.up e3).web, (dv2.up e3).web, sh_web u, sh_web u, _, rfl, ?_⟩
    rw [eqv_web]
    refine ite2 (fun h => absurd h (by simp)) (fun _ => ?_)
    -- quantities
    have sS : SqL K H4 p (S.map V.int) := .inl (.inl hS3)
    refine ⟨_, rfl, p, rfl, ⟨_, sS⟩, fun J1 hJ1 => ?_⟩
    refine lc_by (S.map V.int).length (fun j H' => Ex H4 H' ∧ H' J1 = some (.lst []))
      ⟨Ex.nw hJ1, upd_same⟩ (fun j H' hj p => itl_go sS p.1 hj) (fun H' p => itl_stop sS p.1) ?_ ?_
    · rintro j H5 x H6 hj ⟨e5, hJ5⟩ y
      obtain ⟨rfl, hx⟩ := itl_yld y sS e5
      obtain ⟨k, hk, rfl⟩ := map_at hx
      have dk : Da K H6 (.int k) (.int k) := rfl
      have krg := smem k (List.mem_of_getElem? hk)
      refine ⟨rfl, ?_⟩
      refine ⟨_, rfl, _, _, _, _, _, rfl, .ty _, dk.ty, isa_int _, _, rfl, ite2 (fun h => absurd h (by simp [show isA "int" (PyData.int k) = true from rfl])) (fun _ => ?_)⟩
      refine ⟨_, rfl, _, _, _, _, _, rfl, .ty _, dk.ty, isa_bool _, _, rfl, ite2 (fun h => absurd h (by simp [show isA "bool" (PyData.int k) = false from rfl])) (fun _ => ?_)⟩
      refine ⟨_, rfl, _, _, rfl, rfl, _, rfl, ?_⟩
      rw [if_pos (decide_eq_true krg.1)]
      refine ⟨_, rfl, tw, _, 0, _, rfl, rfl, (e03.tr e5).t hS, rfl, _, _, rfl, rfl, _, rfl, ?_⟩
      refine ite2 (fun h => ?_) (fun _ => ⟨e5, hJ5⟩)
      rw [decide_eq_true krg.2] at h
      cases h
    rintro H5 ⟨e5, hJ5⟩
    refine ⟨Nat.zero_le _, fun z1 hz1 => ?_⟩
    have e6 : Ex H5 (upd H5 z1 (.lst [])) := Ex.nw hz1
    have f6 : (upd H5 z1 (.lst [])) z1 = some (.lst []) := upd_same
    generalize upd H5 z1 (.lst []) = H6 at e6 f6
    refine ⟨J1, z1, [], rfl, rfl, .inl (.inl (e6 _ _ hJ5)), .inl (.inl f6), _, rfl, ?_⟩
    refine ite2 (fun h => Bool.noConfusion h) (fun _ => ?_)
    have e46 := e5.tr e6
    clear hJ5 f6 hz1 hJ1 e5 e6
    -- ascending
    have sS6 := e46.l sS
    refine ⟨_, rfl, p, _, rfl, .inl sS6, 1, _, rfl, ⟨by decide, by decide, by omega, by rw [List.length_map]; omega⟩, fun J2 hJ2 => ?_⟩
    rw [List.length_map]
    refine lc_by ((S.length : Int) - 1).toNat (fun j H' => Ex H6 H' ∧ H' J2 = some (.lst []))
      ⟨Ex.nw hJ2, upd_same⟩ (fun j H' hj p => hj) (fun H' p => Nat.le_refl _) ?_ ?_
    · rintro j H7 x H8 hj ⟨e7, hJ7⟩ ⟨rfl, rfl⟩
      have sS7 := e7.l sS6
      have h1 : j < S.length := by omega
      have h2 : j + 1 < S.length := by omega
      have g1 := List.getElem?_eq_getElem h1
      have g2' := List.getElem?_eq_getElem h2
      have hlt : S[j] < S[j + 1] := asc_lt_at sasc g1 g2'
      generalize S[j] = s1 at g1 hlt
      generalize S[j + 1] = s2 at g2' hlt
      refine ⟨rfl, ?_⟩
      refine ⟨_, rfl, _, rfl, _, _, rfl, rfl, p, _, _, .int s1, rfl, rfl, sS7, atI_int (by omega) (by rw [show ((1 : Int) + (j : Int) - 1).toNat = j by omega, List.getElem?_map, g1]; rfl), ?_⟩
      refine ⟨_, rfl, _, rfl, p, _, _, .int s2, rfl, rfl, sS7, atI_int (by omega) (by rw [show ((1 : Int) + (j : Int)).toNat = j + 1 by omega, List.getElem?_map, g2']; rfl), ?_⟩
      refine ⟨_, _, rfl, rfl, _, rfl, ?_⟩
      refine ite2 (fun h => ?_) (fun _ => ⟨e7, hJ7⟩)
      have := of_decide_eq_true h
      omega
    rintro H7 ⟨e7, hJ7⟩
    refine ⟨Nat.zero_le _, fun z1 hz1 => ?_⟩
    have e8 : Ex H7 (upd H7 z1 (.lst [])) := Ex.nw hz1
    have f8 : (upd H7 z1 (.lst [])) z1 = some (.lst []) := upd_same
    generalize upd H7 z1 (.lst []) = H8 at e8 f8
    refine ⟨J2, z1, [], rfl, rfl, .inl (.inl (e8 _ _ hJ7)), .inl (.inl f8), _, rfl, ?_⟩
    refine ite2 (fun h => Bool.noConfusion h) (fun _ => ?_)
    have e48 := e46.tr (e7.tr e8)
    clear hJ7 f8 hz1 hJ2 e7 e8 sS6 e46
    -- the number
    have hS8 := e48 _ _ hS3
    refine ⟨_, rfl, p, _, rfl, .inl (.inl (.inl hS8)), _, rfl, rfl, _, rfl, ite2 (fun h => ?_) (fun _ => ?_)⟩
    · rw [List.length_map] at h
      simp at h
    refine ⟨_, rfl, _, rfl, .ref tw, u, rfl, dv2.up (e3.tr e48), hu, fun k3 H9 e9 fk3 => ?_⟩
    obtain rfl := (fs.count hu).uniq fk3
    refine ⟨rfl, _, rfl, ite2 (fun h => ?_) (fun _ => ?_)⟩
    · simp at h
    have e49 := e48.tr e9
    refine ⟨_, rfl, _, rfl, .ref tw, u, p, S, rfl, dv2.up (e3.tr e49), hu, e49 _ _ hS3, by omega, smem, fun t H10 e10 ht => ?_⟩
    obtain rfl : t = true := ht.mpr (fs.rs hu)
    refine ⟨_, rfl, ite2 (fun h => Bool.noConfusion h) (fun _ => ?_)⟩
    have e410 := e49.tr e10
    clear hS8 e48 e9 e49 e10
    -- one fewer
    refine ⟨_, rfl, tw, _, 0, _, rfl, rfl, (e03.tr e410).t hS, rfl, _, _, rfl, rfl, _, rfl, ?_⟩
    refine ite2 (fun hn8 => ?_) (fun _ => ?_)
    · have hn8' : u.n < 8 := of_decide_eq_true hn8
      refine ⟨_, rfl, _, _, rfl, rfl, _, rfl, ?_⟩
      refine ite2 (fun hk0 => ?_) (fun _ => ?_)
      · have hk0' : (S.length : Int) > 0 := of_decide_eq_true hk0
        have ekm : (S.length : Int) - 1 = ((S.length - 1 : Nat) : Int) := by omega
        refine ⟨_, rfl, tw, _, 0, _, rfl, rfl, (e03.tr e410).t hS, rfl, _, rfl, _, _, rfl, rfl, u.n, S.length - 1, ?_, ⟨by omega, by omega⟩, by omega, fun L bs H11 e11 LT => ?_⟩
        · rw [← ekm]
        have sL : SqL K H11 L (bs.map V.ref) := .inl (.inl LT.at_)
        refine ⟨L, rfl, ⟨_, sL⟩, fun J3 hJ3 => ?_⟩
        refine lc_by (bs.map V.ref).length (fun j H' => Ex H11 H' ∧ H' J3 = some (.lst []))
          ⟨Ex.nw hJ3, upd_same⟩ (fun j H' hj p => itl_go sL p.1 hj) (fun H' p => itl_stop sL p.1) ?_ ?_
        · rintro j H12 x H13 hj ⟨e12, hJ12⟩ y
          obtain ⟨rfl, hx⟩ := itl_yld y sL e12
          obtain ⟨b, hb, rfl⟩ := map_at hx
          obtain ⟨_, r, hr1, hr2, hr3⟩ := LT.row b (List.mem_of_getElem? hb)
          refine ⟨rfl, ?_⟩
          refine ⟨_, rfl, _, rfl, .ref tw, u, b, r, rfl, dv2.up (e3.tr (e410.tr (e11.tr e12))), hu, e12 _ _ hr1, by omega, hr3, fun t H14 e14 ht => ?_⟩
          obtain rfl : t = false := by
            cases t with
            | false => rfl
            | true =>
              have := fs.least hu (ht.mp rfl)
              omega
          refine ⟨_, rfl, ite2 (fun h => Bool.noConfusion h) (fun _ => ⟨e12.tr e14, e14 _ _ hJ12⟩)⟩
        rintro H12 ⟨e12, hJ12⟩
        refine ⟨Nat.zero_le _, fun z1 hz1 => ?_⟩
        have e13 : Ex H12 (upd H12 z1 (.lst [])) := Ex.nw hz1
        have f13 : (upd H12 z1 (.lst [])) z1 = some (.lst []) := upd_same
        generalize upd H12 z1 (.lst []) = HE at e13 f13
        refine ⟨J3, z1, [], rfl, rfl, .inl (.inl (e13 _ _ hJ12)), .inl (.inl f13), _, rfl, ?_⟩
        refine ite2 (fun h => Bool.noConfusion h) (fun _ => ?_)
        have eE := e410.tr ((e11.tr e12).tr e13)

        clear fs2
        have hpE := eE _ _ hS3
        refine ⟨_, rfl, p, _, rfl, .inl (.inl (.inl hpE)), fun kp hkp => ?_⟩
        have e20 : Ex HE (upd HE kp (.lst (S.map V.int))) := Ex.nw hkp
        have f20 : (upd HE kp (.lst (S.map V.int))) kp = some (.lst (S.map V.int)) := upd_same
        generalize upd HE kp (.lst (S.map V.int)) = H20 at e20 f20
        have hp20 := e20 _ _ hpE
        refine ⟨_, rfl, .inl ⟨rfl, _, .inl (.inl hp20)⟩, p, _, _, rfl, rfl, hp20, mil' (by rw [List.length_map]; omega), ?_⟩
        have kpp : kp ≠ p := fun e => by
          rw [e, hpE] at hkp
          cases hkp
        have e2E : Ex H2 (upd H20 p (.lst (S.map V.int ++ [.int 0]))) := ((e3.tr eE).tr e20).wr hp
        have f21 : (upd H20 p (.lst (S.map V.int ++ [.int 0]))) kp = some (.lst (S.map V.int)) := by
          rw [upd_ne kpp]
          exact f20
        generalize upd H20 p (.lst (S.map V.int ++ [.int 0])) = H21 at e2E f21
        refine ⟨_, rfl, .ref c, u, rfl, dc2.up e2E, hu, fun p9 S9 H22 hp9 e22 hS9 fs9 => ?_⟩
        obtain rfl := fs.uniq fs9
        refine ⟨_, rfl, _, _, (dInts_of hS9 (by omega)).dInts, (dInts_of (e22 _ _ f21) (by omega)).dInts, sh_dInts _, sh_dInts _, ?_⟩
        rw [eqv_dInts, decide_eq_true rfl]
        have e2F := e2E.tr e22
        refine ⟨_, rfl, ?_⟩
        rw [if_pos rfl]
        refine ⟨_, rfl, _, rfl, u.d, u.d, (dc2.up e2F).web, (dv2.up e2F).web, sh_web u, sh_web u, ?_⟩
        rw [eqv_web, decide_eq_true rfl]
        exact q H22 (e02.tr e2F)
      · generalize H10 = HE at e410
        have eE := e410

        clear fs2
        have hpE := eE _ _ hS3
        refine ⟨_, rfl, p, _, rfl, .inl (.inl (.inl hpE)), fun kp hkp => ?_⟩
        have e20 : Ex HE (upd HE kp (.lst (S.map V.int))) := Ex.nw hkp
        have f20 : (upd HE kp (.lst (S.map V.int))) kp = some (.lst (S.map V.int)) := upd_same
        generalize upd HE kp (.lst (S.map V.int)) = H20 at e20 f20
        have hp20 := e20 _ _ hpE
        refine ⟨_, rfl, .inl ⟨rfl, _, .inl (.inl hp20)⟩, p, _, _, rfl, rfl, hp20, mil' (by rw [List.length_map]; omega), ?_⟩
        have kpp : kp ≠ p := fun e => by
          rw [e, hpE] at hkp
          cases hkp
        have e2E : Ex H2 (upd H20 p (.lst (S.map V.int ++ [.int 0]))) := ((e3.tr eE).tr e20).wr hp
        have f21 : (upd H20 p (.lst (S.map V.int ++ [.int 0]))) kp = some (.lst (S.map V.int)) := by
          rw [upd_ne kpp]
          exact f20
        generalize upd H20 p (.lst (S.map V.int ++ [.int 0])) = H21 at e2E f21
        refine ⟨_, rfl, .ref c, u, rfl, dc2.up e2E, hu, fun p9 S9 H22 hp9 e22 hS9 fs9 => ?_⟩
        obtain rfl := fs.uniq fs9
        refine ⟨_, rfl, _, _, (dInts_of hS9 (by omega)).dInts, (dInts_of (e22 _ _ f21) (by omega)).dInts, sh_dInts _, sh_dInts _, ?_⟩
        rw [eqv_dInts, decide_eq_true rfl]
        have e2F := e2E.tr e22
        refine ⟨_, rfl, ?_⟩
        rw [if_pos rfl]
        refine ⟨_, rfl, _, rfl, u.d, u.d, (dc2.up e2F).web, (dv2.up e2F).web, sh_web u, sh_web u, ?_⟩
        rw [eqv_web, decide_eq_true rfl]
        exact q H22 (e02.tr e2F)
    · generalize H10 = HE at e410
      have eE := e410

      clear fs2
      have hpE := eE _ _ hS3
      refine ⟨_, rfl, p, _, rfl, .inl (.inl (.inl hpE)), fun kp hkp => ?_⟩
      have e20 : Ex HE (upd HE kp (.lst (S.map V.int))) := Ex.nw hkp
      have f20 : (upd HE kp (.lst (S.map V.int))) kp = some (.lst (S.map V.int)) := upd_same
      generalize upd HE kp (.lst (S.map V.int)) = H20 at e20 f20
      have hp20 := e20 _ _ hpE
      refine ⟨_, rfl, .inl ⟨rfl, _, .inl (.inl hp20)⟩, p, _, _, rfl, rfl, hp20, mil' (by rw [List.length_map]; omega), ?_⟩
      have kpp : kp ≠ p := fun e => by
        rw [e, hpE] at hkp
        cases hkp
      have e2E : Ex H2 (upd H20 p (.lst (S.map V.int ++ [.int 0]))) := ((e3.tr eE).tr e20).wr hp
      have f21 : (upd H20 p (.lst (S.map V.int ++ [.int 0]))) kp = some (.lst (S.map V.int)) := by
        rw [upd_ne kpp]
        exact f20
      generalize upd H20 p (.lst (S.map V.int ++ [.int 0])) = H21 at e2E f21
      refine ⟨_, rfl, .ref c, u, rfl, dc2.up e2E, hu, fun p9 S9 H22 hp9 e22 hS9 fs9 => ?_⟩
      obtain rfl := fs.uniq fs9
      refine ⟨_, rfl, _, _, (dInts_of hS9 (by omega)).dInts, (dInts_of (e22 _ _ f21) (by omega)).dInts, sh_dInts _, sh_dInts _, ?_⟩
      rw [eqv_dInts, decide_eq_true rfl]
      have e2F := e2E.tr e22
      refine ⟨_, rfl, ?_⟩
      rw [if_pos rfl]
      refine ⟨_, rfl, _, rfl, u.d, u.d, (dc2.up e2F).web, (dv2.up e2F).web, sh_web u, sh_web u, ?_⟩
      rw [eqv_web, decide_eq_true rfl]
      exact q H22 (e02.tr e2F)
end

end K17
namespace K17
open PySem PySem.Spec PyProof.Rows L2 Nw
/-! _law_rings: slots 0 _law_tap_here, 1 _law_count, 2 _law_order_here, 3 _law_pairs_here, 4 _law_at, 5 _law_ring, 6 _law_k, 7 _law_nudges_here, 8 _law_turn -/
abbrev s_rings : Stmt := topS 54
abbrev N_rings : List Str := ["_law_tap_here", "_law_count", "_law_order_here", "_law_pairs_here", "_law_at", "_law_ring", "_law_k", "_law_nudges_here", "_law_turn"]
abbrev P_rings : List Str := ["_law_tap_here", "_law_count"]
theorem sc_rings : FnScope N_rings P_rings (defScope s_rings) := ⟨rfl, rfl, rfl, by decide +kernel, rfl, by decide +kernel, by decide +kernel⟩
theorem tup_off {H : Hp} {p b : Addr} {xs : List V} (hp : Tap H p) (h : H b = some (.tup xs)) : b ≠ p := fun e => by
  obtain ⟨c, d, f, h1, _⟩ := hp
  rw [e, h1] at h
  cases h
def PrAt (H : Hp) (n : Int) (q : Addr × List Int) : Prop := ∃ x y : Int, q.2 = [x, y] ∧ (0 ≤ x ∧ x < n) ∧ (0 ≤ y ∧ y < n) ∧ H q.1 = some (.tup [.int x, .int y])
theorem PrAt.up {H H' : Hp} {n : Int} {q : Addr × List Int} (h : PrAt H n q) (e : Ex H H') : PrAt H' n q := by
  obtain ⟨x, y, e1, h1, h2, h3⟩ := h
  exact ⟨x, y, e1, h1, h2, e _ _ h3⟩
theorem PrAt.upD {H H' : Hp} {p : Addr} {n : Int} {q : Addr × List Int} (h : PrAt H n q) (hp : Tap H p) (e : ExD p H H') : PrAt H' n q := by
  obtain ⟨x, y, e1, h1, h2, h3⟩ := h
  exact ⟨x, y, e1, h1, h2, e _ _ (tup_off hp h3) h3⟩
theorem PrAt.wr {H : Hp} {n : Int} {q : Addr × List Int} {D : Addr} {o : HO} {xs : List V} (h : PrAt H n q) (hD : H D = some (.lst xs)) : PrAt (upd H D o) n q := by
  obtain ⟨x, y, e1, h1, h2, h3⟩ := h
  refine ⟨x, y, e1, h1, h2, ?_⟩
  rw [upd_ne (fun e => by
    rw [e, hD] at h3
    cases h3)]
  exact h3
/-- rings, one behind the other -/
def sp_rings (K : PySem.W.Frag) : Sp := fun vs H Q _ => ∃ (p : Addr) (n : Int), vs = [.ref p, .int n] ∧ (1 ≤ n ∧ n ≤ 20) ∧ Tap H p ∧
  ∀ (v : V) (u : Wb) H', ExD p H H' → Tap H' p → Da K (rm H' p) u.d v → u.Ok → Q v H'
section
variable {P : Program} {w : World} {K : PySem.W.Frag} {mg : Str → Option Value} {base : Heap}
theorem ok_rings {f : Addr} {fd : FuncData} (T : Txt K mg) (F : Fun K "_law_rings" "_law_rings" s_rings f fd)
    (D_draw : DefOk P w K mg base CX0 1 "_law_draw" P_draw (sp_draw K))
    (D_order : DefOk P w K mg base CX0 2 "_law_order" P_order (sp_order K)) :
    FnG P w K mg base CX0 3 f fd P_rings (sp_rings K) := by
  refine okG0 F sc_rings (fun vs H Q E h => ?_) (fun cdv A outer s H vs Q E hr hq h => ?_)
  · obtain ⟨p, n, rfl, _⟩ := h
    rfl
  · obtain ⟨p, n, rfl, hn, hp, q⟩ := h
    refine ⟨_, (pss_cons (ps_asg (pe_tup (pa_cons (pe_callD D_order (hr.mono (by decide)) hq pass0 (pa_cons (pv 0) (pa_cons (pv 1) pa_nil))) (pa_cons (pe_lst pa_nil) (pa_cons pe_int pa_nil)))) (pg_tupK (n := 3) K rfl (pgs_cons (pg_name (i := 2) sc_rings.nd rfl (by first | exact .inl rfl | exact .inr rfl)) (pgs_cons (pg_name (i := 3) sc_rings.nd rfl (by first | exact .inl rfl | exact .inr rfl)) (pgs_cons (pg_name (i := 4) sc_rings.nd rfl (by first | exact .inl rfl | exact .inr rfl)) pgs_nil)))))
      (pss_cons (ps_while PassesOwn.never (pt_cmpR op_lt (pv 4) (pv 1) (nomark _)) (pss_cons (ps_set (i := 5) sc_rings.nd rfl (by first | exact .inl rfl | exact .inr rfl) (pe_slice (sl_listK K) (pv 2) (po_some (pv 4)) (po_some (pe_op op_add (pe_op op_add (pv 4) pe_int) (pe_callD D_draw (hr.mono (by decide)) hq pass0 (pa_cons (pv 0) (pa_cons pe_int pa_nil)))))))
      (pss_cons (ps_if (PW.pt (pw_or (pt_cmpR op_gt (pe_callB (call_lenK K) (by rfl) T.b_len bt_len (pa_cons (pv 5) pa_nil)) pe_int (nomark _)) (pw_or1 (pt_cmpR op_eq (pe_callD D_draw (hr.mono (by decide)) hq pass0 (pa_cons (pv 0) (pa_cons pe_int pa_nil))) pe_int (nomark _))))) (pss_one (ps_expr (pe_bm PySem.F.plainAttrs_list PySem.F.slot_list_extend PySem.F.type_list_extend mt_extend (pv 3) (pa_cons (pe_lc (own := [("_law_k", 6)]) rfl sc_rings.nd (pi_range1 (by rfl) T.b_range (pa_cons (pe_callB (call_lenK K) (by rfl) T.b_len bt_len (pa_cons (pv 5) pa_nil)) pa_nil)) (blkOk_by (N := N_rings) (sc := defScope s_rings) (by decide +kernel)) (fun _ _ _ _ _ => (pg_name (i := 6) sc_rings.nd rfl (by first | exact .inl rfl | exact .inr rfl))) (fun _ _ _ _ _ => pts_nil) (fun _ _ _ _ _ => (pe_tup (pa_cons (pe_ix (ix_listK K) (pv 5) (pe_op op_sub (pv 6) pe_int) (fun _ _ => rfl)) (pa_cons (pe_ix (ix_listK K) (pv 5) (pv 6) (fun _ _ => rfl)) pa_nil))))) pa_nil)))) pss_nil)
      (pss_cons (ps_if (PW.pt (pw_and (pt_cmpR op_gt (pv 4) pe_int (nomark _)) (pw_and1 (pt_cmpR op_eq (pe_callD D_draw (hr.mono (by decide)) hq pass0 (pa_cons (pv 0) (pa_cons pe_int pa_nil))) pe_int (nomark _))))) (pss_one (ps_expr (pe_bm PySem.F.plainAttrs_list PySem.F.slot_list_append PySem.F.type_list_append mt_append (pv 3) (pa_cons (pe_tup (pa_cons (pe_ix (ix_listK K) (pv 2) (pe_callD D_draw (hr.mono (by decide)) hq pass0 (pa_cons (pv 0) (pa_cons (pv 4) pa_nil))) (fun _ _ => rfl)) (pa_cons (pe_ix (ix_listK K) (pv 5) pe_int (fun _ _ => rfl)) pa_nil))) pa_nil)))) pss_nil)
      (pss_one (ps_set (i := 4) sc_rings.nd rfl (by first | exact .inl rfl | exact .inr rfl) (pe_op op_add (pv 4) (pe_callB (call_lenK K) (by rfl) T.b_len bt_len (pa_cons (pv 5) pa_nil)))))))))
      (pss_cons (ps_setLc (i := 7) (own := [("_law_turn", 8)]) rfl sc_rings.nd rfl rfl (sw_true rfl rfl rfl (by decide +kernel)) (pi_range1 (by rfl) T.b_range (pa_cons (pe_ix (ix_listK K) (pe_lst (pa_cons pe_int (pa_cons pe_int (pa_cons pe_int (pa_cons pe_int pa_nil))))) (pe_callD D_draw (hr.mono (by decide)) hq pass0 (pa_cons (pv 0) (pa_cons pe_int pa_nil))) (fun _ _ => rfl)) pa_nil)) (blkOk_by (N := N_rings) (sc := defScope s_rings) (by decide +kernel)) (fun _ _ _ _ _ => (pg_name (i := 8) sc_rings.nd rfl (by first | exact .inl rfl | exact .inr rfl))) (fun _ _ _ _ _ => pts_nil) (fun _ _ _ _ _ => (pe_lst (pa_cons (pe_ix (ix_listK K) (pv 2) (pe_callD D_draw (hr.mono (by decide)) hq pass0 (pa_cons (pv 0) (pa_cons (pv 1) pa_nil))) (fun _ _ => rfl)) pa_nil))))
      (pss_one (ps_ret (pe_tup (pa_cons (pv 1) (pa_cons (pe_callB (cr_sortedTK K P w rfl) (by rfl) T.b_sorted bt_sorted (pa_cons (pe_callTy (cr_setOfTK K P w rfl hr.units) (by rfl) T.b_set bt_set (pa_cons (pv 3) pa_nil)) pa_nil)) (pa_cons (pv 7) pa_nil))))))))), ?_⟩
    refine ⟨_, rfl, _, rfl, p, n, rfl, by omega, hp, fun O o H1 hO e1 p1 hO1 ho => ⟨Nat.zero_le _, fun Pl hPl => ?_⟩⟩
    refine ⟨by show 3 ≤ sizeLine; decide, fun T0 hT0 => ?_⟩
    refine ⟨T0, _, rfl, .inl (.inl upd_same), rfl, _, _, rfl, _, _, rfl, _, _, rfl, rfl, ?_⟩
    have hol := ho.len
    have Op := hp.off hO
    have Pp := p1.off hPl
    have HP : H Pl = none := Purse.fr e1 p1 hPl
    have OP : O ≠ Pl := fun e => by
      rw [← e, hO1] at hPl
      cases hPl
    have PT : Pl ≠ T0 := fun e => by
      rw [← e, upd_same] at hT0
      cases hT0
    have eI : Ex H1 (upd (upd H1 Pl (.lst [])) T0 (.tup [.ref O, .ref Pl, .int 0])) := (Ex.nw hPl).tr (Ex.nw hT0)
    have fI : (upd (upd H1 Pl (.lst [])) T0 (.tup [.ref O, .ref Pl, .int 0])) Pl = some (.lst []) := by rw [upd_ne PT, upd_same]
    generalize upd (upd H1 Pl (.lst [])) T0 (.tup [.ref O, .ref Pl, .int 0]) = HI at eI fI
    refine ⟨fun m σ H' => ∃ (y5 y6 y7 y8 : Option V) (a : Nat) (ks : List (Addr × List Int)), m = n.toNat - a ∧ a ≤ n.toNat ∧ σ = [some (V.ref p), some (V.int n), some (V.ref O), some (V.ref Pl), some (V.int (a : Int)), y5, y6, y7, y8] ∧
        ExD p H H' ∧ Tap H' p ∧ H' O = some (.lst (o.map V.int)) ∧ H' Pl = some (.lst (ks.map fun q => V.ref q.1)) ∧ (∀ q ∈ ks, PrAt H' n q) ∧ ks.length ≤ 2 * a,
      ⟨_, none, none, none, none, 0, [], rfl, Nat.zero_le _, rfl, e1.tr eI.d, p1.up eI, eI _ _ hO1, fI, fun q hq => (by cases hq), Nat.le_refl _⟩, ?_⟩
    rintro m σ H2 ⟨y5, y6, y7, y8, a, ks, rfl, hal, rfl, e2, p2, hO2, hPl2, hks, hkl⟩
    refine ⟨_, rfl, _, rfl, _, _, rfl, rfl, _, rfl, ?_⟩
    refine ite2 (fun hlt => ?_) (fun hlt => ?_)
    · have hlt : (a : Int) < n := of_decide_eq_true hlt
      refine ⟨_, fun _ _ h => h, ?_⟩
      refine ⟨_, rfl, _, rfl, _, rfl, _, rfl, _, _, rfl, rfl, _, rfl, p, 4, rfl, by decide, p2, fun z H3 hz p3 e3 => ⟨_, _, rfl, rfl, _, rfl, ?_⟩⟩
      have hO3 := e3 _ _ Op hO2
      have hPl3 := e3 _ _ Pp hPl2
      have hks3 : ∀ q ∈ ks, PrAt H3 n q := fun q hq => (hks q hq).upD p2 e3
      refine ⟨O, _, rfl, .inl (.inl hO3), fun R hR => ?_⟩
      rw [cutV_map, show ((a : Int) + 1 + z) = ((a + 1 + z.toNat : Nat) : Int) by omega, HT.sIx_nat, HT.sIx_nat]
      have hrl : ((o.drop (min a o.length)).take (min (a + 1 + z.toNat) o.length - min a o.length)).length = min (a + 1 + z.toNat) o.length - min a o.length := by
        rw [List.length_take, List.length_drop]
        omega
      have hrm : ∀ x ∈ (o.drop (min a o.length)).take (min (a + 1 + z.toNat) o.length - min a o.length), 0 ≤ x ∧ x < n := fun x hx => ho.mem.mp (List.mem_of_mem_drop (List.mem_of_mem_take hx))
      generalize (o.drop (min a o.length)).take (min (a + 1 + z.toNat) o.length - min a o.length) = ring at hrl hrm
      have hr1 : 1 ≤ ring.length := by omega
      have hr2 : a + ring.length ≤ n.toNat := by omega
      have Rp := p3.off hR
      have eR : Ex H3 (upd H3 R (.lst (ring.map V.int))) := Ex.nw hR
      have hR4 : (upd H3 R (.lst (ring.map V.int))) R = some (.lst (ring.map V.int)) := upd_same
      have RPl : R ≠ Pl := fun e => by
        rw [e, hPl3] at hR
        cases hR
      generalize upd H3 R (.lst (ring.map V.int)) = H4 at eR hR4
      have p4 := p3.up eR
      have hO4 := eR _ _ hO3
      have hPl4 := eR _ _ hPl3
      have e24 : ExD p H H4 := (e2.tr e3).tr eR.d
      have hks4 : ∀ q ∈ ks, PrAt H4 n q := fun q hq => (hks3 q hq).up eR
      clear hks3 hO3 hPl3 hks
      refine ⟨_, rfl, R, _, rfl, .inl (.inl (.inl hR4)), _, _, rfl, rfl, _, rfl, ?_⟩
      refine ite2 (fun _ => ?_) (fun _ => ?_)
      · skip
        refine ⟨_, rfl, .inl ⟨rfl, _, .inl (.inl hPl4)⟩, ?_⟩
        refine ⟨_, rfl, R, _, rfl, .inl (.inl (.inl hR4)), _, rfl, by rw [List.length_map]; omega, by rw [List.length_map]; omega, fun C hC => ?_⟩
        rw [List.length_map]
        have sR : SqL K H4 R (ring.map V.int) := .inl (.inl hR4)
        refine lc_by ring.length (fun j H' => Ex H4 H' ∧ ∃ ns : List (Addr × List Int), ns.length = j ∧ H' C = some (.lst (ns.map fun q => V.ref q.1)) ∧ ∀ q ∈ ns, PrAt H' n q)
          ⟨Ex.nw hC, [], rfl, upd_same, fun q hq => by cases hq⟩ (fun j H' hj p => (by show j < _; omega)) (fun H' p => (by show _ ≤ ring.length; omega)) ?_ ?_
        · rintro j H9 x H5 hj ⟨e5, ns, hnl, hC5, hns⟩ ⟨rfl, rfl⟩
          have sR5 := e5.l sR
          obtain ⟨x1, hx1, hat1⟩ := atI_prev hj
          have hx2 := List.getElem?_eq_getElem hj
          generalize ring[j] = b2 at hx2
          refine ⟨rfl, _, rfl, _, rfl, _, _, rfl, rfl, R, _, _, .int x1, rfl, rfl, sR5, hat1, ?_⟩
          refine ⟨_, rfl, _, rfl, R, _, _, .int b2, rfl, rfl, sR5, atI_int (by omega) (by rw [show (0 + (j : Int)).toNat = j by omega, List.getElem?_map, hx2]; rfl), by show 2 ≤ sizeLine; decide, fun T hT => ?_⟩
          have eT : Ex H5 (upd H5 T (.tup [.int x1, .int b2])) := Ex.nw hT
          have hT6 : (upd H5 T (.tup [.int x1, .int b2])) T = some (.tup [.int x1, .int b2]) := upd_same
          generalize upd H5 T (.tup [.int x1, .int b2]) = H6 at eT hT6
          have hC6 := eT _ _ hC5
          refine ⟨_, hC6, mil' (by rw [List.length_map]; omega), (e5.tr eT).wr hC, ns ++ [(T, [x1, b2])], by rw [List.length_append, hnl]; rfl, ?_, ?_⟩
          · rw [upd_same, List.map_append]
            rfl
          · intro q hq
            rcases List.mem_append.mp hq with hq | hq
            · exact ((hns q hq).up eT).wr hC6
            · obtain rfl := List.mem_singleton.mp hq
              exact PrAt.wr ⟨x1, b2, rfl, hrm x1 hx1, hrm b2 (List.mem_of_getElem? hx2), hT6⟩ hC6
        · rintro H5 ⟨e5, ns, hnl, hC5, hns⟩
          have hPl5 := e5 _ _ hPl4
          have CPl : C ≠ Pl := fun e => by
            rw [e, hPl4] at hC
            cases hC
          refine ⟨Pl, C, _, _, rfl, rfl, hPl5, hC5, Nat.le_of_lt (mil' (by rw [List.length_map, List.length_map]; omega)), ?_⟩
          rw [← List.map_append]
          have hks6 : ∀ q ∈ ks ++ ns, PrAt (upd H5 Pl (.lst ((ks ++ ns).map fun q => V.ref q.1))) n q := fun q hq => by
            rcases List.mem_append.mp hq with hq | hq
            · exact ((hks4 q hq).up e5).wr hPl5
            · exact (hns q hq).wr hPl5
          have hkl6 : (ks ++ ns).length ≤ 2 * a + ring.length := by
            rw [List.length_append]
            omega
          have hPl6 : (upd H5 Pl (.lst ((ks ++ ns).map fun q => V.ref q.1))) Pl = some (.lst ((ks ++ ns).map fun q => V.ref q.1)) := upd_same
          have e6 : ExD p H (upd H5 Pl (.lst ((ks ++ ns).map fun q => V.ref q.1))) := (e24.tr e5.d).wr HP
          have p6 : Tap (upd H5 Pl (.lst ((ks ++ ns).map fun q => V.ref q.1))) p := (p4.up e5).put Pp.symm
          have hO6 : (upd H5 Pl (.lst ((ks ++ ns).map fun q => V.ref q.1))) O = some (.lst (o.map V.int)) := by
            rw [upd_ne OP]
            exact e5 _ _ hO4
          have hR6 : (upd H5 Pl (.lst ((ks ++ ns).map fun q => V.ref q.1))) R = some (.lst (ring.map V.int)) := by
            rw [upd_ne RPl]
            exact e5 _ _ hR4
          generalize upd H5 Pl (.lst ((ks ++ ns).map fun q => V.ref q.1)) = H6 at hks6 hPl6 e6 p6 hO6 hR6
          generalize ks ++ ns = ks6 at hks6 hPl6 hkl6
          refine ⟨_, rfl, _, _, rfl, rfl, _, rfl, ite2 (fun hgt => ?_) (fun _ => ?_)⟩
          · have hgt : (a : Int) > 0 := of_decide_eq_true hgt
            refine ⟨_, rfl, p, 2, rfl, by decide, p6, fun z3 H7 hz3 p7 e7 => ⟨rfl, _, rfl, ?_⟩⟩
            have hO7 := e7 _ _ Op hO6
            have hPl7 := e7 _ _ Pp hPl6
            have hR7 := e7 _ _ Rp hR6
            have hks7 : ∀ q ∈ ks6, PrAt H7 n q := fun q hq => (hks6 q hq).upD p6 e7
            refine ite2 (fun _ => ?_) (fun _ => ?_)
            · refine ⟨_, rfl, .inl ⟨rfl, _, .inl (.inl hPl7)⟩, _, rfl, _, rfl, _, rfl, p, (a : Int), rfl, by omega, p7, fun z4 H8 hz4 p8 e8 => ?_⟩
              have hO8 := e8 _ _ Op hO7
              have hPl8 := e8 _ _ Pp hPl7
              have hR8 := e8 _ _ Rp hR7
              have hz4l : z4.toNat < o.length := by omega
              have g1 := List.getElem?_eq_getElem hz4l
              generalize o[z4.toNat] = x1 at g1
              have g2 := List.getElem?_eq_getElem (show 0 < ring.length by omega)
              generalize ring[0] = x2 at g2
              refine ⟨O, _, z4, .int x1, rfl, rfl, .inl (.inl hO8), atI_int hz4.1 (by rw [List.getElem?_map, g1]; rfl), _, rfl, R, _, 0, .int x2, rfl, rfl, .inl (.inl hR8), atI_int (by decide) (by rw [List.getElem?_map]; rw [show Int.toNat 0 = 0 from rfl, g2]; rfl), by show 2 ≤ sizeLine; decide, fun T hT => ?_⟩
              have eT : Ex H8 (upd H8 T (.tup [.int x1, .int x2])) := Ex.nw hT
              have hT9 : (upd H8 T (.tup [.int x1, .int x2])) T = some (.tup [.int x1, .int x2]) := upd_same
              generalize upd H8 T (.tup [.int x1, .int x2]) = H9 at eT hT9
              have hPl9 := eT _ _ hPl8
              refine ⟨Pl, _, _, rfl, rfl, hPl9, mil' (by rw [List.length_map]; omega), ?_⟩
              refine ⟨_, rfl, _, rfl, R, _, rfl, .inl (.inl (.inl (by rw [upd_ne RPl]; exact eT _ _ hR8))), _, _, rfl, rfl, ?_⟩
              rw [List.length_map]
              refine ⟨n.toNat - (a + ring.length), by omega, _, _, _, _, a + ring.length, ks6 ++ [(T, [x1, x2])], rfl, by omega, rfl, (((e6.tr e7).tr e8).tr eT.d).wr HP, (p8.up eT).put Pp.symm, by rw [upd_ne OP]; exact eT _ _ hO8, by rw [upd_same, List.map_append]; rfl, fun q hq => ?_, by rw [List.length_append, List.length_singleton]; omega⟩
              rcases List.mem_append.mp hq with hq | hq
              · exact ((((hks7 q hq).upD p7 e8).up eT)).wr hPl9
              · obtain rfl := List.mem_singleton.mp hq
                exact PrAt.wr ⟨x1, x2, rfl, ho.mem.mp (List.mem_of_getElem? g1), hrm x2 (List.mem_of_getElem? g2), hT9⟩ hPl9
            · refine ⟨_, rfl, _, rfl, R, _, rfl, .inl (.inl (.inl hR7)), _, _, rfl, rfl, ?_⟩
              rw [List.length_map]
              exact ⟨n.toNat - (a + ring.length), by omega, _, _, _, _, a + ring.length, ks6, rfl, by omega, rfl, e6.tr e7, p7, hO7, hPl7, hks7, by omega⟩
          · refine ⟨_, rfl, _, rfl, R, _, rfl, .inl (.inl (.inl hR6)), _, _, rfl, rfl, ?_⟩
            rw [List.length_map]
            exact ⟨n.toNat - (a + ring.length), by omega, _, _, _, _, a + ring.length, ks6, rfl, by omega, rfl, e6, p6, hO6, hPl6, hks6, by omega⟩
      · refine ⟨_, rfl, p, 2, rfl, by decide, p4, fun z2 HB hz2 p5 e5 => ⟨rfl, _, rfl, ?_⟩⟩
        have hks5 : ∀ q ∈ ks, PrAt HB n q := fun q hq => (hks4 q hq).upD p4 e5
        have hO5 := e5 _ _ Op hO4
        have hPl5 := e5 _ _ Pp hPl4
        have hR5 := e5 _ _ Rp hR4
        have e25 := e24.tr e5
        clear hks4 hO4 hPl4 hR4 e24 p4 eR e5
        have hks4 := hks5
        have hO4 := hO5
        have hPl4 := hPl5
        have hR4 := hR5
        have e24 := e25
        have p4 := p5
        clear hks5 hO5 hPl5 hR5 e25 p5
        refine ite2 (fun _ => ?_) (fun _ => ?_)
        · skip
          refine ⟨_, rfl, .inl ⟨rfl, _, .inl (.inl hPl4)⟩, ?_⟩
          refine ⟨_, rfl, R, _, rfl, .inl (.inl (.inl hR4)), _, rfl, by rw [List.length_map]; omega, by rw [List.length_map]; omega, fun C hC => ?_⟩
          rw [List.length_map]
          have sR : SqL K HB R (ring.map V.int) := .inl (.inl hR4)
          refine lc_by ring.length (fun j H' => Ex HB H' ∧ ∃ ns : List (Addr × List Int), ns.length = j ∧ H' C = some (.lst (ns.map fun q => V.ref q.1)) ∧ ∀ q ∈ ns, PrAt H' n q)
            ⟨Ex.nw hC, [], rfl, upd_same, fun q hq => by cases hq⟩ (fun j H' hj p => (by show j < _; omega)) (fun H' p => (by show _ ≤ ring.length; omega)) ?_ ?_
          · rintro j H9 x H5 hj ⟨e5, ns, hnl, hC5, hns⟩ ⟨rfl, rfl⟩
            have sR5 := e5.l sR
            obtain ⟨x1, hx1, hat1⟩ := atI_prev hj
            have hx2 := List.getElem?_eq_getElem hj
            generalize ring[j] = b2 at hx2
            refine ⟨rfl, _, rfl, _, rfl, _, _, rfl, rfl, R, _, _, .int x1, rfl, rfl, sR5, hat1, ?_⟩
            refine ⟨_, rfl, _, rfl, R, _, _, .int b2, rfl, rfl, sR5, atI_int (by omega) (by rw [show (0 + (j : Int)).toNat = j by omega, List.getElem?_map, hx2]; rfl), by show 2 ≤ sizeLine; decide, fun T hT => ?_⟩
            have eT : Ex H5 (upd H5 T (.tup [.int x1, .int b2])) := Ex.nw hT
            have hT6 : (upd H5 T (.tup [.int x1, .int b2])) T = some (.tup [.int x1, .int b2]) := upd_same
            generalize upd H5 T (.tup [.int x1, .int b2]) = H6 at eT hT6
            have hC6 := eT _ _ hC5
            refine ⟨_, hC6, mil' (by rw [List.length_map]; omega), (e5.tr eT).wr hC, ns ++ [(T, [x1, b2])], by rw [List.length_append, hnl]; rfl, ?_, ?_⟩
            · rw [upd_same, List.map_append]
              rfl
            · intro q hq
              rcases List.mem_append.mp hq with hq | hq
              · exact ((hns q hq).up eT).wr hC6
              · obtain rfl := List.mem_singleton.mp hq
                exact PrAt.wr ⟨x1, b2, rfl, hrm x1 hx1, hrm b2 (List.mem_of_getElem? hx2), hT6⟩ hC6
          · rintro H5 ⟨e5, ns, hnl, hC5, hns⟩
            have hPl5 := e5 _ _ hPl4
            have CPl : C ≠ Pl := fun e => by
              rw [e, hPl4] at hC
              cases hC
            refine ⟨Pl, C, _, _, rfl, rfl, hPl5, hC5, Nat.le_of_lt (mil' (by rw [List.length_map, List.length_map]; omega)), ?_⟩
            rw [← List.map_append]
            have hks6 : ∀ q ∈ ks ++ ns, PrAt (upd H5 Pl (.lst ((ks ++ ns).map fun q => V.ref q.1))) n q := fun q hq => by
              rcases List.mem_append.mp hq with hq | hq
              · exact ((hks4 q hq).up e5).wr hPl5
              · exact (hns q hq).wr hPl5
            have hkl6 : (ks ++ ns).length ≤ 2 * a + ring.length := by
              rw [List.length_append]
              omega
            have hPl6 : (upd H5 Pl (.lst ((ks ++ ns).map fun q => V.ref q.1))) Pl = some (.lst ((ks ++ ns).map fun q => V.ref q.1)) := upd_same
            have e6 : ExD p H (upd H5 Pl (.lst ((ks ++ ns).map fun q => V.ref q.1))) := (e24.tr e5.d).wr HP
            have p6 : Tap (upd H5 Pl (.lst ((ks ++ ns).map fun q => V.ref q.1))) p := (p4.up e5).put Pp.symm
            have hO6 : (upd H5 Pl (.lst ((ks ++ ns).map fun q => V.ref q.1))) O = some (.lst (o.map V.int)) := by
              rw [upd_ne OP]
              exact e5 _ _ hO4
            have hR6 : (upd H5 Pl (.lst ((ks ++ ns).map fun q => V.ref q.1))) R = some (.lst (ring.map V.int)) := by
              rw [upd_ne RPl]
              exact e5 _ _ hR4
            generalize upd H5 Pl (.lst ((ks ++ ns).map fun q => V.ref q.1)) = H6 at hks6 hPl6 e6 p6 hO6 hR6
            generalize ks ++ ns = ks6 at hks6 hPl6 hkl6
            refine ⟨_, rfl, _, _, rfl, rfl, _, rfl, ite2 (fun hgt => ?_) (fun _ => ?_)⟩
            · have hgt : (a : Int) > 0 := of_decide_eq_true hgt
              refine ⟨_, rfl, p, 2, rfl, by decide, p6, fun z3 H7 hz3 p7 e7 => ⟨rfl, _, rfl, ?_⟩⟩
              have hO7 := e7 _ _ Op hO6
              have hPl7 := e7 _ _ Pp hPl6
              have hR7 := e7 _ _ Rp hR6
              have hks7 : ∀ q ∈ ks6, PrAt H7 n q := fun q hq => (hks6 q hq).upD p6 e7
              refine ite2 (fun _ => ?_) (fun _ => ?_)
              · refine ⟨_, rfl, .inl ⟨rfl, _, .inl (.inl hPl7)⟩, _, rfl, _, rfl, _, rfl, p, (a : Int), rfl, by omega, p7, fun z4 H8 hz4 p8 e8 => ?_⟩
                have hO8 := e8 _ _ Op hO7
                have hPl8 := e8 _ _ Pp hPl7
                have hR8 := e8 _ _ Rp hR7
                have hz4l : z4.toNat < o.length := by omega
                have g1 := List.getElem?_eq_getElem hz4l
                generalize o[z4.toNat] = x1 at g1
                have g2 := List.getElem?_eq_getElem (show 0 < ring.length by omega)
                generalize ring[0] = x2 at g2
                refine ⟨O, _, z4, .int x1, rfl, rfl, .inl (.inl hO8), atI_int hz4.1 (by rw [List.getElem?_map, g1]; rfl), _, rfl, R, _, 0, .int x2, rfl, rfl, .inl (.inl hR8), atI_int (by decide) (by rw [List.getElem?_map]; rw [show Int.toNat 0 = 0 from rfl, g2]; rfl), by show 2 ≤ sizeLine; decide, fun T hT => ?_⟩
                have eT : Ex H8 (upd H8 T (.tup [.int x1, .int x2])) := Ex.nw hT
                have hT9 : (upd H8 T (.tup [.int x1, .int x2])) T = some (.tup [.int x1, .int x2]) := upd_same
                generalize upd H8 T (.tup [.int x1, .int x2]) = H9 at eT hT9
                have hPl9 := eT _ _ hPl8
                refine ⟨Pl, _, _, rfl, rfl, hPl9, mil' (by rw [List.length_map]; omega), ?_⟩
                refine ⟨_, rfl, _, rfl, R, _, rfl, .inl (.inl (.inl (by rw [upd_ne RPl]; exact eT _ _ hR8))), _, _, rfl, rfl, ?_⟩
                rw [List.length_map]
                refine ⟨n.toNat - (a + ring.length), by omega, _, _, _, _, a + ring.length, ks6 ++ [(T, [x1, x2])], rfl, by omega, rfl, (((e6.tr e7).tr e8).tr eT.d).wr HP, (p8.up eT).put Pp.symm, by rw [upd_ne OP]; exact eT _ _ hO8, by rw [upd_same, List.map_append]; rfl, fun q hq => ?_, by rw [List.length_append, List.length_singleton]; omega⟩
                rcases List.mem_append.mp hq with hq | hq
                · exact ((((hks7 q hq).upD p7 e8).up eT)).wr hPl9
                · obtain rfl := List.mem_singleton.mp hq
                  exact PrAt.wr ⟨x1, x2, rfl, ho.mem.mp (List.mem_of_getElem? g1), hrm x2 (List.mem_of_getElem? g2), hT9⟩ hPl9
              · refine ⟨_, rfl, _, rfl, R, _, rfl, .inl (.inl (.inl hR7)), _, _, rfl, rfl, ?_⟩
                rw [List.length_map]
                exact ⟨n.toNat - (a + ring.length), by omega, _, _, _, _, a + ring.length, ks6, rfl, by omega, rfl, e6.tr e7, p7, hO7, hPl7, hks7, by omega⟩
            · refine ⟨_, rfl, _, rfl, R, _, rfl, .inl (.inl (.inl hR6)), _, _, rfl, rfl, ?_⟩
              rw [List.length_map]
              exact ⟨n.toNat - (a + ring.length), by omega, _, _, _, _, a + ring.length, ks6, rfl, by omega, rfl, e6, p6, hO6, hPl6, hks6, by omega⟩
        · skip
          have hks6 := hks4
          have hkl6 : ks.length ≤ 2 * a + ring.length := by omega
          have hPl6 := hPl4
          have e6 := e24
          have p6 := p4
          have hO6 := hO4
          have hR6 := hR4
          generalize ks = ks6 at hks6 hPl6 hkl6
          refine ⟨_, rfl, _, _, rfl, rfl, _, rfl, ite2 (fun hgt => ?_) (fun _ => ?_)⟩
          · have hgt : (a : Int) > 0 := of_decide_eq_true hgt
            refine ⟨_, rfl, p, 2, rfl, by decide, p6, fun z3 H7 hz3 p7 e7 => ⟨rfl, _, rfl, ?_⟩⟩
            have hO7 := e7 _ _ Op hO6
            have hPl7 := e7 _ _ Pp hPl6
            have hR7 := e7 _ _ Rp hR6
            have hks7 : ∀ q ∈ ks6, PrAt H7 n q := fun q hq => (hks6 q hq).upD p6 e7
            refine ite2 (fun _ => ?_) (fun _ => ?_)
            · refine ⟨_, rfl, .inl ⟨rfl, _, .inl (.inl hPl7)⟩, _, rfl, _, rfl, _, rfl, p, (a : Int), rfl, by omega, p7, fun z4 H8 hz4 p8 e8 => ?_⟩
              have hO8 := e8 _ _ Op hO7
              have hPl8 := e8 _ _ Pp hPl7
              have hR8 := e8 _ _ Rp hR7
              have hz4l : z4.toNat < o.length := by omega
              have g1 := List.getElem?_eq_getElem hz4l
              generalize o[z4.toNat] = x1 at g1
              have g2 := List.getElem?_eq_getElem (show 0 < ring.length by omega)
              generalize ring[0] = x2 at g2
              refine ⟨O, _, z4, .int x1, rfl, rfl, .inl (.inl hO8), atI_int hz4.1 (by rw [List.getElem?_map, g1]; rfl), _, rfl, R, _, 0, .int x2, rfl, rfl, .inl (.inl hR8), atI_int (by decide) (by rw [List.getElem?_map]; rw [show Int.toNat 0 = 0 from rfl, g2]; rfl), by show 2 ≤ sizeLine; decide, fun T hT => ?_⟩
              have eT : Ex H8 (upd H8 T (.tup [.int x1, .int x2])) := Ex.nw hT
              have hT9 : (upd H8 T (.tup [.int x1, .int x2])) T = some (.tup [.int x1, .int x2]) := upd_same
              generalize upd H8 T (.tup [.int x1, .int x2]) = H9 at eT hT9
              have hPl9 := eT _ _ hPl8
              refine ⟨Pl, _, _, rfl, rfl, hPl9, mil' (by rw [List.length_map]; omega), ?_⟩
              refine ⟨_, rfl, _, rfl, R, _, rfl, .inl (.inl (.inl (by rw [upd_ne RPl]; exact eT _ _ hR8))), _, _, rfl, rfl, ?_⟩
              rw [List.length_map]
              refine ⟨n.toNat - (a + ring.length), by omega, _, _, _, _, a + ring.length, ks6 ++ [(T, [x1, x2])], rfl, by omega, rfl, (((e6.tr e7).tr e8).tr eT.d).wr HP, (p8.up eT).put Pp.symm, by rw [upd_ne OP]; exact eT _ _ hO8, by rw [upd_same, List.map_append]; rfl, fun q hq => ?_, by rw [List.length_append, List.length_singleton]; omega⟩
              rcases List.mem_append.mp hq with hq | hq
              · exact ((((hks7 q hq).upD p7 e8).up eT)).wr hPl9
              · obtain rfl := List.mem_singleton.mp hq
                exact PrAt.wr ⟨x1, x2, rfl, ho.mem.mp (List.mem_of_getElem? g1), hrm x2 (List.mem_of_getElem? g2), hT9⟩ hPl9
            · refine ⟨_, rfl, _, rfl, R, _, rfl, .inl (.inl (.inl hR7)), _, _, rfl, rfl, ?_⟩
              rw [List.length_map]
              exact ⟨n.toNat - (a + ring.length), by omega, _, _, _, _, a + ring.length, ks6, rfl, by omega, rfl, e6.tr e7, p7, hO7, hPl7, hks7, by omega⟩
          · refine ⟨_, rfl, _, rfl, R, _, rfl, .inl (.inl (.inl hR6)), _, _, rfl, rfl, ?_⟩
            rw [List.length_map]
            exact ⟨n.toNat - (a + ring.length), by omega, _, _, _, _, a + ring.length, ks6, rfl, by omega, rfl, e6, p6, hO6, hPl6, hks6, by omega⟩
    · -- the nudges
      refine ⟨by show 4 ≤ sizeLine; decide, fun Z hZ => ?_⟩
      have eZ : Ex H2 (upd H2 Z (.lst [.int 0, .int 0, .int 1, .int 3])) := Ex.nw hZ
      have fZ : (upd H2 Z (.lst [.int 0, .int 0, .int 1, .int 3])) Z = some (.lst [.int 0, .int 0, .int 1, .int 3]) := upd_same
      generalize upd H2 Z (.lst [.int 0, .int 0, .int 1, .int 3]) = H3 at eZ fZ
      have p3 := p2.up eZ
      have Zp := p2.off hZ
      refine ⟨_, rfl, p, 4, rfl, by decide, p3, fun z5 H4 hz5 p4 e4 => ?_⟩
      obtain ⟨kk, hkk, hat⟩ : ∃ kk : Int, (0 ≤ kk ∧ kk ≤ 3) ∧ atI [V.int 0, V.int 0, V.int 1, V.int 3] z5 = some (.int kk) := by
        rcases (show z5 = 0 ∨ z5 = 1 ∨ z5 = 2 ∨ z5 = 3 by omega) with rfl | rfl | rfl | rfl
        · exact ⟨0, by decide, rfl⟩
        · exact ⟨0, by decide, rfl⟩
        · exact ⟨1, by decide, rfl⟩
        · exact ⟨3, by decide, rfl⟩
      have hO4 := e4 _ _ Op (eZ _ _ hO2)
      have hPl4 := e4 _ _ Pp (eZ _ _ hPl2)
      have hks4 : ∀ q ∈ ks, PrAt H4 n q := fun q hq => ((hks q hq).up eZ).upD p3 e4
      have e24 := (e2.tr eZ.d).tr e4
      refine ⟨Z, _, z5, .int kk, rfl, rfl, .inl (.inl (e4 _ _ Zp fZ)), hat, kk, rfl, by omega, by omega, fun M hM => ?_⟩
      have Mp := p4.off hM
      refine lc_by kk.toNat (fun i H' => ExD p H4 H' ∧ Tap H' p ∧ ∃ (xs : List Int) (bs : List Addr), H' M = some (.lst (bs.map V.ref)) ∧ bs.length = xs.length ∧ xs.length = i ∧ (∀ x ∈ xs, 0 ≤ x ∧ x < n) ∧ ∀ (k : Nat) (b : Addr), bs[k]? = some b → b ≠ M ∧ b ≠ p ∧ ∃ x, xs[k]? = some x ∧ H' b = some (.lst [.int x]))
        ⟨ExD.nw hM, p4.up (Ex.nw hM), [], [], upd_same, rfl, rfl, fun x hx => (by cases hx), fun k b hb => by simp at hb⟩ (fun i H' hi p => hi) (fun H' p => Nat.le_refl _) ?_ ?_
      · rintro i H5 x H6 hi ⟨e5, p5, xs, bs, hM5, hl, hi5, hxs, hbs⟩ ⟨rfl, rfl⟩
        have hO6 := e5 _ _ Op hO4
        refine ⟨rfl, _, rfl, _, rfl, _, rfl, p, n, rfl, by omega, p5, fun z4 H8 hz4 p8 e8 => ?_⟩
        have hO8 := e8 _ _ Op hO6
        have hz4l : z4.toNat < o.length := by omega
        have g1 := List.getElem?_eq_getElem hz4l
        generalize o[z4.toNat] = x1 at g1
        refine ⟨O, _, z4, .int x1, rfl, rfl, .inl (.inl hO8), atI_int hz4.1 (by rw [List.getElem?_map, g1]; rfl), by show 1 ≤ sizeLine; decide, fun g hg => ?_⟩
        have eg : Ex H8 (upd H8 g (.lst [.int x1])) := Ex.nw hg
        have fg : (upd H8 g (.lst [.int x1])) g = some (.lst [.int x1]) := upd_same
        have gp := p8.off hg
        have hM8 := e8 _ _ Mp hM5
        have gM : g ≠ M := fun e => by
          rw [e, hM8] at hg
          cases hg
        have hgH := eg
        generalize upd H8 g (.lst [.int x1]) = H9 at eg fg hgH
        have p9 := p8.up eg
        refine ⟨_, eg _ _ hM8, mil' (by rw [List.length_map]; omega), ((e5.tr e8).tr eg.d).wr hM, p9.put Mp.symm, xs ++ [x1], bs ++ [g], by rw [upd_same, List.map_append]; rfl, by rw [List.length_append, List.length_append, hl]; rfl, by rw [List.length_append, hi5]; rfl, fun x hx => ?_, fun k b hb => ?_⟩
        · rcases List.mem_append.mp hx with hx | hx
          · exact hxs x hx
          · obtain rfl := List.mem_singleton.mp hx
            exact ho.mem.mp (List.mem_of_getElem? g1)
        · by_cases hk : k < bs.length
          · rw [List.getElem?_append_left hk] at hb
            obtain ⟨c1, c2, x, c3, c4⟩ := hbs k b hb
            refine ⟨c1, c2, x, by rw [List.getElem?_append_left (by omega)]; exact c3, ?_⟩
            rw [upd_ne c1]
            exact eg _ _ (e8 _ _ c2 c4)
          · have hk' : k = bs.length := by
              obtain ⟨z, _⟩ := List.getElem?_eq_some_iff.mp hb
              rw [List.length_append, List.length_singleton] at z
              omega
            subst hk'
            rw [List.getElem?_concat_length] at hb
            cases hb
            refine ⟨gM, gp, x1, by rw [hl, List.getElem?_concat_length], ?_⟩
            rw [upd_ne gM]
            exact fg
      · rintro H5 ⟨e5, p5, xs, bs, hM5, hl, hi5, hxs, hbs⟩
        have hPl5 := e5 _ _ Pp hPl4
        have hks5 : ∀ q ∈ ks, PrAt H5 n q := fun q hq => (hks4 q hq).upD p4 e5
        have e25 := e24.tr e5
        refine ⟨_, rfl, _, rfl, Pl, ks, rfl, .inl (.inl hPl5), fun q hq => ?_, by omega, fun S L hS hsub hcov => ?_⟩
        · obtain ⟨x, y, e', _, _, h3⟩ := hks5 q hq
          rw [e']
          exact .inl (.inl h3)
        have eS : Ex H5 (upd H5 S (SetTO P w S L)) := Ex.nw hS
        have hLk : ∀ q ∈ L, PrAt H5 n q := fun q hq => hks5 q (hsub q hq)
        refine ⟨S, L, 2, 64, rfl, upd_same, fun q hq => ?_, by decide, fun q hq => ?_, fun L' A hperm hnd hlt' hpw hA => ?_⟩
        · obtain ⟨x, y, e', hx, hy, h3⟩ := (hLk q hq).up eS
          rw [e']
          exact .inl (.inl h3)
        · obtain ⟨x, y, e', hx, hy, h3⟩ := hLk q hq
          rw [e']
          refine ⟨rfl, fun m hm => ?_⟩
          rcases List.mem_cons.mp hm with rfl | hm
          · omega
          · obtain rfl := List.mem_singleton.mp hm
            omega
        have hL' : ∀ q ∈ L', PrAt H5 n q := fun q hq => hLk q (hperm.mem_iff.mp hq)
        have eA : Ex H5 (upd (upd H5 S (SetTO P w S L)) A (.lst (L'.map fun q => V.ref q.1))) := eS.tr (Ex.nw hA)
        have hA6 : (upd (upd H5 S (SetTO P w S L)) A (.lst (L'.map fun q => V.ref q.1))) A = some (.lst (L'.map fun q => V.ref q.1)) := upd_same
        have A5 : H5 A = none := eS.fr hA
        have Ap := p5.off A5
        generalize upd (upd H5 S (SetTO P w S L)) A (.lst (L'.map fun q => V.ref q.1)) = H6 at eA hA6
        have p6 := p5.up eA
        refine ⟨_, rfl, by show 3 ≤ sizeLine; decide, fun T hT => ?_⟩
        have Tp := p6.off hT
        have eT : Ex H6 (upd H6 T (.tup [.int n, .ref A, .ref M])) := Ex.nw hT
        have hT8 : (upd H6 T (.tup [.int n, .ref A, .ref M])) T = some (.tup [.int n, .ref A, .ref M]) := upd_same
        generalize upd H6 T (.tup [.int n, .ref A, .ref M]) = H8 at eT hT8
        have e58 := eA.tr eT
        have p8 := p6.up eT
        have hL8 : ∀ q ∈ L', PrAt H8 n q := fun q hq => (hL' q hq).up e58
        refine q (.ref T) ⟨n, L'.map fun q => toP q.2, xs.map fun x => [x]⟩ H8 (e25.tr e58.d) p8 ⟨T, _, rfl, by rw [rm_ne Tp]; exact hT8, _, _, rfl, rfl, _, _, rfl, ⟨A, _, rfl, by rw [rm_ne Ap]; exact eT _ _ hA6, ?_, ?_⟩, _, _, rfl, ⟨M, bs.map V.ref, rfl, by rw [rm_ne Mp]; exact e58 _ _ hM5, ?_, ?_⟩, rfl⟩ ?_
        · clear hA6 hlt' hpw hnd hperm hL'
          induction L' with
          | nil => rfl
          | cons q L' ih =>
            obtain ⟨x, y, e', hx, hy, h3⟩ := hL8 q (by simp)
            refine ⟨_, _, rfl, ?_, ih fun r hr => hL8 r (by simp [hr])⟩
            show Da K (rm H8 p) (dPair (toP q.2)) (.ref q.1)
            rw [e']
            exact dPair_of (p := (x, y)) (by rw [rm_ne (tup_off p8 h3)]; exact h3)
        · rw [List.length_map, List.length_map]
          omega
        · refine rows_of (ns := xs.map fun x => [x]) (by rw [List.length_map]; exact hl) fun k b hb => ?_
          obtain ⟨_, c2, x, c3, c4⟩ := hbs k b hb
          refine ⟨[x], by rw [List.getElem?_map, c3]; rfl, by rw [rm_ne c2]; exact e58 _ _ c4, ?_⟩
          show 1 ≤ 100000
          decide
        · rw [List.length_map, List.length_map]
          omega
        · refine ⟨hn.1, hn.2, fun r hr => ?_, asc_codes (fun q hq => ?_) hnd hpw, by show (xs.map fun x => [x]).length ≤ 8; rw [List.length_map]; omega, fun r hr => ?_⟩
          · obtain ⟨q0, hq0, rfl⟩ := List.mem_map.mp hr
            obtain ⟨x, y, e', hx, hy, _⟩ := hL8 q0 hq0
            rw [e']
            exact ⟨hx, hy⟩
          · obtain ⟨x, y, e', hx, hy, _⟩ := hL8 q hq
            exact ⟨x, y, e', by omega, by omega⟩
          · obtain ⟨x, hx, rfl⟩ := List.mem_map.mp hr
            refine ⟨by simp, fun t ht => ?_, rfl⟩
            obtain rfl := List.mem_singleton.mp ht
            exact hxs _ hx
end

end K17
namespace K17
open PySem PySem.Spec PyProof.Rows L2 Nw
/-! _law_right: slots 0 _law_tap_here, 1 _law_web_here -/
abbrev s_right : Stmt := topS 55
abbrev N_right : List Str := ["_law_tap_here", "_law_web_here"]
abbrev P_right : List Str := ["_law_tap_here"]
theorem sc_right : FnScope N_right P_right (defScope s_right) := ⟨rfl, rfl, rfl, by decide +kernel, rfl, by decide +kernel, by decide +kernel⟩
def sp_right (K : PySem.W.Frag) : Sp := fun vs H Q _ => ∃ (p : Addr), vs = [.ref p] ∧ Tap H p ∧ ∀ H', ExD p H H' → Q (.bl true) H'
section
variable {P : Program} {w : World} {K : PySem.W.Frag} {mg : Str → Option Value} {base : Heap}
theorem ok_right {f : Addr} {fd : FuncData} (T : Txt K mg) (F : Fun K "_law_right" "_law_right" s_right f fd)
    (D_draw : DefOk P w K mg base CX0 1 "_law_draw" P_draw (sp_draw K))
    (D_web : DefOk P w K mg base CX0 3 "_law_web" P_web (sp_web K))
    (D_told : DefOk P w K mg base CX0 70 "_law_told" P_told (sp_told K))
    (D_rings : DefOk P w K mg base CX0 3 "_law_rings" P_rings (sp_rings K)) :
    FnG P w K mg base CX0 71 f fd P_right (sp_right K) := by
  refine okG0 F sc_right (fun vs H Q E h => ?_) (fun cdv A outer s H vs Q E hr hq h => ?_)
  · obtain ⟨p, rfl, _⟩ := h
    rfl
  · obtain ⟨p, rfl, hp, q⟩ := h
    refine ⟨_, (pss_cons (ps_for PassesOwn.never rfl (pi_listK K (pe_lst (pa_cons (pe_callD D_web (hr.mono (by decide)) hq pass0 (pa_cons (pv 0) (pa_cons pe_int pa_nil))) (pa_cons (pe_callD D_web (hr.mono (by decide)) hq pass0 (pa_cons (pv 0) (pa_cons pe_int pa_nil))) (pa_cons (pe_callD D_rings (hr.mono (by decide)) hq pass0 (pa_cons (pv 0) (pa_cons (pe_op op_add pe_int (pe_callD D_draw (hr.mono (by decide)) hq pass0 (pa_cons (pv 0) (pa_cons pe_int pa_nil)))) pa_nil))) pa_nil))))) (pg_name (i := 1) sc_right.nd rfl (by first | exact .inl rfl | exact .inr rfl)) (pss_one (ps_if (pt_not (pt_val (pe_callD D_told (hr.mono (by decide)) hq pass0 (pa_cons (pv 1) pa_nil)))) (pss_one (ps_ret pe_bl)) pss_nil)))
      (pss_one (ps_ret (pe_callD D_told (hr.mono (by decide)) hq pass0 (pa_cons (pe_callD D_rings (hr.mono (by decide)) hq pass0 (pa_cons (pv 0) (pa_cons (pe_op op_add pe_int (pe_callD D_draw (hr.mono (by decide)) hq pass0 (pa_cons (pv 0) (pa_cons pe_int pa_nil)))) pa_nil))) pa_nil))))), ?_⟩
    refine ⟨_, rfl, p, 7, rfl, by decide, hp, fun v1 u1 H1 e1 p1 d1 k1 _ => ?_⟩
    refine ⟨_, rfl, p, 20, rfl, by decide, p1, fun v2 u2 H2 e2 p2 d2 k2 _ => ?_⟩
    refine ⟨_, rfl, _, rfl, p, 20, rfl, by decide, p2, fun z H3 hz p3 e3 => ⟨_, _, rfl, rfl, p, 1 + z, rfl, by omega, p3, fun v3 u3 H4 e4 p4 d3 k3 => ?_⟩⟩
    refine ⟨by show 3 ≤ sizeLine; decide, fun M hM => ?_⟩
    have Mp := p4.off hM
    have p5 := p4.up (Ex.nw (o := .lst [v1, v2, v3]) hM)
    have f5 : (upd H4 M (.lst [v1, v2, v3])) M = some (.lst [v1, v2, v3]) := upd_same
    have e5 : ExD p H4 (upd H4 M (.lst [v1, v2, v3])) := ExD.nw hM
    generalize upd H4 M (.lst [v1, v2, v3]) = H5 at p5 f5 e5
    have g1 := d1.up (((e2.tr e3).tr e4).tr e5).rm
    have g2 := d2.up ((e3.tr e4).tr e5).rm
    have g3 := d3.up e5.rm
    have e05 := (((e1.tr e2).tr e3).tr e4).tr e5
    refine ⟨M, rfl, ⟨_, .inl (.inl f5)⟩, ?_⟩
    refine for_by 3 (fun i σ H' => ∃ y1, σ = [some (V.ref p), y1] ∧ ExD p H5 H' ∧ Tap H' p)
      ⟨_, rfl, ExD.rfl, p5⟩ (fun i σ H' hi h => ?_) (fun σ H' h => ?_) ?_ ?_
    · obtain ⟨_, _, e, _⟩ := h
      exact itl_go (K := K) (xs := [v1, v2, v3]) (.inl (.inl (e _ _ Mp f5))) Ex.rfl hi
    · obtain ⟨_, _, e, _⟩ := h
      exact itl_stop (K := K) (xs := [v1, v2, v3]) (.inl (.inl (e _ _ Mp f5))) Ex.rfl
    · rintro i σ H6 x H7 hi ⟨y1, rfl, e6, p6⟩ y
      obtain ⟨rfl, hx⟩ := itl_yld (K := K) (xs := [v1, v2, v3]) y (.inl (.inl (e6 _ _ Mp f5))) Ex.rfl
      have hw : ∃ u : Wb, Da K (rm H7 p) u.d x ∧ u.Ok := by
        rcases (show i = 0 ∨ i = 1 ∨ i = 2 by omega) with rfl | rfl | rfl
        · cases hx
          exact ⟨u1, g1.up e6.rm, k1⟩
        · cases hx
          exact ⟨u2, g2.up e6.rm, k2⟩
        · cases hx
          exact ⟨u3, g3.up e6.rm, k3⟩
      obtain ⟨u, hd, hu⟩ := hw
      refine ⟨_, rfl, x, u, rfl, hd.up rm_ex, hu, fun H8 e8 => ⟨_, rfl, ite2 (fun h => Bool.noConfusion h) (fun _ => ?_)⟩⟩
      exact ⟨_, rfl, e6.tr e8.d, p6.up e8⟩
    · rintro σ H6 ⟨y1, rfl, e6, p6⟩
      refine ⟨_, rfl, _, rfl, p, 7, rfl, by decide, p6, fun z5 H7 hz5 p7 e7 => ⟨_, _, rfl, rfl, p, 1 + z5, rfl, by omega, p7, fun v u H8 e8 p8 hv hu => ?_⟩⟩
      exact ⟨v, u, rfl, hv.up rm_ex, hu, fun H9 e9 => q H9 ((e05.tr e6).tr ((e7.tr e8).tr e9.d))⟩
end

end K17
namespace K17
open PySem PySem.Spec PyProof.Rows L2 Nw
/-! law: slots 0 _law_script, 1 _law_cells_here, 2 _law_k -/
abbrev s_law : Stmt := topS 56
abbrev N_law : List Str := ["_law_script", "_law_cells_here", "_law_k"]
abbrev P_law : List Str := ["_law_script"]
theorem sc_law : FnScope N_law P_law (defScope s_law) := ⟨rfl, rfl, rfl, by decide +kernel, rfl, by decide +kernel, by decide +kernel⟩
def sp_law (K : PySem.W.Frag) : Sp := fun vs H Q _ => ∃ (a : Addr) (ns : List Int), vs = [.ref a] ∧ ns.length ≤ 63 ∧ SqL K H a (ns.map V.int) ∧ ∀ H', Ex H H' → Q (.bl true) H'
theorem sp_law_start {K : PySem.W.Frag} {H : Hp} {a : Addr} {ns : List Int} (hl : ns.length ≤ 63) (hS : SqL K H a (ns.map V.int)) : sp_law K [.ref a] H (fun v _ => v = .bl true) (fun _ _ _ => False) :=
  ⟨a, ns, rfl, hl, hS, fun _ _ => rfl⟩
section
variable {P : Program} {w : World} {K : PySem.W.Frag} {mg : Str → Option Value} {base : Heap}
theorem ok_law {f : Addr} {fd : FuncData} (T : Txt K mg) (F : Fun K "law" "law" s_law f fd)
    (D_tap : DefOk P w K mg base CX0 1 "_law_tap" P_tap (sp_tap K))
    (D_cells : DefOk P w K mg base CX0 1 "_law_cells" P_cells (sp_cells K))
    (D_right : DefOk P w K mg base CX0 71 "_law_right" P_right (sp_right K)) :
    FnG P w K mg base CX0 72 f fd P_law (sp_law K) := by
  refine okG0 F sc_law (fun vs H Q E h => ?_) (fun cdv A outer s H vs Q E hr hq h => ?_)
  · obtain ⟨a, ns, rfl, _⟩ := h
    rfl
  · obtain ⟨a, ns, rfl, hn, hS, q⟩ := h
    refine ⟨_, (pss_cons (ps_set (i := 1) sc_law.nd rfl (by first | exact .inl rfl | exact .inr rfl) (pe_callD D_cells (hr.mono (by decide)) hq pass0 (pa_cons (pv 0) (pa_cons pe_int pa_nil))))
      (pss_one (ps_ret (pe_cmpR (op_eqDk K hr.units) (pe_lc (own := [("_law_k", 2)]) rfl sc_law.nd (pi_range1 (by rfl) T.b_range (pa_cons (pe_callB (call_lenK K) (by rfl) T.b_len bt_len (pa_cons (pv 1) pa_nil)) pa_nil)) (blkOk_by (N := N_law) (sc := defScope s_law) (by decide +kernel)) (fun _ _ _ _ _ => (pg_name (i := 2) sc_law.nd rfl (by first | exact .inl rfl | exact .inr rfl))) (fun _ _ _ _ _ => (pts_one (pt_not (pt_val (pe_callD D_right (hr.mono (by decide)) hq pass0 (pa_cons (pe_callD D_tap (hr.mono (by decide)) hq pass0 (pa_cons (pe_ix (ix_seqK K) (pv 1) (pv 2) (fun _ _ => rfl)) (pa_cons (pv 2) pa_nil))) pa_nil)))))) (fun _ _ _ _ _ => (pv 2))) (pe_lst pa_nil) (nomark _))))), ?_⟩
    refine ⟨_, rfl, a, ns, 3, rfl, hS, hn, by decide, fun l cs H1 hl e1 h1 hc => ?_⟩
    have sC : SqL K H1 l (cs.map V.int) := .inl (.inl h1)
    refine ⟨_, rfl, l, _, rfl, .inl (.inl (.inl h1)), _, rfl, by rw [List.length_map]; omega, by rw [List.length_map]; omega, fun D hD => ?_⟩
    rw [List.length_map]
    refine lc_by cs.length (fun i H' => Ex H1 H' ∧ H' D = some (.lst ([].map V.int))) ⟨Ex.nw hD, upd_same⟩ (fun i H' hi p => (by show i < _; omega)) (fun H' p => (by show _ ≤ cs.length; omega)) ?_ ?_
    · rintro i H9 x H2 hi ⟨e2, hD2⟩ ⟨rfl, rfl⟩
      have hx := List.getElem?_eq_getElem hi
      generalize cs[i] = c at hx
      refine ⟨rfl, _, rfl, _, rfl, .inl ⟨l, _, _, .int c, rfl, rfl, e2.l sC, atI_int (by omega) (by rw [show (0 + (i : Int)).toNat = i by omega, List.getElem?_map, hx]; rfl), ?_⟩⟩
      refine ⟨_, rfl, c, _, rfl, by omega, fun p H3 hp e3 p3 => ⟨p, rfl, p3, fun H4 e4 => ⟨_, rfl, ite2 (fun h => by cases h) (fun _ => ?_)⟩⟩⟩
      have e24 : Ex H2 H4 := fun b o h => e4 b o (fun e => by
        rw [e, hp] at h
        cases h) (e3 b o h)
      exact ⟨e2.tr e24, e24 _ _ hD2⟩
    · rintro H2 ⟨e2, hD2⟩
      refine ⟨Nat.zero_le _, fun z hz => ?_⟩
      have dC : Dp K (upd H2 z (.lst [])) (.ref D) (dInts []) := ((dInts_of (r := []) hD2 (by decide)).up (Ex.nw hz)).dInts
      have dz : Dp K (upd H2 z (.lst [])) (.ref z) (dInts []) := Da.dInts (dInts_of (r := []) upd_same (by decide))
      refine ⟨_, _, dC, dz, sh_dInts _, sh_dInts _, ?_⟩
      rw [eqv_dInts, decide_eq_true rfl]
      exact q _ (e1.tr (e2.tr (Ex.nw hz)))
end

theorem all_mk {l : PySem.W.OpenLaw} {w : World} {K : PySem.W.Frag} {h : Heap} {mg : Str → Option Value} {fa : Addr} (X : K.In h) (G : h.Ns mainGlobals mg) (hfa : mg "law" = some (.ref fa))
    {f0 f1 f2 f3 f4 f5 f6 f7 f8 f9 f10 f11 f12 f13 f14 f15 f16 f17 f18 f19 f20 f21 f22 f23 f24 f25 f26 f27 f28 f29 f30 f31 f32 f33 f34 f35 f36 f37 f38 f39 f40 f41 f42 f43 : Addr} {od0 an0 od1 an1 od2 an2 od3 an3 od4 an4 od5 an5 od6 an6 od7 an7 od8 an8 od9 an9 od10 an10 od11 an11 od12 an12 od13 an13 od14 an14 od15 an15 od16 an16 od17 an17 od18 an18 od19 an19 od20 an20 od21 an21 od22 an22 od23 an23 od24 an24 od25 an25 od26 an26 od27 an27 od28 an28 od29 an29 od30 an30 od31 an31 od32 an32 od33 an33 od34 an34 od35 an35 od36 an36 od37 an37 od38 an38 od39 an39 od40 an40 od41 an41 od42 an42 od43 an43 : Option Addr} {sl0 sl1 sl2 sl3 sl4 sl5 sl6 sl7 sl8 sl9 sl10 sl11 sl12 sl13 sl14 sl15 sl16 sl17 sl18 sl19 sl20 sl21 sl22 sl23 sl24 sl25 sl26 sl27 sl28 sl29 sl30 sl31 sl32 sl33 sl34 sl35 sl36 sl37 sl38 sl39 sl40 sl41 sl42 sl43 : Array (Option Value)}
    {oc0 kV0 dc0 pm0 cd0 ct0 oc1 kV1 dc1 pm1 cd1 ct1 oc2 kV2 dc2 pm2 cd2 ct2 oc3 kV3 dc3 pm3 cd3 ct3 oc4 kV4 dc4 pm4 cd4 ct4 oc5 kV5 dc5 pm5 cd5 ct5 oc6 kV6 dc6 pm6 cd6 ct6 oc7 kV7 dc7 pm7 cd7 ct7 oc8 kV8 dc8 pm8 cd8 ct8 oc9 kV9 dc9 pm9 cd9 ct9 oc10 kV10 dc10 pm10 cd10 ct10 oc11 kV11 dc11 pm11 cd11 ct11 oc12 kV12 dc12 pm12 cd12 ct12 oc13 kV13 dc13 pm13 cd13 ct13 oc14 kV14 dc14 pm14 cd14 ct14 oc15 kV15 dc15 pm15 cd15 ct15 oc16 kV16 dc16 pm16 cd16 ct16 oc17 kV17 dc17 pm17 cd17 ct17 oc18 kV18 dc18 pm18 cd18 ct18 oc19 kV19 dc19 pm19 cd19 ct19 oc20 kV20 dc20 pm20 cd20 ct20 oc21 kV21 dc21 pm21 cd21 ct21 oc22 kV22 dc22 pm22 cd22 ct22 oc23 kV23 dc23 pm23 cd23 ct23 oc24 kV24 dc24 pm24 cd24 ct24 oc25 kV25 dc25 pm25 cd25 ct25 oc26 kV26 dc26 pm26 cd26 ct26 oc27 kV27 dc27 pm27 cd27 ct27 oc28 kV28 dc28 pm28 cd28 ct28 oc29 kV29 dc29 pm29 cd29 ct29 oc30 kV30 dc30 pm30 cd30 ct30 oc31 kV31 dc31 pm31 cd31 ct31 oc32 kV32 dc32 pm32 cd32 ct32 oc33 kV33 dc33 pm33 cd33 ct33 oc34 kV34 dc34 pm34 cd34 ct34 oc35 kV35 dc35 pm35 cd35 ct35 oc36 kV36 dc36 pm36 cd36 ct36 oc37 kV37 dc37 pm37 cd37 ct37 oc38 kV38 dc38 pm38 cd38 ct38 oc39 kV39 dc39 pm39 cd39 ct39 oc40 kV40 dc40 pm40 cd40 ct40 oc41 kV41 dc41 pm41 cd41 ct41 oc42 kV42 dc42 pm42 cd42 ct42 oc43 kV43 dc43 pm43 cd43 ct43 : Value}
    (a0 : PySem.W.nsIn K mainGlobals "_law_tap" = some (some (.ref f0))) (l0 : K.lookup f0 = some ⟨oc0, od0, .func (PySem.W.fnOf "_law_tap" "_law_tap" (defArgs s_tap) (defBody s_tap) (defScope s_tap) .none kV0 dc0 pm0 an0 cd0 ct0), sl0⟩) (c0 : PySem.W.codeIn K cd0 "_law_tap" = true) (k0 : PySem.W.keepIn K (.ref f0) = true)
    (a1 : PySem.W.nsIn K mainGlobals "_law_cells" = some (some (.ref f1))) (l1 : K.lookup f1 = some ⟨oc1, od1, .func (PySem.W.fnOf "_law_cells" "_law_cells" (defArgs s_cells) (defBody s_cells) (defScope s_cells) .none kV1 dc1 pm1 an1 cd1 ct1), sl1⟩) (c1 : PySem.W.codeIn K cd1 "_law_cells" = true) (k1 : PySem.W.keepIn K (.ref f1) = true)
    (a2 : PySem.W.nsIn K mainGlobals "_law_draw" = some (some (.ref f2))) (l2 : K.lookup f2 = some ⟨oc2, od2, .func (PySem.W.fnOf "_law_draw" "_law_draw" (defArgs s_draw) (defBody s_draw) (defScope s_draw) .none kV2 dc2 pm2 an2 cd2 ct2), sl2⟩) (c2 : PySem.W.codeIn K cd2 "_law_draw" = true) (k2 : PySem.W.keepIn K (.ref f2) = true)
    (a3 : PySem.W.nsIn K mainGlobals "_law_order" = some (some (.ref f3))) (l3 : K.lookup f3 = some ⟨oc3, od3, .func (PySem.W.fnOf "_law_order" "_law_order" (defArgs s_order) (defBody s_order) (defScope s_order) .none kV3 dc3 pm3 an3 cd3 ct3), sl3⟩) (c3 : PySem.W.codeIn K cd3 "_law_order" = true) (k3 : PySem.W.keepIn K (.ref f3) = true)
    (a4 : PySem.W.nsIn K mainGlobals "_law_pairs" = some (some (.ref f4))) (l4 : K.lookup f4 = some ⟨oc4, od4, .func (PySem.W.fnOf "_law_pairs" "_law_pairs" (defArgs s_pairs) (defBody s_pairs) (defScope s_pairs) .none kV4 dc4 pm4 an4 cd4 ct4), sl4⟩) (c4 : PySem.W.codeIn K cd4 "_law_pairs" = true) (k4 : PySem.W.keepIn K (.ref f4) = true)
    (a5 : PySem.W.nsIn K mainGlobals "_law_nudges" = some (some (.ref f5))) (l5 : K.lookup f5 = some ⟨oc5, od5, .func (PySem.W.fnOf "_law_nudges" "_law_nudges" (defArgs s_nudges) (defBody s_nudges) (defScope s_nudges) .none kV5 dc5 pm5 an5 cd5 ct5), sl5⟩) (c5 : PySem.W.codeIn K cd5 "_law_nudges" = true) (k5 : PySem.W.keepIn K (.ref f5) = true)
    (a6 : PySem.W.nsIn K mainGlobals "_law_web" = some (some (.ref f6))) (l6 : K.lookup f6 = some ⟨oc6, od6, .func (PySem.W.fnOf "_law_web" "_law_web" (defArgs s_web) (defBody s_web) (defScope s_web) .none kV6 dc6 pm6 an6 cd6 ct6), sl6⟩) (c6 : PySem.W.codeIn K cd6 "_law_web" = true) (k6 : PySem.W.keepIn K (.ref f6) = true)
    (a7 : PySem.W.nsIn K mainGlobals "is_integer" = some (some (.ref f7))) (l7 : K.lookup f7 = some ⟨oc7, od7, .func (PySem.W.fnOf "is_integer" "is_integer" (defArgs s_is_integer) (defBody s_is_integer) (defScope s_is_integer) .none kV7 dc7 pm7 an7 cd7 ct7), sl7⟩) (c7 : PySem.W.codeIn K cd7 "is_integer" = true) (k7 : PySem.W.keepIn K (.ref f7) = true)
    (a8 : PySem.W.nsIn K mainGlobals "is_number_below" = some (some (.ref f8))) (l8 : K.lookup f8 = some ⟨oc8, od8, .func (PySem.W.fnOf "is_number_below" "is_number_below" (defArgs s_is_number_below) (defBody s_is_number_below) (defScope s_is_number_below) .none kV8 dc8 pm8 an8 cd8 ct8), sl8⟩) (c8 : PySem.W.codeIn K cd8 "is_number_below" = true) (k8 : PySem.W.keepIn K (.ref f8) = true)
    (a9 : PySem.W.nsIn K mainGlobals "is_tuple_below" = some (some (.ref f9))) (l9 : K.lookup f9 = some ⟨oc9, od9, .func (PySem.W.fnOf "is_tuple_below" "is_tuple_below" (defArgs s_is_tuple_below) (defBody s_is_tuple_below) (defScope s_is_tuple_below) .none kV9 dc9 pm9 an9 cd9 ct9), sl9⟩) (c9 : PySem.W.codeIn K cd9 "is_tuple_below" = true) (k9 : PySem.W.keepIn K (.ref f9) = true)
    (a10 : PySem.W.nsIn K mainGlobals "are_ascending" = some (some (.ref f10))) (l10 : K.lookup f10 = some ⟨oc10, od10, .func (PySem.W.fnOf "are_ascending" "are_ascending" (defArgs s_are_ascending) (defBody s_are_ascending) (defScope s_are_ascending) .none kV10 dc10 pm10 an10 cd10 ct10), sl10⟩) (c10 : PySem.W.codeIn K cd10 "are_ascending" = true) (k10 : PySem.W.keepIn K (.ref f10) = true)
    (a11 : PySem.W.nsIn K mainGlobals "are_ascending_tuples" = some (some (.ref f11))) (l11 : K.lookup f11 = some ⟨oc11, od11, .func (PySem.W.fnOf "are_ascending_tuples" "are_ascending_tuples" (defArgs s_are_ascending_tuples) (defBody s_are_ascending_tuples) (defScope s_are_ascending_tuples) .none kV11 dc11 pm11 an11 cd11 ct11), sl11⟩) (c11 : PySem.W.codeIn K cd11 "are_ascending_tuples" = true) (k11 : PySem.W.keepIn K (.ref f11) = true)
    (a12 : PySem.W.nsIn K mainGlobals "are_below" = some (some (.ref f12))) (l12 : K.lookup f12 = some ⟨oc12, od12, .func (PySem.W.fnOf "are_below" "are_below" (defArgs s_are_below) (defBody s_are_below) (defScope s_are_below) .none kV12 dc12 pm12 an12 cd12 ct12), sl12⟩) (c12 : PySem.W.codeIn K cd12 "are_below" = true) (k12 : PySem.W.keepIn K (.ref f12) = true)
    (a13 : PySem.W.nsIn K mainGlobals "are_targets" = some (some (.ref f13))) (l13 : K.lookup f13 = some ⟨oc13, od13, .func (PySem.W.fnOf "are_targets" "are_targets" (defArgs s_are_targets) (defBody s_are_targets) (defScope s_are_targets) .none kV13 dc13 pm13 an13 cd13 ct13), sl13⟩) (c13 : PySem.W.codeIn K cd13 "are_targets" = true) (k13 : PySem.W.keepIn K (.ref f13) = true)
    (a14 : PySem.W.nsIn K mainGlobals "are_nudges" = some (some (.ref f14))) (l14 : K.lookup f14 = some ⟨oc14, od14, .func (PySem.W.fnOf "are_nudges" "are_nudges" (defArgs s_are_nudges) (defBody s_are_nudges) (defScope s_are_nudges) .none kV14 dc14 pm14 an14 cd14 ct14), sl14⟩) (c14 : PySem.W.codeIn K cd14 "are_nudges" = true) (k14 : PySem.W.keepIn K (.ref f14) = true)
    (a15 : PySem.W.nsIn K mainGlobals "has_web_shape" = some (some (.ref f15))) (l15 : K.lookup f15 = some ⟨oc15, od15, .func (PySem.W.fnOf "has_web_shape" "has_web_shape" (defArgs s_has_web_shape) (defBody s_has_web_shape) (defScope s_has_web_shape) .none kV15 dc15 pm15 an15 cd15 ct15), sl15⟩) (c15 : PySem.W.codeIn K cd15 "has_web_shape" = true) (k15 : PySem.W.keepIn K (.ref f15) = true)
    (a16 : PySem.W.nsIn K mainGlobals "check_web" = some (some (.ref f16))) (l16 : K.lookup f16 = some ⟨oc16, od16, .func (PySem.W.fnOf "check_web" "check_web" (defArgs s_check_web) (defBody s_check_web) (defScope s_check_web) .none kV16 dc16 pm16 an16 cd16 ct16), sl16⟩) (c16 : PySem.W.codeIn K cd16 "check_web" = true) (k16 : PySem.W.keepIn K (.ref f16) = true)
    (a17 : PySem.W.nsIn K mainGlobals "all_lines" = some (some (.ref f17))) (l17 : K.lookup f17 = some ⟨oc17, od17, .func (PySem.W.fnOf "all_lines" "all_lines" (defArgs s_all_lines) (defBody s_all_lines) (defScope s_all_lines) .none kV17 dc17 pm17 an17 cd17 ct17), sl17⟩) (c17 : PySem.W.codeIn K cd17 "all_lines" = true) (k17 : PySem.W.keepIn K (.ref f17) = true)
    (a18 : PySem.W.nsIn K mainGlobals "source_rows" = some (some (.ref f18))) (l18 : K.lookup f18 = some ⟨oc18, od18, .func (PySem.W.fnOf "source_rows" "source_rows" (defArgs s_source_rows) (defBody s_source_rows) (defScope s_source_rows) .none kV18 dc18 pm18 an18 cd18 ct18), sl18⟩) (c18 : PySem.W.codeIn K cd18 "source_rows" = true) (k18 : PySem.W.keepIn K (.ref f18) = true)
    (a19 : PySem.W.nsIn K mainGlobals "find_source" = some (some (.ref f19))) (l19 : K.lookup f19 = some ⟨oc19, od19, .func (PySem.W.fnOf "find_source" "find_source" (defArgs s_find_source) (defBody s_find_source) (defScope s_find_source) .none kV19 dc19 pm19 an19 cd19 ct19), sl19⟩) (c19 : PySem.W.codeIn K cd19 "find_source" = true) (k19 : PySem.W.keepIn K (.ref f19) = true)
    (a20 : PySem.W.nsIn K mainGlobals "targets_of_paired" = some (some (.ref f20))) (l20 : K.lookup f20 = some ⟨oc20, od20, .func (PySem.W.fnOf "targets_of_paired" "targets_of_paired" (defArgs s_targets_of_paired) (defBody s_targets_of_paired) (defScope s_targets_of_paired) .none kV20 dc20 pm20 an20 cd20 ct20), sl20⟩) (c20 : PySem.W.codeIn K cd20 "targets_of_paired" = true) (k20 : PySem.W.keepIn K (.ref f20) = true)
    (a21 : PySem.W.nsIn K mainGlobals "target_rows" = some (some (.ref f21))) (l21 : K.lookup f21 = some ⟨oc21, od21, .func (PySem.W.fnOf "target_rows" "target_rows" (defArgs s_target_rows) (defBody s_target_rows) (defScope s_target_rows) .none kV21 dc21 pm21 an21 cd21 ct21), sl21⟩) (c21 : PySem.W.codeIn K cd21 "target_rows" = true) (k21 : PySem.W.keepIn K (.ref f21) = true)
    (a22 : PySem.W.nsIn K mainGlobals "quantities_behind" = some (some (.ref f22))) (l22 : K.lookup f22 = some ⟨oc22, od22, .func (PySem.W.fnOf "quantities_behind" "quantities_behind" (defArgs s_quantities_behind) (defBody s_quantities_behind) (defScope s_quantities_behind) .none kV22 dc22 pm22 an22 cd22 ct22), sl22⟩) (c22 : PySem.W.codeIn K cd22 "quantities_behind" = true) (k22 : PySem.W.keepIn K (.ref f22) = true)
    (a23 : PySem.W.nsIn K mainGlobals "all_rooms" = some (some (.ref f23))) (l23 : K.lookup f23 = some ⟨oc23, od23, .func (PySem.W.fnOf "all_rooms" "all_rooms" (defArgs s_all_rooms) (defBody s_all_rooms) (defScope s_all_rooms) .none kV23 dc23 pm23 an23 cd23 ct23), sl23⟩) (c23 : PySem.W.codeIn K cd23 "all_rooms" = true) (k23 : PySem.W.keepIn K (.ref f23) = true)
    (a24 : PySem.W.nsIn K mainGlobals "are_in_one" = some (some (.ref f24))) (l24 : K.lookup f24 = some ⟨oc24, od24, .func (PySem.W.fnOf "are_in_one" "are_in_one" (defArgs s_are_in_one) (defBody s_are_in_one) (defScope s_are_in_one) .none kV24 dc24 pm24 an24 cd24 ct24), sl24⟩) (c24 : PySem.W.codeIn K cd24 "are_in_one" = true) (k24 : PySem.W.keepIn K (.ref f24) = true)
    (a25 : PySem.W.nsIn K mainGlobals "first_rooms" = some (some (.ref f25))) (l25 : K.lookup f25 = some ⟨oc25, od25, .func (PySem.W.fnOf "first_rooms" "first_rooms" (defArgs s_first_rooms) (defBody s_first_rooms) (defScope s_first_rooms) .none kV25 dc25 pm25 an25 cd25 ct25), sl25⟩) (c25 : PySem.W.codeIn K cd25 "first_rooms" = true) (k25 : PySem.W.keepIn K (.ref f25) = true)
    (a26 : PySem.W.nsIn K mainGlobals "reached_quantities" = some (some (.ref f26))) (l26 : K.lookup f26 = some ⟨oc26, od26, .func (PySem.W.fnOf "reached_quantities" "reached_quantities" (defArgs s_reached_quantities) (defBody s_reached_quantities) (defScope s_reached_quantities) .none kV26 dc26 pm26 an26 cd26 ct26), sl26⟩) (c26 : PySem.W.codeIn K cd26 "reached_quantities" = true) (k26 : PySem.W.keepIn K (.ref f26) = true)
    (a27 : PySem.W.nsIn K mainGlobals "single_nudges" = some (some (.ref f27))) (l27 : K.lookup f27 = some ⟨oc27, od27, .func (PySem.W.fnOf "single_nudges" "single_nudges" (defArgs s_single_nudges) (defBody s_single_nudges) (defScope s_single_nudges) .none kV27 dc27 pm27 an27 cd27 ct27), sl27⟩) (c27 : PySem.W.codeIn K cd27 "single_nudges" = true) (k27 : PySem.W.keepIn K (.ref f27) = true)
    (a28 : PySem.W.nsIn K mainGlobals "fewest_single" = some (some (.ref f28))) (l28 : K.lookup f28 = some ⟨oc28, od28, .func (PySem.W.fnOf "fewest_single" "fewest_single" (defArgs s_fewest_single) (defBody s_fewest_single) (defScope s_fewest_single) .none kV28 dc28 pm28 an28 cd28 ct28), sl28⟩) (c28 : PySem.W.codeIn K cd28 "fewest_single" = true) (k28 : PySem.W.keepIn K (.ref f28) = true)
    (a29 : PySem.W.nsIn K mainGlobals "_law_copy" = some (some (.ref f29))) (l29 : K.lookup f29 = some ⟨oc29, od29, .func (PySem.W.fnOf "_law_copy" "_law_copy" (defArgs s_copy) (defBody s_copy) (defScope s_copy) .none kV29 dc29 pm29 an29 cd29 ct29), sl29⟩) (c29 : PySem.W.codeIn K cd29 "_law_copy" = true) (k29 : PySem.W.keepIn K (.ref f29) = true)
    (a30 : PySem.W.nsIn K mainGlobals "_law_targets" = some (some (.ref f30))) (l30 : K.lookup f30 = some ⟨oc30, od30, .func (PySem.W.fnOf "_law_targets" "_law_targets" (defArgs s_targets) (defBody s_targets) (defScope s_targets) .none kV30 dc30 pm30 an30 cd30 ct30), sl30⟩) (c30 : PySem.W.codeIn K cd30 "_law_targets" = true) (k30 : PySem.W.keepIn K (.ref f30) = true)
    (a31 : PySem.W.nsIn K mainGlobals "_law_sources" = some (some (.ref f31))) (l31 : K.lookup f31 = some ⟨oc31, od31, .func (PySem.W.fnOf "_law_sources" "_law_sources" (defArgs s_sources) (defBody s_sources) (defScope s_sources) .none kV31 dc31 pm31 an31 cd31 ct31), sl31⟩) (c31 : PySem.W.codeIn K cd31 "_law_sources" = true) (k31 : PySem.W.keepIn K (.ref f31) = true)
    (a32 : PySem.W.nsIn K mainGlobals "_law_led_to" = some (some (.ref f32))) (l32 : K.lookup f32 = some ⟨oc32, od32, .func (PySem.W.fnOf "_law_led_to" "_law_led_to" (defArgs s_led_to) (defBody s_led_to) (defScope s_led_to) .none kV32 dc32 pm32 an32 cd32 ct32), sl32⟩) (c32 : PySem.W.codeIn K cd32 "_law_led_to" = true) (k32 : PySem.W.keepIn K (.ref f32) = true)
    (a33 : PySem.W.nsIn K mainGlobals "_law_matched" = some (some (.ref f33))) (l33 : K.lookup f33 = some ⟨oc33, od33, .func (PySem.W.fnOf "_law_matched" "_law_matched" (defArgs s_matched) (defBody s_matched) (defScope s_matched) .none kV33 dc33 pm33 an33 cd33 ct33), sl33⟩) (c33 : PySem.W.codeIn K cd33 "_law_matched" = true) (k33 : PySem.W.keepIn K (.ref f33) = true)
    (a34 : PySem.W.nsIn K mainGlobals "_law_cut_rooms" = some (some (.ref f34))) (l34 : K.lookup f34 = some ⟨oc34, od34, .func (PySem.W.fnOf "_law_cut_rooms" "_law_cut_rooms" (defArgs s_cut_rooms) (defBody s_cut_rooms) (defScope s_cut_rooms) .none kV34 dc34 pm34 an34 cd34 ct34), sl34⟩) (c34 : PySem.W.codeIn K cd34 "_law_cut_rooms" = true) (k34 : PySem.W.keepIn K (.ref f34) = true)
    (a35 : PySem.W.nsIn K mainGlobals "_law_fewest" = some (some (.ref f35))) (l35 : K.lookup f35 = some ⟨oc35, od35, .func (PySem.W.fnOf "_law_fewest" "_law_fewest" (defArgs s_fewest) (defBody s_fewest) (defScope s_fewest) .none kV35 dc35 pm35 an35 cd35 ct35), sl35⟩) (c35 : PySem.W.codeIn K cd35 "_law_fewest" = true) (k35 : PySem.W.keepIn K (.ref f35) = true)
    (a36 : PySem.W.nsIn K mainGlobals "_law_lists" = some (some (.ref f36))) (l36 : K.lookup f36 = some ⟨oc36, od36, .func (PySem.W.fnOf "_law_lists" "_law_lists" (defArgs s_lists) (defBody s_lists) (defScope s_lists) .none kV36 dc36 pm36 an36 cd36 ct36), sl36⟩) (c36 : PySem.W.codeIn K cd36 "_law_lists" = true) (k36 : PySem.W.keepIn K (.ref f36) = true)
    (a37 : PySem.W.nsIn K mainGlobals "_law_come_to" = some (some (.ref f37))) (l37 : K.lookup f37 = some ⟨oc37, od37, .func (PySem.W.fnOf "_law_come_to" "_law_come_to" (defArgs s_come_to) (defBody s_come_to) (defScope s_come_to) .none kV37 dc37 pm37 an37 cd37 ct37), sl37⟩) (c37 : PySem.W.codeIn K cd37 "_law_come_to" = true) (k37 : PySem.W.keepIn K (.ref f37) = true)
    (a38 : PySem.W.nsIn K mainGlobals "_law_reaches_some" = some (some (.ref f38))) (l38 : K.lookup f38 = some ⟨oc38, od38, .func (PySem.W.fnOf "_law_reaches_some" "_law_reaches_some" (defArgs s_reaches_some) (defBody s_reaches_some) (defScope s_reaches_some) .none kV38 dc38 pm38 an38 cd38 ct38), sl38⟩) (c38 : PySem.W.codeIn K cd38 "_law_reaches_some" = true) (k38 : PySem.W.keepIn K (.ref f38) = true)
    (a39 : PySem.W.nsIn K mainGlobals "_law_is_enough" = some (some (.ref f39))) (l39 : K.lookup f39 = some ⟨oc39, od39, .func (PySem.W.fnOf "_law_is_enough" "_law_is_enough" (defArgs s_is_enough) (defBody s_is_enough) (defScope s_is_enough) .none kV39 dc39 pm39 an39 cd39 ct39), sl39⟩) (c39 : PySem.W.codeIn K cd39 "_law_is_enough" = true) (k39 : PySem.W.keepIn K (.ref f39) = true)
    (a40 : PySem.W.nsIn K mainGlobals "_law_told" = some (some (.ref f40))) (l40 : K.lookup f40 = some ⟨oc40, od40, .func (PySem.W.fnOf "_law_told" "_law_told" (defArgs s_told) (defBody s_told) (defScope s_told) .none kV40 dc40 pm40 an40 cd40 ct40), sl40⟩) (c40 : PySem.W.codeIn K cd40 "_law_told" = true) (k40 : PySem.W.keepIn K (.ref f40) = true)
    (a41 : PySem.W.nsIn K mainGlobals "_law_rings" = some (some (.ref f41))) (l41 : K.lookup f41 = some ⟨oc41, od41, .func (PySem.W.fnOf "_law_rings" "_law_rings" (defArgs s_rings) (defBody s_rings) (defScope s_rings) .none kV41 dc41 pm41 an41 cd41 ct41), sl41⟩) (c41 : PySem.W.codeIn K cd41 "_law_rings" = true) (k41 : PySem.W.keepIn K (.ref f41) = true)
    (a42 : PySem.W.nsIn K mainGlobals "_law_right" = some (some (.ref f42))) (l42 : K.lookup f42 = some ⟨oc42, od42, .func (PySem.W.fnOf "_law_right" "_law_right" (defArgs s_right) (defBody s_right) (defScope s_right) .none kV42 dc42 pm42 an42 cd42 ct42), sl42⟩) (c42 : PySem.W.codeIn K cd42 "_law_right" = true) (k42 : PySem.W.keepIn K (.ref f42) = true)
    (a43 : PySem.W.nsIn K mainGlobals "law" = some (some (.ref f43))) (l43 : K.lookup f43 = some ⟨oc43, od43, .func (PySem.W.fnOf "law" "law" (defArgs s_law) (defBody s_law) (defScope s_law) .none kV43 dc43 pm43 an43 cd43 ct43), sl43⟩) (c43 : PySem.W.codeIn K cd43 "law" = true) (k43 : PySem.W.keepIn K (.ref f43) = true)
    (z_isinstance : PySem.W.nsIn K mainGlobals "isinstance" = some none)
    (z_len : PySem.W.nsIn K mainGlobals "len" = some none)
    (z_all : PySem.W.nsIn K mainGlobals "all" = some none)
    (z_any : PySem.W.nsIn K mainGlobals "any" = some none)
    (z_abs : PySem.W.nsIn K mainGlobals "abs" = some none)
    (z_max : PySem.W.nsIn K mainGlobals "max" = some none)
    (z_min : PySem.W.nsIn K mainGlobals "min" = some none)
    (z_sorted : PySem.W.nsIn K mainGlobals "sorted" = some none)
    (z_int : PySem.W.nsIn K mainGlobals "int" = some none)
    (z_bool : PySem.W.nsIn K mainGlobals "bool" = some none)
    (z_list : PySem.W.nsIn K mainGlobals "list" = some none)
    (z_tuple : PySem.W.nsIn K mainGlobals "tuple" = some none)
    (z_set : PySem.W.nsIn K mainGlobals "set" = some none)
    (z_range : PySem.W.nsIn K mainGlobals "range" = some none)
    (z_enumerate : PySem.W.nsIn K mainGlobals "enumerate" = some none)
    (z_zip : PySem.W.nsIn K mainGlobals "zip" = some none)
    {t_MOST_QUANTITIES : Tok} (v_MOST_QUANTITIES : PySem.W.nsIn K mainGlobals "MOST_QUANTITIES" = some (some (.int 20 t_MOST_QUANTITIES)))
    {t_MOST_NUDGES : Tok} (v_MOST_NUDGES : PySem.W.nsIn K mainGlobals "MOST_NUDGES" = some (some (.int 8 t_MOST_NUDGES)))
    : ∃ fd : FuncData, (∀ (s : Shared) (v : Value), BindsTo s fd ⟨[v], []⟩ [("_law_script", v)]) ∧ ∀ base : Heap, K.In base → base.Ns mainGlobals mg → FnG l.prog w K mg base CX0 72 fa fd ["_law_script"] (sp_law K) := by
  have e := hfa.symm.trans (PySem.W.mg_of X G a43)
  cases e
  have T : Txt K mg := ⟨PySem.W.mg_none_of X G z_isinstance, PySem.W.mg_none_of X G z_len, PySem.W.mg_none_of X G z_all, PySem.W.mg_none_of X G z_any, PySem.W.mg_none_of X G z_abs, PySem.W.mg_none_of X G z_max, PySem.W.mg_none_of X G z_min, PySem.W.mg_none_of X G z_sorted, PySem.W.mg_none_of X G z_int, PySem.W.mg_none_of X G z_bool, PySem.W.mg_none_of X G z_list, PySem.W.mg_none_of X G z_tuple, PySem.W.mg_none_of X G z_set, PySem.W.mg_none_of X G z_range, PySem.W.mg_none_of X G z_enumerate, PySem.W.mg_none_of X G z_zip, ⟨_, PySem.W.mg_of X G v_MOST_QUANTITIES⟩, ⟨_, PySem.W.mg_of X G v_MOST_NUDGES⟩⟩
  refine ⟨PySem.W.fnOf "law" "law" (defArgs s_law) (defBody s_law) (defScope s_law) .none kV43 dc43 pm43 an43 cd43 ct43, fun s v => .of_eq rfl, fun base _ _ => ?_⟩
  have F0 := fun_mk (st := s_tap) l0 c0 k0
  have G0 := ok_tap (P := l.prog) (w := w) (base := base) T F0 
  have B0 := F0.binds (ps := P_tap) fun _ _ _ _ _ _ us hl => match us, hl with | [_, _], _ => rfl
  have D_tap : DefOk l.prog w K mg base CX0 1 "_law_tap" P_tap (sp_tap K) := ⟨f0, _, G0, PySem.W.mg_of X G a0, k0, B0⟩
  have F1 := fun_mk (st := s_cells) l1 c1 k1
  have G1 := ok_cells (P := l.prog) (w := w) (base := base) T F1 
  have B1 := F1.binds (ps := P_cells) fun _ _ _ _ _ _ us hl => match us, hl with | [_, _], _ => rfl
  have D_cells : DefOk l.prog w K mg base CX0 1 "_law_cells" P_cells (sp_cells K) := ⟨f1, _, G1, PySem.W.mg_of X G a1, k1, B1⟩
  have F2 := fun_mk (st := s_draw) l2 c2 k2
  have G2 := ok_draw (P := l.prog) (w := w) (base := base) T F2 
  have B2 := F2.binds (ps := P_draw) fun _ _ _ _ _ _ us hl => match us, hl with | [_, _], _ => rfl
  have D_draw : DefOk l.prog w K mg base CX0 1 "_law_draw" P_draw (sp_draw K) := ⟨f2, _, G2, PySem.W.mg_of X G a2, k2, B2⟩
  have F3 := fun_mk (st := s_order) l3 c3 k3
  have G3 := ok_order (P := l.prog) (w := w) (base := base) T F3 D_draw
  have B3 := F3.binds (ps := P_order) fun _ _ _ _ _ _ us hl => match us, hl with | [_, _], _ => rfl
  have D_order : DefOk l.prog w K mg base CX0 2 "_law_order" P_order (sp_order K) := ⟨f3, _, G3, PySem.W.mg_of X G a3, k3, B3⟩
  have F4 := fun_mk (st := s_pairs) l4 c4 k4
  have G4 := ok_pairs (P := l.prog) (w := w) (base := base) T F4 D_draw
  have B4 := F4.binds (ps := P_pairs) fun _ _ _ _ _ _ us hl => match us, hl with | [_, _, _], _ => rfl
  have D_pairs : DefOk l.prog w K mg base CX0 2 "_law_pairs" P_pairs (sp_pairs K) := ⟨f4, _, G4, PySem.W.mg_of X G a4, k4, B4⟩
  have F5 := fun_mk (st := s_nudges) l5 c5 k5
  have G5 := ok_nudges (P := l.prog) (w := w) (base := base) T F5 D_draw
  have B5 := F5.binds (ps := P_nudges) fun _ _ _ _ _ _ us hl => match us, hl with | [_, _, _], _ => rfl
  have D_nudges : DefOk l.prog w K mg base CX0 2 "_law_nudges" P_nudges (sp_nudges K) := ⟨f5, _, G5, PySem.W.mg_of X G a5, k5, B5⟩
  have F6 := fun_mk (st := s_web) l6 c6 k6
  have G6 := ok_web (P := l.prog) (w := w) (base := base) T F6 D_draw D_order D_pairs D_nudges
  have B6 := F6.binds (ps := P_web) fun _ _ _ _ _ _ us hl => match us, hl with | [_, _], _ => rfl
  have D_web : DefOk l.prog w K mg base CX0 3 "_law_web" P_web (sp_web K) := ⟨f6, _, G6, PySem.W.mg_of X G a6, k6, B6⟩
  have F7 := fun_mk (st := s_is_integer) l7 c7 k7
  have G7 := ok_is_integer (P := l.prog) (w := w) (base := base) T F7 
  have B7 := F7.binds (ps := P_is_integer) fun _ _ _ _ _ _ us hl => match us, hl with | [_], _ => rfl
  have D_is_integer : DefOk l.prog w K mg base CX0 1 "is_integer" P_is_integer (sp_is_integer K) := ⟨f7, _, G7, PySem.W.mg_of X G a7, k7, B7⟩
  have F8 := fun_mk (st := s_is_number_below) l8 c8 k8
  have G8 := ok_is_number_below (P := l.prog) (w := w) (base := base) T F8 D_is_integer
  have B8 := F8.binds (ps := P_is_number_below) fun _ _ _ _ _ _ us hl => match us, hl with | [_, _], _ => rfl
  have D_is_number_below : DefOk l.prog w K mg base CX0 2 "is_number_below" P_is_number_below (sp_is_number_below K) := ⟨f8, _, G8, PySem.W.mg_of X G a8, k8, B8⟩
  have F9 := fun_mk (st := s_is_tuple_below) l9 c9 k9
  have G9 := ok_is_tuple_below (P := l.prog) (w := w) (base := base) T F9 D_is_number_below
  have B9 := F9.binds (ps := P_is_tuple_below) fun _ _ _ _ _ _ us hl => match us, hl with | [_, _, _], _ => rfl
  have D_is_tuple_below : DefOk l.prog w K mg base CX0 3 "is_tuple_below" P_is_tuple_below (sp_is_tuple_below K) := ⟨f9, _, G9, PySem.W.mg_of X G a9, k9, B9⟩
  have F10 := fun_mk (st := s_are_ascending) l10 c10 k10
  have G10 := ok_are_ascending (P := l.prog) (w := w) (base := base) T F10 
  have B10 := F10.binds (ps := P_are_ascending) fun _ _ _ _ _ _ us hl => match us, hl with | [_], _ => rfl
  have D_are_ascending : DefOk l.prog w K mg base CX0 1 "are_ascending" P_are_ascending (sp_are_ascending K) := ⟨f10, _, G10, PySem.W.mg_of X G a10, k10, B10⟩
  have F11 := fun_mk (st := s_are_ascending_tuples) l11 c11 k11
  have G11 := ok_are_ascending_tuples (P := l.prog) (w := w) (base := base) T F11 D_is_tuple_below D_are_ascending
  have B11 := F11.binds (ps := P_are_ascending_tuples) fun _ _ _ _ _ _ us hl => match us, hl with | [_, _, _], _ => rfl
  have D_are_ascending_tuples : DefOk l.prog w K mg base CX0 4 "are_ascending_tuples" P_are_ascending_tuples (sp_are_ascending_tuples K) := ⟨f11, _, G11, PySem.W.mg_of X G a11, k11, B11⟩
  have F12 := fun_mk (st := s_are_below) l12 c12 k12
  have G12 := ok_are_below (P := l.prog) (w := w) (base := base) T F12 D_is_number_below
  have B12 := F12.binds (ps := P_are_below) fun _ _ _ _ _ _ us hl => match us, hl with | [_, _], _ => rfl
  have D_are_below : DefOk l.prog w K mg base CX0 3 "are_below" P_are_below (sp_are_below K) := ⟨f12, _, G12, PySem.W.mg_of X G a12, k12, B12⟩
  have F13 := fun_mk (st := s_are_targets) l13 c13 k13
  have G13 := ok_are_targets (P := l.prog) (w := w) (base := base) T F13 D_are_below D_are_ascending
  have B13 := F13.binds (ps := P_are_targets) fun _ _ _ _ _ _ us hl => match us, hl with | [_, _], _ => rfl
  have D_are_targets : DefOk l.prog w K mg base CX0 4 "are_targets" P_are_targets (sp_are_targets K) := ⟨f13, _, G13, PySem.W.mg_of X G a13, k13, B13⟩
  have F14 := fun_mk (st := s_are_nudges) l14 c14 k14
  have G14 := ok_are_nudges (P := l.prog) (w := w) (base := base) T F14 D_are_targets
  have B14 := F14.binds (ps := P_are_nudges) fun _ _ _ _ _ _ us hl => match us, hl with | [_, _], _ => rfl
  have D_are_nudges : DefOk l.prog w K mg base CX0 5 "are_nudges" P_are_nudges (sp_are_nudges K) := ⟨f14, _, G14, PySem.W.mg_of X G a14, k14, B14⟩
  have F15 := fun_mk (st := s_has_web_shape) l15 c15 k15
  have G15 := ok_has_web_shape (P := l.prog) (w := w) (base := base) T F15 D_is_integer D_are_ascending_tuples D_are_nudges
  have B15 := F15.binds (ps := P_has_web_shape) fun _ _ _ _ _ _ us hl => match us, hl with | [_], _ => rfl
  have D_has_web_shape : DefOk l.prog w K mg base CX0 6 "has_web_shape" P_has_web_shape (sp_has_web_shape K) := ⟨f15, _, G15, PySem.W.mg_of X G a15, k15, B15⟩
  have F16 := fun_mk (st := s_check_web) l16 c16 k16
  have G16 := ok_check_web (P := l.prog) (w := w) (base := base) T F16 D_has_web_shape
  have B16 := F16.binds (ps := P_check_web) fun _ _ _ _ _ _ us hl => match us, hl with | [_], _ => rfl
  have D_check_web : DefOk l.prog w K mg base CX0 7 "check_web" P_check_web (sp_check_web K) := ⟨f16, _, G16, PySem.W.mg_of X G a16, k16, B16⟩
  have F17 := fun_mk (st := s_all_lines) l17 c17 k17
  have G17 := ok_all_lines (P := l.prog) (w := w) (base := base) T F17 
  have B17 := F17.binds (ps := P_all_lines) fun _ _ _ _ _ _ us hl => match us, hl with | [_], _ => rfl
  have D_all_lines : DefOk l.prog w K mg base CX0 1 "all_lines" P_all_lines (sp_all_lines K) := ⟨f17, _, G17, PySem.W.mg_of X G a17, k17, B17⟩
  have F18 := fun_mk (st := s_source_rows) l18 c18 k18
  have G18 := ok_source_rows (P := l.prog) (w := w) (base := base) T F18 D_all_lines
  have B18 := F18.binds (ps := P_source_rows) fun _ _ _ _ _ _ us hl => match us, hl with | [_], _ => rfl
  have D_source_rows : DefOk l.prog w K mg base CX0 2 "source_rows" P_source_rows (sp_source_rows K) := ⟨f18, _, G18, PySem.W.mg_of X G a18, k18, B18⟩
  have F19 := fun_mk (st := s_find_source) l19 c19 k19
  have B19 := F19.binds (ps := P_find_source) fun _ _ _ _ _ _ us hl => match us, hl with | [_, _, _, _], _ => rfl
  have D_find_source : DefOk l.prog w K mg base CX0 66 "find_source" P_find_source (sp_find_source K) := ok_find_source_all (P := l.prog) (w := w) (base := base) T F19 (PySem.W.mg_of X G a19) k19 B19 65
  have F20 := fun_mk (st := s_targets_of_paired) l20 c20 k20
  have G20 := ok_targets_of_paired (P := l.prog) (w := w) (base := base) T F20 D_source_rows D_find_source
  have B20 := F20.binds (ps := P_targets_of_paired) fun _ _ _ _ _ _ us hl => match us, hl with | [_], _ => rfl
  have D_targets_of_paired : DefOk l.prog w K mg base CX0 67 "targets_of_paired" P_targets_of_paired (sp_targets_of_paired K) := ⟨f20, _, G20, PySem.W.mg_of X G a20, k20, B20⟩
  have F21 := fun_mk (st := s_target_rows) l21 c21 k21
  have G21 := ok_target_rows (P := l.prog) (w := w) (base := base) T F21 D_all_lines
  have B21 := F21.binds (ps := P_target_rows) fun _ _ _ _ _ _ us hl => match us, hl with | [_], _ => rfl
  have D_target_rows : DefOk l.prog w K mg base CX0 2 "target_rows" P_target_rows (sp_target_rows K) := ⟨f21, _, G21, PySem.W.mg_of X G a21, k21, B21⟩
  have F22 := fun_mk (st := s_quantities_behind) l22 c22 k22
  have G22 := ok_quantities_behind (P := l.prog) (w := w) (base := base) T F22 
  have B22 := F22.binds (ps := P_quantities_behind) fun _ _ _ _ _ _ us hl => match us, hl with | [_, _], _ => rfl
  have D_quantities_behind : DefOk l.prog w K mg base CX0 1 "quantities_behind" P_quantities_behind (sp_quantities_behind K) := ⟨f22, _, G22, PySem.W.mg_of X G a22, k22, B22⟩
  have F23 := fun_mk (st := s_all_rooms) l23 c23 k23
  have G23 := ok_all_rooms (P := l.prog) (w := w) (base := base) T F23 D_target_rows D_quantities_behind
  have B23 := F23.binds (ps := P_all_rooms) fun _ _ _ _ _ _ us hl => match us, hl with | [_], _ => rfl
  have D_all_rooms : DefOk l.prog w K mg base CX0 3 "all_rooms" P_all_rooms (sp_all_rooms K) := ⟨f23, _, G23, PySem.W.mg_of X G a23, k23, B23⟩
  have F24 := fun_mk (st := s_are_in_one) l24 c24 k24
  have G24 := ok_are_in_one (P := l.prog) (w := w) (base := base) T F24 
  have B24 := F24.binds (ps := P_are_in_one) fun _ _ _ _ _ _ us hl => match us, hl with | [_, _, _], _ => rfl
  have D_are_in_one : DefOk l.prog w K mg base CX0 1 "are_in_one" P_are_in_one (sp_are_in_one K) := ⟨f24, _, G24, PySem.W.mg_of X G a24, k24, B24⟩
  have F25 := fun_mk (st := s_first_rooms) l25 c25 k25
  have G25 := ok_first_rooms (P := l.prog) (w := w) (base := base) T F25 D_check_web D_all_rooms D_are_in_one
  have B25 := F25.binds (ps := P_first_rooms) fun _ _ _ _ _ _ us hl => match us, hl with | [_], _ => rfl
  have D_first_rooms : DefOk l.prog w K mg base CX0 8 "first_rooms" P_first_rooms (sp_first_rooms K) := ⟨f25, _, G25, PySem.W.mg_of X G a25, k25, B25⟩
  have F26 := fun_mk (st := s_reached_quantities) l26 c26 k26
  have G26 := ok_reached_quantities (P := l.prog) (w := w) (base := base) T F26 D_target_rows D_quantities_behind
  have B26 := F26.binds (ps := P_reached_quantities) fun _ _ _ _ _ _ us hl => match us, hl with | [_], _ => rfl
  have D_reached_quantities : DefOk l.prog w K mg base CX0 3 "reached_quantities" P_reached_quantities (sp_reached_quantities K) := ⟨f26, _, G26, PySem.W.mg_of X G a26, k26, B26⟩
  have F27 := fun_mk (st := s_single_nudges) l27 c27 k27
  have G27 := ok_single_nudges (P := l.prog) (w := w) (base := base) T F27 D_check_web D_targets_of_paired D_first_rooms D_reached_quantities
  have B27 := F27.binds (ps := P_single_nudges) fun _ _ _ _ _ _ us hl => match us, hl with | [_], _ => rfl
  have D_single_nudges : DefOk l.prog w K mg base CX0 68 "single_nudges" P_single_nudges (sp_single_nudges K) := ⟨f27, _, G27, PySem.W.mg_of X G a27, k27, B27⟩
  have F28 := fun_mk (st := s_fewest_single) l28 c28 k28
  have G28 := ok_fewest_single (P := l.prog) (w := w) (base := base) T F28 D_single_nudges
  have B28 := F28.binds (ps := P_fewest_single) fun _ _ _ _ _ _ us hl => match us, hl with | [_], _ => rfl
  have D_fewest_single : DefOk l.prog w K mg base CX0 69 "fewest_single" P_fewest_single (sp_fewest_single K) := ⟨f28, _, G28, PySem.W.mg_of X G a28, k28, B28⟩
  have F29 := fun_mk (st := s_copy) l29 c29 k29
  have G29 := ok_copy (P := l.prog) (w := w) (base := base) T F29 
  have B29 := F29.binds (ps := P_copy) fun _ _ _ _ _ _ us hl => match us, hl with | [_], _ => rfl
  have D_copy : DefOk l.prog w K mg base CX0 1 "_law_copy" P_copy (sp_copy K) := ⟨f29, _, G29, PySem.W.mg_of X G a29, k29, B29⟩
  have F30 := fun_mk (st := s_targets) l30 c30 k30
  have G30 := ok_targets (P := l.prog) (w := w) (base := base) T F30 
  have B30 := F30.binds (ps := P_targets) fun _ _ _ _ _ _ us hl => match us, hl with | [_], _ => rfl
  have D_targets : DefOk l.prog w K mg base CX0 1 "_law_targets" P_targets (sp_targets K) := ⟨f30, _, G30, PySem.W.mg_of X G a30, k30, B30⟩
  have F31 := fun_mk (st := s_sources) l31 c31 k31
  have G31 := ok_sources (P := l.prog) (w := w) (base := base) T F31 D_targets
  have B31 := F31.binds (ps := P_sources) fun _ _ _ _ _ _ us hl => match us, hl with | [_], _ => rfl
  have D_sources : DefOk l.prog w K mg base CX0 2 "_law_sources" P_sources (sp_sources K) := ⟨f31, _, G31, PySem.W.mg_of X G a31, k31, B31⟩
  have F32 := fun_mk (st := s_led_to) l32 c32 k32
  have G32 := ok_led_to (P := l.prog) (w := w) (base := base) T F32 
  have B32 := F32.binds (ps := P_led_to) fun _ _ _ _ _ _ us hl => match us, hl with | [_, _, _], _ => rfl
  have D_led_to : DefOk l.prog w K mg base CX0 1 "_law_led_to" P_led_to (sp_led_to K) := ⟨f32, _, G32, PySem.W.mg_of X G a32, k32, B32⟩
  have F33 := fun_mk (st := s_matched) l33 c33 k33
  have G33 := ok_matched (P := l.prog) (w := w) (base := base) T F33 D_led_to
  have B33 := F33.binds (ps := P_matched) fun _ _ _ _ _ _ us hl => match us, hl with | [_], _ => rfl
  have D_matched : DefOk l.prog w K mg base CX0 2 "_law_matched" P_matched (sp_matched K) := ⟨f33, _, G33, PySem.W.mg_of X G a33, k33, B33⟩
  have F34 := fun_mk (st := s_cut_rooms) l34 c34 k34
  have G34 := ok_cut_rooms (P := l.prog) (w := w) (base := base) T F34 
  have B34 := F34.binds (ps := P_cut_rooms) fun _ _ _ _ _ _ us hl => match us, hl with | [_], _ => rfl
  have D_cut_rooms : DefOk l.prog w K mg base CX0 1 "_law_cut_rooms" P_cut_rooms (sp_cut_rooms K) := ⟨f34, _, G34, PySem.W.mg_of X G a34, k34, B34⟩
  have F35 := fun_mk (st := s_fewest) l35 c35 k35
  have G35 := ok_fewest (P := l.prog) (w := w) (base := base) T F35 D_sources D_matched D_cut_rooms
  have B35 := F35.binds (ps := P_fewest) fun _ _ _ _ _ _ us hl => match us, hl with | [_], _ => rfl
  have D_fewest : DefOk l.prog w K mg base CX0 3 "_law_fewest" P_fewest (sp_fewest K) := ⟨f35, _, G35, PySem.W.mg_of X G a35, k35, B35⟩
  have F36 := fun_mk (st := s_lists) l36 c36 k36
  have G36 := ok_lists (P := l.prog) (w := w) (base := base) T F36 
  have B36 := F36.binds (ps := P_lists) fun _ _ _ _ _ _ us hl => match us, hl with | [_, _], _ => rfl
  have D_lists : DefOk l.prog w K mg base CX0 1 "_law_lists" P_lists (sp_lists K) := ⟨f36, _, G36, PySem.W.mg_of X G a36, k36, B36⟩
  have F37 := fun_mk (st := s_come_to) l37 c37 k37
  have G37 := ok_come_to (P := l.prog) (w := w) (base := base) T F37 D_targets
  have B37 := F37.binds (ps := P_come_to) fun _ _ _ _ _ _ us hl => match us, hl with | [_], _ => rfl
  have D_come_to : DefOk l.prog w K mg base CX0 2 "_law_come_to" P_come_to (sp_come_to K) := ⟨f37, _, G37, PySem.W.mg_of X G a37, k37, B37⟩
  have F38 := fun_mk (st := s_reaches_some) l38 c38 k38
  have G38 := ok_reaches_some (P := l.prog) (w := w) (base := base) T F38 D_come_to D_sources D_matched
  have B38 := F38.binds (ps := P_reaches_some) fun _ _ _ _ _ _ us hl => match us, hl with | [_], _ => rfl
  have D_reaches_some : DefOk l.prog w K mg base CX0 3 "_law_reaches_some" P_reaches_some (sp_reaches_some K) := ⟨f38, _, G38, PySem.W.mg_of X G a38, k38, B38⟩
  have F39 := fun_mk (st := s_is_enough) l39 c39 k39
  have G39 := ok_is_enough (P := l.prog) (w := w) (base := base) T F39 D_reaches_some
  have B39 := F39.binds (ps := P_is_enough) fun _ _ _ _ _ _ us hl => match us, hl with | [_, _], _ => rfl
  have D_is_enough : DefOk l.prog w K mg base CX0 4 "_law_is_enough" P_is_enough (sp_is_enough K) := ⟨f39, _, G39, PySem.W.mg_of X G a39, k39, B39⟩
  have F40 := fun_mk (st := s_told) l40 c40 k40
  have G40 := ok_told (P := l.prog) (w := w) (base := base) T F40 D_fewest_single D_single_nudges D_copy D_fewest D_lists D_is_enough
  have B40 := F40.binds (ps := P_told) fun _ _ _ _ _ _ us hl => match us, hl with | [_], _ => rfl
  have D_told : DefOk l.prog w K mg base CX0 70 "_law_told" P_told (sp_told K) := ⟨f40, _, G40, PySem.W.mg_of X G a40, k40, B40⟩
  have F41 := fun_mk (st := s_rings) l41 c41 k41
  have G41 := ok_rings (P := l.prog) (w := w) (base := base) T F41 D_draw D_order
  have B41 := F41.binds (ps := P_rings) fun _ _ _ _ _ _ us hl => match us, hl with | [_, _], _ => rfl
  have D_rings : DefOk l.prog w K mg base CX0 3 "_law_rings" P_rings (sp_rings K) := ⟨f41, _, G41, PySem.W.mg_of X G a41, k41, B41⟩
  have F42 := fun_mk (st := s_right) l42 c42 k42
  have G42 := ok_right (P := l.prog) (w := w) (base := base) T F42 D_draw D_web D_told D_rings
  have B42 := F42.binds (ps := P_right) fun _ _ _ _ _ _ us hl => match us, hl with | [_], _ => rfl
  have D_right : DefOk l.prog w K mg base CX0 71 "_law_right" P_right (sp_right K) := ⟨f42, _, G42, PySem.W.mg_of X G a42, k42, B42⟩
  have F43 := fun_mk (st := s_law) l43 c43 k43
  have G43 := ok_law (P := l.prog) (w := w) (base := base) T F43 D_tap D_cells D_right
  exact G43
theorem walk {l : PySem.W.OpenLaw} {q : Program} {loose : List Str} {XP : (Str → Option Value) → Heap → Prop} {YP : World → Heap → Prop} {d : DefRec} {K : Params → PySem.W.Frag} (hn : l.most = some 63) (hdf : d.params.defaults = [])
    (hY : ∀ (w : World) (h : Heap), YP w h → (K w.params).In h)
    (F : ∀ (w : World) (mg : Str → Option Value) (fa : Addr) (h : Heap), (K w.params).In h → h.Ns mainGlobals mg → mg d.name = some (.ref fa) →
      ∃ fd : FuncData, (∀ (s : Shared) (u : Value), BindsTo s fd ⟨[u], []⟩ [("_law_script", u)]) ∧ ∀ base : Heap, (K w.params).In base → base.Ns mainGlobals mg → FnG l.prog w (K w.params) mg base CX0 72 fa fd ["_law_script"] (sp_law (K w.params))) :
    PySem.W.WalkO q loose XP YP l.row.toRowW d [] (fun f vs => PySem.call f vs) :=
  walkG (n := 63) (k := 72) (x := "_law_script") (CX := fun _ => CX0) (sp := fun w => sp_law (K w.params)) hn (by decide) hdf ⟨rfl, by decide, by decide⟩ hY F (fun _ H a ns hl _ hS => sp_law_start hl hS) fun _ _ _ _ _ z => z
end K17
open PySem PySem.W PyProof.Rows in
set_option maxRecDepth 100000 in
set_option maxHeartbeats 0 in
theorem PySem.Challenge.cw_nudgewebs_k17_fewest_single_nudges_holds : PySem.Challenge.rw_nudgewebs_k17_fewest_single_nudges.Holds := by
  w_on; o_law; k_head; (case hw => w_witness2)
  k_fill
  refine K17.walk (l := PySem.Challenge.rw_nudgewebs_k17_fewest_single_nudges) rfl rfl (fun w h Y => PySem.W.kIn_of Y) ?F
  case F =>
    intro w mg fa h KX G hmg
    refine' K17.all_mk KX G hmg ?a0 ?l0 ?c0 ?k0 ?a1 ?l1 ?c1 ?k1 ?a2 ?l2 ?c2 ?k2 ?a3 ?l3 ?c3 ?k3 ?a4 ?l4 ?c4 ?k4 ?a5 ?l5 ?c5 ?k5 ?a6 ?l6 ?c6 ?k6 ?a7 ?l7 ?c7 ?k7 ?a8 ?l8 ?c8 ?k8 ?a9 ?l9 ?c9 ?k9 ?a10 ?l10 ?c10 ?k10 ?a11 ?l11 ?c11 ?k11 ?a12 ?l12 ?c12 ?k12 ?a13 ?l13 ?c13 ?k13 ?a14 ?l14 ?c14 ?k14 ?a15 ?l15 ?c15 ?k15 ?a16 ?l16 ?c16 ?k16 ?a17 ?l17 ?c17 ?k17 ?a18 ?l18 ?c18 ?k18 ?a19 ?l19 ?c19 ?k19 ?a20 ?l20 ?c20 ?k20 ?a21 ?l21 ?c21 ?k21 ?a22 ?l22 ?c22 ?k22 ?a23 ?l23 ?c23 ?k23 ?a24 ?l24 ?c24 ?k24 ?a25 ?l25 ?c25 ?k25 ?a26 ?l26 ?c26 ?k26 ?a27 ?l27 ?c27 ?k27 ?a28 ?l28 ?c28 ?k28 ?a29 ?l29 ?c29 ?k29 ?a30 ?l30 ?c30 ?k30 ?a31 ?l31 ?c31 ?k31 ?a32 ?l32 ?c32 ?k32 ?a33 ?l33 ?c33 ?k33 ?a34 ?l34 ?c34 ?k34 ?a35 ?l35 ?c35 ?k35 ?a36 ?l36 ?c36 ?k36 ?a37 ?l37 ?c37 ?k37 ?a38 ?l38 ?c38 ?k38 ?a39 ?l39 ?c39 ?k39 ?a40 ?l40 ?c40 ?k40 ?a41 ?l41 ?c41 ?k41 ?a42 ?l42 ?c42 ?k42 ?a43 ?l43 ?c43 ?k43 ?z_isinstance ?z_len ?z_all ?z_any ?z_abs ?z_max ?z_min ?z_sorted ?z_int ?z_bool ?z_list ?z_tuple ?z_set ?z_range ?z_enumerate ?z_zip ?v_MOST_QUANTITIES ?v_MOST_NUDGES
    (case a0 => k_is)
    (case l0 => k_is)
    (case c0 => k_is)
    (case k0 => k_is)
    (case a1 => k_is)
    (case l1 => k_is)
    (case c1 => k_is)
    (case k1 => k_is)
    (case a2 => k_is)
    (case l2 => k_is)
    (case c2 => k_is)
    (case k2 => k_is)
    (case a3 => k_is)
    (case l3 => k_is)
    (case c3 => k_is)
    (case k3 => k_is)
    (case a4 => k_is)
    (case l4 => k_is)
    (case c4 => k_is)
    (case k4 => k_is)
    (case a5 => k_is)
    (case l5 => k_is)
    (case c5 => k_is)
    (case k5 => k_is)
    (case a6 => k_is)
    (case l6 => k_is)
    (case c6 => k_is)
    (case k6 => k_is)
    (case a7 => k_is)
    (case l7 => k_is)
    (case c7 => k_is)
    (case k7 => k_is)
    (case a8 => k_is)
    (case l8 => k_is)
    (case c8 => k_is)
    (case k8 => k_is)
    (case a9 => k_is)
    (case l9 => k_is)
    (case c9 => k_is)
    (case k9 => k_is)
    (case a10 => k_is)
    (case l10 => k_is)
    (case c10 => k_is)
    (case k10 => k_is)
    (case a11 => k_is)
    (case l11 => k_is)
    (case c11 => k_is)
    (case k11 => k_is)
    (case a12 => k_is)
    (case l12 => k_is)
    (case c12 => k_is)
    (case k12 => k_is)
    (case a13 => k_is)
    (case l13 => k_is)
    (case c13 => k_is)
    (case k13 => k_is)
    (case a14 => k_is)
    (case l14 => k_is)
    (case c14 => k_is)
    (case k14 => k_is)
    (case a15 => k_is)
    (case l15 => k_is)
    (case c15 => k_is)
    (case k15 => k_is)
    (case a16 => k_is)
    (case l16 => k_is)
    (case c16 => k_is)
    (case k16 => k_is)
    (case a17 => k_is)
    (case l17 => k_is)
    (case c17 => k_is)
    (case k17 => k_is)
    (case a18 => k_is)
    (case l18 => k_is)
    (case c18 => k_is)
    (case k18 => k_is)
    (case a19 => k_is)
    (case l19 => k_is)
    (case c19 => k_is)
    (case k19 => k_is)
    (case a20 => k_is)
    (case l20 => k_is)
    (case c20 => k_is)
    (case k20 => k_is)
    (case a21 => k_is)
    (case l21 => k_is)
    (case c21 => k_is)
    (case k21 => k_is)
    (case a22 => k_is)
    (case l22 => k_is)
    (case c22 => k_is)
    (case k22 => k_is)
    (case a23 => k_is)
    (case l23 => k_is)
    (case c23 => k_is)
    (case k23 => k_is)
    (case a24 => k_is)
    (case l24 => k_is)
    (case c24 => k_is)
    (case k24 => k_is)
    (case a25 => k_is)
    (case l25 => k_is)
    (case c25 => k_is)
    (case k25 => k_is)
    (case a26 => k_is)
    (case l26 => k_is)
    (case c26 => k_is)
    (case k26 => k_is)
    (case a27 => k_is)
    (case l27 => k_is)
    (case c27 => k_is)
    (case k27 => k_is)
    (case a28 => k_is)
    (case l28 => k_is)
    (case c28 => k_is)
    (case k28 => k_is)
    (case a29 => k_is)
    (case l29 => k_is)
    (case c29 => k_is)
    (case k29 => k_is)
    (case a30 => k_is)
    (case l30 => k_is)
    (case c30 => k_is)
    (case k30 => k_is)
    (case a31 => k_is)
    (case l31 => k_is)
    (case c31 => k_is)
    (case k31 => k_is)
    (case a32 => k_is)
    (case l32 => k_is)
    (case c32 => k_is)
    (case k32 => k_is)
    (case a33 => k_is)
    (case l33 => k_is)
    (case c33 => k_is)
    (case k33 => k_is)
    (case a34 => k_is)
    (case l34 => k_is)
    (case c34 => k_is)
    (case k34 => k_is)
    (case a35 => k_is)
    (case l35 => k_is)
    (case c35 => k_is)
    (case k35 => k_is)
    (case a36 => k_is)
    (case l36 => k_is)
    (case c36 => k_is)
    (case k36 => k_is)
    (case a37 => k_is)
    (case l37 => k_is)
    (case c37 => k_is)
    (case k37 => k_is)
    (case a38 => k_is)
    (case l38 => k_is)
    (case c38 => k_is)
    (case k38 => k_is)
    (case a39 => k_is)
    (case l39 => k_is)
    (case c39 => k_is)
    (case k39 => k_is)
    (case a40 => k_is)
    (case l40 => k_is)
    (case c40 => k_is)
    (case k40 => k_is)
    (case a41 => k_is)
    (case l41 => k_is)
    (case c41 => k_is)
    (case k41 => k_is)
    (case a42 => k_is)
    (case l42 => k_is)
    (case c42 => k_is)
    (case k42 => k_is)
    (case a43 => k_is)
    (case l43 => k_is)
    (case c43 => k_is)
    (case k43 => k_is)
    (case z_isinstance => k_is)
    (case z_len => k_is)
    (case z_all => k_is)
    (case z_any => k_is)
    (case z_abs => k_is)
    (case z_max => k_is)
    (case z_min => k_is)
    (case z_sorted => k_is)
    (case z_int => k_is)
    (case z_bool => k_is)
    (case z_list => k_is)
    (case z_tuple => k_is)
    (case z_set => k_is)
    (case z_range => k_is)
    (case z_enumerate => k_is)
    (case z_zip => k_is)
    (case v_MOST_QUANTITIES => k_is)
    (case v_MOST_NUDGES => k_is)
