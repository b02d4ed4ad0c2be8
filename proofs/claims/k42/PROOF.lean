import PyProof.Rows.All
import Wide.All
import OpenK.AllK
import Wide.FinOn
import PyProof.EqAt
import PyProof.EqKinds
import PyProof.TupleCall
import PyProof.ReprReads
import HandS.ForMost
import HandS.Exc
import HandS.TryOnly
import HandS.ExcOwn
import HandS.WordsExc
import HandS.Wide
import HandS.IsInst
import HandS.Deep
import HandS.Style
import HandS.Conv
import HandS.Zip
import HandS.SortRule
import HandS.SortInts
import PySem.Challenge.RW_nudgewebs_k42_targets_sources_lines
set_option Elab.async false
set_option linter.all false
set_option maxRecDepth 100000
set_option maxHeartbeats 4000000
/-! The ground: defs that run where nothing is being shown (so that repr may be asked), calls by name, repr of data, powers. -/
namespace Nw
open PySem PySem.Spec PyProof.Rows L2

/-! ### defs that run where no repr is under way -/
abbrev Quiet (A : Around) : Prop := A.guards = some []
structure FnG (P : Program) (w : World) (K : PySem.W.Frag) (mg : Str → Option Value)
    (base : Heap) (CX : CXT) (k : Nat) (f : Addr) (fd : FuncData) (ps : List Str) (sp : Sp) : Prop where
  len : ∀ vs H Q E, sp vs H Q E → vs.length = ps.length
  run : ∀ (A : Around) (outer : List Env) (s : Shared) (H : Hp) (args : Args) (us : List Value) (vs : List V)
    (Q : VK) (E : XK), Room k A → Quiet A → Env0 P w K mg base A outer s H →
    BindsTo s fd args (ps.zip us) → Vals vs us → sp vs H Q E →
    codeAny (model P w) A (.call (.ref f) args) (CR CX outer P w H s Q E) s

section
variable {P : Program} {w : World} {K : PySem.W.Frag} {mg : Str → Option Value} {base : Heap} {CX : CXT}
theorem FnG.mono {j k : Nat} {f : Addr} {fd : FuncData} {ps : List Str} {sp : Sp}
    (F : FnG P w K mg base CX j f fd ps sp) (h : j ≤ k) : FnG P w K mg base CX k f fd ps sp :=
  ⟨F.len, fun A outer s H args us vs Q E hr =>
    F.run A outer s H args us vs Q E (hr.mono h)⟩

theorem fng_of {k : Nat} {f : Addr} {name qual : Str} {params : Arguments} {body : List Stmt} {scope : Scope}
    {dV kV doc pm cdv ct oc : Value} {an od : Option Addr} {osl : Array (Option Value)} {N ps : List Str} {sp : Sp}
    (lk : K.lookup f = some ⟨oc, od, .func (PySem.W.fnOf name qual params body scope dV kV doc pm an cdv ct), osl⟩)
    (hcd : PySem.W.codeIn K cdv qual = true) (S : FnScope N ps scope)
    (len : ∀ vs H Q E, sp vs H Q E → vs.length = ps.length)
    (hbody : ∀ (A : Around) (outer : List Env) (s : Shared) (H : Hp) (vs : List V) (Q : VK) (E : XK),
      Room k (A.deeper (envOfC qual scope s.heap.objs.size f cdv)) → Quiet A → sp vs H Q E →
      ∃ t, PSs (cxOf CX P w K mg base N qual scope f cdv A outer s H E) body t ∧
        t { nx := fun _ H' => Q .non H', rt := Q } (start N vs) H) :
    FnG P w K mg base CX (k + 1) f (PySem.W.fnOf name qual params body scope dV kV doc pm an cdv ct) ps sp := by
  refine ⟨len, ?_⟩
  intro A outer s H args us vs Q E hr hgd e0 hb r hsp
  have hl := len _ _ _ _ hsp
  have old := fun b o (e : base.get? b = some o) => (e0.bs b o e).1
  have kinds : ∀ y ∈ ps.zip us, scope.names.lookup y.1 = some .local ∨
      (scope.names.lookup y.1 = some .cell ∧ ((cellsFrom (s.heap.objs.size + 1) scope.names []).lookup y.1).isSome = true) := by
    rintro ⟨n, v⟩ hy
    rcases S.par n (List.of_mem_zip hy).1 with q | q
    · exact Or.inl q
    · exact Or.inr ⟨q, PySem.W.cellsFrom_some _ _ _ (Or.inl q)⟩
  refine codeAny_call_function hr.depth ((e0.mod.kin.keeps old) _ _ lk) rfl S.co S.gen rfl
    (PySem.W.codeRec_of (e0.mod.kin.keeps old) hcd) (hb _ _ _ _ ?_)
  refine wpAny_newFunctionEnv_cells S.kind kinds fun env he s1 x => ?_
  subst he
  refine ⟨(e0.mod.nolimit.keeps old).keeps x.toInCall.keep, codeAny_func ?_⟩
  obtain ⟨t, ht, hq⟩ := hbody A outer s H vs Q E (hr.deeper _) hgd hsp
  have I0 : Inv (cxOf CX P w K mg base N qual scope f cdv A outer s H E) [] (start N vs) H s1 :=
    inv_start S hr.hd e0 hl r x
  refine wpAny_mono (ht.run [] s1 (start N vs) H _ I0 hq) ?_ (fun e s' hs => hs)
  intro fl s' hs
  cases fl with
  | ret u =>
    obtain ⟨v, σ', H', J, rv, q⟩ := hs
    exact (show CE outer P w H s Q u s' from ⟨v, H', J.os, J.bare, J.base, J.hok, rv, q⟩)
  | next =>
    obtain ⟨σ', H', J, q⟩ := hs
    exact (show CE outer P w H s Q Value.none s' from ⟨V.non, H', J.os, J.bare, J.base, J.hok, rfl, q⟩)
  | brk =>
    obtain ⟨_, _, _, q⟩ := hs
    exact q.elim
  | cont =>
    obtain ⟨_, _, _, q⟩ := hs
    exact q.elim

/-- a def of the text, by its body -/
theorem okG {x qual : Str} {st : Stmt} {f : Addr} {fd : FuncData} {N ps : List Str} {k : Nat} {sp : Sp}
    (F : Fun K x qual st f fd) (S : FnScope N ps (defScope st)) (len : ∀ vs H Q E, sp vs H Q E → vs.length = ps.length)
    (hbody : ∀ (cdv : Value) (A : Around) (outer : List Env) (s : Shared) (H : Hp) (vs : List V) (Q : VK) (E : XK),
      Room k (A.deeper (envOfC qual (defScope st) s.heap.objs.size f cdv)) →
      Quiet (A.deeper (envOfC qual (defScope st) s.heap.objs.size f cdv)) → sp vs H Q E →
      ∃ t, PSs (cxOf CX P w K mg base N qual (defScope st) f cdv A outer s H E) (defBody st) t ∧
        t { nx := fun _ H' => Q .non H', rt := Q } (start N vs) H) : FnG P w K mg base CX (k + 1) f fd ps sp := by
  obtain ⟨oc, od, kV, doc, pm, an, cdv, ct, osl, rfl, lk, hcd⟩ := F.ex
  exact fng_of lk hcd S len fun A outer s H vs Q E hr hq hsp => hbody cdv A outer s H vs Q E hr hq hsp

/-- a def as its callers see it -/
structure DefOk (P : Program) (w : World) (K : PySem.W.Frag) (mg : Str → Option Value) (base : Heap) (CX : CXT)
    (k : Nat) (x : Str) (ps : List Str) (sp : Sp) : Prop where
  ex : ∃ f fd, FnG P w K mg base CX k f fd ps sp ∧ mg x = some (.ref f) ∧
    PySem.W.keepIn K (.ref f) = true ∧ Binds K fd ps []
theorem DefOk.mono {j k : Nat} {x : Str} {ps : List Str} {sp : Sp} (D : DefOk P w K mg base CX j x ps sp) (h : j ≤ k) :
    DefOk P w K mg base CX k x ps sp := by
  obtain ⟨f, fd, F, r⟩ := D.ex
  exact ⟨f, fd, F.mono h, r⟩
end

/-- f(e, ..) -/
def tCallD (sp : Sp) (E : XK) (t : TA) : TE := fun σ H Q => t σ H fun vs H1 => sp vs H1 Q E
section
variable {X : Cx} {CX : CXT} {k : Nat} {ps : List Str} {sp : Sp} {E : XK} {x : Str} {p pos : Pos} {e : Expr} {es : List Expr} {t : TA}
theorem run_fng {f : Addr} {fd : FuncData} {pins : List (Addr × Obj)} {σ : L2.St} {H : Hp} {s : Shared} {Q : VK} {us : List Value} {vs : List V}
    (F : FnG X.prog X.w X.K X.mg X.base CX k f fd ps sp) (hr : Room k X.A) (hgd : Quiet X.A) (hb : Binds X.K fd ps [])
    (hx : Passes CX X E) (I : Inv X pins σ H s) (r : Vals vs us) (h : sp vs H Q E) :
    wpAny (model X.prog X.w) X.A (call (.ref f) us) (EP X pins σ Q) X.xe s := by
  have hl : (us ++ ([] : List Value)).length = ps.length := by
    rw [List.append_nil, ← r.length]
    exact F.len _ _ _ _ h
  have hb2 := hb s us I.kIn hl
  rw [List.append_nil] at hb2
  refine wpAny_call (codeAny_mono (F.run X.A X.stack s H ⟨us, []⟩ us vs Q E hr hgd I.env0 hb2 r h) ?_)
  intro r s' hq
  cases r with
  | error e => exact hx pins σ H s e s' I hq
  | ok fl =>
    cases fl with
    | ret u => exact I.after hq
    | next => exact (show False from hq).elim
    | brk => exact (show False from hq).elim
    | cont => exact (show False from hq).elim

theorem pe_callD (D : DefOk X.prog X.w X.K X.mg X.base CX k x ps sp) (hr : Room k X.A) (hgd : Quiet X.A) (hx : Passes CX X E)
    (ha : PA X (e :: es) t) (hg : Gl X x := by rfl) (hdb : (x == ("__debug__" : Str)) = false := by decide)
    (he : starEach (e :: es) X.env = (false, eval e X.env) :: starEach es X.env := by rfl)
    (hpl : (backTo pos (starEach es X.env)).any (·.1) = false := by rfl) :
    PE X (.Call (.Name x p) (e :: es) [] pos) (tCallD sp E t) := by
  obtain ⟨f, fd, F, hm, hk, hb⟩ := D.ex
  refine ⟨fun pins s σ H Q I h => ?_⟩
  refine wpAny_Call_Name_kw (ld_glob I hg hm ?_ hdb)
  refine PySem.W.callWith_K (h₀ := X.base) I.ok.mod.kin hk (thn (ha.run pos pins s σ H _ I h) ?_) he hpl
  rintro us s1 ⟨vs, H1, I1, r, q⟩
  exact ⟨I1.kIn, run_fng F hr hgd hb hx I1 r q⟩
end

/-! ### the law's end -/
section
variable {P : Program} {w : World} {K : PySem.W.Frag}
theorem law_callG {mg mb : Str → Option Value} {CX : CXT} {k : Nat} {fa a : Addr} {fd : FuncData} {x : Str} {sp : Sp}
    {s1 : Shared} {vs : List Value} {ns : List Int}
    (KX : K.In s1.heap) (hns : s1.heap.Ns mainGlobals mg) (hb : s1.heap.Ns builtinsNs mb)
    (hbb : ∀ x : Str, x ≠ "__name__" → mb x = bootBuiltins x) (hlim : s1.heap.NoLimit) (hg : s1.gens = #[])
    (ha : s1.heap.get? a = some { cls := .type "list", data := .seq vs.toArray }) (hi : IntsAre vs ns)
    (hl : ns.length ≤ sizeLine) (hr : Room k callerA)
    (F : ∀ base : Heap, K.In base → base.Ns mainGlobals mg → FnG P w K mg base CX k fa fd [x] sp)
    (hbind : ∀ (s : Shared) (u : Value), BindsTo s fd ⟨[u], []⟩ [(x, u)])
    (hsp : ∀ H : Hp, Only H → SqL K H a (ns.map V.int) → sp [.ref a] H (fun v _ => v = .bl true) fun _ _ _ => False)
    (hCX : ∀ H e s', CX [] H s1 (fun _ _ _ => False) e s' → False) :
    codeAny (model P w) callerA (.call (.ref fa) ⟨[.ref a], []⟩)
      (fun r s' => r = .ok (.ret (.bool true)) ∧ OldK s1.heap s'.heap ∧ s'.os = s1.os ∧ AllBare s'.gens) s1 := by
  have rv := vals_ints hi
  have lenV := hi.length
  have core : ∀ H : Hp, Only H → SqL K H a (ns.map V.int) → HOk P w H s1.heap →
      (∀ b, H b ≠ none → b = a) → (H a ≠ none → K.lookup a = none) →
      codeAny (model P w) callerA (.call (.ref fa) ⟨[.ref a], []⟩)
        (fun r s' => r = .ok (.ret (.bool true)) ∧ OldK s1.heap s'.heap ∧ s'.os = s1.os ∧ AllBare s'.gens) s1 := by
    intro H hO hS hok hA hK
    have fromH : ∀ {b : Addr} {o : Obj}, s1.heap.get? b = some o → H b = none →
        (hidT s1.heap H).get? b = some o := fun e n => hidT_get e n
    have free : ∀ {b : Addr} {o : Obj} {es : Array DictEntry} {ep : Nat},
        s1.heap.get? b = some o → o.data = .dict es ep → H b = none := by
      intro b o es ep e d
      cases q : H b with
      | none => rfl
      | some u =>
        have e' : b = a := hA b (by rw [q]; exact fun z => nomatch z)
        subst e'
        rw [ha] at e
        cases e
        exact nomatch d
    have nsK : ∀ {b : Addr} {m : Str → Option Value}, s1.heap.Ns b m → (hidT s1.heap H).Ns b m := by
      rintro b m ⟨o, es, ep, e, d, r⟩
      exact ⟨o, es, ep, fromH e (free e d), d, r⟩
    have hKb : K.In (hidT s1.heap H) := by
      intro b o e
      refine fromH (KX b o e) ?_
      cases q : H b with
      | none => rfl
      | some u =>
        have e' : b = a := hA b (by rw [q]; exact fun z => nomatch z)
        subst e'
        rw [hK (by rw [q]; exact fun z => nomatch z)] at e
        cases e
    have hM : Mod K mg (hidT s1.heap H) := by
      obtain ⟨mc, h1, h2⟩ := hlim
      exact ⟨hKb, nsK hns, ⟨mb, nsK hb, hbb⟩, ⟨mc, nsK h1, h2⟩⟩
    have e0 : Env0 P w K mg (hidT s1.heap H) callerA [] s1 H :=
      ⟨rfl, hM, fun b o e => of_hidT e, Nat.le_of_eq (hidT_size _ _), trivial,
        fun b hb => (List.not_mem_nil hb).elim, hok, .of_eq hg⟩
    refine codeAny_mono ((F _ hKb (nsK hns)).run callerA [] s1 H ⟨[.ref a], []⟩ [.ref a] [.ref a] _ _ hr rfl e0
      (hbind s1 (.ref a)) (.cons rfl .nil) (hsp H hO hS)) ?_
    intro r s' h
    cases r with
    | error e => exact (hCX H e s' h).elim
    | ok fl =>
      cases fl with
      | next => exact (show False from h).elim
      | brk => exact (show False from h).elim
      | cont => exact (show False from h).elim
      | ret u =>
        obtain ⟨v, H', os, bare, un, hok', r', q⟩ := h
        have q' : v = .bl true := q
        subst q'
        obtain rfl : u = Value.bool true := r'
        refine ⟨rfl, OldK.of_keep ?_, os, bare⟩
        intro b o e
        cases q : H b with
        | none => exact un.keep b o e q (fun z => (List.not_mem_nil z).elim) (fun z => (List.not_mem_nil z).elim)
        | some u =>
          rcases hO b with z | ⟨ob, xs, z⟩
          · rw [q] at z
            cases z
          · obtain ⟨e1, _⟩ := hok b _ z
            obtain ⟨e2, _⟩ := hok' b _ (un.frzs b ob _ z)
            rw [e] at e1
            cases e1
            exact e2
  cases hk : K.lookup a with
  | some o =>
    have e := KX a o hk
    rw [ha] at e
    cases e
    exact core (fun _ => none) (fun _ => .inl rfl)
      (.inr ⟨_, vs.toArray, _, hk, rfl, rfl, rfl, by rw [List.size_toArray, lenV]; exact hl, by simpa using rv⟩)
      (fun b u z => nomatch z) (fun b z => (z rfl).elim) (fun z => (z rfl).elim)
  | none =>
    refine core (fun b => if b = a then some (.frz { cls := .type "list", data := .seq vs.toArray } (.lst (ns.map V.int))) else none)
      ?_ (.inl (.inr ⟨{ cls := .type "list", data := .seq vs.toArray }, if_pos rfl⟩)) ?_ ?_ (fun _ => hk)
    · intro b
      by_cases hb : b = a
      · exact .inr ⟨_, _, if_pos hb⟩
      · exact .inl (if_neg hb)
    · intro b u z
      by_cases hb : b = a
      · have z' := (if_pos hb).symm.trans z
        cases z'
        subst hb
        exact ⟨ha, by rw [List.length_map]; exact hl, vs, _, rv, ha⟩
      · have z' := (if_neg hb).symm.trans z
        cases z'
    · intro b z
      by_cases hb : b = a
      · exact hb
      · exact (z (if_neg hb)).elim
end

theorem walkG {l : PySem.W.OpenLaw} {n k : Nat} {q : Program} {loose : List Str} {XP : (Str → Option Value) → Heap → Prop}
    {YP : World → Heap → Prop} {d : DefRec} {K : Params → PySem.W.Frag} {CX : World → CXT} {sp : World → Sp} {x : Str}
    (hn : l.most = some n) (hn2 : n ≤ sizeLine) (hdf : d.params.defaults = []) (hr : Room k callerA)
    (hY : ∀ (w : World) (h : Heap), YP w h → (K w.params).In h)
    (F : ∀ (w : World) (mg : Str → Option Value) (fa : Addr) (h : Heap), (K w.params).In h → h.Ns mainGlobals mg →
      mg d.name = some (.ref fa) → ∃ fd : FuncData, (∀ (s : Shared) (u : Value), BindsTo s fd ⟨[u], []⟩ [(x, u)]) ∧
        ∀ base : Heap, (K w.params).In base → base.Ns mainGlobals mg →
          FnG l.prog w (K w.params) mg base (CX w) k fa fd [x] (sp w))
    (hsp : ∀ (w : World) (H : Hp) (a : Addr) (ns : List Int), ns.length ≤ n → Only H →
      SqL (K w.params) H a (ns.map V.int) → sp w [.ref a] H (fun v _ => v = .bl true) fun _ _ _ => False)
    (hCX : ∀ (w : World) (H : Hp) (s : Shared) (e : Value) (s' : Shared), CX w [] H s (fun _ _ _ => False) e s' → False) :
    PySem.W.WalkO q loose XP YP l.row.toRowW d [] (fun f vs => PySem.call f vs) := by
  refine Att.attach_call hn hdf ?_
  intro w s0 s1 mg mb fa o pm cd doc a vs ns G Y ho hd hcd hmg hobj hints hlen hg
  obtain ⟨fd, hb, hF⟩ := F w mg fa _ (hY w _ Y) G.T.g hmg
  exact law_callG (hY w _ Y) G.T.g G.T.b G.T.builtins G.T.nolimit hg hobj hints (Nat.le_trans hlen hn2) hr hF hb
    (fun H hO hS => hsp w H a ns hlen hO hS) (fun H e s' => hCX w H s1 e s')

/-! ### repr of data -/
section
variable {X : Cx}
mutual
theorem dp_noDict {K : PySem.W.Frag} {H : Hp} : ∀ (d : PyData) (v : V), Dp K H v d → d.hasDict = false
  | .none, _, _ => by simp only [PyData.hasDict]
  | .bool _, _, _ => by simp only [PyData.hasDict]
  | .int _, _, _ => by simp only [PyData.hasDict]
  | .str _, _, _ => by simp only [PyData.hasDict]
  | .list ds, _, h => by
    cases h with
    | lst _ ha =>
      simp only [PyData.hasDict]
      exact dp_noDictAll ds _ ha
  | .tuple ds, _, h => by
    cases h with
    | tup _ ha =>
      simp only [PyData.hasDict]
      exact dp_noDictAll ds _ ha
  | .dict _, _, h => by cases h
theorem dp_noDictAll {K : PySem.W.Frag} {H : Hp} : ∀ (ds : List PyData) (vs : List V), DpAll K H vs ds → PyData.hasDictAll ds = false
  | [], _, _ => by simp only [PyData.hasDictAll]
  | d :: ds, _, h => by
    cases h with
    | cons h1 h2 => simp only [PyData.hasDictAll, dp_noDict d _ h1, dp_noDictAll ds _ h2, Bool.or_self]
end
/-- repr(x), x any data without dicts -/
def rReprD (K : PySem.W.Frag) : List V → Hp → VK → Prop := fun xs H Q =>
  ∃ x d, xs = [x] ∧ Dp K H x d ∧ d.showable = true ∧ d.shown.length ≤ sizeLine ∧ d.depth ≤ 60 ∧ Q (.str d.shown) H
end
end Nw
/-! Data as trees over the abstract heap; what is asked of them. -/
namespace Nw
open PySem PySem.Spec PyProof.Rows L2

/-- what is known stays known -/
abbrev Ex (H H' : Hp) : Prop := ∀ b o, H b = some o → H' b = some o
theorem Ex.rfl {H : Hp} : Ex H H := fun _ _ h => h
theorem Ex.tr {H H1 H2 : Hp} (a : Ex H H1) (b : Ex H1 H2) : Ex H H2 := fun c o h => b c o (a c o h)
theorem Ex.nw {H : Hp} {p : Addr} {o : HO} (h : H p = none) : Ex H (upd H p o) := fun b u e => by
  rw [upd_ne (ne_of_none e h)]
  exact e
theorem Ex.nw2 {H H' : Hp} {p : Addr} {o : HO} (e : Ex H H') (h : H' p = none) : Ex H (upd H' p o) := e.tr (Ex.nw h)
theorem Ex.fr {H H' : Hp} (e : Ex H H') {l : Addr} (h : H' l = none) : H l = none := by
  cases q : H l with
  | none => exact Eq.refl _
  | some o =>
    rw [e l o q] at h
    cases h
/-- an object that H does not know may change -/
theorem Ex.wr {H H' : Hp} {p : Addr} {o : HO} (e : Ex H H') (h : H p = none) : Ex H (upd H' p o) := fun a u ha => by
  rw [upd_ne (ne_of_none ha h)]
  exact e a u ha
section
variable {K : PySem.W.Frag} {H H' : Hp}
theorem Ex.rd {a : Addr} {u : HO} (e : Ex H H') (h : Rd H a u) : Rd H' a u := by
  rcases h with h | ⟨o, h⟩
  · exact Or.inl (e a _ h)
  · exact Or.inr ⟨o, e a _ h⟩
theorem Ex.l {a : Addr} {xs : List V} (e : Ex H H') (h : SqL K H a xs) : SqL K H' a xs := by
  rcases h with h | h
  · exact Or.inl (e.rd h)
  · exact Or.inr h
theorem Ex.t {a : Addr} {xs : List V} (e : Ex H H') (h : SqT K H a xs) : SqT K H' a xs := by
  rcases h with h | h
  · exact Or.inl (e.rd h)
  · exact Or.inr h
end

/-! ### data -/
mutual
def Da (K : PySem.W.Frag) (H : Hp) : PyData → V → Prop
  | .none, v => v = .non
  | .bool b, v => v = .bl b
  | .int i, v => v = .int i
  | .str x, v => v = .str x
  | .list ds, v => ∃ a xs, v = .ref a ∧ H a = some (.lst xs) ∧ DaAll K H ds xs ∧ ds.length ≤ 100000
  | .tuple ds, v => ∃ a xs, v = .ref a ∧ H a = some (.tup xs) ∧ DaAll K H ds xs
  | .dict _, v => ∃ a kvs, v = .ref a ∧ H a = some (.dK kvs)
def DaAll (K : PySem.W.Frag) (H : Hp) : List PyData → List V → Prop
  | [], vs => vs = []
  | d :: ds, vs => ∃ x xs, vs = x :: xs ∧ Da K H d x ∧ DaAll K H ds xs
end
section
variable {K : PySem.W.Frag} {H H' : Hp}
mutual
theorem Da.mono (e : Ex H H') : ∀ (d : PyData) (v : V), Da K H d v → Da K H' d v
  | .none, _, h => h
  | .bool _, _, h => h
  | .int _, _, h => h
  | .str _, _, h => h
  | .list ds, v, h => by
    obtain ⟨a, xs, ev, hs, ha, hz⟩ := h
    exact ⟨a, xs, ev, e _ _ hs, DaAll.mono e ds xs ha, hz⟩
  | .tuple ds, v, h => by
    obtain ⟨a, xs, ev, hs, ha⟩ := h
    exact ⟨a, xs, ev, e _ _ hs, DaAll.mono e ds xs ha⟩
  | .dict kd, v, h => by
    obtain ⟨a, kvs, ev, hs⟩ := h
    exact ⟨a, kvs, ev, e _ _ hs⟩
theorem DaAll.mono (e : Ex H H') : ∀ (ds : List PyData) (vs : List V), DaAll K H ds vs → DaAll K H' ds vs
  | [], _, h => h
  | d :: ds, vs, h => by
    obtain ⟨x, xs, ev, h1, h2⟩ := h
    exact ⟨x, xs, ev, Da.mono e d x h1, DaAll.mono e ds xs h2⟩
end
theorem Da.up {d : PyData} {v : V} (h : Da K H d v) (e : Ex H H') : Da K H' d v := Da.mono e d v h
theorem DaAll.up {ds : List PyData} {vs : List V} (h : DaAll K H ds vs) (e : Ex H H') : DaAll K H' ds vs := DaAll.mono e ds vs h
mutual
theorem Da.dp : ∀ (d : PyData) (v : V), Da K H d v → d.hasDict = false → Dp K H v d
  | .none, _, h, _ => by
    obtain rfl := h
    exact .non
  | .bool b, _, h, _ => by
    obtain rfl := h
    exact .bl b
  | .int i, _, h, _ => by
    obtain rfl := h
    exact .int i
  | .str x, _, h, _ => by
    obtain rfl := h
    exact .str x
  | .list ds, v, h, hd => by
    obtain ⟨a, xs, rfl, hs, ha, _⟩ := h
    exact .lst (.inl (.inl hs)) (DaAll.dp ds xs ha (by simpa only [PyData.hasDict] using hd))
  | .tuple ds, v, h, hd => by
    obtain ⟨a, xs, rfl, hs, ha⟩ := h
    exact .tup (.inl (.inl hs)) (DaAll.dp ds xs ha (by simpa only [PyData.hasDict] using hd))
  | .dict kd, v, h, hd => by
    simp only [PyData.hasDict] at hd
    cases hd
theorem DaAll.dp : ∀ (ds : List PyData) (vs : List V), DaAll K H ds vs → PyData.hasDictAll ds = false → DpAll K H vs ds
  | [], _, h, _ => by
    obtain rfl := h
    exact .nil
  | d :: ds, vs, h, hd => by
    obtain ⟨x, xs, rfl, h1, h2⟩ := h
    simp only [PyData.hasDictAll, Bool.or_eq_false_iff] at hd
    exact .cons (Da.dp d x h1 hd.1) (DaAll.dp ds xs h2 hd.2)
end
theorem DaAll.len : ∀ {ds : List PyData} {vs : List V}, DaAll K H ds vs → ds.length = vs.length
  | [], _, h => by
    obtain rfl := h
    exact Eq.refl _
  | d :: ds, vs, h => by
    obtain ⟨x, xs, rfl, _, h2⟩ := h
    rw [List.length_cons, List.length_cons, DaAll.len h2]
theorem DaAll.at : ∀ {ds : List PyData} {vs : List V} {i : Nat} {d : PyData}, DaAll K H ds vs → ds[i]? = some d → ∃ x, vs[i]? = some x ∧ Da K H d x
  | [], _, _, _, _, e => by simp at e
  | d :: ds, vs, 0, _, h, e => by
    obtain ⟨x, xs, rfl, h1, _⟩ := h
    cases e
    exact ⟨x, Eq.refl _, h1⟩
  | d :: ds, vs, i + 1, _, h, e => by
    obtain ⟨x, xs, rfl, _, h2⟩ := h
    simp only [List.getElem?_cons_succ] at e ⊢
    exact DaAll.at h2 e
theorem DaAll.at' : ∀ {ds : List PyData} {vs : List V} {i : Nat} {x : V}, DaAll K H ds vs → vs[i]? = some x → ∃ d, ds[i]? = some d ∧ Da K H d x
  | [], _, _, _, h, e => by
    obtain rfl := h
    simp at e
  | d :: ds, vs, 0, _, h, e => by
    obtain ⟨x, xs, rfl, h1, _⟩ := h
    cases e
    exact ⟨d, Eq.refl _, h1⟩
  | d :: ds, vs, i + 1, _, h, e => by
    obtain ⟨x, xs, rfl, _, h2⟩ := h
    simp only [List.getElem?_cons_succ] at e ⊢
    exact DaAll.at' h2 e
theorem DaAll.app : ∀ {ds es : List PyData} {vs ws : List V}, DaAll K H ds vs → DaAll K H es ws → DaAll K H (ds ++ es) (vs ++ ws)
  | [], _, _, _, h, g => by
    obtain rfl := h
    exact g
  | d :: ds, es, vs, ws, h, g => by
    obtain ⟨x, xs, rfl, h1, h2⟩ := h
    exact ⟨x, xs ++ ws, Eq.refl _, h1, DaAll.app h2 g⟩
theorem DaAll.ints : ∀ {ns : List Int} {vs : List V}, DaAll K H (ns.map PyData.int) vs ↔ vs = ns.map V.int
  | [], vs => Iff.rfl
  | n :: ns, vs => by
    constructor
    · rintro ⟨x, xs, rfl, rfl, h2⟩
      rw [List.map_cons, DaAll.ints.mp h2]
    · rintro rfl
      exact ⟨_, _, Eq.refl _, Eq.refl _, DaAll.ints.mpr (Eq.refl _)⟩
theorem DaAll.mem : ∀ {ds : List PyData} {vs : List V}, DaAll K H ds vs → ∀ x ∈ vs, ∃ d ∈ ds, Da K H d x
  | [], _, h, x, hx => by
    obtain rfl := h
    cases hx
  | d :: ds, vs, h, x, hx => by
    obtain ⟨y, ys, rfl, h1, h2⟩ := h
    rcases List.mem_cons.mp hx with rfl | hx
    · exact ⟨d, List.mem_cons_self, h1⟩
    · obtain ⟨e, he, hd⟩ := DaAll.mem h2 x hx
      exact ⟨e, List.mem_cons_of_mem _ he, hd⟩

/-! ### types -/
theorem tyx_l {a : Addr} {xs : List V} (h : SqL K H a xs) : TyX K H (.ref a) (.type "list") := by
  rcases h with (h | ⟨o, h⟩) | ⟨o, its, n, e, c, _⟩
  · exact .base (.lst h)
  · exact .base (.frz h)
  · exact .kList e c
theorem tyx_t {a : Addr} {xs : List V} (h : SqT K H a xs) : TyX K H (.ref a) (.type "tuple") := by
  rcases h with (h | ⟨o, h⟩) | ⟨o, its, n, e, c, _⟩
  · exact .base (.tup h)
  · exact .fTuple h
  · exact .kTuple e c
/-- the name of a datum's type -/
def tyName : PyData → String
  | .none => "NoneType"
  | .bool _ => "bool"
  | .int _ => "int"
  | .str _ => "str"
  | .list _ => "list"
  | .tuple _ => "tuple"
  | .dict _ => "dict"
theorem Da.ty : ∀ {d : PyData} {v : V}, Da K H d v → TyX K H v (.type (tyName d))
  | .none, _, h => by
    obtain rfl := h
    exact .base .non
  | .bool b, _, h => by
    obtain rfl := h
    exact .base (.bl b)
  | .int i, _, h => by
    obtain rfl := h
    exact .base (.int i)
  | .str x, _, h => by
    obtain rfl := h
    exact .base (.str x)
  | .list ds, v, h => by
    obtain ⟨a, xs, rfl, hs, _⟩ := h
    exact tyx_l (.inl (.inl hs))
  | .tuple ds, v, h => by
    obtain ⟨a, xs, rfl, hs, _⟩ := h
    exact tyx_t (.inl (.inl hs))
  | .dict kd, v, h => by
    obtain ⟨a, kvs, rfl, hs⟩ := h
    exact .base (.dK hs)
/-- isinstance by the types' names -/
def isN (T n : String) : Bool := T == n || (T == "int" && n == "bool")
/-- isinstance of data: int, bool, list, tuple, str -/
def isA (T : String) (d : PyData) : Bool := isN T (tyName d)
theorem isN_ok (T : String) (hT : T = "int" ∨ T = "bool" ∨ T = "list" ∨ T = "tuple" ∨ T = "str") (n : String)
    (hn : n = "NoneType" ∨ n = "bool" ∨ n = "int" ∨ n = "str" ∨ n = "list" ∨ n = "tuple" ∨ n = "dict") :
    PySem.W.kitOne K (.type n) (.type T) = some (isN T n) := by
  rcases hT with rfl | rfl | rfl | rfl | rfl <;> rcases hn with rfl | rfl | rfl | rfl | rfl | rfl | rfl <;> exact kit_ty (by decide +kernel)
theorem isA_ok (T : String) (hT : T = "int" ∨ T = "bool" ∨ T = "list" ∨ T = "tuple" ∨ T = "str") (d : PyData) :
    PySem.W.kitOne K (.type (tyName d)) (.type T) = some (isA T d) := isN_ok T hT _ (by cases d <;> simp [tyName])
end

/-! ### rules -/
section
variable {X : Cx}
theorem call_reprD {k : Nat} (hq : Quiet X.A) (hr : Room k X.A) : CallR X (.builtin "repr") (rReprD X.K) := by
  intro pins s σ H xs us Q I r h
  obtain ⟨x, d, rfl, hd, hs, hz, hdp, q⟩ := h
  obtain ⟨u, rfl, rx⟩ := Vals.one r
  obtain ⟨as, rd⟩ := Dp.reads I d x u hd rx
  have nd := dp_noDict d x hd
  have hu : X.A.units + 200 < cLine := by have := hr.un; omega
  have fin : ∀ h' u' tk, (∀ b o, s.heap.get? b = some o → h'.get? b = some o) →
      EP X pins σ Q (.str d.shown u') { s with heap := h', toks := tk } :=
    fun h' u' tk hk => ⟨.str d.shown, H, I.kept hk, ⟨_, rfl⟩, q⟩
  cases d with
  | none =>
    cases hd
    obtain rfl : u = Value.none := rx
    exact PySem.P.repr_of_none (fin s.heap _ _ fun _ _ e => e)
  | bool b =>
    cases hd
    obtain rfl : u = Value.bool b := rx
    exact PySem.P.repr_of_bool (fin s.heap _ _ fun _ _ e => e)
  | int i =>
    cases hd
    obtain ⟨t, rfl⟩ := rx
    exact PySem.P.repr_of_int (by simpa only [PyData.showable, decide_eq_true_eq] using hs) (fin s.heap _ _ fun _ _ e => e)
  | str z =>
    cases hd
    obtain ⟨t, rfl⟩ := rx
    exact PySem.P.repr_of_str (fin s.heap _ _ fun _ _ e => e) (by simpa only [PyData.shown] using hz)
  | list ds =>
    cases hd with
    | lst h1 h2 =>
      cases rx
      exact repr_of_reads' rd hs (PyData.noDict_hsm nd) hq (by omega) (fun _ _ e => e) fin hz
  | tuple ds =>
    cases hd with
    | tup h1 h2 =>
      cases rx
      exact repr_of_reads' rd hs (PyData.noDict_hsm nd) hq (by omega) (fun _ _ e => e) fin hz
  | dict kd => cases hd

/-- a ** b of great numbers -/
def CPowW (i j : Int) : Prop := 0 ≤ j ∧ j ≤ 100 ∧ i.natAbs < 2 ^ 10000
theorem op_powW : OpR X (binaryOp .Pow) (rI CPowW fun i j => .int (i ^ j.toNat)) := opI fun i j t u s A E hc q => by
  obtain ⟨h0, h8, hi⟩ := hc
  refine pow_int h0 ?_ q
  have hb : Builtin.Int.intBits i ≤ 10000 := by
    unfold Builtin.Int.intBits
    split
    · omega
    · rename_i hn
      have hne : i.natAbs ≠ 0 := by
        intro e
        exact hn (by simpa using e)
      have := (Nat.log2_lt hne).mpr hi
      omega
  have h1 : (Builtin.Int.intBits i : Int) * j ≤ 10000 * 100 := Int.mul_le_mul (by omega) h8 h0 (by omega)
  omega
end
end Nw
namespace Nw
open PySem PySem.Spec PyProof.Rows L2
section
variable {P : Program} {w : World} {K : PySem.W.Frag} {mg : Str → Option Value} {base : Heap}
/-- a def that lets no exception out -/
theorem okG0 {x qual : Str} {st : Stmt} {f : Addr} {fd : FuncData} {N ps : List Str} {k : Nat} {sp : Sp}
    (F : Fun K x qual st f fd) (S : FnScope N ps (defScope st)) (len : ∀ vs H Q E, sp vs H Q E → vs.length = ps.length)
    (hbody : ∀ (cdv : Value) (A : Around) (outer : List Env) (s : Shared) (H : Hp) (vs : List V) (Q : VK) (E : XK),
      Room k (A.deeper (envOfC qual (defScope st) s.heap.objs.size f cdv)) →
      Quiet (A.deeper (envOfC qual (defScope st) s.heap.objs.size f cdv)) → sp vs H Q E →
      ∃ t, PSs (cxOf CX0 P w K mg base N qual (defScope st) f cdv A outer s H E).nox (defBody st) t ∧
        t { nx := fun _ H' => Q .non H', rt := Q } (start N vs) H) : FnG P w K mg base CX0 (k + 1) f fd ps sp :=
  okG F S len fun cdv A outer s H vs Q E hr hq hsp => by
    obtain ⟨t, h, q⟩ := hbody cdv A outer s H vs Q E hr hq hsp
    exact ⟨t, h.nox, q⟩
end
theorem pe_globI {X : Cx} {x : Str} {n : Int} {pos : Pos} (hm : ∃ t, X.mg x = some (.int n t)) (hg : Gl X x := by rfl)
    (hd : (x == ("__debug__" : Str)) = false := by decide) : PE X (.Name x pos) (tC (.int n)) := by
  obtain ⟨t, h⟩ := hm
  exact pe_glob hg h ⟨t, rfl⟩ hd
theorem pe_bty {X : Cx} {x : Str} {n : String} {pos : Pos} (hm : X.mg x = none) (hv : bootBuiltins x = some (.type n)) (hg : Gl X x := by rfl)
    (hn : x ≠ "__name__" := by decide) (hd : (x == ("__debug__" : Str)) = false := by decide) : PE X (.Name x pos) (tC (.ty n)) :=
  pe_bltn hg hm hv rfl hn hd
theorem bt_isinstance : bootBuiltins "isinstance" = some (.builtin "isinstance") := by decide +kernel
theorem bt_len : bootBuiltins "len" = some (.builtin "len") := by decide +kernel
theorem bt_all : bootBuiltins "all" = some (.builtin "all") := by decide +kernel
theorem bt_any : bootBuiltins "any" = some (.builtin "any") := by decide +kernel
theorem bt_sum : bootBuiltins "sum" = some (.builtin "sum") := by decide +kernel
theorem bt_repr : bootBuiltins "repr" = some (.builtin "repr") := by decide +kernel
theorem bt_abs : bootBuiltins "abs" = some (.builtin "abs") := by decide +kernel
theorem bt_max : bootBuiltins "max" = some (.builtin "max") := by decide +kernel
theorem bt_min : bootBuiltins "min" = some (.builtin "min") := by decide +kernel
theorem bt_sorted : bootBuiltins "sorted" = some (.builtin "sorted") := by decide +kernel
theorem bt_int : bootBuiltins "int" = some (.type "int") := by decide +kernel
theorem bt_bool : bootBuiltins "bool" = some (.type "bool") := by decide +kernel
theorem bt_str : bootBuiltins "str" = some (.type "str") := by decide +kernel
theorem bt_list : bootBuiltins "list" = some (.type "list") := by decide +kernel
theorem bt_tuple : bootBuiltins "tuple" = some (.type "tuple") := by decide +kernel
theorem bt_set : bootBuiltins "set" = some (.type "set") := by decide +kernel
/-- isinstance(x, T) of data -/
theorem isi_da {K : PySem.W.Frag} {H : Hp} {d : PyData} {v : V} {T : String} {Q : VK} (h : Da K H d v)
    (hT : T = "int" ∨ T = "bool" ∨ T = "list" ∨ T = "tuple" ∨ T = "str") (q : Q (.bl (isA T d)) H) : rIsi K [v, .ty T] H Q :=
  ⟨v, .ty T, _, _, _, rfl, .ty T, h.ty, isA_ok T hT d, q⟩
theorem start_eq {N : List Str} {vs : List V} : start N vs = vs.map some ++ List.replicate (N.length - vs.length) none := rfl
end Nw
/-! Walks of anything by one word. -/
namespace Nw
open PySem PySem.Spec PyProof.Rows L2

/-- what a comprehension's reading asks, D its new list -/
abbrev LcW (J : It) (g : TG) (tt : TT) (te : TE) (vs : List Nat) (σ : L2.St) (D : Addr) (H1 : Hp) (Qd : Hp → Prop) : Prop :=
  ∃ W : Nat → Nat → Hp → Prop, (∃ m, W 0 m (upd H1 D (.lst []))) ∧ ∀ i m H, W i m H →
    (J.stop i H ∧ Qd H) ∨ (J.go i H ∧ ∃ Nx : Hp → Prop, (∀ H', Nx H' → ∃ m', m' < m ∧ W (i + 1) m' H') ∧
      ∀ x H', J.yld i H x H' → g x (wipe σ vs) H' fun σ2 H2 => wipe σ2 vs = wipe σ vs ∧ tt σ2 H2 fun b H3 =>
        if b = true then te σ2 H3 fun y H4 => ∃ acc, H4 D = some (.lst acc) ∧ acc.length < sizeLine ∧
          Nx (upd H4 D (.lst (acc ++ [y]))) else Nx H3)
theorem lc_by {J : It} {g : TG} {tt : TT} {te : TE} {vs : List Nat} {σ : L2.St} {D : Addr} {H1 : Hp} {Qd : Hp → Prop}
    (n : Nat) (Pv : Nat → Hp → Prop) (h0 : Pv 0 (upd H1 D (.lst [])))
    (hgo : ∀ i H, i < n → Pv i H → J.go i H) (hst : ∀ H, Pv n H → J.stop n H)
    (hs : ∀ i H x H', i < n → Pv i H → J.yld i H x H' → g x (wipe σ vs) H' fun σ2 H2 => wipe σ2 vs = wipe σ vs ∧
      tt σ2 H2 fun b H3 => if b = true then te σ2 H3 fun y H4 => ∃ acc, H4 D = some (.lst acc) ∧ acc.length < sizeLine ∧
        Pv (i + 1) (upd H4 D (.lst (acc ++ [y]))) else Pv (i + 1) H3)
    (hd : ∀ H, Pv n H → Qd H) : LcW J g tt te vs σ D H1 Qd := by
  refine ⟨fun i m H => m = n - i ∧ i ≤ n ∧ Pv i H, ⟨n, by omega, Nat.zero_le _, h0⟩, ?_⟩
  rintro i m H ⟨rfl, hi, p⟩
  by_cases hlt : i < n
  · refine .inr ⟨hgo i H hlt p, Pv (i + 1), fun H' p' => ⟨n - (i + 1), by omega, rfl, hlt, p'⟩, ?_⟩
    intro x H' y
    exact hs i H x H' hlt p y
  · have e : i = n := by omega
    subst e
    exact .inl ⟨hst H p, hd H p⟩
theorem for_by {J : It} {g : TG} {tb : TS} {D : Ends} {σ : L2.St} {H1 : Hp} (n : Nat) (Pv : Nat → L2.St → Hp → Prop) (h0 : Pv 0 σ H1)
    (hgo : ∀ i σ H, i < n → Pv i σ H → J.go i H) (hst : ∀ σ H, Pv n σ H → J.stop n H)
    (hs : ∀ i σ H x H', i < n → Pv i σ H → J.yld i H x H' →
      g x σ H' fun σ2 H2 => tb { D with nx := Pv (i + 1), ct := Pv (i + 1), bk := D.nx } σ2 H2)
    (hd : ∀ σ H, Pv n σ H → D.nx σ H) :
    ∃ W : Nat → Nat → L2.St → Hp → Prop, (∃ m, W 0 m σ H1) ∧ ∀ i m σ H, W i m σ H →
      (J.stop i H ∧ D.nx σ H) ∨ (J.go i H ∧ ∃ N : L2.St → Hp → Prop, (∀ σ' H', N σ' H' → ∃ m', m' < m ∧ W (i + 1) m' σ' H') ∧
        ∀ x H', J.yld i H x H' → g x σ H' fun σ2 H2 => tb { D with nx := N, ct := N, bk := D.nx } σ2 H2) := by
  refine ⟨fun i m σ H => m = n - i ∧ i ≤ n ∧ Pv i σ H, ⟨n, by omega, Nat.zero_le _, h0⟩, ?_⟩
  rintro i m σ H ⟨rfl, hi, p⟩
  by_cases hlt : i < n
  · refine .inr ⟨hgo i σ H hlt p, Pv (i + 1), fun σ' H' p' => ⟨n - (i + 1), by omega, rfl, hlt, p'⟩, ?_⟩
    intro x H' y
    exact hs i σ H x H' hlt p y
  · have e : i = n := by omega
    subst e
    exact .inl ⟨hst σ H p, hd σ H p⟩

/-- what is known but at D stays known -/
abbrev ExD (D : Addr) (H H' : Hp) : Prop := ∀ b o, b ≠ D → H b = some o → H' b = some o
theorem Ex.d {D : Addr} {H H' : Hp} (e : Ex H H') : ExD D H H' := fun b o _ h => e b o h
theorem ExD.put {D : Addr} {H : Hp} {o : HO} : ExD D H (upd H D o) := fun b u n h => by
  rw [upd_ne n]
  exact h
theorem ExD.tr {D : Addr} {H H1 H2 : Hp} (a : ExD D H H1) (b : ExD D H1 H2) : ExD D H H2 := fun c o n h => b c o n (a c o n h)
/-- item by item over the turns that give -/
def Given (n : Nat) (f : Nat → Bool) (R : Nat → V → Prop) (ys : List V) : Prop := Paired R ((List.range n).filter f) ys
theorem Given.nil {f : Nat → Bool} {R : Nat → V → Prop} : Given 0 f R [] := Paired.nil
theorem paired_app {α β : Type} {F : α → β → Prop} : ∀ {as : List α} {bs : List β} {as' : List α} {bs' : List β}, Paired F as bs → Paired F as' bs' → Paired F (as ++ as') (bs ++ bs')
  | _, _, _, _, .nil, h => h
  | _, _, _, _, .cons r t, h => .cons r (paired_app t h)
theorem Given.yes {n : Nat} {f : Nat → Bool} {R : Nat → V → Prop} {ys : List V} {y : V} (h : Given n f R ys) (hf : f n = true) (r : R n y) : Given (n + 1) f R (ys ++ [y]) := by
  unfold Given
  rw [List.range_succ, List.filter_append, List.filter_cons, if_pos hf]
  exact paired_app h (Paired.cons r Paired.nil)
theorem Given.no {n : Nat} {f : Nat → Bool} {R : Nat → V → Prop} {ys : List V} (h : Given n f R ys) (hf : f n = false) : Given (n + 1) f R ys := by
  unfold Given
  rw [List.range_succ, List.filter_append, List.filter_cons, if_neg (by rw [hf]; decide)]
  rw [List.filter_nil, List.append_nil]
  exact h
theorem paired_imp {α β : Type} {F G : α → β → Prop} (h : ∀ a b, F a b → G a b) : ∀ {as : List α} {bs : List β}, Paired F as bs → Paired G as bs
  | _, _, .nil => .nil
  | _, _, .cons r t => .cons (h _ _ r) (paired_imp h t)
theorem Given.imp {n : Nat} {f : Nat → Bool} {R S : Nat → V → Prop} {ys : List V} (g : Given n f R ys) (h : ∀ i y, R i y → S i y) : Given n f S ys := paired_imp h g
theorem Given.len {n : Nat} {f : Nat → Bool} {R : Nat → V → Prop} {ys : List V} (g : Given n f R ys) : ys.length ≤ n := by
  have h := Paired.length g
  have h2 := List.length_filter_le f (List.range n)
  rw [List.length_range] at h2
  omega
theorem paired_eq {α β : Type} {v : α → β} : ∀ {as : List α} {bs : List β}, Paired (fun a b => b = v a) as bs → bs = as.map v
  | _, _, .nil => rfl
  | _, _, .cons r t => by
    rw [List.map_cons, ← r, ← paired_eq t]
/-- what each turn gives is told outright -/
theorem Given.eq {n : Nat} {f : Nat → Bool} {v : Nat → V} {ys : List V} (g : Given n f (fun i y => y = v i) ys) : ys = ((List.range n).filter f).map v := paired_eq g
theorem filter_true {α : Type} (l : List α) : l.filter (fun _ => true) = l := List.filter_eq_self.mpr fun _ _ => rfl
theorem Given.all {n : Nat} {v : Nat → V} {ys : List V} (g : Given n (fun _ => true) (fun i y => y = v i) ys) : ys = (List.range n).map v := by
  have h := g.eq
  rw [filter_true] at h
  exact h

/-- a comprehension that changes nothing that was there: f which turns give, R what (not hanging on D) -/
theorem lc_ev {J : It} {g : TG} {tt : TT} {te : TE} {vs : List Nat} {σ : L2.St} {D : Addr} {H1 : Hp} {Qd : Hp → Prop}
    (n : Nat) (f : Nat → Bool) (R : Nat → V → Hp → Prop) (hz : n ≤ 100000) (hD : H1 D = none)
    (mono : ∀ i y H H', ExD D H H' → R i y H → R i y H')
    (hgo : ∀ i H, i < n → Ex H1 H → J.go i H) (hst : ∀ H, Ex H1 H → J.stop n H)
    (hs : ∀ i H x H', i < n → Ex H1 H → (∃ acc, H D = some (.lst acc)) → J.yld i H x H' → ∀ (Q : V → Hp → Prop) (N : Hp → Prop),
      (f i = true → ∀ y H4, Ex H H4 → R i y H4 → Q y H4) → (f i = false → ∀ H4, Ex H H4 → N H4) →
      g x (wipe σ vs) H' fun σ2 H2 => wipe σ2 vs = wipe σ vs ∧ tt σ2 H2 fun b H3 => if b = true then te σ2 H3 Q else N H3)
    (hd : ∀ ys H, Ex H1 H → H D = some (.lst ys) → Given n f (fun i y => R i y H) ys → Qd H) : LcW J g tt te vs σ D H1 Qd := by
  refine lc_by n (fun i H => Ex H1 H ∧ ∃ ys, H D = some (.lst ys) ∧ Given i f (fun i y => R i y H) ys)
    ⟨Ex.nw hD, [], upd_same, .nil⟩ (fun i H hi p => hgo i H hi p.1) (fun H p => hst H p.1) ?_ ?_
  · rintro i H x H' hi ⟨e, ys, hy, gv⟩ y
    refine hs i H x H' hi e ⟨_, hy⟩ y _ _ ?_ ?_
    · intro hf z H4 e4 r
      refine ⟨ys, e4 D _ hy, by have := gv.len; have e1 : sizeLine = 16777216 := sizeLine_eq; omega, (e.tr e4).wr hD, _, upd_same, ?_⟩
      exact (gv.imp fun j y r' => mono j y _ _ (e4.d.tr ExD.put) r').yes hf (mono i z _ _ ExD.put r)
    · intro hf H4 e4
      exact ⟨e.tr e4, ys, e4 D _ hy, (gv.imp fun j y r' => mono j y _ _ e4.d r').no hf⟩
  · rintro H ⟨e, ys, hy, gv⟩
    exact hd ys H e hy gv
/-- turns over a list that stands -/
theorem itl_go {K : PySem.W.Frag} {H H' : Hp} {a : Addr} {xs : List V} (h : SqL K H a xs) (e : Ex H H') {i : Nat} (hi : i < xs.length) : (Itl K a).go i H' :=
  ⟨xs, xs[i], e.l h, List.getElem?_eq_getElem hi⟩
theorem itl_stop {K : PySem.W.Frag} {H H' : Hp} {a : Addr} {xs : List V} (h : SqL K H a xs) (e : Ex H H') : (Itl K a).stop xs.length H' :=
  ⟨xs, e.l h, Nat.le_refl _⟩
theorem itl_yld {K : PySem.W.Frag} {H H' H'' : Hp} {a : Addr} {xs : List V} {i : Nat} {x : V} (y : (Itl K a).yld i H' x H'') (h : SqL K H a xs) (e : Ex H H') : H'' = H' ∧ xs[i]? = some x :=
  ⟨y.1, y.2 xs (e.l h)⟩
theorem itz_go {K : PySem.W.Frag} {H H' : Hp} {a b : Addr} {xs ys : List V} (h : SqL K H a xs) (g : SqL K H b ys) (e : Ex H H') {i : Nat} (hi : i < min xs.length ys.length) : (Itz K a b).go i H' :=
  ⟨xs, ys, xs[i]'(by omega), ys[i]'(by omega), e.l h, e.l g, List.getElem?_eq_getElem _, List.getElem?_eq_getElem _⟩
theorem itz_stop {K : PySem.W.Frag} {H H' : Hp} {a b : Addr} {xs ys : List V} (h : SqL K H a xs) (g : SqL K H b ys) (e : Ex H H') : (Itz K a b).stop (min xs.length ys.length) H' :=
  ⟨xs, ys, e.l h, e.l g, by omega⟩
theorem ite_go {K : PySem.W.Frag} {H H' : Hp} {a : Addr} {xs : List V} (h : SqL K H a xs) (e : Ex H H') {i : Nat} (hi : i < xs.length) : (Ite K a).go i H' :=
  ⟨xs, xs[i], e.l h, List.getElem?_eq_getElem hi⟩
theorem ite_stop {K : PySem.W.Frag} {H H' : Hp} {a : Addr} {xs : List V} (h : SqL K H a xs) (e : Ex H H') : (Ite K a).stop xs.length H' :=
  ⟨xs, e.l h, Nat.le_refl _⟩
theorem cut1 (xs : List V) : cutV xs (some 1) none = xs.drop 1 := by
  unfold cutV
  rw [show HT.sIx xs.length 0 (some 1) = min 1 xs.length from HT.sIx_nat xs.length 0 1, HT.sIx_none]
  cases xs with
  | nil => rfl
  | cons x r =>
    have e : min 1 (x :: r).length = 1 := by
      rw [List.length_cons]
      omega
    rw [e]
    show List.take ((x :: r).length - 1) r = r
    rw [List.length_cons, Nat.add_sub_cancel]
    exact List.take_length
end Nw
namespace Nw
open PySem PySem.Spec PyProof.Rows L2
/-- the inner loop of a comprehension of two clauses -/
abbrev LcI (J1 : It) (g1 : TG) (tt1 : TT) (te : TE) (vs1 : List Nat) (σ2 : L2.St) (D : Addr) (H4 : Hp) (Nx : Hp → Prop) : Prop :=
  ∃ W1 : Nat → Nat → Hp → Prop, (∃ m, W1 0 m H4) ∧ ∀ j k H, W1 j k H →
    (J1.stop j H ∧ Nx H) ∨ (J1.go j H ∧ ∃ Nx1 : Hp → Prop, (∀ H', Nx1 H' → ∃ k', k' < k ∧ W1 (j + 1) k' H') ∧
      ∀ x H', J1.yld j H x H' → g1 x (wipe σ2 vs1) H' fun σ3 H5 => wipe σ3 vs1 = wipe σ2 vs1 ∧ tt1 σ3 H5 fun b H6 =>
        if b = true then te σ3 H6 fun y H7 => ∃ acc, H7 D = some (.lst acc) ∧ acc.length < sizeLine ∧
          Nx1 (upd H7 D (.lst (acc ++ [y]))) else Nx1 H6)
theorem lci_by {J1 : It} {g1 : TG} {tt1 : TT} {te : TE} {vs1 : List Nat} {σ2 : L2.St} {D : Addr} {H4 : Hp} {Nx : Hp → Prop}
    (n : Nat) (Pv : Nat → Hp → Prop) (h0 : Pv 0 H4) (hgo : ∀ i H, i < n → Pv i H → J1.go i H) (hst : ∀ H, Pv n H → J1.stop n H)
    (hs : ∀ i H x H', i < n → Pv i H → J1.yld i H x H' → g1 x (wipe σ2 vs1) H' fun σ3 H5 => wipe σ3 vs1 = wipe σ2 vs1 ∧
      tt1 σ3 H5 fun b H6 => if b = true then te σ3 H6 fun y H7 => ∃ acc, H7 D = some (.lst acc) ∧ acc.length < sizeLine ∧
        Pv (i + 1) (upd H7 D (.lst (acc ++ [y]))) else Pv (i + 1) H6)
    (hd : ∀ H, Pv n H → Nx H) : LcI J1 g1 tt1 te vs1 σ2 D H4 Nx := by
  refine ⟨fun i m H => m = n - i ∧ i ≤ n ∧ Pv i H, ⟨n, by omega, Nat.zero_le _, h0⟩, ?_⟩
  rintro i m H ⟨rfl, hi, p⟩
  by_cases hlt : i < n
  · refine .inr ⟨hgo i H hlt p, Pv (i + 1), fun H' p' => ⟨n - (i + 1), by omega, rfl, hlt, p'⟩, ?_⟩
    intro x H' y
    exact hs i H x H' hlt p y
  · have e : i = n := by omega
    subst e
    exact .inl ⟨hst H p, hd H p⟩
theorem lc2_by {J : It} {g : TG} {tt : TT} {wi1 : TI} {g1 : TG} {tt1 : TT} {te : TE} {vs vs1 : List Nat} {σ : L2.St} {D : Addr} {H1 : Hp} {Qd : Hp → Prop}
    (n : Nat) (Pv : Nat → Hp → Prop) (h0 : Pv 0 (upd H1 D (.lst [])))
    (hgo : ∀ i H, i < n → Pv i H → J.go i H) (hst : ∀ H, Pv n H → J.stop n H)
    (hs : ∀ i H x H', i < n → Pv i H → J.yld i H x H' → g x (wipe σ vs) H' fun σ2 H2 => wipe σ2 vs = wipe σ vs ∧
      tt σ2 H2 fun b H3 => if b = true then wi1 σ2 H3 fun J1 H4 => LcI J1 g1 tt1 te vs1 σ2 D H4 (Pv (i + 1)) else Pv (i + 1) H3)
    (hd : ∀ H, Pv n H → Qd H) :
    ∃ W : Nat → Nat → Hp → Prop, (∃ m, W 0 m (upd H1 D (.lst []))) ∧ ∀ i m H, W i m H →
      (J.stop i H ∧ Qd H) ∨ (J.go i H ∧ ∃ Nx : Hp → Prop, (∀ H', Nx H' → ∃ m', m' < m ∧ W (i + 1) m' H') ∧ ∀ x H', J.yld i H x H' →
        g x (wipe σ vs) H' fun σ2 H2 => wipe σ2 vs = wipe σ vs ∧ tt σ2 H2 fun b H3 =>
          if b = true then wi1 σ2 H3 fun J1 H4 => LcI J1 g1 tt1 te vs1 σ2 D H4 Nx else Nx H3) := by
  refine ⟨fun i m H => m = n - i ∧ i ≤ n ∧ Pv i H, ⟨n, by omega, Nat.zero_le _, h0⟩, ?_⟩
  rintro i m H ⟨rfl, hi, p⟩
  by_cases hlt : i < n
  · refine .inr ⟨hgo i H hlt p, Pv (i + 1), fun H' p' => ⟨n - (i + 1), by omega, rfl, hlt, p'⟩, ?_⟩
    intro x H' y
    exact hs i H x H' hlt p y
  · have e : i = n := by omega
    subst e
    exact .inl ⟨hst H p, hd H p⟩
end Nw
/-! Rules told over the written part by its own name, so that a comprehension's block may use them. -/
namespace Nw
open PySem PySem.Spec PyProof.Rows L2
section
variable {X : Cx} {K : PySem.W.Frag}
theorem op_eqDk (K : PySem.W.Frag) (hu : X.A.units + 64 < cLine) (hK : X.K = K := by rfl) : OpR X (compareOp .Eq) (rEqD K) := by
  subst hK
  exact op_eqD hu
theorem op_neDk (K : PySem.W.Frag) (hu : X.A.units + 64 < cLine) (hK : X.K = K := by rfl) : OpR X (compareOp .NotEq) (rNeD K) := by
  subst hK
  exact op_neD hu
theorem op_inK (K : PySem.W.Frag) (hK : X.K = K := by rfl) : OpR X (compareOp .In) (rIn K false) := by
  subst hK
  exact op_in_seq
theorem op_notInK (K : PySem.W.Frag) (hK : X.K = K := by rfl) : OpR X (compareOp .NotIn) (rIn K true) := by
  subst hK
  exact op_notIn_seq
theorem op_inDk (K : PySem.W.Frag) {k : Nat} (hr : Room k X.A) (hK : X.K = K := by rfl) : OpR X (compareOp .In) (rInD K) := by
  subst hK
  exact op_inD (by have := hr.un; omega)
theorem op_notInDk (K : PySem.W.Frag) {k : Nat} (hr : Room k X.A) (hK : X.K = K := by rfl) : OpR X (compareOp .NotIn) (rNotInD K) := by
  subst hK
  exact op_notInD (by have := hr.un; omega)
/-- < of ints, of tuples of ints -/
def rLtA (K : PySem.W.Frag) : R2 := fun x y H Q => (∃ i j, x = .int i ∧ y = .int j ∧ Q (.bl (decide (i < j))) H) ∨ rLtT K x y H Q
theorem op_ltA (K : PySem.W.Frag) (hu : X.A.units < cLine) (hK : X.K = K := by rfl) : OpR X (compareOp .Lt) (rLtA K) := by
  subst hK
  intro pins s σ H x y v u Q I rx ry q
  rcases q with q | q
  · exact op_lt pins s σ H x y v u Q I rx ry q
  · exact op_ltT hu pins s σ H x y v u Q I rx ry q
theorem op_catTk (K : PySem.W.Frag) (hK : X.K = K := by rfl) : OpR X (binaryOp .Add) (rCatT K) := by
  subst hK
  exact op_catT
theorem ix_listK (K : PySem.W.Frag) (hK : X.K = K := by rfl) : IxR X (rIxL K) := by
  subst hK
  exact ix_list
theorem ix_tupK (K : PySem.W.Frag) (hK : X.K = K := by rfl) : IxR X (rIxT K) := by
  subst hK
  exact ix_tup
theorem ix_seqK (K : PySem.W.Frag) (hK : X.K = K := by rfl) : IxR X (rIx K) := by
  subst hK
  exact ix_seq
theorem sl_listK (K : PySem.W.Frag) (hK : X.K = K := by rfl) : SlR X (rSlL K) := by
  subst hK
  exact sl_list
theorem sl_tupK (K : PySem.W.Frag) (hK : X.K = K := by rfl) : SlR X (rSlT K) := by
  subst hK
  exact sl_tup
def rLenQ (K : PySem.W.Frag) : List V → Hp → VK → Prop := fun xs H Q => ∃ p ys, xs = [.ref p] ∧ (SqL K H p ys ∨ SqT K H p ys) ∧ Q (.int ys.length) H
theorem call_lenK (K : PySem.W.Frag) (hK : X.K = K := by rfl) : CallR X (.builtin "len") (rLenQ K) := by
  subst hK
  exact call_len_seq
def rListQ (K : PySem.W.Frag) : List V → Hp → VK → Prop := fun xs H Q => ∃ p ys, xs = [.ref p] ∧ (SqL K H p ys ∨ SqT K H p ys) ∧ ∀ l, H l = none → Q (.ref l) (upd H l (.lst ys))
theorem call_listK (K : PySem.W.Frag) (hK : X.K = K := by rfl) : CallR X (.type "list") (rListQ K) := by
  subst hK
  exact call_list_of
theorem call_reprK (K : PySem.W.Frag) {k : Nat} (hq : Quiet X.A) (hr : Room k X.A) (hK : X.K = K := by rfl) : CallR X (.builtin "repr") (rReprD K) := by
  subst hK
  exact call_reprD hq hr
theorem call_isiK (K : PySem.W.Frag) (hK : X.K = K := by rfl) : CallR X (.builtin "isinstance") (rIsi K) := by
  subst hK
  exact call_isi
theorem cr_allK (K : PySem.W.Frag) (hc : X.calm = true) (hK : X.K = K := by rfl) : CallR X (.builtin "all") (rAll K) := by
  subst hK
  exact cr_all hc
theorem cr_anyK (K : PySem.W.Frag) (hc : X.calm = true) (hK : X.K = K := by rfl) : CallR X (.builtin "any") (rAny K) := by
  subst hK
  exact cr_any hc
theorem cr_sumK (K : PySem.W.Frag) (hc : X.calm = true) (hK : X.K = K := by rfl) : CallR X (.builtin "sum") (rSum K) := by
  subst hK
  exact cr_sum hc
theorem cr_maxK (K : PySem.W.Frag) (hc : X.calm = true) (hK : X.K = K := by rfl) : CallR X (.builtin "max") (rMax K) := by
  subst hK
  exact cr_max hc
theorem cr_minK' (K : PySem.W.Frag) (hc : X.calm = true) (hK : X.K = K := by rfl) : CallR X (.builtin "min") (rMin K) := by
  subst hK
  exact cr_min hc
theorem cr_sortedIk (K : PySem.W.Frag) (hK : X.K = K := by rfl) : CallR X (.builtin "sorted") (rSortedI K) := by
  subst hK
  exact cr_sortedI
theorem cr_sortedPOk (K : PySem.W.Frag) (hK : X.K = K := by rfl) : CallR X (.builtin "sorted") (rSortedPO K) := by
  subst hK
  exact cr_sortedPO
theorem pi_listK (K : PySem.W.Frag) {tg l : Expr} {tl : TE} (hl : PE X l tl) (hK : X.K = K := by rfl) : PI X tg l (iList K tl) := by
  subst hK
  exact pi_list hl
theorem pi_tupK (K : PySem.W.Frag) {tg l : Expr} {tl : TE} (hl : PE X l tl) (hK : X.K = K := by rfl) : PI X tg l (iTup K tl) := by
  subst hK
  exact pi_tup hl
theorem pg_tupK (K : PySem.W.Frag) {es : List Expr} {k : Nat} {pos : Pos} {t : TGs} {n : Nat} (hc : X.calm = true) (h : PGs X es t)
    (hn : (assignEach es X.env).length = n := by rfl)
    (hst : (assignEach es X.env).findIdx? (·.1) = none := by rfl) (hK : X.K = K := by rfl) : PG X (.Tuple es k pos) (gTup K n t) := by
  subst hK
  exact pg_tup hc h hn hst
end
end Nw
namespace Nw
open PySem PySem.Spec PyProof.Rows L2
theorem mil {n : Nat} (h : n ≤ 1000000) : n ≤ sizeLine := by
  rw [sizeLine_eq]
  omega
theorem mil' {n : Nat} (h : n < 1000000) : n < sizeLine := by
  rw [sizeLine_eq]
  omega
/-- xs + ys, lists that are read -/
def rCatS (K : PySem.W.Frag) : R2 := fun x y H Q => ∃ l b xs zs, x = .ref l ∧ y = .ref b ∧ SqL K H l xs ∧ SqL K H b zs ∧
  xs.length + zs.length ≤ 1000000 ∧ ∀ p, H p = none → Q (.ref p) (upd H p (.lst (xs ++ zs)))
theorem op_catS {X : Cx} (K : PySem.W.Frag) (hK : X.K = K := by rfl) : OpR X (binaryOp .Add) (rCatS K) := by
  subst hK
  intro pins s σ H x y v u Q I rx ry h
  obtain ⟨l, b, xs, zs, rfl, rfl, hH, hB, hz, q⟩ := h
  cases rx
  cases ry
  obtain ⟨its, r, ⟨⟨cls, dd, data, sl⟩, n, e, hc, hd0, hd⟩, _⟩ := I.list hH
  obtain ⟨its2, r2, ⟨⟨cls2, dd2, data2, sl2⟩, n2, e2, hc2, hd02, hd2⟩, _⟩ := I.list hB
  simp only at hc hd hc2 hd2
  subst hc hd hc2 hd2
  have l1 := r.length
  have l2 := r2.length
  have z : xs.length + zs.length ≤ sizeLine := mil hz
  refine concat_meets ⟨_, e, rfl⟩ ⟨_, e2, rfl⟩ noFill_list_add seq_list_add PySem.F.slot_list_add PySem.F.entry_list_add
    (PySem.F.args_list_add_2 _ _) (list_addW l b its.toArray its2.toArray n n2 dd dd2 sl sl2 (by simp only [List.size_toArray]; omega)) ⟨e, e2, ?_⟩
  have ea : its.toArray ++ its2.toArray = (its ++ its2).toArray := by simp
  rw [ea]
  exact ⟨.ref _, _, I.lnew (t' := s.toks) (r.append r2) (by rw [List.length_append]; omega), rfl, q _ I.fresh⟩
end Nw
/-! What the package's looks at values answer, on data. -/
namespace Nw
open PySem PySem.Spec PyProof.Rows L2

def isInt : PyData → Bool
  | .int _ => true
  | _ => false
theorem isInt_eq (d : PyData) : (isA "int" d && !isA "bool" d) = isInt d := by
  cases d <;> first | rfl | decide +kernel
/-- an int from 0 to m - 1 -/
def numB : PyData → Int → Bool
  | .int i, m => decide (0 ≤ i) && decide (i < m)
  | _, _ => false
def tupB : PyData → Int → Int → Bool
  | .tuple [a, b], m, n => numB a m && numB b n
  | _, _, _ => false
def listB : PyData → Int → Bool
  | .list ds, m => ds.all fun d => numB d m
  | _, _ => false
/-- ascending, by an order on the items -/
def ascB {α : Type} (lt : α → α → Bool) : List α → Bool
  | x :: y :: r => lt x y && ascB lt (y :: r)
  | _ => true
def ltIn (x y : Int) : Bool := decide (x < y)
def ltPr (x y : Int × Int) : Bool := HT.lexLt [x.1, x.2] [y.1, y.2]
def dPair (p : Int × Int) : PyData := .tuple [.int p.1, .int p.2]
/-- the ints of a list of ints, the pairs of a list of pairs -/
def intsOf : List PyData → Option (List Int)
  | [] => some []
  | .int i :: r => (intsOf r).map (i :: ·)
  | _ => none
def pairsOf : List PyData → Option (List (Int × Int))
  | [] => some []
  | .tuple [.int i, .int j] :: r => (pairsOf r).map ((i, j) :: ·)
  | _ => none
theorem intsOf_map : ∀ ns : List Int, intsOf (ns.map PyData.int) = some ns
  | [] => rfl
  | n :: ns => by
    simp only [List.map_cons, intsOf, intsOf_map ns, Option.map_some]
theorem pairsOf_map : ∀ ps : List (Int × Int), pairsOf (ps.map dPair) = some ps
  | [] => rfl
  | (a, b) :: ps => by
    simp only [List.map_cons, dPair, pairsOf, pairsOf_map ps, Option.map_some]
theorem ints_of_all {m : Int} : ∀ {ds : List PyData}, (ds.all fun d => numB d m) = true → ∃ ns : List Int, ds = ns.map PyData.int ∧ ∀ n ∈ ns, 0 ≤ n ∧ n < m
  | [], _ => ⟨[], rfl, fun _ h => nomatch h⟩
  | d :: ds, h => by
    simp only [List.all_cons, Bool.and_eq_true] at h
    obtain ⟨ns, rfl, hn⟩ := ints_of_all h.2
    cases d with
    | int i =>
      have h1 := h.1
      simp only [numB, Bool.and_eq_true, decide_eq_true_eq] at h1
      refine ⟨i :: ns, rfl, ?_⟩
      intro n hm
      rcases List.mem_cons.mp hm with rfl | hm
      · exact h1
      · exact hn n hm
    | _ =>
      have h1 := h.1
      simp [numB] at h1
theorem numB_inv {d : PyData} {m : Int} (h : numB d m = true) : ∃ i, d = .int i ∧ 0 ≤ i ∧ i < m := by
  cases d with
  | int i =>
    simp only [numB, Bool.and_eq_true, decide_eq_true_eq] at h
    exact ⟨i, rfl, h⟩
  | _ => simp [numB] at h
theorem tupB_inv {d : PyData} {m k : Int} (h : tupB d m k = true) : ∃ i j, d = dPair (i, j) ∧ (0 ≤ i ∧ i < m) ∧ (0 ≤ j ∧ j < k) := by
  match d, h with
  | .tuple [a, b], h =>
    simp only [tupB, Bool.and_eq_true] at h
    obtain ⟨i, rfl, hi⟩ := numB_inv h.1
    obtain ⟨j, rfl, hj⟩ := numB_inv h.2
    exact ⟨i, j, rfl, hi, hj⟩
theorem pairs_of_all {m k : Int} : ∀ {ds : List PyData}, (ds.all fun d => tupB d m k) = true →
    ∃ ps : List (Int × Int), ds = ps.map dPair ∧ ∀ p ∈ ps, (0 ≤ p.1 ∧ p.1 < m) ∧ (0 ≤ p.2 ∧ p.2 < k)
  | [], _ => ⟨[], rfl, fun _ h => nomatch h⟩
  | d :: ds, h => by
    simp only [List.all_cons, Bool.and_eq_true] at h
    obtain ⟨ps, rfl, hn⟩ := pairs_of_all h.2
    obtain ⟨i, j, rfl, hi, hj⟩ := tupB_inv h.1
    refine ⟨(i, j) :: ps, rfl, ?_⟩
    intro p hp
    rcases List.mem_cons.mp hp with rfl | hp
    · exact ⟨hi, hj⟩
    · exact hn p hp
def tuplesB : PyData → Int → Int → Bool
  | .list ds, m, n => (ds.all fun d => tupB d m n) && (match pairsOf ds with | some ps => ascB ltPr ps | none => false)
  | _, _, _ => false
def targetsB : PyData → Int → Bool
  | .list ds, m => (ds.all fun d => numB d m) && (decide (0 < ds.length) && (match intsOf ds with | some ns => ascB ltIn ns | none => false))
  | _, _ => false
def nudgesB : PyData → Int → Bool
  | .list ds, m => decide (ds.length ≤ 8) && ds.all fun d => targetsB d m
  | _, _ => false
def webB : PyData → Bool
  | .tuple [.int n, ps, ns] => (decide (1 ≤ n) && decide (n ≤ 20)) && (tuplesB ps n n && nudgesB ns n)
  | _ => false
/-- ascending, turn by turn -/
def ascAt {α : Type} (lt : α → α → Bool) (xs : List α) (i : Nat) : Bool :=
  match xs[i]?, xs[i + 1]? with
  | some x, some y => lt x y
  | _, _ => true
theorem ascB_range {α : Type} (lt : α → α → Bool) : ∀ xs : List α, ((List.range (xs.length - 1)).map fun i => ascAt lt xs i).all id = ascB lt xs
  | [] => rfl
  | [x] => rfl
  | x :: y :: r => by
    have ih := ascB_range lt (y :: r)
    have e : (x :: y :: r).length - 1 = ((y :: r).length - 1) + 1 := by
      simp only [List.length_cons]
      omega
    rw [e, List.range_succ_eq_map, List.map_cons, List.all_cons, List.map_map]
    show (lt x y && _) = (lt x y && ascB lt (y :: r))
    rw [← ih]
    rfl
theorem all_range_get {α : Type} (p : α → Bool) (d : α) : ∀ xs : List α, ((List.range xs.length).map fun i => p (xs.getD i d)).all id = xs.all p
  | [] => rfl
  | x :: xs => by
    rw [List.length_cons, List.range_succ_eq_map, List.map_cons, List.all_cons, List.map_map, List.all_cons]
    show (p x && _) = (p x && xs.all p)
    rw [← all_range_get p d xs]
    rfl
theorem given_bl {n : Nat} {f : Nat → Bool} : ((List.range n).map fun i => V.bl (f i)) = ((List.range n).map f).map V.bl := by
  rw [List.map_map]
  rfl
end Nw
namespace Nw
section
variable {K : PySem.W.Frag}
theorem isa_int (d : PySem.PyData) : PySem.W.kitOne K (.type (tyName d)) (.type "int") = some (isA "int" d) := isA_ok "int" (by simp) d
theorem isa_bool (d : PySem.PyData) : PySem.W.kitOne K (.type (tyName d)) (.type "bool") = some (isA "bool" d) := isA_ok "bool" (by simp) d
theorem isa_list (d : PySem.PyData) : PySem.W.kitOne K (.type (tyName d)) (.type "list") = some (isA "list" d) := isA_ok "list" (by simp) d
theorem isa_tuple (d : PySem.PyData) : PySem.W.kitOne K (.type (tyName d)) (.type "tuple") = some (isA "tuple" d) := isA_ok "tuple" (by simp) d
theorem isa_str (d : PySem.PyData) : PySem.W.kitOne K (.type (tyName d)) (.type "str") = some (isA "str" d) := isA_ok "str" (by simp) d
end
end Nw
namespace Nw
open PySem PySem.Spec PyProof.Rows L2
theorem map_at {α β : Type} {f : α → β} {l : List α} {i : Nat} {y : β} (h : (l.map f)[i]? = some y) : ∃ x, l[i]? = some x ∧ y = f x := by
  rw [List.getElem?_map] at h
  cases e : l[i]? with
  | none =>
    rw [e] at h
    cases h
  | some x =>
    rw [e] at h
    exact ⟨x, rfl, (Option.some.inj h).symm⟩
theorem drop1_at {α : Type} {l : List α} {i : Nat} {y : α} (h : (l.drop 1)[i]? = some y) : l[i + 1]? = some y := by
  rw [List.getElem?_drop, Nat.add_comm] at h
  exact h
theorem min_drop1 {α : Type} (l : List α) : min l.length (l.drop 1).length = l.length - 1 := by
  rw [List.length_drop]
  omega
/-- the pairs that a list of tuples of two ints holds -/
theorem pairs_at {K : PySem.W.Frag} {H : Hp} {ps : List (Int × Int)} {xs : List V} {i : Nat} {x : V} (h : DaAll K H (ps.map dPair) xs) (hx : xs[i]? = some x) :
    ∃ p, ps[i]? = some p ∧ ∃ a, x = .ref a ∧ SqT K H a [.int p.1, .int p.2] := by
  obtain ⟨d, hd, hdx⟩ := h.at' hx
  obtain ⟨p, hp, rfl⟩ := map_at hd
  obtain ⟨a, ys, rfl, hS, z1, r1, rfl, e1, z2, r2, rfl, e2, rfl⟩ := hdx
  obtain rfl := e1
  obtain rfl := e2
  exact ⟨p, hp, a, rfl, .inl (.inl hS)⟩
end Nw
namespace Nw
open PySem PySem.Spec PyProof.Rows L2
end Nw
/-! Webs as numbers. -/
namespace Nw
open PySem PySem.Spec PyProof.Rows L2
structure Wb where
  n : Int
  ps : List (Int × Int)
  ns : List (List Int)
  deriving DecidableEq
def dInts (r : List Int) : PyData := .list (r.map PyData.int)
def dPairs (ps : List (Int × Int)) : PyData := .list (ps.map dPair)
def dRows (ns : List (List Int)) : PyData := .list (ns.map dInts)
def Wb.d (w : Wb) : PyData := .tuple [.int w.n, dPairs w.ps, dRows w.ns]
structure Wb.Ok (w : Wb) : Prop where
  lo : 1 ≤ w.n
  hi : w.n ≤ 20
  ps : ∀ p ∈ w.ps, (0 ≤ p.1 ∧ p.1 < w.n) ∧ (0 ≤ p.2 ∧ p.2 < w.n)
  asc : ascB ltPr w.ps = true
  few : w.ns.length ≤ 8
  ns : ∀ r ∈ w.ns, r ≠ [] ∧ (∀ t ∈ r, 0 ≤ t ∧ t < w.n) ∧ ascB ltIn r = true
theorem targetsB_of {r : List Int} {m : Int} (h0 : r ≠ []) (h1 : ∀ t ∈ r, 0 ≤ t ∧ t < m) (h2 : ascB ltIn r = true) : targetsB (dInts r) m = true := by
  unfold dInts targetsB
  simp only [intsOf_map, h2, Bool.and_true, Bool.and_eq_true, decide_eq_true_eq, List.length_map]
  refine ⟨?_, List.length_pos_iff.mpr h0⟩
  simp only [List.all_map, List.all_eq_true]
  intro t ht
  have := h1 t ht
  simp [numB, this.1, this.2]
theorem tuplesB_of {ps : List (Int × Int)} {m n : Int} (h1 : ∀ p ∈ ps, (0 ≤ p.1 ∧ p.1 < m) ∧ (0 ≤ p.2 ∧ p.2 < n)) (h2 : ascB ltPr ps = true) : tuplesB (dPairs ps) m n = true := by
  unfold dPairs tuplesB
  simp only [pairsOf_map, h2, Bool.and_true]
  simp only [List.all_map, List.all_eq_true]
  intro p hp
  obtain ⟨⟨a, b⟩, c, d⟩ := h1 p hp
  simp [dPair, tupB, numB, a, b, c, d]
theorem Wb.Ok.web {w : Wb} (h : w.Ok) : webB w.d = true := by
  unfold Wb.d webB
  have h1 := h.lo
  have h2 := h.hi
  have h3 := tuplesB_of h.ps h.asc
  have h4 : nudgesB (dRows w.ns) w.n = true := by
    unfold dRows nudgesB
    simp only [List.length_map, h.few, decide_true, Bool.true_and]
    simp only [List.all_map, List.all_eq_true]
    intro r hr
    obtain ⟨a, b, c⟩ := h.ns r hr
    exact targetsB_of a b c
  simp [h1, h2, h3, h4]
/-- how long ascending rows of small numbers may be -/
theorem asc_len {m : Int} : ∀ (r : List Int) (lo : Int), (∀ t ∈ r, lo ≤ t ∧ t < m) → ascB ltIn r = true → (r.length : Int) ≤ max 0 (m - lo)
  | [], lo, _, _ => by
    simp only [List.length_nil]
    omega
  | [x], lo, h, _ => by
    have := h x (by simp)
    simp only [List.length_singleton]
    omega
  | x :: y :: r, lo, h, ha => by
    simp only [ascB, Bool.and_eq_true, ltIn, decide_eq_true_eq] at ha
    have hx := h x (by simp)
    have hy := h y (by simp)
    have key : ∀ (l : List Int) (a : Int), ascB ltIn (a :: l) = true → ∀ t ∈ l, a + 1 ≤ t := by
      intro l
      induction l with
      | nil =>
        intro a _ t ht
        cases ht
      | cons b l ih =>
        intro a hab t ht
        simp only [ascB, Bool.and_eq_true, ltIn, decide_eq_true_eq] at hab
        rcases List.mem_cons.mp ht with rfl | ht
        · omega
        · have := ih b hab.2 t ht
          omega
    have h' : ∀ t ∈ y :: r, x + 1 ≤ t ∧ t < m := by
      intro t ht
      refine ⟨?_, (h t (List.mem_cons_of_mem _ ht)).2⟩
      exact key (y :: r) x (by simp only [ascB, Bool.and_eq_true, ltIn, decide_eq_true_eq]; exact ha) t ht
    have ih := asc_len (y :: r) (x + 1) h' ha.2
    simp only [List.length_cons] at ih ⊢
    omega
theorem Wb.Ok.row {w : Wb} (h : w.Ok) {r : List Int} (hr : r ∈ w.ns) : r.length ≤ 20 := by
  obtain ⟨_, b, c⟩ := h.ns r hr
  have := asc_len r 0 b c
  have := h.hi
  have := h.lo
  omega
/-- the lines of a web -/
def pushedAt (n : Int) (i : Nat) (r : List Int) : List (Int × Int) := r.map fun t => (n + (i : Int), t)
def pushedFrom (n : Int) : Nat → List (List Int) → List (Int × Int)
  | _, [] => []
  | i, r :: rs => pushedAt n i r ++ pushedFrom n (i + 1) rs
def Wb.lines (w : Wb) : List (Int × Int) := w.ps ++ pushedFrom w.n 0 w.ns
theorem pushedFrom_take (n : Int) : ∀ (rs : List (List Int)) (i k : Nat) (r : List Int), rs[k]? = some r →
    pushedFrom n i (rs.take (k + 1)) = pushedFrom n i (rs.take k) ++ pushedAt n (i + k) r
  | [], _, _, _, h => by simp at h
  | a :: rs, i, 0, r, h => by
    obtain rfl : a = r := by simpa using h
    simp [pushedFrom]
  | a :: rs, i, k + 1, r, h => by
    have ih := pushedFrom_take n rs (i + 1) k r (by simpa using h)
    simp only [List.take_succ_cons, pushedFrom]
    rw [ih, List.append_assoc, show i + 1 + k = i + (k + 1) by omega]
theorem take_all {α : Type} (l : List α) : l.take l.length = l := List.take_length
end Nw
namespace Nw
open PySem PySem.Spec PyProof.Rows L2
theorem ltPr_iff {p q : Int × Int} : ltPr p q = true ↔ p.1 < q.1 ∨ (p.1 = q.1 ∧ p.2 < q.2) := by
  unfold ltPr
  rw [HT.lexLt_cons]
  by_cases h : p.1 = q.1
  · rw [if_pos h, HT.lexLt_cons]
    by_cases h2 : p.2 = q.2
    · rw [if_pos h2, HT.lexLt_nil_nil]
      constructor
      · intro e
        cases e
      · intro e
        omega
    · rw [if_neg h2, decide_eq_true_eq]
      omega
  · rw [if_neg h, decide_eq_true_eq]
    omega
theorem asc_code : ∀ {ps : List (Int × Int)}, (∀ p ∈ ps, 0 ≤ p.2 ∧ p.2 < 64) → ascB ltPr ps = true → ascB ltIn (ps.map fun p => 64 * p.1 + p.2) = true
  | [], _, _ => rfl
  | [_], _, _ => rfl
  | p :: q :: r, h, ha => by
    simp only [ascB, Bool.and_eq_true] at ha
    have hp := h p (by simp)
    have hq := h q (by simp)
    have h1 := ltPr_iff.mp ha.1
    have ih := asc_code (ps := q :: r) (fun z hz => h z (List.mem_cons_of_mem _ hz)) ha.2
    simp only [List.map_cons, ascB, Bool.and_eq_true, ltIn, decide_eq_true_eq] at ih ⊢
    exact ⟨by omega, ih⟩
theorem Wb.Ok.len {w : Wb} (h : w.Ok) : w.ps.length ≤ 1300 := by
  have h1 := asc_code (ps := w.ps) (fun p hp => by have := h.ps p hp; have := h.hi; omega) h.asc
  have h2 := asc_len _ 0 (m := 1300) (by
    intro t ht
    obtain ⟨p, hp, rfl⟩ := List.mem_map.mp ht
    have := h.ps p hp
    have := h.hi
    omega) h1
  rw [List.length_map] at h2
  omega
theorem pushed_len (n : Int) : ∀ (rs : List (List Int)) (i : Nat), (∀ r ∈ rs, r.length ≤ 20) → (pushedFrom n i rs).length ≤ 20 * rs.length
  | [], _, _ => by simp [pushedFrom]
  | r :: rs, i, h => by
    have h1 := h r (by simp)
    have h2 := pushed_len n rs (i + 1) (fun z hz => h z (List.mem_cons_of_mem _ hz))
    simp only [pushedFrom, pushedAt, List.length_append, List.length_map, List.length_cons]
    omega
theorem Wb.Ok.lines_len {w : Wb} (h : w.Ok) : w.lines.length ≤ 1500 := by
  have h1 := h.len
  have h2 := pushed_len w.n w.ns 0 (fun r hr => h.row hr)
  have h3 := h.few
  unfold Wb.lines
  rw [List.length_append]
  omega
/-- a web as it stands -/
theorem Wb.at {K : PySem.W.Frag} {H : Hp} {w : Wb} {v : V} (h : Da K H w.d v) : ∃ t x2 x3, v = .ref t ∧ SqT K H t [.int w.n, x2, x3] ∧ Da K H (dPairs w.ps) x2 ∧ Da K H (dRows w.ns) x3 := by
  obtain ⟨t, xs, rfl, hS, x1, r1, rfl, g1, x2, r2, rfl, g2, x3, r3, rfl, g3, rfl⟩ := h
  obtain rfl := g1
  exact ⟨t, x2, x3, rfl, .inl (.inl hS), g2, g3⟩
theorem dInts_at {K : PySem.W.Frag} {H : Hp} {r : List Int} {v : V} (h : Da K H (dInts r) v) : ∃ a, v = .ref a ∧ SqL K H a (r.map V.int) := by
  obtain ⟨a, xs, rfl, hS, hA, _⟩ := h
  obtain rfl := DaAll.ints.mp hA
  exact ⟨a, rfl, .inl (.inl hS)⟩
theorem dInts_of {K : PySem.W.Frag} {H : Hp} {r : List Int} {a : Addr} (h : H a = some (.lst (r.map V.int))) (hz : r.length ≤ 100000) : Da K H (dInts r) (.ref a) :=
  ⟨a, _, rfl, h, DaAll.ints.mpr rfl, by rw [List.length_map]; exact hz⟩
theorem dPair_of {K : PySem.W.Frag} {H : Hp} {p : Int × Int} {a : Addr} (h : H a = some (.tup [.int p.1, .int p.2])) : Da K H (dPair p) (.ref a) :=
  ⟨a, _, rfl, h, _, _, rfl, rfl, _, _, rfl, rfl, rfl⟩
end Nw
namespace Nw
open PySem PySem.Spec PyProof.Rows L2
theorem ExD.t {K : PySem.W.Frag} {D : Addr} {H H' : Hp} {a : Addr} {xs : List V} (e : ExD D H H') (n : a ≠ D) (h : SqT K H a xs) : SqT K H' a xs := by
  rcases h with (h | ⟨o, h⟩) | h
  · exact .inl (.inl (e a _ n h))
  · exact .inl (.inr ⟨o, e a _ n h⟩)
  · exact .inr h
theorem ExD.l {K : PySem.W.Frag} {D : Addr} {H H' : Hp} {a : Addr} {xs : List V} (e : ExD D H H') (n : a ≠ D) (h : SqL K H a xs) : SqL K H' a xs := by
  rcases h with (h | ⟨o, h⟩) | h
  · exact .inl (.inl (e a _ n h))
  · exact .inl (.inr ⟨o, e a _ n h⟩)
  · exact .inr h
/-- items that do not stand at D -/
abbrev OffD (D : Addr) (xs : List V) : Prop := ∀ x ∈ xs, ∃ b, x = .ref b ∧ b ≠ D
theorem OffD.nil {D : Addr} : OffD D [] := fun x h => by cases h
theorem OffD.snoc {D : Addr} {xs : List V} {b : Addr} (h : OffD D xs) (n : b ≠ D) : OffD D (xs ++ [.ref b]) := by
  intro x hx
  rcases List.mem_append.mp hx with hx | hx
  · exact h x hx
  · obtain rfl := List.mem_singleton.mp hx
    exact ⟨b, rfl, n⟩
theorem pairs_keep {K : PySem.W.Frag} {D : Addr} {H H' : Hp} (e : ExD D H H') : ∀ {L : List (Int × Int)} {acc : List V}, DaAll K H (L.map dPair) acc → OffD D acc → DaAll K H' (L.map dPair) acc
  | [], _, h, _ => h
  | p :: L, acc, h, o => by
    obtain ⟨x, xs, rfl, ⟨a, ys, rfl, hS, z1, r1, rfl, e1, z2, r2, rfl, e2, rfl⟩, h2⟩ := h
    obtain rfl := e1
    obtain rfl := e2
    obtain ⟨b, eb, nb⟩ := o (.ref a) (by simp)
    cases eb
    exact ⟨_, _, rfl, dPair_of (e _ _ nb hS), pairs_keep e h2 fun x hx => o x (List.mem_cons_of_mem _ hx)⟩
end Nw
namespace Nw
open PySem PySem.Spec PyProof.Rows L2
theorem pushed_ok {n : Int} {m : Int} : ∀ {rs : List (List Int)} {i : Nat}, (∀ r ∈ rs, ∀ t ∈ r, 0 ≤ t ∧ t < m) → ∀ l ∈ pushedFrom n i rs,
    (n + (i : Int) ≤ l.1 ∧ l.1 < n + (i : Int) + (rs.length : Int)) ∧ (0 ≤ l.2 ∧ l.2 < m)
  | [], _, _, l, hl => by cases hl
  | r :: rs, i, h, l, hl => by
    simp only [pushedFrom, List.mem_append] at hl
    simp only [List.length_cons]
    rcases hl with hl | hl
    · obtain ⟨t, ht, rfl⟩ := List.mem_map.mp hl
      have := h r (by simp) t ht
      exact ⟨⟨by simp, by simp; omega⟩, this⟩
    · have := pushed_ok (i := i + 1) (fun z hz => h z (List.mem_cons_of_mem _ hz)) l hl
      refine ⟨⟨by omega, by omega⟩, this.2⟩
theorem Wb.Ok.line {w : Wb} (h : w.Ok) : ∀ l ∈ w.lines, (0 ≤ l.1 ∧ l.1 < w.n + (w.ns.length : Int)) ∧ (0 ≤ l.2 ∧ l.2 < w.n) := by
  intro l hl
  have h1 := h.lo
  rcases List.mem_append.mp hl with hl | hl
  · have := h.ps l hl
    refine ⟨⟨this.1.1, by omega⟩, this.2⟩
  · have := pushed_ok (fun r hr => (h.ns r hr).2.1) l hl
    refine ⟨⟨by omega, by omega⟩, this.2⟩
/-- the targets that a list of lines gives a source -/
def rowOf (ls : List (Int × Int)) (s : Int) : List Int := (ls.filter fun l => l.1 == s).map (·.2)
theorem rowOf_nil (s : Int) : rowOf [] s = [] := rfl
theorem rowOf_app (a b : List (Int × Int)) (s : Int) : rowOf (a ++ b) s = rowOf a s ++ rowOf b s := by
  unfold rowOf
  rw [List.filter_append, List.map_append]
theorem rowOf_one (p : Int × Int) (s : Int) : rowOf [p] s = if p.1 = s then [p.2] else [] := by
  unfold rowOf
  by_cases h : p.1 = s
  · rw [if_pos h, List.filter_cons, if_pos (by simpa using h)]
    rfl
  · rw [if_neg h, List.filter_cons, if_neg (by simpa using h)]
    rfl
theorem rowOf_len (ls : List (Int × Int)) (s : Int) : (rowOf ls s).length ≤ ls.length := by
  unfold rowOf
  rw [List.length_map]
  exact List.length_filter_le _ _
theorem nodup_snoc {α : Type} {l : List α} {b : α} (h : l.Nodup) (n : b ∉ l) : (l ++ [b]).Nodup := by
  rw [List.nodup_append]
  refine ⟨h, by simp, ?_⟩
  intro a ha c hc e
  obtain rfl := List.mem_singleton.mp hc
  subst e
  exact n ha
theorem nodup_at {α : Type} {l : List α} (h : l.Nodup) {i j : Nat} {a b : α} (hi : l[i]? = some a) (hj : l[j]? = some b) (n : i ≠ j) : a ≠ b := by
  intro e
  subst e
  obtain ⟨h1, e1⟩ := List.getElem?_eq_some_iff.mp hi
  obtain ⟨h2, e2⟩ := List.getElem?_eq_some_iff.mp hj
  exact n ((List.getElem_inj h).mp (e1.trans e2.symm))
theorem atI_int {α : Type} {xs : List α} {s : Int} {v : α} (h0 : 0 ≤ s) (h : xs[s.toNat]? = some v) : atI xs s = some v := by
  have e := atI_nat h
  rw [Int.toNat_of_nonneg h0] at e
  exact e
theorem take_snoc {α : Type} {l : List α} {i : Nat} {x : α} (h : l[i]? = some x) : l.take (i + 1) = l.take i ++ [x] := by
  rw [List.take_add_one, h]
  rfl
end Nw
namespace Nw
open PySem PySem.Spec PyProof.Rows L2
/-- a tuple outlasts what is done to a list -/
theorem SqT.wr {K : PySem.W.Frag} {H : Hp} {b c : Addr} {xs ys : List V} {o : HO} (h : SqT K H b xs) (hc : H c = some (.lst ys)) : SqT K (upd H c o) b xs := by
  rcases h with (h | ⟨z, h⟩) | h
  · refine .inl (.inl ?_)
    rw [upd_ne (fun e => by rw [e, hc] at h; cases h)]
    exact h
  · refine .inl (.inr ⟨z, ?_⟩)
    rw [upd_ne (fun e => by rw [e, hc] at h; cases h)]
    exact h
  · exact .inr h
end Nw
namespace Nw
open PySem PySem.Spec PyProof.Rows L2
/-- the sources that a list of lines gives a quantity -/
def srcsOf (ls : List (Int × Int)) (t : Int) : List Int := (ls.filter fun l => l.2 == t).map (·.1)
theorem filter_range {α β : Type} (d : α) (p : α → Bool) (g : α → β) : ∀ ls : List α, ((List.range ls.length).filter fun i => p (ls.getD i d)).map (fun i => g (ls.getD i d)) = (ls.filter p).map g
  | [] => rfl
  | x :: ls => by
    have ih := filter_range d p g ls
    rw [List.length_cons, List.range_succ_eq_map, List.filter_cons, List.filter_map, List.filter_cons]
    have e : (fun i => p ((x :: ls).getD i d)) ∘ Nat.succ = fun i => p (ls.getD i d) := rfl
    rw [e]
    have e0 : (x :: ls).getD 0 d = x := rfl
    rw [e0]
    by_cases h : p x = true
    · rw [if_pos h, if_pos h, List.map_cons, List.map_cons, List.map_map, ← ih]
      rfl
    · rw [if_neg h, if_neg h, List.map_map, ← ih]
      rfl
theorem srcs_range (ls : List (Int × Int)) (z : Int) : ((List.range ls.length).filter fun i => (ls.getD i (0, 0)).2 == z).map (fun i => V.int (ls.getD i (0, 0)).1) = (srcsOf ls z).map V.int := by
  have h := filter_range (0, 0) (fun l : Int × Int => l.2 == z) (fun l => V.int l.1) ls
  rw [h]
  unfold srcsOf
  rw [List.map_map]
  rfl
end Nw
namespace Nw
open PySem PySem.Spec PyProof.Rows L2
/-- new rows at new places, apart from one another -/
structure RowsAt (H H' : Hp) (p : Addr) (as : List Addr) (n : Nat) (row : Nat → List Int) : Prop where
  new : H p = none
  ex : Ex H H'
  at_ : H' p = some (.lst (as.map V.ref))
  nd : as.Nodup
  off : ∀ b ∈ as, H b = none ∧ b ≠ p
  len : as.length = n
  row : ∀ s b, as[s]? = some b → H' b = some (.lst ((row s).map V.int))
theorem srcsOf_nil (s : Int) : srcsOf [] s = [] := rfl
theorem srcsOf_app (a b : List (Int × Int)) (s : Int) : srcsOf (a ++ b) s = srcsOf a s ++ srcsOf b s := by
  unfold srcsOf
  rw [List.filter_append, List.map_append]
theorem srcsOf_one (p : Int × Int) (s : Int) : srcsOf [p] s = if p.2 = s then [p.1] else [] := by
  unfold srcsOf
  by_cases h : p.2 = s
  · rw [if_pos h, List.filter_cons, if_pos (by simpa using h)]
    rfl
  · rw [if_neg h, List.filter_cons, if_neg (by simpa using h)]
    rfl
theorem srcsOf_len (ls : List (Int × Int)) (s : Int) : (srcsOf ls s).length ≤ ls.length := by
  unfold srcsOf
  rw [List.length_map]
  exact List.length_filter_le _ _
end Nw
/-! What draws are made of: a list of three numbers that each draw changes. -/
namespace Nw
open PySem PySem.Spec PyProof.Rows L2
/-- the heap without what stands at p -/
def rm (H : Hp) (p : Addr) : Hp := fun b => if b = p then none else H b
theorem rm_ex {H : Hp} {p : Addr} : Ex (rm H p) H := fun b o h => by
  unfold rm at h
  split at h
  · cases h
  · exact h
theorem rm_at {H : Hp} {p : Addr} : rm H p p = none := if_pos rfl
theorem rm_ne {H : Hp} {p b : Addr} (h : b ≠ p) : rm H p b = H b := if_neg h
theorem ExD.rm {p : Addr} {H H' : Hp} (e : ExD p H H') : Ex (rm H p) (rm H' p) := fun b o h => by
  by_cases n : b = p
  · subst n
    rw [rm_at] at h
    cases h
  · rw [rm_ne n] at h ⊢
    exact e b o n h
theorem Ex.rm {p : Addr} {H H' : Hp} (e : Ex H H') : Ex (rm H p) (rm H' p) := ExD.rm (Ex.d e)
theorem ExD.rfl {p : Addr} {H : Hp} : ExD p H H := fun _ _ _ h => h
theorem ExD.nw {p q : Addr} {H : Hp} {o : HO} (h : H q = none) : ExD p H (upd H q o) := (Ex.nw h).d
theorem ExD.wr {p q : Addr} {H H' : Hp} {o : HO} (e : ExD p H H') (h : H q = none) : ExD p H (upd H' q o) := fun a u n ha => by
  rw [upd_ne (ne_of_none ha h)]
  exact e a u n ha
theorem ExD.put2 {p : Addr} {H H' : Hp} {o : HO} (e : ExD p H H') : ExD p H (upd H' p o) := e.tr ExD.put
/-- what is new stands elsewhere than the purse -/
theorem ExD.fr {p q : Addr} {H H' : Hp} {o : HO} (e : ExD p H H') (hp : H' p = some o) (h : H' q = none) : H q = none := by
  cases z : H q with
  | none => exact Eq.refl _
  | some u =>
    by_cases n : q = p
    · subst n
      rw [hp] at h
      cases h
    · rw [e q u n z] at h
      cases h
structure Purse (H : Hp) (p : Addr) (m : Nat) : Prop where
  ex : ∃ b c e : Int, H p = some (.lst [.int b, .int c, .int e]) ∧ 0 ≤ b ∧ (0 ≤ c ∧ c < 10 ^ 42) ∧ (0 ≤ e ∧ e ≤ (m : Int))
theorem Purse.mono {H : Hp} {p : Addr} {m n : Nat} (h : Purse H p m) (l : m ≤ n) : Purse H p n := by
  obtain ⟨b, c, e, h1, h2, h3, h4⟩ := h.ex
  exact ⟨b, c, e, h1, h2, h3, h4.1, by omega⟩
theorem Purse.up {H H' : Hp} {p : Addr} {m : Nat} (h : Purse H p m) (e : Ex H H') : Purse H' p m := by
  obtain ⟨b, c, d, h1, h2⟩ := h.ex
  exact ⟨b, c, d, e _ _ h1, h2⟩
theorem Purse.off {H : Hp} {p : Addr} {m : Nat} (h : Purse H p m) {q : Addr} (n : H q = none) : q ≠ p := by
  obtain ⟨b, c, d, h1, h2⟩ := h.ex
  intro e
  rw [e, h1] at n
  cases n
theorem Purse.put {H : Hp} {p q : Addr} {m : Nat} {o : HO} (h : Purse H p m) (n : p ≠ q) : Purse (upd H q o) p m := by
  obtain ⟨b, c, d, h1, h2⟩ := h.ex
  exact ⟨b, c, d, by rw [upd_ne n]; exact h1, h2⟩
theorem Purse.fr {p q : Addr} {H H' : Hp} {m : Nat} (e : ExD p H H') (hp : Purse H' p m) (h : H' q = none) : H q = none := by
  obtain ⟨b, c, d, h1, _⟩ := hp.ex
  exact e.fr h1 h
/-- a remainder by a positive number -/
theorem fmod_in {a m : Int} (h : 0 < m) : 0 ≤ a.fmod m ∧ a.fmod m < m := by
  rw [Int.fmod_eq_emod_of_nonneg a (by omega)]
  exact ⟨Int.emod_nonneg a (by omega), Int.emod_lt_of_pos a h⟩
theorem div_in {a m : Int} (h0 : 0 ≤ a) (h : 0 < m) : 0 ≤ a / m := Int.ediv_nonneg h0 (by omega)
theorem pow_lt_of {i : Int} (h0 : 0 ≤ i) (h : i < 10 ^ 60) : i.natAbs < 2 ^ 10000 := by
  have h1 : (10 : Nat) ^ 60 < 2 ^ 10000 := by decide +kernel
  have h2 : i.natAbs < 10 ^ 60 := by omega
  omega
theorem small_div {m : Int} (h : 0 < m) (h2 : m < 1073741824) : CDivW 0 m := wide_div (b := 30) h (by omega) (by omega) (by omega)
theorem great_div {i m : Int} (h : 0 < m) (h2 : m < 1000000000000000000000000000000000000000000000000000000000000) : CDivW i m := wide_div (b := 200) h (by
  have e : (2 : Nat) ^ 200 = 1606938044258990275541962092341162602522202993782792835301376 := by decide +kernel
  rw [e]
  omega) (by omega) (by omega)
theorem small_div' {i m : Int} (h : 0 < m) (h2 : m < 1073741824) : CDivW i m := small_div h h2
end Nw
namespace Nw
open PySem PySem.Spec PyProof.Rows L2
theorem cpow10 {j : Int} (h0 : 0 ≤ j) (h1 : j ≤ 100) : CPowW 10 j := ⟨h0, h1, by
  show (10 : Nat) < 2 ^ 10000
  decide +kernel⟩
theorem cpow3 {i : Int} (h0 : 0 ≤ i) (h : i < 10 ^ 60) : CPowW i 3 := ⟨by decide, by decide, pow_lt_of h0 h⟩
theorem p18 : (10 : Int) ^ Int.toNat 18 = 1000000000000000000 := by decide +kernel
theorem p41 : (10 : Int) ^ Int.toNat 41 = 100000000000000000000000000000000000000000 := by decide +kernel
theorem p42 : (10 : Int) ^ 42 = 1000000000000000000000000000000000000000000 := by decide +kernel
theorem p43 : (10 : Int) ^ Int.toNat 43 = 10000000000000000000000000000000000000000000 := by decide +kernel
theorem p45 : (10 : Int) ^ Int.toNat 45 = 1000000000000000000000000000000000000000000000 := by decide +kernel
theorem p60 : (10 : Int) ^ 60 = 1000000000000000000000000000000000000000000000000000000000000 := by decide +kernel
theorem cube_nn {i : Int} (h : 0 ≤ i) : 0 ≤ i ^ Int.toNat 3 := Int.pow_nonneg h
theorem purse_new {a x k : Int} (hk : 0 ≤ k ∧ k ≤ 63) : 0 ≤ a.fmod (10 ^ Int.toNat 41 + 37) + 90001 * k + 17 ∧ a.fmod (10 ^ Int.toNat 41 + 37) + 90001 * k + 17 < 10 ^ 42 := by
  have h := fmod_in (a := a) (m := 10 ^ Int.toNat 41 + 37) (by rw [p41]; omega)
  rw [p41] at h ⊢
  rw [p42]
  omega
end Nw
namespace Nw
theorem ne41 : (10 : Int) ^ Int.toNat 41 + 37 ≠ 0 := by rw [p41]; decide
theorem ne43 : (10 : Int) ^ Int.toNat 43 + 29 ≠ 0 := by rw [p43]; decide
theorem ne45 : (10 : Int) ^ Int.toNat 45 + 9 ≠ 0 := by rw [p45]; decide
end Nw
/-! Data of webs compared and shown. -/
namespace Nw
open PySem PySem.Spec PyProof.Rows L2
theorem asc_snoc : ∀ {r : List Int} {x : Int}, ascB ltIn r = true → (∀ t ∈ r, t < x) → ascB ltIn (r ++ [x]) = true
  | [], _, _, _ => rfl
  | [a], x, _, h => by
    have := h a (by simp)
    simp [ascB, ltIn, this]
  | a :: b :: r, x, ha, h => by
    simp only [ascB, Bool.and_eq_true] at ha
    have ih := asc_snoc (r := b :: r) (x := x) ha.2 (fun t ht => h t (List.mem_cons_of_mem _ ht))
    simp only [List.cons_append, ascB, Bool.and_eq_true] at ih ⊢
    exact ⟨ha.1, ih⟩
theorem ascP_snoc : ∀ {r : List (Int × Int)} {x : Int × Int}, ascB ltPr r = true → (∀ t ∈ r, ltPr t x = true) → ascB ltPr (r ++ [x]) = true
  | [], _, _, _ => rfl
  | [a], x, _, h => by
    have := h a (by simp)
    simp [ascB, this]
  | a :: b :: r, x, ha, h => by
    simp only [ascB, Bool.and_eq_true] at ha
    have ih := ascP_snoc (r := b :: r) (x := x) ha.2 (fun t ht => h t (List.mem_cons_of_mem _ ht))
    simp only [List.cons_append, ascB, Bool.and_eq_true] at ih ⊢
    exact ⟨ha.1, ih⟩
/-! ### == -/
theorem eqv_ints : ∀ r s : List Int, PyData.eqvAll (r.map PyData.int) (s.map PyData.int) = decide (r = s)
  | [], [] => by simp [PyData.eqvAll]
  | [], _ :: _ => by simp [PyData.eqvAll]
  | _ :: _, [] => by simp [PyData.eqvAll]
  | a :: r, b :: s => by
    simp only [List.map_cons, PyData.eqvAll, eqv_ints r s, PyData.eqv]
    by_cases h : a = b
    · by_cases h2 : r = s <;> simp [h, h2]
    · simp [h]
theorem eqv_dInts (r s : List Int) : PyData.eqv (dInts r) (dInts s) = decide (r = s) := by
  unfold dInts
  simp only [PyData.eqv, eqv_ints]
theorem eqv_dPair (p q : Int × Int) : PyData.eqv (dPair p) (dPair q) = decide (p = q) := by
  obtain ⟨a, b⟩ := p
  obtain ⟨c, d⟩ := q
  unfold dPair
  simp only [PyData.eqv, PyData.eqvAll, Bool.and_true, Prod.mk.injEq]
  by_cases h : a = c <;> by_cases h2 : b = d <;> simp [h, h2]
theorem eqv_pairs : ∀ r s : List (Int × Int), PyData.eqvAll (r.map dPair) (s.map dPair) = decide (r = s)
  | [], [] => by simp [PyData.eqvAll]
  | [], _ :: _ => by simp [PyData.eqvAll]
  | _ :: _, [] => by simp [PyData.eqvAll]
  | a :: r, b :: s => by
    simp only [List.map_cons, PyData.eqvAll, eqv_pairs r s, eqv_dPair]
    by_cases h : a = b
    · by_cases h2 : r = s <;> simp [h, h2]
    · simp [h]
theorem eqv_dPairs (r s : List (Int × Int)) : PyData.eqv (dPairs r) (dPairs s) = decide (r = s) := by
  unfold dPairs
  simp only [PyData.eqv, eqv_pairs]
theorem eqv_rows : ∀ r s : List (List Int), PyData.eqvAll (r.map dInts) (s.map dInts) = decide (r = s)
  | [], [] => by simp [PyData.eqvAll]
  | [], _ :: _ => by simp [PyData.eqvAll]
  | _ :: _, [] => by simp [PyData.eqvAll]
  | a :: r, b :: s => by
    simp only [List.map_cons, PyData.eqvAll, eqv_rows r s, eqv_dInts]
    by_cases h : a = b
    · by_cases h2 : r = s <;> simp [h, h2]
    · simp [h]
theorem eqv_dRows (r s : List (List Int)) : PyData.eqv (dRows r) (dRows s) = decide (r = s) := by
  unfold dRows
  simp only [PyData.eqv, eqv_rows]
theorem eqv_web (u v : Wb) : PyData.eqv u.d v.d = decide (u = v) := by
  obtain ⟨a, b, c⟩ := u
  obtain ⟨d, e, f⟩ := v
  unfold Wb.d
  simp only [PyData.eqv, PyData.eqvAll, eqv_dPairs, eqv_dRows, Bool.and_true, Wb.mk.injEq]
  by_cases h : a = d <;> by_cases h2 : b = e <;> by_cases h3 : c = f <;> simp [h, h2, h3]
/-! ### shape -/
theorem shaped_of {d : PyData} (h : d.canLay0 = true) (h2 : d.depth ≤ 64) : SeqAt.shaped d = true := by
  unfold SeqAt.shaped
  rw [h, decide_eq_true h2]
  rfl
theorem lay_ints : ∀ r : List Int, PyData.canLayAll0 (r.map PyData.int) = true
  | [] => by simp [PyData.canLayAll0]
  | a :: r => by simp [PyData.canLayAll0, PyData.canLay0, lay_ints r]
theorem lay_pairs : ∀ r : List (Int × Int), PyData.canLayAll0 (r.map dPair) = true
  | [] => by simp [PyData.canLayAll0]
  | a :: r => by simp [PyData.canLayAll0, PyData.canLay0, dPair, lay_pairs r]
theorem lay_rows : ∀ r : List (List Int), PyData.canLayAll0 (r.map dInts) = true
  | [] => by simp [PyData.canLayAll0]
  | a :: r => by simp [PyData.canLayAll0, PyData.canLay0, dInts, lay_rows r, lay_ints]
theorem dep_ints : ∀ r : List Int, PyData.depthAll (r.map PyData.int) = 0
  | [] => by simp [PyData.depthAll]
  | a :: r => by simp [PyData.depthAll, PyData.depth, dep_ints r]
theorem dep_pairs : ∀ r : List (Int × Int), PyData.depthAll (r.map dPair) ≤ 1
  | [] => by simp [PyData.depthAll]
  | a :: r => by
    have := dep_pairs r
    simp [PyData.depthAll, PyData.depth, dPair]
    omega
theorem dep_rows : ∀ r : List (List Int), PyData.depthAll (r.map dInts) ≤ 1
  | [] => by simp [PyData.depthAll]
  | a :: r => by
    have := dep_rows r
    simp [PyData.depthAll, PyData.depth, dInts, dep_ints]
    omega
theorem lay_dInts (r : List Int) : (dInts r).canLay0 = true := by simp [dInts, PyData.canLay0, lay_ints]
theorem lay_dPairs (r : List (Int × Int)) : (dPairs r).canLay0 = true := by simp [dPairs, PyData.canLay0, lay_pairs]
theorem lay_dRows (r : List (List Int)) : (dRows r).canLay0 = true := by simp [dRows, PyData.canLay0, lay_rows]
theorem lay_dPair (p : Int × Int) : (dPair p).canLay0 = true := by simp [dPair, PyData.canLay0, PyData.canLayAll0]
theorem lay_web (u : Wb) : u.d.canLay0 = true := by simp [Wb.d, PyData.canLay0, PyData.canLayAll0, lay_dPairs, lay_dRows]
theorem dep_dInts (r : List Int) : (dInts r).depth ≤ 1 := by simp [dInts, PyData.depth, dep_ints]
theorem dep_dPair (p : Int × Int) : (dPair p).depth ≤ 1 := by simp [dPair, PyData.depth, PyData.depthAll]
theorem dep_dPairs (r : List (Int × Int)) : (dPairs r).depth ≤ 2 := by
  have := dep_pairs r
  simp [dPairs, PyData.depth]
  omega
theorem dep_dRows (r : List (List Int)) : (dRows r).depth ≤ 2 := by
  have := dep_rows r
  simp [dRows, PyData.depth]
  omega
theorem dep_web (u : Wb) : u.d.depth ≤ 3 := by
  have h1 := dep_dPairs u.ps
  have h2 := dep_dRows u.ns
  simp [Wb.d, PyData.depth, PyData.depthAll]
  omega
theorem sh_dInts (r : List Int) : SeqAt.shaped (dInts r) = true := shaped_of (lay_dInts r) (by have := dep_dInts r; omega)
theorem sh_dPair (r : Int × Int) : SeqAt.shaped (dPair r) = true := shaped_of (lay_dPair r) (by have := dep_dPair r; omega)
theorem sh_dPairs (r : List (Int × Int)) : SeqAt.shaped (dPairs r) = true := shaped_of (lay_dPairs r) (by have := dep_dPairs r; omega)
theorem sh_dRows (r : List (List Int)) : SeqAt.shaped (dRows r) = true := shaped_of (lay_dRows r) (by have := dep_dRows r; omega)
theorem sh_web (u : Wb) : SeqAt.shaped u.d = true := shaped_of (lay_web u) (by have := dep_web u; omega)
theorem nd_of_lay {d : PyData} (h : d.canLay0 = true) : d.hasDict = false := PyData.hasDict_of_canLay d h
section
variable {K : PySem.W.Frag} {H : Hp}
theorem Da.dInts {r : List Int} {v : V} (h : Da K H (dInts r) v) : Dp K H v (dInts r) := h.dp _ _ (nd_of_lay (lay_dInts r))
theorem Da.dPairs {r : List (Int × Int)} {v : V} (h : Da K H (dPairs r) v) : Dp K H v (dPairs r) := h.dp _ _ (nd_of_lay (lay_dPairs r))
theorem Da.dPair {r : Int × Int} {v : V} (h : Da K H (dPair r) v) : Dp K H v (dPair r) := h.dp _ _ (nd_of_lay (lay_dPair r))
theorem Da.dRows {r : List (List Int)} {v : V} (h : Da K H (dRows r) v) : Dp K H v (dRows r) := h.dp _ _ (nd_of_lay (lay_dRows r))
theorem Da.web {u : Wb} {v : V} (h : Da K H u.d v) : Dp K H v u.d := h.dp _ _ (nd_of_lay (lay_web u))
/-- a == b, a != b of lists of ints .. as the readings ask -/
theorem eqD_of {d e : PyData} {x y : V} {Q : VK} (hd : Dp K H x d) (he : Dp K H y e) (sd : SeqAt.shaped d = true) (se : SeqAt.shaped e = true) (q : Q (.bl (PyData.eqv d e)) H) : rEqD K x y H Q := ⟨d, e, hd, he, sd, se, q⟩
end
end Nw
namespace Nw
open PySem PySem.Spec PyProof.Rows L2
theorem ex_rm1 {H H' : Hp} {p : Addr} (h : ∀ b o, b ≠ p → H b = some o → H' b = some o) : Ex (rm H p) (rm H' p) := ExD.rm h
theorem ex_rm2 {H H' : Hp} {p q : Addr} (h : ∀ b o, b ≠ p → b ≠ q → H b = some o → H' b = some o) : Ex (rm (rm H p) q) (rm (rm H' p) q) :=
  ExD.rm fun b o n e => by
    by_cases n2 : b = p
    · subst n2
      rw [rm_at] at e
      cases e
    · rw [rm_ne n2] at e ⊢
      exact h b o n2 n e
theorem ex_rm3 {H H' : Hp} {p q r : Addr} (h : ∀ b o, b ≠ p → b ≠ q → b ≠ r → H b = some o → H' b = some o) : Ex (rm (rm (rm H p) q) r) (rm (rm (rm H' p) q) r) :=
  ExD.rm fun b o n e => by
    by_cases n2 : b = q
    · subst n2
      rw [rm_at] at e
      cases e
    · rw [rm_ne n2] at e ⊢
      by_cases n3 : b = p
      · subst n3
        rw [rm_at] at e
        cases e
      · rw [rm_ne n3] at e ⊢
        exact h b o n3 n2 n e
theorem asc_app : ∀ {a b : List (Int × Int)}, ascB ltPr a = true → ascB ltPr b = true → (∀ x ∈ a, ∀ y ∈ b, ltPr x y = true) → ascB ltPr (a ++ b) = true
  | [], _, _, hb, _ => hb
  | [x], [], _, _, _ => rfl
  | [x], y :: b, _, hb, h => by
    show (ltPr x y && ascB ltPr (y :: b)) = true
    rw [hb, h x (by simp) y (by simp)]
    rfl
  | x :: z :: a, b, ha, hb, h => by
    simp only [ascB, Bool.and_eq_true] at ha
    have ih := asc_app (a := z :: a) ha.2 hb (fun x hx => h x (List.mem_cons_of_mem _ hx))
    show (ltPr x z && ascB ltPr (z :: a ++ b)) = true
    rw [ha.1, ih]
    rfl
end Nw
namespace Nw
open PySem PySem.Spec PyProof.Rows L2
theorem rowOf_none {ls : List (Int × Int)} {s : Int} (h : ∀ l ∈ ls, l.1 ≠ s) : rowOf ls s = [] := by
  unfold rowOf
  rw [List.filter_eq_nil_iff.mpr (fun l hl => by simpa using h l hl)]
  rfl
theorem rowOf_pushedAt (n : Int) (i : Nat) (r : List Int) : rowOf (pushedAt n i r) (n + (i : Int)) = r := by
  unfold rowOf pushedAt
  rw [List.filter_eq_self.mpr]
  · rw [List.map_map]
    exact List.map_id _
  · intro l hl
    obtain ⟨t, _, rfl⟩ := List.mem_map.mp hl
    simp
/-- a quantity's row: from the pairs alone -/
theorem row_low {u : Wb} (h : u.Ok) {s : Int} (hs : s < u.n) : rowOf u.lines s = rowOf u.ps s := by
  unfold Wb.lines
  rw [rowOf_app, rowOf_none (ls := pushedFrom u.n 0 u.ns), List.append_nil]
  intro l hl
  have := pushed_ok (fun r hr => (h.ns r hr).2.1) l hl
  omega
theorem row_push {n : Int} {m : Int} : ∀ {rs : List (List Int)} {i k : Nat} {r : List Int}, (∀ r ∈ rs, ∀ t ∈ r, 0 ≤ t ∧ t < m) → rs[k]? = some r →
    rowOf (pushedFrom n i rs) (n + (i : Int) + (k : Int)) = r
  | [], _, _, _, _, e => by simp at e
  | a :: rs, i, 0, r, h, e => by
    obtain rfl : a = r := by simpa using e
    simp only [pushedFrom]
    rw [rowOf_app, show n + (i : Int) + ((0 : Nat) : Int) = n + (i : Int) by omega, rowOf_pushedAt, rowOf_none, List.append_nil]
    intro l hl
    have := pushed_ok (fun z hz => h z (List.mem_cons_of_mem _ hz)) l hl
    omega
  | a :: rs, i, k + 1, r, h, e => by
    simp only [pushedFrom]
    rw [rowOf_app, rowOf_none, List.nil_append]
    · have ih := row_push (n := n) (i := i + 1) (k := k) (r := r) (fun z hz => h z (List.mem_cons_of_mem _ hz)) (by simpa using e)
      rw [show n + (i : Int) + ((k + 1 : Nat) : Int) = n + ((i + 1 : Nat) : Int) + (k : Int) by omega]
      exact ih
    · intro l hl
      obtain ⟨t, _, rfl⟩ := List.mem_map.mp hl
      simp only
      omega
/-- a nudge's row -/
theorem row_high {u : Wb} (h : u.Ok) {k : Nat} {r : List Int} (hr : u.ns[k]? = some r) {s : Int} (hs : s = u.n + (k : Int)) : rowOf u.lines s = r := by
  subst hs
  unfold Wb.lines
  rw [rowOf_app, rowOf_none (ls := u.ps), List.nil_append]
  · have := row_push (n := u.n) (i := 0) (k := k) (fun r hr => (h.ns r hr).2.1) hr
    rw [show u.n + ((0 : Nat) : Int) + (k : Int) = u.n + (k : Int) by omega] at this
    exact this
  · intro l hl
    have := h.ps l hl
    omega
end Nw
/-! Data of webs shown, lines grouped and sorted. -/
namespace Nw
open PySem PySem.Spec PyProof.Rows L2
theorem short_small : ∀ n : Fin 64, ((PyData.shown (.int (n.val : Int))).length ≤ 8 ∧ (((n.val : Int)).natAbs.log2 < 1920) ∧ PyData.weight (.int (n.val : Int)) ≤ 6) := by decide +kernel
theorem short_int {i : Int} (h0 : 0 ≤ i) (h1 : i < 64) : (PyData.shown (.int i)).length ≤ 8 ∧ i.natAbs.log2 < 1920 ∧ PyData.weight (.int i) ≤ 6 := by
  have h := short_small ⟨i.toNat, by omega⟩
  simp only [Int.toNat_of_nonneg h0] at h
  exact h
abbrev Sm (i : Int) : Prop := 0 ≤ i ∧ i < 64
theorem sm_ints : ∀ {r : List Int}, (∀ t ∈ r, Sm t) → PyData.leavesShortAll 8 (r.map PyData.int) = true ∧ PyData.showableAll (r.map PyData.int) = true ∧ PyData.weightAll (r.map PyData.int) ≤ 7 * r.length
  | [], _ => by simp [PyData.leavesShortAll, PyData.showableAll, PyData.weightAll]
  | a :: r, h => by
    obtain ⟨h1, h2, h3⟩ := sm_ints (r := r) fun t ht => h t (List.mem_cons_of_mem _ ht)
    obtain ⟨s1, s2⟩ := h a (by simp)
    obtain ⟨g1, g2, g5⟩ := short_int s1 s2
    refine ⟨?_, ?_, ?_⟩
    · simp only [List.map_cons, PyData.leavesShortAll, PyData.leavesShort, h1, Bool.and_true, decide_eq_true_eq]
      exact g1
    · simp only [List.map_cons, PyData.showableAll, PyData.showable, h2, Bool.and_true, decide_eq_true_eq]
      exact g2
    · simp only [List.map_cons, PyData.weightAll, List.length_cons]
      omega
theorem sm_pairs : ∀ {r : List (Int × Int)}, (∀ t ∈ r, Sm t.1 ∧ Sm t.2) → PyData.leavesShortAll 8 (r.map dPair) = true ∧ PyData.showableAll (r.map dPair) = true ∧ PyData.weightAll (r.map dPair) ≤ 16 * r.length
  | [], _ => by simp [PyData.leavesShortAll, PyData.showableAll, PyData.weightAll]
  | a :: r, h => by
    obtain ⟨h1, h2, h3⟩ := sm_pairs (r := r) fun t ht => h t (List.mem_cons_of_mem _ ht)
    obtain ⟨s1, s2⟩ := h a (by simp)
    obtain ⟨g1, g2, g5⟩ := short_int s1.1 s1.2
    obtain ⟨g3, g4, g6⟩ := short_int s2.1 s2.2
    refine ⟨?_, ?_, ?_⟩
    · simp only [List.map_cons, dPair, PyData.leavesShortAll, PyData.leavesShort, h1, Bool.and_true, decide_eq_true_eq, Bool.and_eq_true]
      exact ⟨g1, g3⟩
    · simp only [List.map_cons, dPair, PyData.showableAll, PyData.showable, h2, Bool.and_true, decide_eq_true_eq, Bool.and_eq_true]
      exact ⟨g2, g4⟩
    · have e : PyData.weight (dPair a) = PyData.weight (.int a.1) + 1 + (PyData.weight (.int a.2) + 1 + 0) := by
        simp only [dPair, PyData.weight, PyData.weightAll]
      simp only [List.map_cons, PyData.weightAll, List.length_cons]
      omega
/-- what repr of a list of small ints asks -/
theorem show_ints {r : List Int} (hs : ∀ t ∈ r, Sm t) (hz : r.length ≤ 30000) : (dInts r).showable = true ∧ (dInts r).shown.length ≤ sizeLine ∧ (dInts r).depth ≤ 60 := by
  obtain ⟨h1, h2, h3⟩ := sm_ints hs
  refine ⟨?_, ?_, ?_⟩
  · simp only [dInts, PyData.showable, h2]
  · refine PyData.shown_fits (B := 8) (by omega) (by omega) ?_ ?_
    · simp only [dInts, PyData.leavesShort, h1]
    · simp only [dInts, PyData.weight]
      omega
  · have := dep_dInts r
    omega
/-- what repr of a list of pairs of small ints asks -/
theorem show_pairs {r : List (Int × Int)} (hs : ∀ t ∈ r, Sm t.1 ∧ Sm t.2) (hz : r.length ≤ 30000) : (dPairs r).showable = true ∧ (dPairs r).shown.length ≤ sizeLine ∧ (dPairs r).depth ≤ 60 := by
  obtain ⟨h1, h2, h3⟩ := sm_pairs hs
  refine ⟨?_, ?_, ?_⟩
  · simp only [dPairs, PyData.showable, h2]
  · refine PyData.shown_fits (B := 8) (by omega) (by omega) ?_ ?_
    · simp only [dPairs, PyData.leavesShort, h1]
    · simp only [dPairs, PyData.weight]
      omega
  · have := dep_dPairs r
    omega
/-! ### lines grouped -/
theorem asc_tail : ∀ {p : Int × Int} {r : List (Int × Int)}, ascB ltPr (p :: r) = true → (∀ q ∈ r, ltPr p q = true) ∧ ascB ltPr r = true
  | p, [], _ => ⟨fun q hq => (by cases hq), rfl⟩
  | p, q :: r, h => by
    simp only [ascB, Bool.and_eq_true] at h
    obtain ⟨h1, h2⟩ := asc_tail (p := q) (r := r) h.2
    refine ⟨fun z hz => ?_, h.2⟩
    rcases List.mem_cons.mp hz with rfl | hz
    · exact h.1
    · have a := ltPr_iff.mp h.1
      have b := ltPr_iff.mp (h1 z hz)
      refine ltPr_iff.mpr ?_
      omega
/-- rising lines, those of the first k sources -/
def upTo (ls : List (Int × Int)) (k : Int) : List (Int × Int) := ls.filter fun l => decide (l.1 < k)
theorem upTo_step : ∀ {ls : List (Int × Int)} (k : Int), ascB ltPr ls = true → upTo ls (k + 1) = upTo ls k ++ (rowOf ls k).map fun t => (k, t)
  | [], k, _ => rfl
  | p :: r, k, h => by
    obtain ⟨h1, h2⟩ := asc_tail h
    have ih := upTo_step (ls := r) k h2
    unfold upTo rowOf at ih ⊢
    by_cases a : p.1 < k
    · rw [List.filter_cons_of_pos (p := fun l : Int × Int => decide (l.1 < k + 1)) (by simp; omega), List.filter_cons_of_pos (p := fun l : Int × Int => decide (l.1 < k)) (by simpa using a),
        List.filter_cons_of_neg (p := fun l : Int × Int => l.1 == k) (by simp; omega), ih]
      rfl
    · have e0 : r.filter (fun l => decide (l.1 < k)) = [] := by
        refine List.filter_eq_nil_iff.mpr fun q hq => ?_
        have := ltPr_iff.mp (h1 q hq)
        simp
        omega
      rw [e0, List.nil_append] at ih
      rw [List.filter_cons_of_neg (p := fun l : Int × Int => decide (l.1 < k)) (by simpa using a), e0, List.nil_append]
      by_cases b : p.1 = k
      · rw [List.filter_cons_of_pos (p := fun l : Int × Int => decide (l.1 < k + 1)) (by simp; omega), List.filter_cons_of_pos (p := fun l : Int × Int => l.1 == k) (by simpa using b), ih, List.map_cons, List.map_cons]
        rw [← b]
      · rw [List.filter_cons_of_neg (p := fun l : Int × Int => decide (l.1 < k + 1)) (by simp; omega), List.filter_cons_of_neg (p := fun l : Int × Int => l.1 == k) (by simpa using b), ih]
theorem upTo_none {ls : List (Int × Int)} {k : Int} (h : ∀ l ∈ ls, k ≤ l.1) : upTo ls k = [] :=
  List.filter_eq_nil_iff.mpr fun l hl => by
    have := h l hl
    simp
    omega
theorem upTo_all {ls : List (Int × Int)} {k : Int} (h : ∀ l ∈ ls, l.1 < k) : upTo ls k = ls :=
  List.filter_eq_self.mpr fun l hl => by
    have := h l hl
    simp
    omega
theorem asc_pushedAt {n : Int} {i : Nat} : ∀ {r : List Int}, ascB ltIn r = true → ascB ltPr (pushedAt n i r) = true
  | [], _ => rfl
  | [x], _ => rfl
  | x :: y :: r, h => by
    simp only [ascB, Bool.and_eq_true, ltIn, decide_eq_true_eq] at h
    have ih := asc_pushedAt (n := n) (i := i) (r := y :: r) h.2
    unfold pushedAt at ih ⊢
    simp only [List.map_cons, ascB, Bool.and_eq_true] at ih ⊢
    exact ⟨ltPr_iff.mpr (.inr ⟨rfl, h.1⟩), ih⟩
theorem asc_pushed {n m : Int} : ∀ {rs : List (List Int)} {i : Nat}, (∀ r ∈ rs, (∀ t ∈ r, 0 ≤ t ∧ t < m) ∧ ascB ltIn r = true) → ascB ltPr (pushedFrom n i rs) = true
  | [], _, _ => rfl
  | r :: rs, i, h => by
    simp only [pushedFrom]
    refine asc_app (asc_pushedAt (h r (by simp)).2) (asc_pushed fun z hz => h z (List.mem_cons_of_mem _ hz)) ?_
    intro x hx y hy
    obtain ⟨t, _, rfl⟩ := List.mem_map.mp hx
    have := pushed_ok (fun z hz => (h z (List.mem_cons_of_mem _ hz)).1) y hy
    refine ltPr_iff.mpr (.inl ?_)
    simp only
    omega
theorem Wb.Ok.lines_asc {u : Wb} (h : u.Ok) : ascB ltPr u.lines = true := by
  refine asc_app h.asc (asc_pushed fun r hr => (h.ns r hr).2) ?_
  intro x hx y hy
  have a := h.ps x hx
  have b := pushed_ok (fun r hr => (h.ns r hr).2.1) y hy
  refine ltPr_iff.mpr (.inl ?_)
  omega
theorem Wb.Ok.sm {u : Wb} (h : u.Ok) : ∀ l ∈ u.lines, Sm l.1 ∧ Sm l.2 := by
  intro l hl
  have a := h.line l hl
  have b := h.hi
  have c := h.few
  refine ⟨⟨a.1.1, by omega⟩, ⟨a.2.1, by omega⟩⟩
theorem Wb.Ok.sm_row {u : Wb} (h : u.Ok) (s : Int) : ∀ t ∈ rowOf u.lines s, Sm t := by
  intro t ht
  obtain ⟨l, hl, rfl⟩ := List.mem_map.mp ht
  exact (h.sm l (List.mem_filter.mp hl).1).2
theorem Wb.Ok.sm_srcs {u : Wb} (h : u.Ok) (s : Int) : ∀ t ∈ srcsOf u.lines s, Sm t := by
  intro t ht
  obtain ⟨l, hl, rfl⟩ := List.mem_map.mp ht
  exact (h.sm l (List.mem_filter.mp hl).1).1
theorem srcs_len (ls : List (Int × Int)) (s : Int) : (srcsOf ls s).length ≤ ls.length := by
  unfold srcsOf
  rw [List.length_map]
  exact List.length_filter_le _ _
/-! ### sorted -/
/-- the two ints of a pair that is known -/
def keyOf (H : Hp) : V → Int × Int
  | .ref t => match H t with
    | some (.tup [.int a, .int b]) => (a, b)
    | _ => (0, 0)
  | _ => (0, 0)
theorem keyOf_at {H : Hp} {t : Addr} {p : Int × Int} (h : H t = some (.tup [.int p.1, .int p.2])) : keyOf H (.ref t) = p := by
  unfold keyOf
  simp only [h]
theorem keys_of {K : PySem.W.Frag} {H : Hp} : ∀ {L : List (Int × Int)} {xs : List V}, DaAll K H (L.map dPair) xs → (∀ x ∈ xs, ∃ t, x = V.ref t ∧ H t = some (.tup [.int (keyOf H x).1, .int (keyOf H x).2])) ∧ xs.map (keyOf H) = L
  | [], xs, h => by
    obtain rfl : xs = [] := h
    exact ⟨fun x hx => (by cases hx), rfl⟩
  | p :: L, xs, h => by
    obtain ⟨x, xs, rfl, ⟨a, ys, rfl, hS, z1, r1, rfl, e1, z2, r2, rfl, e2, rfl⟩, h2⟩ := h
    obtain rfl := e1
    obtain rfl := e2
    obtain ⟨g1, g2⟩ := keys_of h2
    have e := keyOf_at hS
    refine ⟨fun x hx => ?_, by rw [List.map_cons, e, g2]⟩
    rcases List.mem_cons.mp hx with rfl | hx
    · exact ⟨a, rfl, by rw [e]; exact hS⟩
    · exact g1 x hx
theorem srtd_of {k : V → Int × Int} : ∀ {xs : List V}, ascB ltPr (xs.map k) = true → SrtO.Srtd (ltP k) xs
  | [], _ => List.Pairwise.nil
  | x :: xs, h => by
    obtain ⟨h1, h2⟩ := asc_tail (p := k x) (r := xs.map k) h
    refine List.Pairwise.cons (fun y hy => ?_) (srtd_of h2)
    have a := ltPr_iff.mp (h1 (k y) (List.mem_map.mpr ⟨y, hy, rfl⟩))
    refine SrtO.lexB_no.mpr ?_
    omega
/-- sorted of what is sorted -/
theorem sorted_same {K : PySem.W.Frag} {H : Hp} {a : Addr} {xs : List V} {L : List (Int × Int)} {Q : VK} (hS : SqL K H a xs) (hA : DaAll K H (L.map dPair) xs) (ha : ascB ltPr L = true)
    (q : ∀ p, H p = none → Q (.ref p) (upd H p (.lst xs))) : rSortedPO K [.ref a] H Q := by
  obtain ⟨h1, h2⟩ := keys_of hA
  refine ⟨a, xs, keyOf H, rfl, hS, h1, fun ys p s1 s2 hp => ?_⟩
  have s3 : SrtO.Srtd (ltP (keyOf H)) xs := srtd_of (by rw [h2]; exact ha)
  rw [SrtO.stb_uniq (ltP_swo (keyOf H)) s1 s3 s2]
  exact q p hp
/-- pairs outlast what is done to a list -/
theorem pairs_wr {K : PySem.W.Frag} {H : Hp} {D : Addr} {ys : List V} {o : HO} (hD : H D = some (.lst ys)) : ∀ {L : List (Int × Int)} {acc : List V}, DaAll K H (L.map dPair) acc → DaAll K (upd H D o) (L.map dPair) acc
  | [], _, h => h
  | p :: L, acc, h => by
    obtain ⟨x, xs, rfl, ⟨a, zs, rfl, hS, z1, r1, rfl, e1, z2, r2, rfl, e2, rfl⟩, h2⟩ := h
    obtain rfl := e1
    obtain rfl := e2
    refine ⟨_, _, rfl, dPair_of ?_, pairs_wr hD h2⟩
    rw [upd_ne (fun e => by rw [e, hD] at hS; cases hS)]
    exact hS
end Nw
namespace K42
open PySem PySem.Spec PyProof.Rows L2 Nw
def topS (i : Nat) : Stmt := PySem.Challenge.pw_nudgewebs_k42_targets_sources_lines.main.body.getD i (.Pass ⟨0, 0, 0, 0⟩)
structure Txt (K : PySem.W.Frag) (mg : Str → Option Value) : Prop where
  b_isinstance : mg "isinstance" = none
  b_len : mg "len" = none
  b_all : mg "all" = none
  b_repr : mg "repr" = none
  b_abs : mg "abs" = none
  b_max : mg "max" = none
  b_min : mg "min" = none
  b_sorted : mg "sorted" = none
  b_int : mg "int" = none
  b_bool : mg "bool" = none
  b_list : mg "list" = none
  b_tuple : mg "tuple" = none
  b_range : mg "range" = none
  b_enumerate : mg "enumerate" = none
  b_zip : mg "zip" = none
  c_MOST_QUANTITIES : ∃ t, mg "MOST_QUANTITIES" = some (.int 20 t)
  c_MOST_NUDGES : ∃ t, mg "MOST_NUDGES" = some (.int 8 t)
/-! is_integer: slots 0 value -/
abbrev s_is_integer : Stmt := topS 8
abbrev N_is_integer : List Str := ["value"]
abbrev P_is_integer : List Str := ["value"]
theorem sc_is_integer : FnScope N_is_integer P_is_integer (defScope s_is_integer) := ⟨rfl, rfl, rfl, by decide +kernel, rfl, by decide +kernel, by decide +kernel⟩
def sp_is_integer (K : PySem.W.Frag) : Sp := fun vs H Q _ => ∃ v d, vs = [v] ∧ Da K H d v ∧ Q (.bl (isInt d)) H
section
variable {P : Program} {w : World} {K : PySem.W.Frag} {mg : Str → Option Value} {base : Heap}
theorem ok_is_integer {f : Addr} {fd : FuncData} (T : Txt K mg) (F : Fun K "is_integer" "is_integer" s_is_integer f fd) :
    FnG P w K mg base CX0 1 f fd P_is_integer (sp_is_integer K) := by
  refine okG0 F sc_is_integer (fun vs H Q E h => ?_) (fun cdv A outer s H vs Q E hr hq h => ?_)
  · obtain ⟨v, d, rfl, _⟩ := h
    rfl
  · obtain ⟨v, d, rfl, hd, q⟩ := h
    refine ⟨_, (pss_one (ps_ret (pe_and (pe_callB (call_isiK K) (by rfl) T.b_isinstance bt_isinstance (pa_cons (pv 0) (pa_cons (pe_bty T.b_int bt_int) pa_nil))) (pe_one (pe_not (pe_callB (call_isiK K) (by rfl) T.b_isinstance bt_isinstance (pa_cons (pv 0) (pa_cons (pe_bty T.b_bool bt_bool) pa_nil)))))))), ?_⟩
    refine ⟨_, rfl, _, _, _, _, _, rfl, .ty _, hd.ty, isa_int d, _, rfl, ?_⟩
    rw [← isInt_eq] at q
    refine ite2 (fun h1 => ?_) (fun h1 => ?_)
    · refine ⟨_, rfl, _, _, _, _, _, rfl, .ty _, hd.ty, isa_bool d, _, rfl, ?_⟩
      rw [h1, Bool.true_and] at q
      exact q
    · rw [Bool.not_eq_true] at h1
      rw [h1, Bool.false_and] at q
      exact q
end

/-! is_number_below: slots 0 value, 1 limit -/
abbrev s_is_number_below : Stmt := topS 9
abbrev N_is_number_below : List Str := ["value", "limit"]
abbrev P_is_number_below : List Str := ["value", "limit"]
theorem sc_is_number_below : FnScope N_is_number_below P_is_number_below (defScope s_is_number_below) := ⟨rfl, rfl, rfl, by decide +kernel, rfl, by decide +kernel, by decide +kernel⟩
def sp_is_number_below (K : PySem.W.Frag) : Sp := fun vs H Q _ => ∃ v d m, vs = [v, .int m] ∧ Da K H d v ∧ Q (.bl (numB d m)) H
section
variable {P : Program} {w : World} {K : PySem.W.Frag} {mg : Str → Option Value} {base : Heap}
theorem ok_is_number_below {f : Addr} {fd : FuncData} (T : Txt K mg) (F : Fun K "is_number_below" "is_number_below" s_is_number_below f fd)
    (D_is_integer : DefOk P w K mg base CX0 1 "is_integer" P_is_integer (sp_is_integer K)) :
    FnG P w K mg base CX0 2 f fd P_is_number_below (sp_is_number_below K) := by
  refine okG0 F sc_is_number_below (fun vs H Q E h => ?_) (fun cdv A outer s H vs Q E hr hq h => ?_)
  · obtain ⟨v, d, m, rfl, _⟩ := h
    rfl
  · obtain ⟨v, d, m, rfl, hd, q⟩ := h
    refine ⟨_, (pss_one (ps_ret (pe_and (pe_callD D_is_integer (hr.mono (by decide)) hq pass0 (pa_cons (pv 0) pa_nil)) (pe_one (pe_chain op_le op_lt pe_int (pv 0) (pv 1)))))), ?_⟩
    refine ⟨_, rfl, _, _, rfl, hd, _, rfl, ?_⟩
    cases d with
    | int i =>
      obtain rfl := hd
      refine ⟨_, rfl, _, _, rfl, rfl, _, rfl, ?_⟩
      refine ite2 (fun h1 => ?_) (fun h1 => ?_)
      · refine ⟨_, rfl, _, _, rfl, rfl, ?_⟩
        simp only [numB, h1, Bool.true_and] at q
        exact q
      · rw [Bool.not_eq_true] at h1
        simp only [numB, h1, Bool.false_and] at q
        exact q
    | _ => exact q
end

/-! is_tuple_below: slots 0 value, 1 first_limit, 2 second_limit -/
abbrev s_is_tuple_below : Stmt := topS 10
abbrev N_is_tuple_below : List Str := ["value", "first_limit", "second_limit"]
abbrev P_is_tuple_below : List Str := ["value", "first_limit", "second_limit"]
theorem sc_is_tuple_below : FnScope N_is_tuple_below P_is_tuple_below (defScope s_is_tuple_below) := ⟨rfl, rfl, rfl, by decide +kernel, rfl, by decide +kernel, by decide +kernel⟩
def sp_is_tuple_below (K : PySem.W.Frag) : Sp := fun vs H Q _ => ∃ v d m n, vs = [v, .int m, .int n] ∧ Da K H d v ∧ Q (.bl (tupB d m n)) H
section
variable {P : Program} {w : World} {K : PySem.W.Frag} {mg : Str → Option Value} {base : Heap}
theorem ok_is_tuple_below {f : Addr} {fd : FuncData} (T : Txt K mg) (F : Fun K "is_tuple_below" "is_tuple_below" s_is_tuple_below f fd)
    (D_is_number_below : DefOk P w K mg base CX0 2 "is_number_below" P_is_number_below (sp_is_number_below K)) :
    FnG P w K mg base CX0 3 f fd P_is_tuple_below (sp_is_tuple_below K) := by
  refine okG0 F sc_is_tuple_below (fun vs H Q E h => ?_) (fun cdv A outer s H vs Q E hr hq h => ?_)
  · obtain ⟨v, d, m, n, rfl, _⟩ := h
    rfl
  · obtain ⟨v, d, m, n, rfl, hd, q⟩ := h
    refine ⟨_, (pss_cons (ps_if (PW.pt (pw_or (pt_not (pt_val (pe_callB (call_isiK K) (by rfl) T.b_isinstance bt_isinstance (pa_cons (pv 0) (pa_cons (pe_bty T.b_tuple bt_tuple) pa_nil))))) (pw_or1 (pt_cmpR op_ne (pe_callB (call_lenK K) (by rfl) T.b_len bt_len (pa_cons (pv 0) pa_nil)) pe_int (nomark _))))) (pss_one (ps_ret pe_bl)) pss_nil)
      (pss_one (ps_ret (pe_and (pe_callD D_is_number_below (hr.mono (by decide)) hq pass0 (pa_cons (pe_ix (ix_seqK K) (pv 0) pe_int (fun _ _ => rfl)) (pa_cons (pv 1) pa_nil))) (pe_one (pe_callD D_is_number_below (hr.mono (by decide)) hq pass0 (pa_cons (pe_ix (ix_seqK K) (pv 0) pe_int (fun _ _ => rfl)) (pa_cons (pv 2) pa_nil)))))))), ?_⟩
    refine ⟨_, rfl, _, _, _, _, _, rfl, .ty _, hd.ty, isa_tuple d, _, rfl, ?_⟩
    cases d with
    | tuple ds =>
      obtain ⟨a, xs, rfl, hS0, hA⟩ := hd
      have hS : SqT K _ a xs := .inl (.inl hS0)
      have hl := hA.len
      refine ⟨_, rfl, a, _, rfl, .inr hS, rfl, _, rfl, ?_⟩
      refine ite2 (fun h1 => ?_) (fun h1 => ?_)
      · have e : tupB (.tuple ds) m n = false := by
          unfold tupB
          split
          · rename_i heq
            cases heq
            rw [← hl] at h1
            simp at h1
          · rfl
        rw [e] at q
        exact q
      · have h2 : ds.length = 2 := by
          simp at h1
          omega
        obtain ⟨d1, d2, rfl⟩ : ∃ d1 d2, ds = [d1, d2] := by
          match ds, h2 with
          | [d1, d2], _ => exact ⟨d1, d2, rfl⟩
        obtain ⟨x1, r1, rfl, g1, x2, r2, rfl, g2, rfl⟩ := hA
        refine ⟨_, rfl, .inr (.inl ⟨a, _, 0, x1, rfl, rfl, hS, rfl, _, rfl, _, _, _, rfl, g1, _, rfl, ?_⟩)⟩
        refine ite2 (fun h3 => ?_) (fun h3 => ?_)
        · refine ⟨_, rfl, .inr (.inl ⟨a, _, 1, x2, rfl, rfl, hS, rfl, _, rfl, _, _, _, rfl, g2, ?_⟩)⟩
          simp only [tupB, h3, Bool.true_and] at q
          exact q
        · rw [Bool.not_eq_true] at h3
          simp only [tupB, h3, Bool.false_and] at q
          exact q
    | _ => exact q
end

/-! are_below: slots 0 value, 1 limit, 2 one -/
abbrev s_are_below : Stmt := topS 11
abbrev N_are_below : List Str := ["value", "limit", "one"]
abbrev P_are_below : List Str := ["value", "limit"]
theorem sc_are_below : FnScope N_are_below P_are_below (defScope s_are_below) := ⟨rfl, rfl, rfl, by decide +kernel, rfl, by decide +kernel, by decide +kernel⟩
def sp_are_below (K : PySem.W.Frag) : Sp := fun vs H Q _ => ∃ v d m, vs = [v, .int m] ∧ Da K H d v ∧ ∀ H', Ex H H' → Q (.bl (listB d m)) H'
section
variable {P : Program} {w : World} {K : PySem.W.Frag} {mg : Str → Option Value} {base : Heap}
theorem ok_are_below {f : Addr} {fd : FuncData} (T : Txt K mg) (F : Fun K "are_below" "are_below" s_are_below f fd)
    (D_is_number_below : DefOk P w K mg base CX0 2 "is_number_below" P_is_number_below (sp_is_number_below K)) :
    FnG P w K mg base CX0 3 f fd P_are_below (sp_are_below K) := by
  refine okG0 F sc_are_below (fun vs H Q E h => ?_) (fun cdv A outer s H vs Q E hr hq h => ?_)
  · obtain ⟨v, d, m, rfl, _⟩ := h
    rfl
  · obtain ⟨v, d, m, rfl, hd, q⟩ := h
    refine ⟨_, (pss_one (ps_ret (pe_and (pe_callB (call_isiK K) (by rfl) T.b_isinstance bt_isinstance (pa_cons (pv 0) (pa_cons (pe_bty T.b_list bt_list) pa_nil))) (pe_one (pe_callB (cr_allK K rfl) (by rfl) T.b_all bt_all (pa_cons (pe_lc (own := [("one", 2)]) rfl sc_are_below.nd (pi_listK K (pv 0)) (blkOk_by (N := N_are_below) (sc := defScope s_are_below) (by decide +kernel)) (fun _ _ _ _ _ => (pg_name (i := 2) sc_are_below.nd rfl (by first | exact .inl rfl | exact .inr rfl))) (fun _ _ _ _ _ => pts_nil) (fun _ _ _ _ _ => (pe_callD D_is_number_below (hr.mono (by decide)) hq pass0 (pa_cons (pv 2) (pa_cons (pv 1) pa_nil))))) pa_nil)))))), ?_⟩
    refine ⟨_, rfl, _, _, _, _, _, rfl, .ty _, hd.ty, isa_list d, _, rfl, ?_⟩
    cases d with
    | list ds =>
      obtain ⟨a, xs, rfl, hS0, hA, hz⟩ := hd
      have hS : SqL K _ a xs := .inl (.inl hS0)
      have hl := hA.len
      refine ⟨_, rfl, a, rfl, ⟨_, hS⟩, fun D hD => ?_⟩
      refine lc_ev xs.length (fun _ => true) (fun i y _ => y = .bl (numB (ds.getD i .none) m)) (by omega) hD (fun _ _ _ _ _ h => h)
        (fun i H' hi e => itl_go hS e hi) (fun H' e => itl_stop hS e) ?_ ?_
      · intro i H' x H'' hi e _ y Q' N' hQ _
        obtain ⟨rfl, hx⟩ := itl_yld y hS e
        obtain ⟨d, hd, hx'⟩ := hA.at' hx
        refine ⟨rfl, _, rfl, _, rfl, _, _, _, rfl, hx'.up e, ?_⟩
        refine hQ rfl _ _ Ex.rfl ?_
        rw [List.getD_eq_getElem?_getD, hd]
        rfl
      · intro ys H' e hy gv
        refine ⟨D, (List.range xs.length).map fun i => numB (ds.getD i .none) m, rfl, .inl (.inl ?_), ?_⟩
        · rw [hy, gv.all, given_bl]
        · rw [← hl, all_range_get (fun d => numB d m) .none ds]
          exact q _ e
    | _ => exact q _ Ex.rfl
end

/-! are_ascending: slots 0 values, 1 one, 2 following -/
abbrev s_are_ascending : Stmt := topS 12
abbrev N_are_ascending : List Str := ["values", "one", "following"]
abbrev P_are_ascending : List Str := ["values"]
theorem sc_are_ascending : FnScope N_are_ascending P_are_ascending (defScope s_are_ascending) := ⟨rfl, rfl, rfl, by decide +kernel, rfl, by decide +kernel, by decide +kernel⟩
def sp_are_ascending (K : PySem.W.Frag) : Sp := fun vs H Q _ => ∃ v, vs = [v] ∧
  ((∃ ns : List Int, Da K H (.list (ns.map PyData.int)) v ∧ ∀ H', Ex H H' → Q (.bl (ascB ltIn ns)) H') ∨
   (∃ ps : List (Int × Int), Da K H (.list (ps.map dPair)) v ∧ ∀ H', Ex H H' → Q (.bl (ascB ltPr ps)) H'))
section
variable {P : Program} {w : World} {K : PySem.W.Frag} {mg : Str → Option Value} {base : Heap}
theorem ok_are_ascending {f : Addr} {fd : FuncData} (T : Txt K mg) (F : Fun K "are_ascending" "are_ascending" s_are_ascending f fd) :
    FnG P w K mg base CX0 1 f fd P_are_ascending (sp_are_ascending K) := by
  refine okG0 F sc_are_ascending (fun vs H Q E h => ?_) (fun cdv A outer s H vs Q E hr hq h => ?_)
  · obtain ⟨v, rfl, _⟩ := h
    rfl
  · obtain ⟨v, rfl, h⟩ := h
    refine ⟨_, (pss_one (ps_ret (pe_callB (cr_allK K rfl) (by rfl) T.b_all bt_all (pa_cons (pe_lc (own := [("one", 1), ("following", 2)]) rfl sc_are_ascending.nd (pi_zip (by rfl) T.b_zip (pa_cons (pv 0) (pa_cons (pe_slice (sl_listK K) (pv 0) (po_some pe_int) po_none) pa_nil))) (blkOk_by (N := N_are_ascending) (sc := defScope s_are_ascending) (by decide +kernel)) (fun _ _ _ _ _ => (pg_tupK (n := 2) K rfl (pgs_cons (pg_name (i := 1) sc_are_ascending.nd rfl (by first | exact .inl rfl | exact .inr rfl)) (pgs_cons (pg_name (i := 2) sc_are_ascending.nd rfl (by first | exact .inl rfl | exact .inr rfl)) pgs_nil)))) (fun _ _ _ _ _ => pts_nil) (fun _ _ _ _ _ => (pe_cmpR (op_ltA K hr.units0) (pv 1) (pv 2) (nomark _)))) pa_nil)))), ?_⟩
    rcases h with ⟨ns, ⟨a, xs, rfl, hS0, hA, hz⟩, q⟩ | ⟨ps, ⟨a, xs, rfl, hS0, hA, hz⟩, q⟩
    · obtain rfl := DaAll.ints.mp hA
      have hS : SqL K _ a (ns.map V.int) := .inl (.inl hS0)
      rw [List.length_map] at hz
      refine ⟨_, rfl, .ref a, rfl, 1, rfl, a, _, rfl, hS, fun p hp => ?_⟩
      have hS' := (Ex.nw (o := .lst (cutV (ns.map V.int) (some 1) none)) hp).l hS
      have hC : SqL K (upd H p (.lst (cutV (ns.map V.int) (some 1) none))) p ((ns.map V.int).drop 1) := .inl (.inl (by rw [upd_same, cut1]))
      refine ⟨a, p, _, _, rfl, hS', hC, fun D hD => ?_⟩
      refine lc_ev (min (ns.map V.int).length ((ns.map V.int).drop 1).length) (fun _ => true) (fun i y _ => y = .bl (ascAt ltIn ns i)) (by rw [List.length_map]; omega) hD
        (fun _ _ _ _ _ h => h) (fun i H' hi e => itz_go hS' hC e hi) (fun H' e => itz_stop hS' hC e) ?_ ?_
      · rintro i H' x H'' hi e _ ⟨T', x1, x2, rfl, hT, rfl, h1, h2⟩ Q' N' hQ _
        obtain ⟨n1, g1, rfl⟩ := map_at (h1 _ (e.l hS'))
        obtain ⟨n2, g2, rfl⟩ := map_at (drop1_at (h2 _ (e.l hC)))
        refine ⟨T', _, rfl, .inl (.inl upd_same), rfl, _, _, rfl, _, _, rfl, rfl, rfl, _, rfl, _, rfl, .inl ⟨_, _, rfl, rfl, hQ rfl _ _ (Ex.nw hT) ?_⟩⟩
        show V.bl (decide (n1 < n2)) = V.bl (ascAt ltIn ns i)
        simp only [ascAt, g1, g2, ltIn]
      · intro ys H' e hy gv
        refine ⟨D, (List.range (min (ns.map V.int).length ((ns.map V.int).drop 1).length)).map fun i => ascAt ltIn ns i, rfl, .inl (.inl ?_), ?_⟩
        · rw [hy, gv.all, given_bl]
        · rw [min_drop1, List.length_map, ascB_range]
          exact q _ ((Ex.nw hp).tr e)
    · have hS : SqL K _ a xs := .inl (.inl hS0)
      have hl : ps.length = xs.length := by
        have := hA.len
        rw [List.length_map] at this
        exact this
      rw [List.length_map] at hz
      refine ⟨_, rfl, .ref a, rfl, 1, rfl, a, _, rfl, hS, fun p hp => ?_⟩
      have e0 : Ex H (upd H p (.lst (cutV xs (some 1) none))) := Ex.nw hp
      have hS' := e0.l hS
      have hC : SqL K (upd H p (.lst (cutV xs (some 1) none))) p (xs.drop 1) := .inl (.inl (by rw [upd_same, cut1]))
      refine ⟨a, p, _, _, rfl, hS', hC, fun D hD => ?_⟩
      refine lc_ev (min xs.length (xs.drop 1).length) (fun _ => true) (fun i y _ => y = .bl (ascAt ltPr ps i)) (by omega) hD
        (fun _ _ _ _ _ h => h) (fun i H' hi e => itz_go hS' hC e hi) (fun H' e => itz_stop hS' hC e) ?_ ?_
      · rintro i H' x H'' hi e _ ⟨T', x1, x2, rfl, hT, rfl, h1, h2⟩ Q' N' hQ _
        obtain ⟨p1, g1, a1, rfl, t1⟩ := pairs_at hA (h1 _ (e.l hS'))
        obtain ⟨p2, g2, a2, rfl, t2⟩ := pairs_at hA (drop1_at (h2 _ (e.l hC)))
        have e3 := (e0.tr e).tr (Ex.nw (o := .tup [.ref a1, .ref a2]) hT)
        refine ⟨T', _, rfl, .inl (.inl upd_same), rfl, _, _, rfl, _, _, rfl, rfl, rfl, _, rfl, _, rfl,
          .inr ⟨a1, a2, [p1.1, p1.2], [p2.1, p2.2], rfl, rfl, e3.t t1, e3.t t2, hQ rfl _ _ (Ex.nw hT) ?_⟩⟩
        show V.bl (HT.lexLt [p1.1, p1.2] [p2.1, p2.2]) = V.bl (ascAt ltPr ps i)
        simp only [ascAt, g1, g2, ltPr]
      · intro ys H' e hy gv
        refine ⟨D, (List.range (min xs.length (xs.drop 1).length)).map fun i => ascAt ltPr ps i, rfl, .inl (.inl ?_), ?_⟩
        · rw [hy, gv.all, given_bl]
        · rw [min_drop1, ← hl, ascB_range]
          exact q _ ((Ex.nw hp).tr e)
end

/-! are_ascending_tuples: slots 0 value, 1 first_limit, 2 second_limit, 3 one -/
abbrev s_are_ascending_tuples : Stmt := topS 13
abbrev N_are_ascending_tuples : List Str := ["value", "first_limit", "second_limit", "one"]
abbrev P_are_ascending_tuples : List Str := ["value", "first_limit", "second_limit"]
theorem sc_are_ascending_tuples : FnScope N_are_ascending_tuples P_are_ascending_tuples (defScope s_are_ascending_tuples) := ⟨rfl, rfl, rfl, by decide +kernel, rfl, by decide +kernel, by decide +kernel⟩
def sp_are_ascending_tuples (K : PySem.W.Frag) : Sp := fun vs H Q _ => ∃ v d m n, vs = [v, .int m, .int n] ∧ Da K H d v ∧ ∀ H', Ex H H' → Q (.bl (tuplesB d m n)) H'
section
variable {P : Program} {w : World} {K : PySem.W.Frag} {mg : Str → Option Value} {base : Heap}
theorem ok_are_ascending_tuples {f : Addr} {fd : FuncData} (T : Txt K mg) (F : Fun K "are_ascending_tuples" "are_ascending_tuples" s_are_ascending_tuples f fd)
    (D_is_tuple_below : DefOk P w K mg base CX0 3 "is_tuple_below" P_is_tuple_below (sp_is_tuple_below K))
    (D_are_ascending : DefOk P w K mg base CX0 1 "are_ascending" P_are_ascending (sp_are_ascending K)) :
    FnG P w K mg base CX0 4 f fd P_are_ascending_tuples (sp_are_ascending_tuples K) := by
  refine okG0 F sc_are_ascending_tuples (fun vs H Q E h => ?_) (fun cdv A outer s H vs Q E hr hq h => ?_)
  · obtain ⟨v, d, m, n, rfl, _⟩ := h
    rfl
  · obtain ⟨v, d, m, n, rfl, hd, q⟩ := h
    refine ⟨_, (pss_cons (ps_if (pt_not (pt_val (pe_callB (call_isiK K) (by rfl) T.b_isinstance bt_isinstance (pa_cons (pv 0) (pa_cons (pe_bty T.b_list bt_list) pa_nil))))) (pss_one (ps_ret pe_bl)) pss_nil)
      (pss_cons (ps_if (pt_not (pt_val (pe_callB (cr_allK K rfl) (by rfl) T.b_all bt_all (pa_cons (pe_lc (own := [("one", 3)]) rfl sc_are_ascending_tuples.nd (pi_listK K (pv 0)) (blkOk_by (N := N_are_ascending_tuples) (sc := defScope s_are_ascending_tuples) (by decide +kernel)) (fun _ _ _ _ _ => (pg_name (i := 3) sc_are_ascending_tuples.nd rfl (by first | exact .inl rfl | exact .inr rfl))) (fun _ _ _ _ _ => pts_nil) (fun _ _ _ _ _ => (pe_callD D_is_tuple_below (hr.mono (by decide)) hq pass0 (pa_cons (pv 3) (pa_cons (pv 1) (pa_cons (pv 2) pa_nil)))))) pa_nil)))) (pss_one (ps_ret pe_bl)) pss_nil)
      (pss_one (ps_ret (pe_callD D_are_ascending (hr.mono (by decide)) hq pass0 (pa_cons (pv 0) pa_nil)))))), ?_⟩
    refine ⟨_, rfl, _, _, _, _, _, rfl, .ty _, hd.ty, isa_list d, _, rfl, ?_⟩
    cases d with
    | list ds =>
      have hd0 := hd
      obtain ⟨a, xs, rfl, hS0, hA, hz⟩ := hd
      have hS : SqL K _ a xs := .inl (.inl hS0)
      have hl := hA.len
      refine ⟨_, rfl, a, rfl, ⟨_, hS⟩, fun D hD => ?_⟩
      refine lc_ev xs.length (fun _ => true) (fun i y _ => y = .bl (tupB (ds.getD i .none) m n)) (by omega) hD (fun _ _ _ _ _ h => h)
        (fun i H' hi e => itl_go hS e hi) (fun H' e => itl_stop hS e) ?_ ?_
      · intro i H' x H'' hi e _ y Q' N' hQ _
        obtain ⟨rfl, hx⟩ := itl_yld y hS e
        obtain ⟨d, hd, hx'⟩ := hA.at' hx
        refine ⟨rfl, _, rfl, _, rfl, _, rfl, _, _, _, _, rfl, hx'.up e, ?_⟩
        refine hQ rfl _ _ Ex.rfl ?_
        rw [List.getD_eq_getElem?_getD, hd]
        rfl
      · intro ys H' e hy gv
        refine ⟨D, (List.range xs.length).map fun i => tupB (ds.getD i .none) m n, rfl, .inl (.inl ?_), _, rfl, ?_⟩
        · rw [hy, gv.all, given_bl]
        · rw [← hl, all_range_get (fun d => tupB d m n) .none ds]
          refine ite2 (fun h1 => ?_) (fun h1 => ?_)
          · rw [Bool.not_eq_true'] at h1
            have e2 : tuplesB (.list ds) m n = false := by simp only [tuplesB, h1, Bool.false_and]
            rw [e2] at q
            exact q _ e
          · rw [Bool.not_eq_true', Bool.not_eq_false] at h1
            obtain ⟨ps, rfl, _⟩ := pairs_of_all h1
            refine ⟨_, rfl, _, rfl, .inr ⟨ps, hd0.up e, fun H2 e2 => ?_⟩⟩
            have e3 : tuplesB (.list (ps.map dPair)) m n = ascB ltPr ps := by simp only [tuplesB, h1, Bool.true_and, pairsOf_map]
            rw [e3] at q
            exact q _ (e.tr e2)
    | _ => exact q _ Ex.rfl
end

/-! are_targets: slots 0 value, 1 count -/
abbrev s_are_targets : Stmt := topS 14
abbrev N_are_targets : List Str := ["value", "count"]
abbrev P_are_targets : List Str := ["value", "count"]
theorem sc_are_targets : FnScope N_are_targets P_are_targets (defScope s_are_targets) := ⟨rfl, rfl, rfl, by decide +kernel, rfl, by decide +kernel, by decide +kernel⟩
def sp_are_targets (K : PySem.W.Frag) : Sp := fun vs H Q _ => ∃ v d m, vs = [v, .int m] ∧ Da K H d v ∧ ∀ H', Ex H H' → Q (.bl (targetsB d m)) H'
section
variable {P : Program} {w : World} {K : PySem.W.Frag} {mg : Str → Option Value} {base : Heap}
theorem ok_are_targets {f : Addr} {fd : FuncData} (T : Txt K mg) (F : Fun K "are_targets" "are_targets" s_are_targets f fd)
    (D_are_below : DefOk P w K mg base CX0 3 "are_below" P_are_below (sp_are_below K))
    (D_are_ascending : DefOk P w K mg base CX0 1 "are_ascending" P_are_ascending (sp_are_ascending K)) :
    FnG P w K mg base CX0 4 f fd P_are_targets (sp_are_targets K) := by
  refine okG0 F sc_are_targets (fun vs H Q E h => ?_) (fun cdv A outer s H vs Q E hr hq h => ?_)
  · obtain ⟨v, d, m, rfl, _⟩ := h
    rfl
  · obtain ⟨v, d, m, rfl, hd, q⟩ := h
    refine ⟨_, (pss_one (ps_ret (pe_and (pe_callD D_are_below (hr.mono (by decide)) hq pass0 (pa_cons (pv 0) (pa_cons (pv 1) pa_nil))) (pe_and (pe_cmpR op_gt (pe_callB (call_lenK K) (by rfl) T.b_len bt_len (pa_cons (pv 0) pa_nil)) pe_int (nomark _)) (pe_one (pe_callD D_are_ascending (hr.mono (by decide)) hq pass0 (pa_cons (pv 0) pa_nil))))))), ?_⟩
    refine ⟨_, rfl, _, rfl, _, _, _, rfl, hd, fun H1 e1 => ⟨_, rfl, ?_⟩⟩
    refine ite2 (fun h1 => ?_) (fun h1 => ?_)
    · cases d with
      | list ds =>
        obtain ⟨ns, rfl, _⟩ := ints_of_all (show (ds.all fun d => numB d m) = true from h1)
        have hd1 := hd.up e1
        obtain ⟨a, xs, rfl, hS0, hA, hz⟩ := hd1
        have hS : SqL K _ a xs := .inl (.inl hS0)
        have hl := hA.len
        refine ⟨_, rfl, a, _, rfl, .inl hS, _, _, rfl, rfl, _, rfl, ?_⟩
        refine ite2 (fun h2 => ?_) (fun h2 => ?_)
        · refine ⟨_, rfl, _, rfl, .inl ⟨ns, hd.up e1, fun H2 e2 => ?_⟩⟩
          have e3 : targetsB (.list (ns.map PyData.int)) m = ascB ltIn ns := by
            have h3 : ((ns.map PyData.int).all fun d => numB d m) = true := h1
            have h4 : decide (0 < (ns.map PyData.int).length) = true := by
              rw [hl]
              simpa using h2
            simp only [targetsB, h3, h4, Bool.true_and, intsOf_map]
          rw [e3] at q
          exact q _ (e1.tr e2)
        · have e3 : targetsB (.list (ns.map PyData.int)) m = false := by
            have h4 : decide (0 < (ns.map PyData.int).length) = false := by
              rw [hl]
              simpa using h2
            simp only [targetsB, h4, Bool.false_and, Bool.and_false]
          rw [e3] at q
          exact q _ e1
      | _ => exact (Bool.noConfusion h1 : False).elim
    · rw [Bool.not_eq_true] at h1
      have e3 : targetsB d m = false := by
        cases d with
        | list ds =>
          have h3 : (ds.all fun d => numB d m) = false := h1
          simp only [targetsB, h3, Bool.false_and]
        | _ => rfl
      rw [e3] at q
      exact q _ e1
end

/-! are_nudges: slots 0 value, 1 count, 2 nudge -/
abbrev s_are_nudges : Stmt := topS 15
abbrev N_are_nudges : List Str := ["value", "count", "nudge"]
abbrev P_are_nudges : List Str := ["value", "count"]
theorem sc_are_nudges : FnScope N_are_nudges P_are_nudges (defScope s_are_nudges) := ⟨rfl, rfl, rfl, by decide +kernel, rfl, by decide +kernel, by decide +kernel⟩
def sp_are_nudges (K : PySem.W.Frag) : Sp := fun vs H Q _ => ∃ v d m, vs = [v, .int m] ∧ Da K H d v ∧ ∀ H', Ex H H' → Q (.bl (nudgesB d m)) H'
section
variable {P : Program} {w : World} {K : PySem.W.Frag} {mg : Str → Option Value} {base : Heap}
theorem ok_are_nudges {f : Addr} {fd : FuncData} (T : Txt K mg) (F : Fun K "are_nudges" "are_nudges" s_are_nudges f fd)
    (D_are_targets : DefOk P w K mg base CX0 4 "are_targets" P_are_targets (sp_are_targets K)) :
    FnG P w K mg base CX0 5 f fd P_are_nudges (sp_are_nudges K) := by
  refine okG0 F sc_are_nudges (fun vs H Q E h => ?_) (fun cdv A outer s H vs Q E hr hq h => ?_)
  · obtain ⟨v, d, m, rfl, _⟩ := h
    rfl
  · obtain ⟨v, d, m, rfl, hd, q⟩ := h
    refine ⟨_, (pss_cons (ps_if (PW.pt (pw_or (pt_not (pt_val (pe_callB (call_isiK K) (by rfl) T.b_isinstance bt_isinstance (pa_cons (pv 0) (pa_cons (pe_bty T.b_list bt_list) pa_nil))))) (pw_or1 (pt_cmpR op_gt (pe_callB (call_lenK K) (by rfl) T.b_len bt_len (pa_cons (pv 0) pa_nil)) (pe_globI T.c_MOST_NUDGES) (nomark _))))) (pss_one (ps_ret pe_bl)) pss_nil)
      (pss_one (ps_ret (pe_callB (cr_allK K rfl) (by rfl) T.b_all bt_all (pa_cons (pe_lc (own := [("nudge", 2)]) rfl sc_are_nudges.nd (pi_listK K (pv 0)) (blkOk_by (N := N_are_nudges) (sc := defScope s_are_nudges) (by decide +kernel)) (fun _ _ _ _ _ => (pg_name (i := 2) sc_are_nudges.nd rfl (by first | exact .inl rfl | exact .inr rfl))) (fun _ _ _ _ _ => pts_nil) (fun _ _ _ _ _ => (pe_callD D_are_targets (hr.mono (by decide)) hq pass0 (pa_cons (pv 2) (pa_cons (pv 1) pa_nil))))) pa_nil))))), ?_⟩
    refine ⟨_, rfl, _, _, _, _, _, rfl, .ty _, hd.ty, isa_list d, _, rfl, ?_⟩
    cases d with
    | list ds =>
      obtain ⟨a, xs, rfl, hS0, hA, hz⟩ := hd
      have hS : SqL K _ a xs := .inl (.inl hS0)
      have hl := hA.len
      refine ⟨_, rfl, a, _, rfl, .inl hS, _, _, rfl, rfl, _, rfl, ?_⟩
      refine ite2 (fun h1 => ?_) (fun h1 => ?_)
      · have e3 : nudgesB (.list ds) m = false := by
          have h4 : decide (ds.length ≤ 8) = false := by
            rw [hl]
            simp at h1
            simp
            omega
          simp only [nudgesB, h4, Bool.false_and]
        rw [e3] at q
        exact q _ Ex.rfl
      · have e3 : nudgesB (.list ds) m = ds.all fun d => targetsB d m := by
          have h4 : decide (ds.length ≤ 8) = true := by
            rw [hl]
            simp at h1
            simp
            omega
          simp only [nudgesB, h4, Bool.true_and]
        rw [e3] at q
        refine ⟨_, rfl, a, rfl, ⟨_, hS⟩, fun D hD => ?_⟩
        refine lc_ev xs.length (fun _ => true) (fun i y _ => y = .bl (targetsB (ds.getD i .none) m)) (by omega) hD (fun _ _ _ _ _ h => h)
          (fun i H' hi e => itl_go hS e hi) (fun H' e => itl_stop hS e) ?_ ?_
        · intro i H' x H'' hi e _ y Q' N' hQ _
          obtain ⟨rfl, hx⟩ := itl_yld y hS e
          obtain ⟨d, hd, hx'⟩ := hA.at' hx
          refine ⟨rfl, _, rfl, _, rfl, _, _, _, rfl, hx'.up e, fun H2 e2 => ?_⟩
          refine hQ rfl _ _ e2 ?_
          rw [List.getD_eq_getElem?_getD, hd]
          rfl
        · intro ys H' e hy gv
          refine ⟨D, (List.range xs.length).map fun i => targetsB (ds.getD i .none) m, rfl, .inl (.inl ?_), ?_⟩
          · rw [hy, gv.all, given_bl]
          · rw [← hl, all_range_get (fun d => targetsB d m) .none ds]
            exact q _ e
    | _ => exact q _ Ex.rfl
end

/-! has_web_shape: slots 0 value, 1 count, 2 pairs, 3 nudges -/
abbrev s_has_web_shape : Stmt := topS 16
abbrev N_has_web_shape : List Str := ["value", "count", "pairs", "nudges"]
abbrev P_has_web_shape : List Str := ["value"]
theorem sc_has_web_shape : FnScope N_has_web_shape P_has_web_shape (defScope s_has_web_shape) := ⟨rfl, rfl, rfl, by decide +kernel, rfl, by decide +kernel, by decide +kernel⟩
def sp_has_web_shape (K : PySem.W.Frag) : Sp := fun vs H Q _ => ∃ v d, vs = [v] ∧ Da K H d v ∧ ∀ H', Ex H H' → Q (.bl (webB d)) H'
section
variable {P : Program} {w : World} {K : PySem.W.Frag} {mg : Str → Option Value} {base : Heap}
theorem ok_has_web_shape {f : Addr} {fd : FuncData} (T : Txt K mg) (F : Fun K "has_web_shape" "has_web_shape" s_has_web_shape f fd)
    (D_is_integer : DefOk P w K mg base CX0 1 "is_integer" P_is_integer (sp_is_integer K))
    (D_are_ascending_tuples : DefOk P w K mg base CX0 4 "are_ascending_tuples" P_are_ascending_tuples (sp_are_ascending_tuples K))
    (D_are_nudges : DefOk P w K mg base CX0 5 "are_nudges" P_are_nudges (sp_are_nudges K)) :
    FnG P w K mg base CX0 6 f fd P_has_web_shape (sp_has_web_shape K) := by
  refine okG0 F sc_has_web_shape (fun vs H Q E h => ?_) (fun cdv A outer s H vs Q E hr hq h => ?_)
  · obtain ⟨v, d, rfl, _⟩ := h
    rfl
  · obtain ⟨v, d, rfl, hd, q⟩ := h
    refine ⟨_, (pss_cons (ps_if (PW.pt (pw_or (pt_not (pt_val (pe_callB (call_isiK K) (by rfl) T.b_isinstance bt_isinstance (pa_cons (pv 0) (pa_cons (pe_bty T.b_tuple bt_tuple) pa_nil))))) (pw_or1 (pt_cmpR op_ne (pe_callB (call_lenK K) (by rfl) T.b_len bt_len (pa_cons (pv 0) pa_nil)) pe_int (nomark _))))) (pss_one (ps_ret pe_bl)) pss_nil)
      (pss_cons (ps_asg (pv 0) (pg_tupK (n := 3) K rfl (pgs_cons (pg_name (i := 1) sc_has_web_shape.nd rfl (by first | exact .inl rfl | exact .inr rfl)) (pgs_cons (pg_name (i := 2) sc_has_web_shape.nd rfl (by first | exact .inl rfl | exact .inr rfl)) (pgs_cons (pg_name (i := 3) sc_has_web_shape.nd rfl (by first | exact .inl rfl | exact .inr rfl)) pgs_nil)))))
      (pss_cons (ps_if (PW.pt (pw_or (pt_not (pt_val (pe_callD D_is_integer (hr.mono (by decide)) hq pass0 (pa_cons (pv 1) pa_nil)))) (pw_or1 (pt_not (pt_chain op_le op_le pe_int (pv 1) (pe_globI T.c_MOST_QUANTITIES)))))) (pss_one (ps_ret pe_bl)) pss_nil)
      (pss_one (ps_ret (pe_and (pe_callD D_are_ascending_tuples (hr.mono (by decide)) hq pass0 (pa_cons (pv 2) (pa_cons (pv 1) (pa_cons (pv 1) pa_nil)))) (pe_one (pe_callD D_are_nudges (hr.mono (by decide)) hq pass0 (pa_cons (pv 3) (pa_cons (pv 1) pa_nil)))))))))), ?_⟩
    refine ⟨_, rfl, _, _, _, _, _, rfl, .ty _, hd.ty, isa_tuple d, _, rfl, ?_⟩
    cases d with
    | tuple ds =>
      obtain ⟨a, xs, rfl, hS0, hA⟩ := hd
      have hS : SqT K _ a xs := .inl (.inl hS0)
      have hl := hA.len
      refine ⟨_, rfl, a, _, rfl, .inr hS, rfl, _, rfl, ?_⟩
      refine ite2 (fun h1 => ?_) (fun h1 => ?_)
      · have e : webB (.tuple ds) = false := by
          unfold webB
          split
          · rename_i heq
            cases heq
            rw [← hl] at h1
            simp at h1
          · rfl
        rw [e] at q
        exact q _ Ex.rfl
      · have h2 : ds.length = 3 := by
          simp at h1
          omega
        obtain ⟨d1, d2, d3, rfl⟩ : ∃ d1 d2 d3, ds = [d1, d2, d3] := by
          match ds, h2 with
          | [d1, d2, d3], _ => exact ⟨d1, d2, d3, rfl⟩
        obtain ⟨x1, r1, rfl, g1, x2, r2, rfl, g2, x3, r3, rfl, g3, rfl⟩ := hA
        refine ⟨_, rfl, a, _, rfl, hS, rfl, _, _, rfl, _, _, rfl, _, _, rfl, rfl, ?_⟩
        refine ⟨_, rfl, _, _, rfl, g1, _, rfl, ?_⟩
        cases d1 with
        | int n =>
          obtain rfl := g1
          refine ⟨_, rfl, _, _, rfl, rfl, _, rfl, ?_⟩
          refine ite2 (fun h3 => ?_) (fun h3 => ?_)
          · refine ⟨_, _, rfl, rfl, _, rfl, ?_⟩
            refine ite2 (fun h4 => ?_) (fun h4 => ?_)
            · have e : webB (.tuple [.int n, d2, d3]) = false := by
                have h5 : decide (n ≤ 20) = false := by simpa using h4
                simp only [webB, h5, Bool.and_false, Bool.false_and]
              rw [e] at q
              exact q _ Ex.rfl
            · have e : webB (.tuple [.int n, d2, d3]) = (tuplesB d2 n n && nudgesB d3 n) := by
                have h5 : decide (n ≤ 20) = true := by simpa using h4
                simp only [webB, h5, h3, Bool.true_and]
              rw [e] at q
              refine ⟨_, rfl, _, rfl, _, rfl, _, _, _, _, rfl, g2, fun H1 e1 => ⟨_, rfl, ?_⟩⟩
              refine ite2 (fun h6 => ?_) (fun h6 => ?_)
              · refine ⟨_, rfl, _, rfl, _, _, _, rfl, g3.up e1, fun H2 e2 => ?_⟩
                rw [h6, Bool.true_and] at q
                exact q _ (e1.tr e2)
              · rw [Bool.not_eq_true] at h6
                rw [h6, Bool.false_and] at q
                exact q _ e1
          · have e : webB (.tuple [.int n, d2, d3]) = false := by
              rw [Bool.not_eq_true] at h3
              simp only [webB, h3, Bool.false_and]
            rw [e] at q
            exact ⟨_, rfl, q _ Ex.rfl⟩
        | _ => exact q _ Ex.rfl
    | _ => exact q _ Ex.rfl
end

end K42
namespace K42
open PySem PySem.Spec PyProof.Rows L2 Nw
/-! check_web: slots 0 web -/
abbrev s_check_web : Stmt := topS 18
abbrev N_check_web : List Str := ["web"]
abbrev P_check_web : List Str := ["web"]
theorem sc_check_web : FnScope N_check_web P_check_web (defScope s_check_web) := ⟨rfl, rfl, rfl, by decide +kernel, rfl, by decide +kernel, by decide +kernel⟩
/-- of a right value: nothing is raised -/
def sp_check_web (K : PySem.W.Frag) : Sp := fun vs H Q _ => ∃ v d, vs = [v] ∧ Da K H d v ∧ webB d = true ∧ ∀ H', Ex H H' → Q .non H'
section
variable {P : Program} {w : World} {K : PySem.W.Frag} {mg : Str → Option Value} {base : Heap}
theorem ok_check_web {f : Addr} {fd : FuncData} (T : Txt K mg) (F : Fun K "check_web" "check_web" s_check_web f fd)
    (D_has_web_shape : DefOk P w K mg base CX0 6 "has_web_shape" P_has_web_shape (sp_has_web_shape K)) :
    FnG P w K mg base CX0 7 f fd P_check_web (sp_check_web K) := by
  refine okG0 F sc_check_web (fun vs H Q E h => ?_) (fun cdv A outer s H vs Q E hr hq h => ?_)
  · obtain ⟨v, d, rfl, _⟩ := h
    rfl
  · obtain ⟨v, d, rfl, hd, hw, q⟩ := h
    refine ⟨_, (pss_one (ps_if (pt_not (pt_val (pe_callD D_has_web_shape (hr.mono (by decide)) hq pass0 (pa_cons (pv 0) pa_nil)))) (pss_one ps_never) pss_nil)), ?_⟩
    refine ⟨_, rfl, _, _, rfl, hd, fun H1 e1 => ⟨_, rfl, ?_⟩⟩
    rw [hw]
    exact q _ e1
end

/-! check_source: slots 0 web, 1 source, 2 many -/
abbrev s_check_source : Stmt := topS 19
abbrev N_check_source : List Str := ["web", "source", "many"]
abbrev P_check_source : List Str := ["web", "source"]
theorem sc_check_source : FnScope N_check_source P_check_source (defScope s_check_source) := ⟨rfl, rfl, rfl, by decide +kernel, rfl, by decide +kernel, by decide +kernel⟩
def sp_check_source (K : PySem.W.Frag) : Sp := fun vs H Q _ => ∃ v u s, vs = [v, .int s] ∧ Da K H (Wb.d u) v ∧ (0 ≤ s ∧ s < u.n + (u.ns.length : Int)) ∧ Q .non H
section
variable {P : Program} {w : World} {K : PySem.W.Frag} {mg : Str → Option Value} {base : Heap}
theorem ok_check_source {f : Addr} {fd : FuncData} (T : Txt K mg) (F : Fun K "check_source" "check_source" s_check_source f fd)
    (D_is_number_below : DefOk P w K mg base CX0 2 "is_number_below" P_is_number_below (sp_is_number_below K)) :
    FnG P w K mg base CX0 3 f fd P_check_source (sp_check_source K) := by
  refine okG0 F sc_check_source (fun vs H Q E h => ?_) (fun cdv A outer s H vs Q E hr hq h => ?_)
  · obtain ⟨v, u, s, rfl, _⟩ := h
    rfl
  · obtain ⟨v, u, z, rfl, hd, hs, q⟩ := h
    obtain ⟨t, x2, x3, rfl, hS, g2, g3⟩ := Wb.at hd
    obtain ⟨a, xs, rfl, hL0, hA, hz⟩ := g3
    have hL : SqL K _ a xs := .inl (.inl hL0)
    have hl := hA.len
    rw [List.length_map] at hl
    refine ⟨_, (pss_cons (ps_set (i := 2) sc_check_source.nd rfl (by first | exact .inl rfl | exact .inr rfl) (pe_op op_add (pe_ix (ix_seqK K) (pv 0) pe_int (fun _ _ => rfl)) (pe_callB (call_lenK K) (by rfl) T.b_len bt_len (pa_cons (pe_ix (ix_seqK K) (pv 0) pe_int (fun _ _ => rfl)) pa_nil))))
      (pss_one (ps_if (pt_not (pt_val (pe_callD D_is_number_below (hr.mono (by decide)) hq pass0 (pa_cons (pv 1) (pa_cons (pv 2) pa_nil))))) (pss_one ps_never) pss_nil))), ?_⟩
    refine ⟨_, rfl, .inr (.inl ⟨t, _, 0, _, rfl, rfl, hS, rfl, ?_⟩)⟩
    refine ⟨_, rfl, .inr (.inl ⟨t, _, 2, _, rfl, rfl, hS, rfl, ?_⟩)⟩
    refine ⟨a, _, rfl, .inl hL, _, _, rfl, rfl, ?_⟩
    refine ⟨_, rfl, _, rfl, .int z, .int z, _, rfl, rfl, _, rfl, ?_⟩
    have e : numB (.int z) (u.n + (xs.length : Int)) = true := by
      rw [← hl]
      simp [numB, hs.1, hs.2]
    rw [e]
    exact q
end

/-! check_quantity: slots 0 web, 1 quantity -/
abbrev s_check_quantity : Stmt := topS 20
abbrev N_check_quantity : List Str := ["web", "quantity"]
abbrev P_check_quantity : List Str := ["web", "quantity"]
theorem sc_check_quantity : FnScope N_check_quantity P_check_quantity (defScope s_check_quantity) := ⟨rfl, rfl, rfl, by decide +kernel, rfl, by decide +kernel, by decide +kernel⟩
def sp_check_quantity (K : PySem.W.Frag) : Sp := fun vs H Q _ => ∃ v u s, vs = [v, .int s] ∧ Da K H (Wb.d u) v ∧ (0 ≤ s ∧ s < u.n) ∧ Q .non H
section
variable {P : Program} {w : World} {K : PySem.W.Frag} {mg : Str → Option Value} {base : Heap}
theorem ok_check_quantity {f : Addr} {fd : FuncData} (T : Txt K mg) (F : Fun K "check_quantity" "check_quantity" s_check_quantity f fd)
    (D_is_number_below : DefOk P w K mg base CX0 2 "is_number_below" P_is_number_below (sp_is_number_below K)) :
    FnG P w K mg base CX0 3 f fd P_check_quantity (sp_check_quantity K) := by
  refine okG0 F sc_check_quantity (fun vs H Q E h => ?_) (fun cdv A outer s H vs Q E hr hq h => ?_)
  · obtain ⟨v, u, s, rfl, _⟩ := h
    rfl
  · obtain ⟨v, u, z, rfl, hd, hs, q⟩ := h
    obtain ⟨t, x2, x3, rfl, hS, g2, g3⟩ := Wb.at hd
    refine ⟨_, (pss_one (ps_if (pt_not (pt_val (pe_callD D_is_number_below (hr.mono (by decide)) hq pass0 (pa_cons (pv 1) (pa_cons (pe_ix (ix_seqK K) (pv 0) pe_int (fun _ _ => rfl)) pa_nil))))) (pss_one ps_never) pss_nil)), ?_⟩
    refine ⟨_, rfl, _, rfl, .inr (.inl ⟨t, _, 0, _, rfl, rfl, hS, rfl, ?_⟩)⟩
    refine ⟨.int z, .int z, _, rfl, rfl, _, rfl, ?_⟩
    have e : numB (.int z) u.n = true := by simp [numB, hs.1, hs.2]
    rw [e]
    exact q
end

/-! all_lines: slots 0 web, 1 count, 2 pairs, 3 nudges, 4 pushed, 5 target, 6 at, 7 nudge -/
abbrev s_all_lines : Stmt := topS 25
abbrev N_all_lines : List Str := ["web", "count", "pairs", "nudges", "pushed", "target", "at", "nudge"]
abbrev P_all_lines : List Str := ["web"]
theorem sc_all_lines : FnScope N_all_lines P_all_lines (defScope s_all_lines) := ⟨rfl, rfl, rfl, by decide +kernel, rfl, by decide +kernel, by decide +kernel⟩
def sp_all_lines (K : PySem.W.Frag) : Sp := fun vs H Q _ => ∃ v u, vs = [v] ∧ Da K H (Wb.d u) v ∧ u.Ok ∧
  ∀ p xs H', H p = none → Ex H H' → H' p = some (.lst xs) → DaAll K H' (u.lines.map dPair) xs → Q (.ref p) H'
section
variable {P : Program} {w : World} {K : PySem.W.Frag} {mg : Str → Option Value} {base : Heap}
theorem ok_all_lines {f : Addr} {fd : FuncData} (T : Txt K mg) (F : Fun K "all_lines" "all_lines" s_all_lines f fd) :
    FnG P w K mg base CX0 1 f fd P_all_lines (sp_all_lines K) := by
  refine okG0 F sc_all_lines (fun vs H Q E h => ?_) (fun cdv A outer s H vs Q E hr hq h => ?_)
  · obtain ⟨v, u, rfl, _⟩ := h
    rfl
  · obtain ⟨v, u, rfl, hd, hu, q⟩ := h
    obtain ⟨t, x2, x3, rfl, hS, ⟨a2, ys, rfl, hL20, hA2, hz2⟩, ⟨a, xs, rfl, hL0, hA, hz⟩⟩ := Wb.at hd
    have hL : SqL K _ a xs := .inl (.inl hL0)
    have hL2 : SqL K _ a2 ys := .inl (.inl hL20)
    have hl2 := hA2.len
    have hl := hA.len
    rw [List.length_map] at hl hl2
    refine ⟨_, (pss_cons (ps_asg (pv 0) (pg_tupK (n := 3) K rfl (pgs_cons (pg_name (i := 1) sc_all_lines.nd rfl (by first | exact .inl rfl | exact .inr rfl)) (pgs_cons (pg_name (i := 2) sc_all_lines.nd rfl (by first | exact .inl rfl | exact .inr rfl)) (pgs_cons (pg_name (i := 3) sc_all_lines.nd rfl (by first | exact .inl rfl | exact .inr rfl)) pgs_nil)))))
      (pss_cons (ps_setLc2 (i := 4) (own := [("at", 6), ("nudge", 7), ("target", 5)]) (vs1 := [5]) rfl sc_all_lines.nd rfl rfl (sw_true rfl rfl rfl (by decide +kernel)) (pi_enum (by rfl) T.b_enumerate (pa_cons (pv 3) pa_nil)) (blkOk_by (N := N_all_lines) (sc := defScope s_all_lines) (by decide +kernel)) (by decide) (fun _ _ _ _ _ => (pg_tupK (n := 2) K rfl (pgs_cons (pg_name (i := 6) sc_all_lines.nd rfl (by first | exact .inl rfl | exact .inr rfl)) (pgs_cons (pg_name (i := 7) sc_all_lines.nd rfl (by first | exact .inl rfl | exact .inr rfl)) pgs_nil)))) (fun _ _ _ _ _ => pts_nil) (fun _ _ _ _ _ => (pi_listK K (pv 7))) (fun _ _ _ _ _ => (pg_name (i := 5) sc_all_lines.nd rfl (by first | exact .inl rfl | exact .inr rfl))) (fun _ _ _ _ _ => pts_nil) (fun _ _ _ _ _ => (pe_tup (pa_cons (pe_op op_add (pv 1) (pv 6)) (pa_cons (pv 5) pa_nil)))))
      (pss_one (ps_ret (pe_op (op_catS K) (pv 2) (pv 4)))))), ?_⟩
    refine ⟨_, rfl, t, _, rfl, hS, rfl, _, _, rfl, _, _, rfl, _, _, rfl, rfl, ?_⟩
    refine ⟨_, rfl, a, xs, rfl, hL, fun D hD => ?_⟩
    have nD : ∀ {b o}, H b = some o → b ≠ D := fun h e => by
      rw [e, hD] at h
      cases h
    refine lc2_by xs.length (fun i H' => Ex H H' ∧ ∃ acc, H' D = some (.lst acc) ∧ OffD D acc ∧ DaAll K H' ((pushedFrom u.n 0 (u.ns.take i)).map dPair) acc)
      ⟨Ex.nw hD, [], upd_same, OffD.nil, rfl⟩ (fun i H' hi p => ite_go hL p.1 hi) (fun H' p => ite_stop hL p.1) ?_ ?_
    · rintro i H1 x H2 hi ⟨e1, acc0, hD0, hacc0, hA0⟩ ⟨T1, y1, rfl, hT1, rfl, hy1⟩
      have g1 := hy1 xs (e1.l hL)
      obtain ⟨dr, hdr, hx⟩ := hA.at' g1
      obtain ⟨r, hrr, rfl⟩ := map_at hdr
      obtain ⟨ar, rfl, hLr⟩ := dInts_at hx
      have e2 : Ex H1 (upd H1 T1 (.tup [.int (i : Nat), .ref ar])) := Ex.nw hT1
      refine ⟨T1, _, rfl, .inl (.inl upd_same), rfl, _, _, rfl, _, _, rfl, rfl, rfl, ?_⟩
      refine ⟨_, rfl, ar, rfl, ⟨_, e2.l (e1.l hLr)⟩, ?_⟩
      refine lci_by (r.map V.int).length (fun j H' => Ex H H' ∧ ∃ acc, H' D = some (.lst acc) ∧ OffD D acc ∧
          DaAll K H' ((pushedFrom u.n 0 (u.ns.take i) ++ pushedAt u.n i (r.take j)).map dPair) acc)
        ⟨e1.tr e2, acc0, e2 _ _ hD0, hacc0, ?_⟩ (fun j H' hj p => itl_go hLr p.1 hj) (fun H' p => itl_stop hLr p.1) ?_ ?_
      · rw [List.take_zero]
        simp only [pushedAt, List.map_nil, List.append_nil]
        exact hA0.up e2
      · rintro j H3 x H4 hj ⟨e3, acc, hD3, hacc, hA3⟩ ⟨rfl, hx⟩
        obtain ⟨z, hz', rfl⟩ := map_at (hx _ (e3.l hLr))
        refine ⟨rfl, ?_⟩
        refine ⟨_, rfl, _, rfl, _, _, rfl, rfl, _, rfl, by show 2 ≤ sizeLine; decide, fun T2 hT2 => ?_⟩
        have hT2D : T2 ≠ D := fun e => by
          rw [e, hD3] at hT2
          cases hT2
        have hac : acc.length ≤ 1500 := by
          have h1 := hA3.len
          rw [List.length_map, List.length_append] at h1
          have h2 := pushed_len u.n (u.ns.take i) 0 (fun r hr => hu.row (List.mem_of_mem_take hr))
          have h3 := hu.row (List.mem_of_getElem? hrr)
          have h4 := hu.few
          simp only [pushedAt, List.length_map, List.length_take] at h1 h2
          omega
        refine ⟨acc, by rw [upd_ne hT2D.symm]; exact hD3, mil' (by omega), (e3.tr (Ex.nw hT2)).wr hD, _, upd_same, hacc.snoc hT2D, ?_⟩
        have hT3 : (upd (upd H4 T2 (.tup [.int (u.n + (i : Int)), .int z])) D (.lst (acc ++ [.ref T2]))) T2 = some (.tup [.int (u.n + (i : Int)), .int z]) := by
          rw [upd_ne hT2D, upd_same]
        have et : r.take (j + 1) = r.take j ++ [z] := by rw [List.take_add_one, hz']; rfl
        rw [et]
        simp only [pushedAt, List.map_append, List.map_cons, List.map_nil, ← List.append_assoc]
        refine DaAll.app ?_ ⟨_, _, rfl, dPair_of (p := (u.n + (i : Int), z)) hT3, rfl⟩
        rw [← List.map_append]
        exact pairs_keep ((Ex.nw hT2).d.tr ExD.put) hA3 hacc
      · rintro H3 ⟨e3, acc, hD3, hacc, hA3⟩
        refine ⟨e3, acc, hD3, hacc, ?_⟩
        rw [List.length_map, List.take_length] at hA3
        rw [pushedFrom_take u.n u.ns 0 i r hrr, Nat.zero_add]
        exact hA3
    · rintro H1 ⟨e1, acc, hD1, hacc, hA1⟩
      rw [← hl, List.take_length] at hA1
      have hac : acc.length ≤ 160 := by
        have h1 := hA1.len
        have h2 := pushed_len u.n u.ns 0 (fun r hr => hu.row hr)
        have h4 := hu.few
        rw [List.length_map] at h1
        omega
      refine ⟨_, rfl, _, rfl, a2, D, ys, acc, rfl, rfl, e1.l hL2, .inl (.inl hD1), by have := hu.len; omega, fun p hp => ?_⟩
      refine q p _ _ (e1.fr hp) (e1.nw2 hp) upd_same ?_
      unfold Wb.lines
      rw [List.map_append]
      exact (hA2.up (e1.nw2 hp)).app (hA1.up (Ex.nw hp))
end

end K42
namespace K42
open PySem PySem.Spec PyProof.Rows L2 Nw
/-! target_rows: slots 0 web, 1 rows, 2 _, 3 source, 4 target -/
abbrev s_target_rows : Stmt := topS 26
abbrev N_target_rows : List Str := ["web", "rows", "_", "source", "target"]
abbrev P_target_rows : List Str := ["web"]
theorem sc_target_rows : FnScope N_target_rows P_target_rows (defScope s_target_rows) := ⟨rfl, rfl, rfl, by decide +kernel, rfl, by decide +kernel, by decide +kernel⟩
def sp_target_rows (K : PySem.W.Frag) : Sp := fun vs H Q _ => ∃ v u, vs = [v] ∧ Da K H (Wb.d u) v ∧ u.Ok ∧
  ∀ p as H', RowsAt H H' p as (u.n.toNat + u.ns.length) (fun s => rowOf u.lines (s : Int)) → Q (.ref p) H'
section
variable {P : Program} {w : World} {K : PySem.W.Frag} {mg : Str → Option Value} {base : Heap}
theorem ok_target_rows {f : Addr} {fd : FuncData} (T : Txt K mg) (F : Fun K "target_rows" "target_rows" s_target_rows f fd)
    (D_all_lines : DefOk P w K mg base CX0 1 "all_lines" P_all_lines (sp_all_lines K)) :
    FnG P w K mg base CX0 2 f fd P_target_rows (sp_target_rows K) := by
  refine okG0 F sc_target_rows (fun vs H Q E h => ?_) (fun cdv A outer s H vs Q E hr hq h => ?_)
  · obtain ⟨v, u, rfl, _⟩ := h
    rfl
  · obtain ⟨v, u, rfl, hd, hu, q⟩ := h
    obtain ⟨t, x2, x3, rfl, hS, g2, ⟨a, xs, rfl, hL0, hA, hz⟩⟩ := Wb.at hd
    have hL : SqL K _ a xs := .inl (.inl hL0)
    have hl := hA.len
    rw [List.length_map] at hl
    have b1 := hu.lo
    have b2 := hu.hi
    have b3 := hu.few
    refine ⟨_, (pss_cons (ps_setLc (i := 1) (own := [("_", 2)]) rfl sc_target_rows.nd rfl rfl (sw_true rfl rfl rfl (by decide +kernel)) (pi_range1 (by rfl) T.b_range (pa_cons (pe_op op_add (pe_ix (ix_seqK K) (pv 0) pe_int (fun _ _ => rfl)) (pe_callB (call_lenK K) (by rfl) T.b_len bt_len (pa_cons (pe_ix (ix_seqK K) (pv 0) pe_int (fun _ _ => rfl)) pa_nil))) pa_nil)) (blkOk_by (N := N_target_rows) (sc := defScope s_target_rows) (by decide +kernel)) (fun _ _ _ _ _ => (pg_name (i := 2) sc_target_rows.nd rfl (by first | exact .inl rfl | exact .inr rfl))) (fun _ _ _ _ _ => pts_nil) (fun _ _ _ _ _ => (pe_lst pa_nil)))
      (pss_cons (ps_for PassesOwn.never rfl (pi_listK K (pe_callD D_all_lines (hr.mono (by decide)) hq pass0 (pa_cons (pv 0) pa_nil))) (pg_tupK (n := 2) K rfl (pgs_cons (pg_name (i := 3) sc_target_rows.nd rfl (by first | exact .inl rfl | exact .inr rfl)) (pgs_cons (pg_name (i := 4) sc_target_rows.nd rfl (by first | exact .inl rfl | exact .inr rfl)) pgs_nil))) (pss_one (ps_expr (pe_bm PySem.F.plainAttrs_list PySem.F.slot_list_append PySem.F.type_list_append mt_append (pe_ix (ix_seqK K) (pv 1) (pv 3) (fun _ _ => rfl)) (pa_cons (pv 4) pa_nil)))))
      (pss_one (ps_ret (pv 1))))), ?_⟩
    refine ⟨_, rfl, .inr (.inl ⟨t, _, 0, _, rfl, rfl, hS, rfl, ?_⟩)⟩
    refine ⟨_, rfl, .inr (.inl ⟨t, _, 2, _, rfl, rfl, hS, rfl, ?_⟩)⟩
    refine ⟨a, _, rfl, .inl hL, _, _, rfl, rfl, _, rfl, by omega, by omega, fun D hD => ?_⟩
    refine lc_by (u.n + (xs.length : Int)).toNat (fun i H' => Ex H H' ∧ ∃ as : List Addr, H' D = some (.lst (as.map V.ref)) ∧ as.Nodup ∧ as.length = i ∧
        ∀ b ∈ as, H b = none ∧ b ≠ D ∧ H' b = some (.lst []))
      ⟨Ex.nw hD, [], upd_same, List.nodup_nil, rfl, fun b hb => by cases hb⟩ (fun i H' hi p => hi) (fun H' p => Nat.le_refl _) ?_ ?_
    · rintro i H1 x H2 hi ⟨e1, as, hD1, nd, hlen, hall⟩ ⟨rfl, rfl⟩
      refine ⟨rfl, Nat.zero_le _, fun b hb => ?_⟩
      have hbD : b ≠ D := fun e => by
        rw [e, hD1] at hb
        cases hb
      refine ⟨as.map V.ref, by rw [upd_ne hbD.symm]; exact hD1, mil' (by rw [List.length_map]; omega), (e1.tr (Ex.nw hb)).wr hD, as ++ [b], ?_, ?_, ?_, ?_⟩
      · rw [upd_same, List.map_append]
        rfl
      · refine nodup_snoc nd fun hm => ?_
        rw [(hall b hm).2.2] at hb
        cases hb
      · rw [List.length_append, hlen]
        rfl
      · intro c hc
        rcases List.mem_append.mp hc with hc | hc
        · obtain ⟨c1, c2, c3⟩ := hall c hc
          refine ⟨c1, c2, ?_⟩
          rw [upd_ne c2, upd_ne (ne_of_none c3 hb)]
          exact c3
        · obtain rfl := List.mem_singleton.mp hc
          exact ⟨e1.fr hb, hbD, by rw [upd_ne hbD, upd_same]⟩
    · rintro H1 ⟨e1, as, hD1, nd, hlen, hall⟩
      refine ⟨_, rfl, _, u, rfl, hd.up e1, hu, fun L zs H2 hL2 e2 hLs hA2 => ?_⟩
      refine ⟨L, rfl, ⟨zs, .inl (.inl hLs)⟩, ?_⟩
      have hl2 := hA2.len
      rw [List.length_map] at hl2
      have LD : L ≠ D := fun e => by
        rw [e, hD1] at hL2
        cases hL2
      have Las : ∀ b ∈ as, b ≠ L := fun b hb e => by
        rw [← e, (hall b hb).2.2] at hL2
        cases hL2
      refine for_by zs.length (fun i σ H' => ∃ y2 y3 y4, σ = [some (V.ref t), some (V.ref D), y2, y3, y4] ∧ Ex H H' ∧ H' D = some (.lst (as.map V.ref)) ∧ H' L = some (.lst zs) ∧
          (∀ (k : Nat) (p : Int × Int), u.lines[k]? = some p → ∃ b, zs[k]? = some (V.ref b) ∧ SqT K H' b [.int p.1, .int p.2]) ∧
          ∀ (s : Nat) (b : Addr), as[s]? = some b → H' b = some (.lst ((rowOf (u.lines.take i) (s : Int)).map V.int)))
        ⟨_, _, _, rfl, e1.tr e2, e2 _ _ hD1, hLs, ?_, ?_⟩ (fun i σ H' hi p => ?_) (fun σ H' p => ?_) ?_ ?_
      · intro k p hp
        obtain ⟨x, hx, hdx⟩ := hA2.at (i := k) (d := dPair p) (by rw [List.getElem?_map, hp]; rfl)
        obtain ⟨b, ys, rfl, hSb, z1, r1, rfl, f1, z2, r2, rfl, f2, rfl⟩ := hdx
        obtain rfl := f1
        obtain rfl := f2
        exact ⟨b, hx, .inl (.inl hSb)⟩
      · intro s b hb
        have := (hall b (List.mem_of_getElem? hb)).2.2
        rw [List.take_zero, rowOf_nil]
        exact e2 _ _ this
      · obtain ⟨_, _, _, _, _, _, h4, _⟩ := p
        exact itl_go (.inl (.inl h4)) Ex.rfl hi
      · obtain ⟨_, _, _, _, _, _, h4, _⟩ := p
        exact itl_stop (.inl (.inl h4)) Ex.rfl
      · rintro i σ H3 x H4 hi ⟨y2, y3, y4, rfl, e3, hD3, hL3, hT3, hR3⟩ ⟨rfl, hx⟩
        have hx := hx zs (.inl (.inl hL3))
        rw [← hl2] at hi
        have hp := List.getElem?_eq_getElem hi
        generalize u.lines[i] = p at hp
        obtain ⟨b, hb, hSb⟩ := hT3 i p hp
        rw [hx] at hb
        cases hb
        obtain ⟨⟨p1, p2⟩, _⟩ := hu.line p (List.mem_of_getElem? hp)
        have hs : p.1.toNat < as.length := by rw [hlen]; omega
        have hc := List.getElem?_eq_getElem hs
        generalize as[p.1.toNat] = c at hc
        have hcl := hR3 _ _ hc
        obtain ⟨c1, c2, _⟩ := hall c (List.mem_of_getElem? hc)
        have c3 := Las c (List.mem_of_getElem? hc)
        have el : ((p.1.toNat : Nat) : Int) = p.1 := Int.toNat_of_nonneg p1
        have hsz : ((rowOf (u.lines.take i) ((p.1.toNat : Nat) : Int)).map V.int).length < sizeLine := by
          refine mil' ?_
          have h1 := rowOf_len (u.lines.take i) ((p.1.toNat : Nat) : Int)
          have h2 := hu.lines_len
          rw [List.length_take] at h1
          rw [List.length_map]
          omega
        refine ⟨b, _, rfl, hSb, rfl, _, _, rfl, _, _, rfl, rfl, ?_⟩
        refine ⟨.ref D, rfl, .int p.1, rfl, .inl ⟨D, _, p.1, .ref c, rfl, rfl, .inl (.inl hD3), ?_, .inl ⟨rfl, _, .inl (.inl hcl)⟩, _, rfl, c, _, _, rfl, rfl, hcl, hsz, ?_⟩⟩
        · exact atI_int p1 (by rw [List.getElem?_map, hc]; rfl)
        · refine ⟨_, _, _, rfl, e3.wr c1, by rw [upd_ne c2.symm]; exact hD3, by rw [upd_ne c3.symm]; exact hL3, ?_, ?_⟩
          · intro k q' hq'
            obtain ⟨b', hb', hS'⟩ := hT3 k q' hq'
            exact ⟨b', hb', SqT.wr hS' hcl⟩
          · intro s d hd'
            rw [take_snoc hp, rowOf_app, rowOf_one]
            by_cases es : s = p.1.toNat
            · subst es
              rw [hc] at hd'
              cases hd'
              rw [upd_same, if_pos el.symm, List.map_append]
              rfl
            · have ne : d ≠ c := nodup_at nd hd' hc es
              rw [upd_ne ne, if_neg (by omega), List.append_nil]
              exact hR3 s d hd'
      · rintro σ H3 ⟨y2, y3, y4, rfl, e3, hD3, hL3, hT3, hR3⟩
        refine ⟨_, rfl, q D as H3 ⟨hD, e3, hD3, nd, fun b hb => ⟨(hall b hb).1, (hall b hb).2.1⟩, by rw [hlen, ← hl]; omega, ?_⟩⟩
        rw [← hl2, List.take_length] at hR3
        exact hR3
end

/-! source_rows: slots 0 web, 1 rows, 2 _, 3 source, 4 target -/
abbrev s_source_rows : Stmt := topS 27
abbrev N_source_rows : List Str := ["web", "rows", "_", "source", "target"]
abbrev P_source_rows : List Str := ["web"]
theorem sc_source_rows : FnScope N_source_rows P_source_rows (defScope s_source_rows) := ⟨rfl, rfl, rfl, by decide +kernel, rfl, by decide +kernel, by decide +kernel⟩
def sp_source_rows (K : PySem.W.Frag) : Sp := fun vs H Q _ => ∃ v u, vs = [v] ∧ Da K H (Wb.d u) v ∧ u.Ok ∧
  ∀ p as H', RowsAt H H' p as u.n.toNat (fun s => srcsOf u.lines (s : Int)) → Q (.ref p) H'
section
variable {P : Program} {w : World} {K : PySem.W.Frag} {mg : Str → Option Value} {base : Heap}
theorem ok_source_rows {f : Addr} {fd : FuncData} (T : Txt K mg) (F : Fun K "source_rows" "source_rows" s_source_rows f fd)
    (D_all_lines : DefOk P w K mg base CX0 1 "all_lines" P_all_lines (sp_all_lines K)) :
    FnG P w K mg base CX0 2 f fd P_source_rows (sp_source_rows K) := by
  refine okG0 F sc_source_rows (fun vs H Q E h => ?_) (fun cdv A outer s H vs Q E hr hq h => ?_)
  · obtain ⟨v, u, rfl, _⟩ := h
    rfl
  · obtain ⟨v, u, rfl, hd, hu, q⟩ := h
    obtain ⟨t, x2, x3, rfl, hS, g2, ⟨a, xs, rfl, hL0, hA, hz⟩⟩ := Wb.at hd
    have hL : SqL K _ a xs := .inl (.inl hL0)
    have hl := hA.len
    rw [List.length_map] at hl
    have b1 := hu.lo
    have b2 := hu.hi
    have b3 := hu.few
    refine ⟨_, (pss_cons (ps_setLc (i := 1) (own := [("_", 2)]) rfl sc_source_rows.nd rfl rfl (sw_true rfl rfl rfl (by decide +kernel)) (pi_range1 (by rfl) T.b_range (pa_cons (pe_ix (ix_seqK K) (pv 0) pe_int (fun _ _ => rfl)) pa_nil)) (blkOk_by (N := N_source_rows) (sc := defScope s_source_rows) (by decide +kernel)) (fun _ _ _ _ _ => (pg_name (i := 2) sc_source_rows.nd rfl (by first | exact .inl rfl | exact .inr rfl))) (fun _ _ _ _ _ => pts_nil) (fun _ _ _ _ _ => (pe_lst pa_nil)))
      (pss_cons (ps_for PassesOwn.never rfl (pi_listK K (pe_callD D_all_lines (hr.mono (by decide)) hq pass0 (pa_cons (pv 0) pa_nil))) (pg_tupK (n := 2) K rfl (pgs_cons (pg_name (i := 3) sc_source_rows.nd rfl (by first | exact .inl rfl | exact .inr rfl)) (pgs_cons (pg_name (i := 4) sc_source_rows.nd rfl (by first | exact .inl rfl | exact .inr rfl)) pgs_nil))) (pss_one (ps_expr (pe_bm PySem.F.plainAttrs_list PySem.F.slot_list_append PySem.F.type_list_append mt_append (pe_ix (ix_seqK K) (pv 1) (pv 4) (fun _ _ => rfl)) (pa_cons (pv 3) pa_nil)))))
      (pss_one (ps_ret (pv 1))))), ?_⟩
    refine ⟨_, rfl, .inr (.inl ⟨t, _, 0, _, rfl, rfl, hS, rfl, ?_⟩)⟩
    refine ⟨_, rfl, by omega, by omega, fun D hD => ?_⟩
    refine lc_by u.n.toNat (fun i H' => Ex H H' ∧ ∃ as : List Addr, H' D = some (.lst (as.map V.ref)) ∧ as.Nodup ∧ as.length = i ∧
        ∀ b ∈ as, H b = none ∧ b ≠ D ∧ H' b = some (.lst []))
      ⟨Ex.nw hD, [], upd_same, List.nodup_nil, rfl, fun b hb => by cases hb⟩ (fun i H' hi p => hi) (fun H' p => Nat.le_refl _) ?_ ?_
    · rintro i H1 x H2 hi ⟨e1, as, hD1, nd, hlen, hall⟩ ⟨rfl, rfl⟩
      refine ⟨rfl, Nat.zero_le _, fun b hb => ?_⟩
      have hbD : b ≠ D := fun e => by
        rw [e, hD1] at hb
        cases hb
      refine ⟨as.map V.ref, by rw [upd_ne hbD.symm]; exact hD1, mil' (by rw [List.length_map]; omega), (e1.tr (Ex.nw hb)).wr hD, as ++ [b], ?_, ?_, ?_, ?_⟩
      · rw [upd_same, List.map_append]
        rfl
      · refine nodup_snoc nd fun hm => ?_
        rw [(hall b hm).2.2] at hb
        cases hb
      · rw [List.length_append, hlen]
        rfl
      · intro c hc
        rcases List.mem_append.mp hc with hc | hc
        · obtain ⟨c1, c2, c3⟩ := hall c hc
          refine ⟨c1, c2, ?_⟩
          rw [upd_ne c2, upd_ne (ne_of_none c3 hb)]
          exact c3
        · obtain rfl := List.mem_singleton.mp hc
          exact ⟨e1.fr hb, hbD, by rw [upd_ne hbD, upd_same]⟩
    · rintro H1 ⟨e1, as, hD1, nd, hlen, hall⟩
      refine ⟨_, rfl, _, u, rfl, hd.up e1, hu, fun L zs H2 hL2 e2 hLs hA2 => ?_⟩
      refine ⟨L, rfl, ⟨zs, .inl (.inl hLs)⟩, ?_⟩
      have hl2 := hA2.len
      rw [List.length_map] at hl2
      have LD : L ≠ D := fun e => by
        rw [e, hD1] at hL2
        cases hL2
      have Las : ∀ b ∈ as, b ≠ L := fun b hb e => by
        rw [← e, (hall b hb).2.2] at hL2
        cases hL2
      refine for_by zs.length (fun i σ H' => ∃ y2 y3 y4, σ = [some (V.ref t), some (V.ref D), y2, y3, y4] ∧ Ex H H' ∧ H' D = some (.lst (as.map V.ref)) ∧ H' L = some (.lst zs) ∧
          (∀ (k : Nat) (p : Int × Int), u.lines[k]? = some p → ∃ b, zs[k]? = some (V.ref b) ∧ SqT K H' b [.int p.1, .int p.2]) ∧
          ∀ (s : Nat) (b : Addr), as[s]? = some b → H' b = some (.lst ((srcsOf (u.lines.take i) (s : Int)).map V.int)))
        ⟨_, _, _, rfl, e1.tr e2, e2 _ _ hD1, hLs, ?_, ?_⟩ (fun i σ H' hi p => ?_) (fun σ H' p => ?_) ?_ ?_
      · intro k p hp
        obtain ⟨x, hx, hdx⟩ := hA2.at (i := k) (d := dPair p) (by rw [List.getElem?_map, hp]; rfl)
        obtain ⟨b, ys, rfl, hSb, z1, r1, rfl, f1, z2, r2, rfl, f2, rfl⟩ := hdx
        obtain rfl := f1
        obtain rfl := f2
        exact ⟨b, hx, .inl (.inl hSb)⟩
      · intro s b hb
        have := (hall b (List.mem_of_getElem? hb)).2.2
        rw [List.take_zero, srcsOf_nil]
        exact e2 _ _ this
      · obtain ⟨_, _, _, _, _, _, h4, _⟩ := p
        exact itl_go (.inl (.inl h4)) Ex.rfl hi
      · obtain ⟨_, _, _, _, _, _, h4, _⟩ := p
        exact itl_stop (.inl (.inl h4)) Ex.rfl
      · rintro i σ H3 x H4 hi ⟨y2, y3, y4, rfl, e3, hD3, hL3, hT3, hR3⟩ ⟨rfl, hx⟩
        have hx := hx zs (.inl (.inl hL3))
        rw [← hl2] at hi
        have hp := List.getElem?_eq_getElem hi
        generalize u.lines[i] = p at hp
        obtain ⟨b, hb, hSb⟩ := hT3 i p hp
        rw [hx] at hb
        cases hb
        obtain ⟨_, ⟨p1, p2⟩⟩ := hu.line p (List.mem_of_getElem? hp)
        have hs : p.2.toNat < as.length := by rw [hlen]; omega
        have hc := List.getElem?_eq_getElem hs
        generalize as[p.2.toNat] = c at hc
        have hcl := hR3 _ _ hc
        obtain ⟨c1, c2, _⟩ := hall c (List.mem_of_getElem? hc)
        have c3 := Las c (List.mem_of_getElem? hc)
        have el : ((p.2.toNat : Nat) : Int) = p.2 := Int.toNat_of_nonneg p1
        have hsz : ((srcsOf (u.lines.take i) ((p.2.toNat : Nat) : Int)).map V.int).length < sizeLine := by
          refine mil' ?_
          have h1 := srcsOf_len (u.lines.take i) ((p.2.toNat : Nat) : Int)
          have h2 := hu.lines_len
          rw [List.length_take] at h1
          rw [List.length_map]
          omega
        refine ⟨b, _, rfl, hSb, rfl, _, _, rfl, _, _, rfl, rfl, ?_⟩
        refine ⟨.ref D, rfl, .int p.2, rfl, .inl ⟨D, _, p.2, .ref c, rfl, rfl, .inl (.inl hD3), ?_, .inl ⟨rfl, _, .inl (.inl hcl)⟩, _, rfl, c, _, _, rfl, rfl, hcl, hsz, ?_⟩⟩
        · exact atI_int p1 (by rw [List.getElem?_map, hc]; rfl)
        · refine ⟨_, _, _, rfl, e3.wr c1, by rw [upd_ne c2.symm]; exact hD3, by rw [upd_ne c3.symm]; exact hL3, ?_, ?_⟩
          · intro k q' hq'
            obtain ⟨b', hb', hS'⟩ := hT3 k q' hq'
            exact ⟨b', hb', SqT.wr hS' hcl⟩
          · intro s d hd'
            rw [take_snoc hp, srcsOf_app, srcsOf_one]
            by_cases es : s = p.2.toNat
            · subst es
              rw [hc] at hd'
              cases hd'
              rw [upd_same, if_pos el.symm, List.map_append]
              rfl
            · have ne : d ≠ c := nodup_at nd hd' hc es
              rw [upd_ne ne, if_neg (by omega), List.append_nil]
              exact hR3 s d hd'
      · rintro σ H3 ⟨y2, y3, y4, rfl, e3, hD3, hL3, hT3, hR3⟩
        refine ⟨_, rfl, q D as H3 ⟨hD, e3, hD3, nd, fun b hb => ⟨(hall b hb).1, (hall b hb).2.1⟩, hlen, ?_⟩⟩
        rw [← hl2, List.take_length] at hR3
        exact hR3
end

/-! targets_of: slots 0 web, 1 source -/
abbrev s_targets_of : Stmt := topS 22
abbrev N_targets_of : List Str := ["web", "source"]
abbrev P_targets_of : List Str := ["web", "source"]
theorem sc_targets_of : FnScope N_targets_of P_targets_of (defScope s_targets_of) := ⟨rfl, rfl, rfl, by decide +kernel, rfl, by decide +kernel, by decide +kernel⟩
def sp_targets_of (K : PySem.W.Frag) : Sp := fun vs H Q _ => ∃ v u s, vs = [v, .int s] ∧ Da K H (Wb.d u) v ∧ u.Ok ∧ (0 ≤ s ∧ s < u.n + (u.ns.length : Int)) ∧
  ∀ p H', H p = none → Ex H H' → H' p = some (.lst ((rowOf u.lines s).map V.int)) → Q (.ref p) H'
section
variable {P : Program} {w : World} {K : PySem.W.Frag} {mg : Str → Option Value} {base : Heap}
theorem ok_targets_of {f : Addr} {fd : FuncData} (T : Txt K mg) (F : Fun K "targets_of" "targets_of" s_targets_of f fd)
    (D_check_web : DefOk P w K mg base CX0 7 "check_web" P_check_web (sp_check_web K))
    (D_check_source : DefOk P w K mg base CX0 3 "check_source" P_check_source (sp_check_source K))
    (D_target_rows : DefOk P w K mg base CX0 2 "target_rows" P_target_rows (sp_target_rows K)) :
    FnG P w K mg base CX0 8 f fd P_targets_of (sp_targets_of K) := by
  refine okG0 F sc_targets_of (fun vs H Q E h => ?_) (fun cdv A outer s H vs Q E hr hq h => ?_)
  · obtain ⟨v, u, s, rfl, _⟩ := h
    rfl
  · obtain ⟨v, u, z, rfl, hd, hu, hs, q⟩ := h
    refine ⟨_, (pss_cons (ps_expr (pe_callD D_check_web (hr.mono (by decide)) hq pass0 (pa_cons (pv 0) pa_nil)))
      (pss_cons (ps_expr (pe_callD D_check_source (hr.mono (by decide)) hq pass0 (pa_cons (pv 0) (pa_cons (pv 1) pa_nil))))
      (pss_one (ps_ret (pe_ix (ix_seqK K) (pe_callD D_target_rows (hr.mono (by decide)) hq pass0 (pa_cons (pv 0) pa_nil)) (pv 1) (fun _ _ => rfl)))))), ?_⟩
    refine ⟨_, rfl, _, _, rfl, hd, hu.web, fun H1 e1 => ?_⟩
    refine ⟨_, rfl, _, rfl, _, u, z, rfl, hd.up e1, hs, ?_⟩
    refine ⟨_, rfl, _, u, rfl, hd.up e1, hu, fun p as H2 R => ?_⟩
    have b1 := hu.lo
    have hz : z.toNat < as.length := by
      rw [R.len]
      omega
    have hc := List.getElem?_eq_getElem hz
    generalize as[z.toNat] = c at hc
    refine ⟨_, rfl, .inl ⟨p, _, z, .ref c, rfl, rfl, .inl (.inl R.at_), atI_int hs.1 (by rw [List.getElem?_map, hc]; rfl), ?_⟩⟩
    have hrow := R.row _ _ hc
    rw [Int.toNat_of_nonneg hs.1] at hrow
    exact q c H2 (e1.fr (R.off c (List.mem_of_getElem? hc)).1) (e1.tr R.ex) hrow
end

/-! sources_of: slots 0 web, 1 quantity -/
abbrev s_sources_of : Stmt := topS 23
abbrev N_sources_of : List Str := ["web", "quantity"]
abbrev P_sources_of : List Str := ["web", "quantity"]
theorem sc_sources_of : FnScope N_sources_of P_sources_of (defScope s_sources_of) := ⟨rfl, rfl, rfl, by decide +kernel, rfl, by decide +kernel, by decide +kernel⟩
def sp_sources_of (K : PySem.W.Frag) : Sp := fun vs H Q _ => ∃ v u s, vs = [v, .int s] ∧ Da K H (Wb.d u) v ∧ u.Ok ∧ (0 ≤ s ∧ s < u.n) ∧
  ∀ p H', H p = none → Ex H H' → H' p = some (.lst ((srcsOf u.lines s).map V.int)) → Q (.ref p) H'
section
variable {P : Program} {w : World} {K : PySem.W.Frag} {mg : Str → Option Value} {base : Heap}
theorem ok_sources_of {f : Addr} {fd : FuncData} (T : Txt K mg) (F : Fun K "sources_of" "sources_of" s_sources_of f fd)
    (D_check_web : DefOk P w K mg base CX0 7 "check_web" P_check_web (sp_check_web K))
    (D_check_quantity : DefOk P w K mg base CX0 3 "check_quantity" P_check_quantity (sp_check_quantity K))
    (D_source_rows : DefOk P w K mg base CX0 2 "source_rows" P_source_rows (sp_source_rows K)) :
    FnG P w K mg base CX0 8 f fd P_sources_of (sp_sources_of K) := by
  refine okG0 F sc_sources_of (fun vs H Q E h => ?_) (fun cdv A outer s H vs Q E hr hq h => ?_)
  · obtain ⟨v, u, s, rfl, _⟩ := h
    rfl
  · obtain ⟨v, u, z, rfl, hd, hu, hs, q⟩ := h
    refine ⟨_, (pss_cons (ps_expr (pe_callD D_check_web (hr.mono (by decide)) hq pass0 (pa_cons (pv 0) pa_nil)))
      (pss_cons (ps_expr (pe_callD D_check_quantity (hr.mono (by decide)) hq pass0 (pa_cons (pv 0) (pa_cons (pv 1) pa_nil))))
      (pss_one (ps_ret (pe_ix (ix_seqK K) (pe_callD D_source_rows (hr.mono (by decide)) hq pass0 (pa_cons (pv 0) pa_nil)) (pv 1) (fun _ _ => rfl)))))), ?_⟩
    refine ⟨_, rfl, _, _, rfl, hd, hu.web, fun H1 e1 => ?_⟩
    refine ⟨_, rfl, _, rfl, _, u, z, rfl, hd.up e1, hs, ?_⟩
    refine ⟨_, rfl, _, u, rfl, hd.up e1, hu, fun p as H2 R => ?_⟩
    have hz : z.toNat < as.length := by
      rw [R.len]
      omega
    have hc := List.getElem?_eq_getElem hz
    generalize as[z.toNat] = c at hc
    refine ⟨_, rfl, .inl ⟨p, _, z, .ref c, rfl, rfl, .inl (.inl R.at_), atI_int hs.1 (by rw [List.getElem?_map, hc]; rfl), ?_⟩⟩
    have hrow := R.row _ _ hc
    rw [Int.toNat_of_nonneg hs.1] at hrow
    exact q c H2 (e1.fr (R.off c (List.mem_of_getElem? hc)).1) (e1.tr R.ex) hrow
end

/-! lines_of: slots 0 web -/
abbrev s_lines_of : Stmt := topS 24
abbrev N_lines_of : List Str := ["web"]
abbrev P_lines_of : List Str := ["web"]
theorem sc_lines_of : FnScope N_lines_of P_lines_of (defScope s_lines_of) := ⟨rfl, rfl, rfl, by decide +kernel, rfl, by decide +kernel, by decide +kernel⟩
def sp_lines_of (K : PySem.W.Frag) : Sp := fun vs H Q _ => ∃ v u, vs = [v] ∧ Da K H (Wb.d u) v ∧ u.Ok ∧
  ∀ p xs H', H p = none → Ex H H' → H' p = some (.lst xs) → DaAll K H' (u.lines.map dPair) xs → Q (.ref p) H'
section
variable {P : Program} {w : World} {K : PySem.W.Frag} {mg : Str → Option Value} {base : Heap}
theorem ok_lines_of {f : Addr} {fd : FuncData} (T : Txt K mg) (F : Fun K "lines_of" "lines_of" s_lines_of f fd)
    (D_check_web : DefOk P w K mg base CX0 7 "check_web" P_check_web (sp_check_web K))
    (D_all_lines : DefOk P w K mg base CX0 1 "all_lines" P_all_lines (sp_all_lines K)) :
    FnG P w K mg base CX0 8 f fd P_lines_of (sp_lines_of K) := by
  refine okG0 F sc_lines_of (fun vs H Q E h => ?_) (fun cdv A outer s H vs Q E hr hq h => ?_)
  · obtain ⟨v, u, rfl, _⟩ := h
    rfl
  · obtain ⟨v, u, rfl, hd, hu, q⟩ := h
    refine ⟨_, (pss_cons (ps_expr (pe_callD D_check_web (hr.mono (by decide)) hq pass0 (pa_cons (pv 0) pa_nil)))
      (pss_one (ps_ret (pe_callD D_all_lines (hr.mono (by decide)) hq pass0 (pa_cons (pv 0) pa_nil))))), ?_⟩
    refine ⟨_, rfl, _, _, rfl, hd, hu.web, fun H1 e1 => ?_⟩
    exact ⟨_, rfl, _, u, rfl, hd.up e1, hu, fun p xs H2 hp e2 h2 hA => q p xs H2 (e1.fr hp) (e1.tr e2) h2 hA⟩
end

end K42
namespace K42
open PySem PySem.Spec PyProof.Rows L2 Nw
/-! _law_purse: slots 0 _law_script, 1 _law_k, 2 _law_cell -/
abbrev s_purse : Stmt := topS 29
abbrev N_purse : List Str := ["_law_script", "_law_k", "_law_cell"]
abbrev P_purse : List Str := ["_law_script", "_law_k"]
theorem sc_purse : FnScope N_purse P_purse (defScope s_purse) := ⟨rfl, rfl, rfl, by decide +kernel, rfl, by decide +kernel, by decide +kernel⟩
def sp_purse (K : PySem.W.Frag) : Sp := fun vs H Q _ => ∃ (a : Addr) (ns : List Int) (k : Int), vs = [.ref a, .int k] ∧ SqL K H a (ns.map V.int) ∧ (0 ≤ k ∧ k ≤ 63) ∧
  ∀ p H', H p = none → Ex H H' → Purse H' p 0 → Q (.ref p) H'
section
variable {P : Program} {w : World} {K : PySem.W.Frag} {mg : Str → Option Value} {base : Heap}
theorem ok_purse {f : Addr} {fd : FuncData} (T : Txt K mg) (F : Fun K "_law_purse" "_law_purse" s_purse f fd) :
    FnG P w K mg base CX0 1 f fd P_purse (sp_purse K) := by
  refine okG0 F sc_purse (fun vs H Q E h => ?_) (fun cdv A outer s H vs Q E hr hq h => ?_)
  · obtain ⟨a, ns, k, rfl, _⟩ := h
    rfl
  · obtain ⟨a, ns, k, rfl, hS, hk, q⟩ := h
    have fin : ∀ (z x y : Int) (p : Addr), H p = none → 0 ≤ x → Q (.ref p) (upd H p (.lst [.int x, .int (y.fmod (10 ^ Int.toNat 41 + 37) + 90001 * k + 17), .int 0])) :=
      fun z x y p hp hx => q p _ hp (Ex.nw hp) ⟨_, _, _, upd_same, hx, purse_new (x := z) hk, by omega, by omega⟩
    refine ⟨_, (pss_cons (ps_set (i := 2) sc_purse.nd rfl (by first | exact .inl rfl | exact .inr rfl) (pe_ifExp (pt_cmpR op_lt (pv 1) (pe_callB (call_lenK K) (by rfl) T.b_len bt_len (pa_cons (pv 0) pa_nil)) (nomark _)) (pe_ix (ix_listK K) (pv 0) (pv 1) (fun _ _ => rfl)) pe_int))
      (pss_one (ps_ret (pe_lst (pa_cons (pe_callB (call_max2 rfl) (by rfl) T.b_max bt_max (pa_cons pe_int (pa_cons (pe_op op_sub (pv 2) (pe_op op_powW pe_int pe_int)) pa_nil))) (pa_cons (pe_op op_add (pe_op op_add (pe_op op_modN (pe_callTy call_int1 (by rfl) T.b_int bt_int (pa_cons (pe_callB call_abs (by rfl) T.b_abs bt_abs (pa_cons (pv 2) pa_nil)) pa_nil)) (pe_op op_add (pe_op op_powW pe_int pe_int) pe_int)) (pe_op op_mul pe_int (pv 1))) pe_int) (pa_cons pe_int pa_nil))))))), ?_⟩
    refine ⟨_, rfl, _, rfl, a, _, rfl, .inl hS, _, _, rfl, rfl, _, rfl, ?_⟩
    refine ite2 (fun h1 => ?_) (fun h1 => ?_)
    · have h2 : k.toNat < ns.length := by
        simp only [List.length_map, decide_eq_true_eq] at h1
        omega
      refine ⟨_, rfl, _, rfl, a, _, k, .int (ns[k.toNat]), rfl, rfl, hS, atI_int hk.1 (by rw [List.getElem?_map, List.getElem?_eq_getElem h2]; rfl), ?_⟩
      refine ⟨_, rfl, _, _, rfl, rfl, cpow10 (by decide) (by decide), _, _, rfl, rfl, _, _, rfl, ?_⟩
      refine ⟨_, rfl, _, rfl, .inl ⟨_, rfl, _, _, rfl, rfl, cpow10 (by decide) (by decide), _, _, rfl, rfl, _, _, rfl, rfl, ne41, ?_⟩⟩
      refine ⟨_, rfl, _, _, rfl, rfl, .inl ⟨by decide, by decide⟩, _, _, rfl, rfl, _, _, rfl, rfl, by show 3 ≤ sizeLine; decide, fun p hp => ?_⟩
      exact fin (ns[k.toNat]) _ _ p hp (by split <;> omega)
    · refine ⟨_, rfl, _, _, rfl, rfl, cpow10 (by decide) (by decide), _, _, rfl, rfl, _, _, rfl, ?_⟩
      refine ⟨_, rfl, _, rfl, .inl ⟨_, rfl, _, _, rfl, rfl, cpow10 (by decide) (by decide), _, _, rfl, rfl, _, _, rfl, rfl, ne41, ?_⟩⟩
      refine ⟨_, rfl, _, _, rfl, rfl, .inl ⟨by decide, by decide⟩, _, _, rfl, rfl, _, _, rfl, rfl, by show 3 ≤ sizeLine; decide, fun p hp => ?_⟩
      exact fin 0 _ _ p hp (by split <;> omega)
end

/-! _law_coin: slots 0 _law_purse_here, 1 _law_many, 2 _law_found, 3 _law_mixed -/
abbrev s_coin : Stmt := topS 30
abbrev N_coin : List Str := ["_law_purse_here", "_law_many", "_law_found", "_law_mixed"]
abbrev P_coin : List Str := ["_law_purse_here", "_law_many"]
theorem sc_coin : FnScope N_coin P_coin (defScope s_coin) := ⟨rfl, rfl, rfl, by decide +kernel, rfl, by decide +kernel, by decide +kernel⟩
def sp_coin (K : PySem.W.Frag) : Sp := fun vs H Q _ => ∃ (p : Addr) (m : Int) (n : Nat), vs = [.ref p, .int m] ∧ (0 < m ∧ m < 1000000000000000000000000000000000000000000000000000000000000) ∧ Purse H p n ∧ n ≤ 1000000000 ∧
  ∀ z H', (0 ≤ z ∧ z < m) → Purse H' p (n + 1) → ExD p H H' → Q (.int z) H'
section
variable {P : Program} {w : World} {K : PySem.W.Frag} {mg : Str → Option Value} {base : Heap}
theorem ok_coin {f : Addr} {fd : FuncData} (T : Txt K mg) (F : Fun K "_law_coin" "_law_coin" s_coin f fd) :
    FnG P w K mg base CX0 1 f fd P_coin (sp_coin K) := by
  refine okG0 F sc_coin (fun vs H Q E h => ?_) (fun cdv A outer s H vs Q E hr hq h => ?_)
  · obtain ⟨p, m, n, rfl, _⟩ := h
    rfl
  · obtain ⟨p, m, n, rfl, hm, ⟨b, c, e, hp, hb, hc, he⟩, hn, q⟩ := h
    have hS : SqL K H p [.int b, .int c, .int e] := .inl (.inl hp)
    refine ⟨_, (pss_cons (ps_if (pt_cmpR op_gt (pe_ix (ix_listK K) (pv 0) pe_int (fun _ _ => rfl)) pe_int (nomark _)) (pss_cons (ps_set (i := 2) sc_coin.nd rfl (by first | exact .inl rfl | exact .inr rfl) (pe_op op_modN (pe_callTy call_int1 (by rfl) T.b_int bt_int (pa_cons (pe_ix (ix_listK K) (pv 0) pe_int (fun _ _ => rfl)) pa_nil)) (pv 1)))
      (pss_cons (ps_asg (pe_op op_fdivW (pe_ix (ix_listK K) (pv 0) pe_int (fun _ _ => rfl)) (pv 1)) (pg_sub (pv 0) pe_int set_list))
      (pss_one (ps_ret (pv 2))))) pss_nil)
      (pss_cons (ps_asg (pe_op op_add (pe_ix (ix_listK K) (pv 0) pe_int (fun _ _ => rfl)) pe_int) (pg_sub (pv 0) pe_int set_list))
      (pss_cons (ps_set (i := 3) sc_coin.nd rfl (by first | exact .inl rfl | exact .inr rfl) (pe_op op_modN (pe_callTy call_int1 (by rfl) T.b_int bt_int (pa_cons (pe_op op_powW (pe_op op_add (pe_ix (ix_listK K) (pv 0) pe_int (fun _ _ => rfl)) (pe_op op_mul pe_int (pe_ix (ix_listK K) (pv 0) pe_int (fun _ _ => rfl)))) pe_int) pa_nil)) (pe_op op_add (pe_op op_powW pe_int pe_int) pe_int)))
      (pss_cons (ps_set (i := 3) sc_coin.nd rfl (by first | exact .inl rfl | exact .inr rfl) (pe_op op_modN (pe_callTy call_int1 (by rfl) T.b_int bt_int (pa_cons (pe_op op_powW (pe_op op_add (pv 3) (pe_op op_mul pe_int (pe_ix (ix_listK K) (pv 0) pe_int (fun _ _ => rfl)))) pe_int) pa_nil)) (pe_op op_add (pe_op op_powW pe_int pe_int) pe_int)))
      (pss_one (ps_ret (pe_op op_modN (pe_callTy call_int1 (by rfl) T.b_int bt_int (pa_cons (pe_op op_fdivW (pv 3) pe_int) pa_nil)) (pv 1)))))))), ?_⟩
    refine ⟨_, rfl, p, _, 0, _, rfl, rfl, hS, rfl, _, _, rfl, rfl, _, rfl, ?_⟩
    refine ite2 (fun h1 => ?_) (fun h1 => ?_)
    · refine ⟨_, rfl, p, _, 0, _, rfl, rfl, hS, rfl, .inl ⟨_, rfl, _, rfl, _, _, rfl, rfl, by omega, ?_⟩⟩
      refine ⟨_, rfl, p, _, 0, _, rfl, rfl, hS, rfl, _, rfl, _, _, rfl, rfl, great_div hm.1 hm.2, ?_⟩
      refine ⟨_, rfl, p, _, 0, 0, rfl, rfl, hp, rfl, _, rfl, ?_⟩
      exact q _ _ (fmod_in hm.1) ⟨_, _, _, upd_same, div_in hb hm.1, hc, he.1, by omega⟩ ExD.put
    · refine ⟨_, rfl, p, _, 2, _, rfl, rfl, hS, rfl, _, _, rfl, rfl, ?_⟩
      refine ⟨_, rfl, p, _, 2, 2, rfl, rfl, hp, rfl, ?_⟩
      have hS2 : SqL K (upd H p (.lst [.int b, .int c, .int (e + 1)])) p [.int b, .int c, .int (e + 1)] := .inl (.inl upd_same)
      have b1 : 0 ≤ c + 15485863 * (e + 1) ∧ c + 15485863 * (e + 1) < 10 ^ 60 := by
        rw [p42] at hc
        rw [p60]
        omega
      refine ⟨_, rfl, p, _, 1, _, rfl, rfl, hS2, rfl, _, rfl, p, _, 2, _, rfl, rfl, hS2, rfl, _, _, rfl, rfl, .inl ⟨by decide, by decide⟩, _, _, rfl, rfl, ?_⟩
      refine ⟨_, _, rfl, rfl, cpow3 b1.1 b1.2, .inl ⟨_, rfl, _, _, rfl, rfl, cpow10 (by decide) (by decide), _, _, rfl, rfl, _, _, rfl, rfl, ne43, ?_⟩⟩
      have b2 := fmod_in (a := (c + 15485863 * (e + 1)) ^ Int.toNat 3) (m := 10 ^ Int.toNat 43 + 29) (by rw [p43]; decide)
      have b3 : ∀ y : Int, 0 ≤ y ∧ y < 10 ^ Int.toNat 43 + 29 → 0 ≤ y + 49979687 * (e + 1) ∧ y + 49979687 * (e + 1) < 10 ^ 60 := by
        intro y b2
        rw [p43] at b2
        rw [p60]
        omega
      refine ⟨_, rfl, _, rfl, p, _, 2, _, rfl, rfl, hS2, rfl, _, _, rfl, rfl, .inl ⟨by decide, by decide⟩, _, _, rfl, rfl, ?_⟩
      refine ⟨_, _, rfl, rfl, cpow3 (b3 _ b2).1 (b3 _ b2).2, .inl ⟨_, rfl, _, _, rfl, rfl, cpow10 (by decide) (by decide), _, _, rfl, rfl, _, _, rfl, rfl, ne45, ?_⟩⟩
      refine ⟨_, rfl, _, _, rfl, rfl, small_div' (by decide) (by decide), .inl ⟨_, rfl, _, rfl, _, _, rfl, rfl, by omega, ?_⟩⟩
      exact q _ _ (fmod_in hm.1) ⟨_, _, _, upd_same, hb, hc, by omega, by omega⟩ ExD.put
end

/-! _law_targets: slots 0 _law_purse_here, 1 _law_count_here, 2 _law_found, 3 _law_at -/
abbrev s_targets : Stmt := topS 31
abbrev N_targets : List Str := ["_law_purse_here", "_law_count_here", "_law_found", "_law_at"]
abbrev P_targets : List Str := ["_law_purse_here", "_law_count_here"]
theorem sc_targets : FnScope N_targets P_targets (defScope s_targets) := ⟨rfl, rfl, rfl, by decide +kernel, rfl, by decide +kernel, by decide +kernel⟩
def sp_targets (K : PySem.W.Frag) : Sp := fun vs H Q _ => ∃ (p : Addr) (n : Int) (m : Nat), vs = [.ref p, .int n] ∧ (1 ≤ n ∧ n ≤ 20) ∧ Purse H p m ∧ m ≤ 1000000 ∧
  ∀ (l : Addr) (r : List Int) H', H l = none → ExD p H H' → Purse H' p (m + 21) → H' l = some (.lst (r.map V.int)) →
    r ≠ [] ∧ (∀ t ∈ r, 0 ≤ t ∧ t < n) ∧ ascB ltIn r = true → Q (.ref l) H'
section
variable {P : Program} {w : World} {K : PySem.W.Frag} {mg : Str → Option Value} {base : Heap}
theorem ok_targets {f : Addr} {fd : FuncData} (T : Txt K mg) (F : Fun K "_law_targets" "_law_targets" s_targets f fd)
    (D_coin : DefOk P w K mg base CX0 1 "_law_coin" P_coin (sp_coin K)) :
    FnG P w K mg base CX0 2 f fd P_targets (sp_targets K) := by
  refine okG0 F sc_targets (fun vs H Q E h => ?_) (fun cdv A outer s H vs Q E hr hq h => ?_)
  · obtain ⟨p, n, m, rfl, _⟩ := h
    rfl
  · obtain ⟨p, n, m, rfl, hn, hp, hm, q⟩ := h
    refine ⟨_, (pss_cons (ps_setLc (i := 2) (own := [("_law_at", 3)]) rfl sc_targets.nd rfl rfl (sw_true rfl rfl rfl (by decide +kernel)) (pi_range1 (by rfl) T.b_range (pa_cons (pv 1) pa_nil)) (blkOk_by (N := N_targets) (sc := defScope s_targets) (by decide +kernel)) (fun _ _ _ _ _ => (pg_name (i := 3) sc_targets.nd rfl (by first | exact .inl rfl | exact .inr rfl))) (fun _ _ _ _ _ => (pts_one (pt_cmpR op_eq (pe_callD D_coin (hr.mono (by decide)) hq pass0 (pa_cons (pv 0) (pa_cons pe_int pa_nil))) pe_int (nomark _)))) (fun _ _ _ _ _ => (pv 3)))
      (pss_one (ps_ret (pe_ifExp (pt_cmpR (op_neDk K hr.units) (pv 2) (pe_lst pa_nil) (nomark _)) (pv 2) (pe_lst (pa_cons (pe_callD D_coin (hr.mono (by decide)) hq pass0 (pa_cons (pv 0) (pa_cons (pv 1) pa_nil))) pa_nil)))))), ?_⟩
    refine ⟨_, rfl, _, rfl, by omega, by omega, fun D hD => ?_⟩
    have pD := hp.off hD
    refine lc_by n.toNat (fun i H' => ExD p H H' ∧ Purse H' p (m + i) ∧ ∃ r : List Int, H' D = some (.lst (r.map V.int)) ∧ ascB ltIn r = true ∧
        (∀ t ∈ r, 0 ≤ t ∧ t < (i : Int)) ∧ r.length ≤ i)
      ⟨ExD.nw hD, hp.put pD.symm, [], upd_same, rfl, fun t ht => (by cases ht), Nat.le_refl _⟩ (fun i H' hi _ => hi) (fun H' _ => Nat.le_refl _) ?_ ?_
    · rintro i H1 x H2 hi ⟨e1, p1, r, hr1, ha, hb, hl⟩ ⟨rfl, rfl⟩
      refine ⟨rfl, ?_⟩
      refine ⟨_, rfl, p, 3, _, rfl, by decide, p1, by omega, fun z H3 hz p3 e3 => ?_⟩
      have hr3 := e3 D _ pD hr1
      refine ⟨rfl, _, rfl, ite2 (fun _ => ?_) (fun _ => ?_)⟩
      · refine ⟨_, rfl, _, hr3, mil' (by rw [List.length_map]; omega), (e1.tr e3).wr hD, p3.put pD.symm, r ++ [0 + (i : Int)], ?_, ?_, ?_, ?_⟩
        · rw [upd_same, List.map_append]
          rfl
        · exact asc_snoc ha fun t ht => by have := hb t ht; omega
        · intro t ht
          rcases List.mem_append.mp ht with ht | ht
          · have := hb t ht
            omega
          · obtain rfl := List.mem_singleton.mp ht
            omega
        · rw [List.length_append, List.length_singleton]
          omega
      · exact ⟨e1.tr e3, p3, r, hr3, ha, fun t ht => by have := hb t ht; omega, by omega⟩
    · rintro H1 ⟨e1, p1, r, hr1, ha, hb, hl⟩
      have lr : r.length ≤ 100000 := by omega
      refine ⟨_, rfl, Nat.zero_le _, fun z hz => ?_⟩
      have dD : Dp K (upd H1 z (.lst [])) (.ref D) (dInts r) := ((dInts_of hr1 lr).up (Ex.nw hz)).dInts
      have dz : Dp K (upd H1 z (.lst [])) (.ref z) (dInts []) := Da.dInts (dInts_of upd_same (by decide))
      refine ⟨_, _, dD, dz, sh_dInts _, sh_dInts _, _, rfl, ?_⟩
      rw [eqv_dInts]
      refine ite2 (fun h1 => ?_) (fun h1 => ?_)
      · refine ⟨_, rfl, q D r _ hD (e1.tr (ExD.nw hz)) ((p1.up (Ex.nw hz)).mono (by omega)) ?_ ⟨by simpa using h1, fun t ht => by have := hb t ht; omega, ha⟩⟩
        rw [upd_ne (ne_of_none hr1 hz)]
        exact hr1
      · refine ⟨_, rfl, _, rfl, p, n, m + n.toNat, rfl, by omega, p1.up (Ex.nw hz), by omega, fun y H2 hy p2 e2 => ⟨by show 1 ≤ sizeLine; decide, fun l hl => ?_⟩⟩
        refine q l [y] _ ?_ ((e1.tr (ExD.nw hz)).tr (e2.tr (ExD.nw hl))) ((p2.up (Ex.nw hl)).mono (by omega)) upd_same ⟨by simp, ?_, rfl⟩
        · exact Purse.fr ((e1.tr (ExD.nw hz)).tr e2) p2 hl
        · intro t ht
          obtain rfl := List.mem_singleton.mp ht
          exact hy
end

/-! _law_web: slots 0 _law_purse_here, 1 _law_most_here, 2 _law_most_nudges, 3 _law_count_here, 4 _law_chance, 5 _law_pairs_here, 6 _law_one, 7 _law_other, 8 _law_nudges_here, 9 _law_turn -/
abbrev s_web : Stmt := topS 32
abbrev N_web : List Str := ["_law_purse_here", "_law_most_here", "_law_most_nudges", "_law_count_here", "_law_chance", "_law_pairs_here", "_law_one", "_law_other", "_law_nudges_here", "_law_turn"]
abbrev P_web : List Str := ["_law_purse_here", "_law_most_here", "_law_most_nudges"]
theorem sc_web : FnScope N_web P_web (defScope s_web) := ⟨rfl, rfl, rfl, by decide +kernel, rfl, by decide +kernel, by decide +kernel⟩
/-- some web, off the purse -/
def sp_web (K : PySem.W.Frag) : Sp := fun vs H Q _ => ∃ (p : Addr) (most mn : Int) (m : Nat), vs = [.ref p, .int most, .int mn] ∧ (1 ≤ most ∧ most ≤ 20) ∧ (0 ≤ mn ∧ mn ≤ 8) ∧
  Purse H p m ∧ m ≤ 100000 ∧
  ∀ (v : V) (u : Wb) H', ExD p H H' → Purse H' p (m + 700) → Da K (rm H' p) u.d v → u.Ok → u.n ≤ most → (u.ns.length : Int) ≤ mn → Q v H'
section
variable {P : Program} {w : World} {K : PySem.W.Frag} {mg : Str → Option Value} {base : Heap}
theorem ok_web {f : Addr} {fd : FuncData} (T : Txt K mg) (F : Fun K "_law_web" "_law_web" s_web f fd)
    (D_coin : DefOk P w K mg base CX0 1 "_law_coin" P_coin (sp_coin K))
    (D_targets : DefOk P w K mg base CX0 2 "_law_targets" P_targets (sp_targets K)) :
    FnG P w K mg base CX0 3 f fd P_web (sp_web K) := by
  refine okG0 F sc_web (fun vs H Q E h => ?_) (fun cdv A outer s H vs Q E hr hq h => ?_)
  · obtain ⟨p, most, mn, m, rfl, _⟩ := h
    rfl
  · obtain ⟨p, most, mn, m, rfl, hmost, hmn, hp, hm, q⟩ := h
    refine ⟨_, (pss_cons (ps_asg (pe_tup (pa_cons (pe_op op_add pe_int (pe_callD D_coin (hr.mono (by decide)) hq pass0 (pa_cons (pv 0) (pa_cons (pv 1) pa_nil)))) (pa_cons (pe_op op_add pe_int (pe_callD D_coin (hr.mono (by decide)) hq pass0 (pa_cons (pv 0) (pa_cons pe_int pa_nil)))) (pa_cons (pe_lst pa_nil) pa_nil)))) (pg_tupK (n := 3) K rfl (pgs_cons (pg_name (i := 3) sc_web.nd rfl (by first | exact .inl rfl | exact .inr rfl)) (pgs_cons (pg_name (i := 4) sc_web.nd rfl (by first | exact .inl rfl | exact .inr rfl)) (pgs_cons (pg_name (i := 5) sc_web.nd rfl (by first | exact .inl rfl | exact .inr rfl)) pgs_nil)))))
      (pss_cons (ps_for PassesOwn.never rfl (pi_range1 (by rfl) T.b_range (pa_cons (pv 3) pa_nil)) (pg_name (i := 6) sc_web.nd rfl (by first | exact .inl rfl | exact .inr rfl)) (pss_one (ps_expr (pe_bm PySem.F.plainAttrs_list PySem.F.slot_list_extend PySem.F.type_list_extend mt_extend (pv 5) (pa_cons (pe_lc (own := [("_law_other", 7)]) rfl sc_web.nd (pi_range1 (by rfl) T.b_range (pa_cons (pv 3) pa_nil)) (blkOk_by (N := N_web) (sc := defScope s_web) (by decide +kernel)) (fun _ _ _ _ _ => (pg_name (i := 7) sc_web.nd rfl (by first | exact .inl rfl | exact .inr rfl))) (fun _ _ _ _ _ => (pts_one (pt_cmpR op_eq (pe_callD D_coin (hr.mono (by decide)) hq pass0 (pa_cons (pv 0) (pa_cons (pv 4) pa_nil))) pe_int (nomark _)))) (fun _ _ _ _ _ => (pe_tup (pa_cons (pv 6) (pa_cons (pv 7) pa_nil))))) pa_nil)))))
      (pss_cons (ps_setLc (i := 8) (own := [("_law_turn", 9)]) rfl sc_web.nd rfl rfl (sw_true rfl rfl rfl (by decide +kernel)) (pi_range1 (by rfl) T.b_range (pa_cons (pe_callD D_coin (hr.mono (by decide)) hq pass0 (pa_cons (pv 0) (pa_cons (pe_op op_add (pv 2) pe_int) pa_nil))) pa_nil)) (blkOk_by (N := N_web) (sc := defScope s_web) (by decide +kernel)) (fun _ _ _ _ _ => (pg_name (i := 9) sc_web.nd rfl (by first | exact .inl rfl | exact .inr rfl))) (fun _ _ _ _ _ => pts_nil) (fun _ _ _ _ _ => (pe_callD D_targets (hr.mono (by decide)) hq pass0 (pa_cons (pv 0) (pa_cons (pv 3) pa_nil)))))
      (pss_one (ps_ret (pe_tup (pa_cons (pv 3) (pa_cons (pv 5) (pa_cons (pv 8) pa_nil))))))))), ?_⟩
    refine ⟨_, rfl, _, rfl, p, most, m, rfl, by omega, hp, by omega, fun z1 H1 hz1 p1 e1 => ⟨_, _, rfl, rfl, ?_⟩⟩
    refine ⟨_, rfl, p, 7, m + 1, rfl, by decide, p1, by omega, fun z2 H2 hz2 p2 e2 => ⟨_, _, rfl, rfl, ?_⟩⟩
    refine ⟨Nat.zero_le _, fun L hL => ⟨by show 3 ≤ sizeLine; decide, fun T1 hT1 => ?_⟩⟩
    have pL := p2.off hL
    have TL : T1 ≠ L := fun e => by
      rw [e, upd_same] at hT1
      cases hT1
    refine ⟨T1, _, rfl, .inl (.inl upd_same), rfl, _, _, rfl, _, _, rfl, _, _, rfl, rfl, ?_⟩
    -- the pairs
    refine ⟨_, rfl, _, rfl, by omega, by omega, ?_⟩
    have e20 : ExD p H (upd (upd H2 L (.lst [])) T1 (.tup [.int (1 + z1), .int (1 + z2), .ref L])) := ((e1.tr e2).tr (ExD.nw hL)).tr (ExD.nw hT1)
    have hL0 : (upd (upd H2 L (.lst [])) T1 (.tup [.int (1 + z1), .int (1 + z2), .ref L])) L = some (.lst []) := by
      rw [upd_ne TL.symm, upd_same]
    have HL : H L = none := Purse.fr (e1.tr e2) p2 hL
    have HT1 : H2 T1 = none := by rw [upd_ne TL] at hT1; exact hT1
    have p20 : Purse (upd (upd H2 L (.lst [])) T1 (.tup [.int (1 + z1), .int (1 + z2), .ref L])) p (m + 2) :=
      (p2.put pL.symm).put (p2.off HT1).symm
    refine for_by (1 + z1).toNat (fun i σ H' => ∃ y6 y7 y8 y9, σ = [some (V.ref p), some (V.int most), some (V.int mn), some (V.int (1 + z1)), some (V.int (1 + z2)), some (V.ref L), y6, y7, y8, y9] ∧
        ExD p H H' ∧ Purse H' p (m + 2 + 20 * i) ∧ ∃ (acc : List V) (ps : List (Int × Int)), H' L = some (.lst acc) ∧ DaAll K (rm (rm H' p) L) (ps.map dPair) acc ∧
        ascB ltPr ps = true ∧ (∀ x ∈ ps, (0 ≤ x.1 ∧ x.1 < (i : Int)) ∧ (0 ≤ x.2 ∧ x.2 < 1 + z1)) ∧ ps.length ≤ 20 * i)
      ⟨_, _, _, _, rfl, e20, p20, [], [], hL0, rfl, rfl, fun x hx => (by cases hx), Nat.le_refl _⟩ (fun i σ H' hi _ => hi) (fun σ H' _ => Nat.le_refl _) ?_ ?_
    · rintro i σ H3 x H4 hi ⟨y6, y7, y8, y9, rfl, e3, p3, acc, ps, hL3, hA3, ha, hb, hl⟩ ⟨rfl, rfl⟩
      refine ⟨_, rfl, .inl ⟨rfl, _, .inl (.inl hL3)⟩, ?_⟩
      refine ⟨_, rfl, _, rfl, by omega, by omega, fun D hD => ?_⟩
      have Dp := p3.off hD
      have DL : D ≠ L := fun e => by
        rw [e, hL3] at hD
        cases hD
      refine lc_by (1 + z1).toNat (fun j H' => ExD p H4 H' ∧ Purse H' p (m + 2 + 20 * i + j) ∧ ∃ (ac2 : List V) (p2 : List (Int × Int)), H' D = some (.lst ac2) ∧
          DaAll K (rm (rm (rm H' p) L) D) (p2.map dPair) ac2 ∧ ascB ltPr p2 = true ∧ (∀ x ∈ p2, x.1 = (i : Int) ∧ (0 ≤ x.2 ∧ x.2 < (j : Int))) ∧ p2.length ≤ j)
        ⟨ExD.nw hD, p3.put Dp.symm, [], [], upd_same, rfl, rfl, fun x hx => (by cases hx), Nat.le_refl _⟩ (fun j H' hj _ => hj) (fun H' _ => Nat.le_refl _) ?_ ?_
      · rintro j H5 x H6 hj ⟨e5, p5, ac2, ps2, hD5, hA5, ha5, hb5, hl5⟩ ⟨rfl, rfl⟩
        refine ⟨rfl, ?_⟩
        refine ⟨_, rfl, _, rfl, p, 1 + z2, _, rfl, by omega, p5, by omega, fun z H7 hz p7 e7 => ?_⟩
        have hD7 := e7 D _ Dp hD5
        have hA7 : DaAll K (rm (rm (rm H7 p) L) D) (ps2.map dPair) ac2 := hA5.up (Ex.rm (Ex.rm e7.rm))
        refine ⟨rfl, _, rfl, ite2 (fun _ => ?_) (fun _ => ?_)⟩
        · refine ⟨_, rfl, _, rfl, by show 2 ≤ sizeLine; decide, fun T2 hT2 => ?_⟩
          have T2D : T2 ≠ D := fun e => by
            rw [e, hD7] at hT2
            cases hT2
          have T2p := p7.off hT2
          have T2L : T2 ≠ L := fun e => by
            have h9 := e7 L _ pL (e5 L _ pL hL3)
            rw [e, h9] at hT2
            cases hT2
          have hA8 := hA7.len
          rw [List.length_map] at hA8
          refine ⟨ac2, by rw [upd_ne T2D.symm]; exact hD7, mil' (by omega), ((e5.tr e7).tr (ExD.nw hT2)).wr hD, (p7.up (Ex.nw hT2)).put Dp.symm, ac2 ++ [.ref T2], ps2 ++ [(0 + (i : Int), 0 + (j : Int))], upd_same, ?_, ?_, ?_, ?_⟩
          · rw [List.map_append]
            refine (hA7.up (ex_rm3 fun b o _ _ n3 h => ?_)).app ⟨_, _, rfl, dPair_of (p := (0 + (i : Int), 0 + (j : Int))) ?_, rfl⟩
            · rw [upd_ne n3, upd_ne (ne_of_none h hT2)]
              exact h
            · rw [rm_ne T2D, rm_ne T2L, rm_ne T2p, upd_ne T2D, upd_same]
          · exact ascP_snoc ha5 fun t ht => ltPr_iff.mpr (by have := hb5 t ht; simp only; omega)
          · intro x hx
            rcases List.mem_append.mp hx with hx | hx
            · have := hb5 x hx
              omega
            · obtain rfl := List.mem_singleton.mp hx
              simp only
              omega
          · rw [List.length_append, List.length_singleton]
            omega
        · exact ⟨e5.tr e7, p7, ac2, ps2, hD7, hA7, ha5, fun x hx => by have := hb5 x hx; omega, by omega⟩
      · rintro H5 ⟨e5, p5, ac2, ps2, hD5, hA5, ha5, hb5, hl5⟩
        have hL5 := e5 L _ pL hL3
        have l1 := hA3.len
        have l2 := hA5.len
        rw [List.length_map] at l1 l2
        refine ⟨L, D, acc, ac2, rfl, rfl, hL5, hD5, mil (by omega), ?_⟩
        refine ⟨_, _, _, _, rfl, (e3.tr e5).wr HL, (p5.put pL.symm).mono (by omega), acc ++ ac2, ps ++ ps2, upd_same, ?_, ?_, ?_, ?_⟩
        · rw [List.map_append]
          refine (hA3.up (ex_rm2 fun b o n1 n2 h => ?_)).app (hA5.up (rm_ex.tr (ex_rm2 fun b o n1 n2 h => ?_)))
          · rw [upd_ne n2]
            exact e5 b o n1 h
          · rw [upd_ne n2]
            exact h
        · refine asc_app ha ha5 fun x hx y hy => ltPr_iff.mpr (.inl ?_)
          have := hb x hx
          have := hb5 y hy
          omega
        · intro x hx
          rcases List.mem_append.mp hx with hx | hx
          · have := hb x hx
            omega
          · have := hb5 x hx
            omega
        · rw [List.length_append]
          omega
    · rintro σ H3 ⟨y6, y7, y8, y9, rfl, e3, p3, acc, ps, hL3, hA3, ha, hb, hl⟩
      -- the nudges
      refine ⟨_, rfl, _, rfl, _, _, rfl, rfl, p, mn + 1, _, rfl, by omega, p3, by omega, fun z3 H4 hz3 p4 e4 => ⟨_, rfl, by omega, by omega, fun D hD => ?_⟩⟩
      have Dp := p4.off hD
      have hL4 := e4 L _ pL hL3
      have DL : D ≠ L := fun e => by
        rw [e, hL4] at hD
        cases hD
      have hm0 : m + 2 + 20 * (1 + z1).toNat + 1 ≤ m + 403 := by omega
      have p40 := p4.mono hm0
      refine lc_by z3.toNat (fun i H' => ExD p H4 H' ∧ Purse H' p (m + 403 + 21 * i) ∧ ∃ (ac : List V) (rs : List (List Int)), H' D = some (.lst ac) ∧
          DaAll K (rm (rm H' p) D) (rs.map dInts) ac ∧ (∀ r ∈ rs, r ≠ [] ∧ (∀ t ∈ r, 0 ≤ t ∧ t < 1 + z1) ∧ ascB ltIn r = true) ∧ rs.length = i)
        ⟨ExD.nw hD, p40.put Dp.symm, [], [], upd_same, rfl, fun r hr => (by cases hr), rfl⟩ (fun i H' hi _ => hi) (fun H' _ => Nat.le_refl _) ?_ ?_
      · rintro i H5 x H6 hi ⟨e5, p5, ac, rs, hD5, hA5, hr5, hl5⟩ ⟨rfl, rfl⟩
        refine ⟨rfl, ?_⟩
        refine ⟨_, rfl, _, rfl, p, 1 + z1, _, rfl, by omega, p5, by omega, fun l r H7 hl e7 p7 h7 hr7 => ?_⟩
        have hD7 := e7 D _ Dp hD5
        have lD : l ≠ D := fun e => by
          rw [e, hD5] at hl
          cases hl
        have lp := p5.off hl
        have l1 := hA5.len
        rw [List.length_map] at l1
        have lr : r.length ≤ 20 := by
          have := asc_len r 0 hr7.2.1 hr7.2.2
          omega
        refine ⟨ac, hD7, mil' (by omega), (e5.tr e7).wr hD, p7.put Dp.symm, ac ++ [.ref l], rs ++ [r], upd_same, ?_, ?_, ?_⟩
        · rw [List.map_append]
          refine (hA5.up (ex_rm2 fun b o n1 n2 h => ?_)).app ⟨_, _, rfl, dInts_of ?_ (by omega), rfl⟩
          · rw [upd_ne n2]
            exact e7 b o n1 h
          · rw [rm_ne lD, rm_ne lp, upd_ne lD]
            exact h7
        · intro s hs
          rcases List.mem_append.mp hs with hs | hs
          · exact hr5 s hs
          · obtain rfl := List.mem_singleton.mp hs
            exact hr7
        · rw [List.length_append, hl5]
          rfl
      · rintro H5 ⟨e5, p5, ac, rs, hD5, hA5, hr5, hl5⟩
        refine ⟨_, rfl, _, rfl, _, rfl, by show 3 ≤ sizeLine; decide, fun T3 hT3 => ?_⟩
        have hL5 := e5 L _ pL hL4
        have T3p := p5.off hT3
        have T3L : T3 ≠ L := fun e => by
          rw [e, hL5] at hT3
          cases hT3
        have T3D : T3 ≠ D := fun e => by
          rw [e, hD5] at hT3
          cases hT3
        have l1 := hA3.len
        have l2 := hA5.len
        rw [List.length_map] at l1 l2
        refine q (.ref T3) ⟨1 + z1, ps, rs⟩ _ (((e3.tr e4).tr e5).tr (ExD.nw hT3)) ((p5.up (Ex.nw hT3)).mono (by omega)) ?_ ?_ (by show 1 + z1 ≤ most; omega) (by show (rs.length : Int) ≤ mn; omega)
        · refine ⟨T3, _, rfl, by rw [rm_ne T3p, upd_same], _, _, rfl, rfl, _, _, rfl, ⟨L, acc, rfl, ?_, ?_, ?_⟩, _, _, rfl, ⟨D, ac, rfl, ?_, ?_, ?_⟩, rfl⟩
          · rw [rm_ne pL, upd_ne T3L.symm]
            exact hL5
          · refine hA3.up (rm_ex.tr (ex_rm1 fun b o n h => ?_))
            rw [upd_ne (ne_of_none (e5 b o n (e4 b o n h)) hT3)]
            exact e5 b o n (e4 b o n h)
          · rw [List.length_map]
            show ps.length ≤ 100000
            omega
          · rw [rm_ne Dp, upd_ne T3D.symm]
            exact hD5
          · refine hA5.up (rm_ex.tr (ex_rm1 fun b o n h => ?_))
            rw [upd_ne (ne_of_none h hT3)]
            exact h
          · rw [List.length_map]
            show rs.length ≤ 100000
            omega
        · refine ⟨by show 1 ≤ 1 + z1; omega, by show 1 + z1 ≤ 20; omega, ?_, ha, by show rs.length ≤ 8; omega, hr5⟩
          intro x hx
          have := hb x hx
          refine ⟨⟨this.1.1, ?_⟩, this.2⟩
          show x.1 < 1 + z1
          omega
end

end K42
namespace K42
open PySem PySem.Spec PyProof.Rows L2 Nw
/-! _law_copy: slots 0 _law_web_here, 1 _law_row -/
abbrev s_copy : Stmt := topS 33
abbrev N_copy : List Str := ["_law_web_here", "_law_row"]
abbrev P_copy : List Str := ["_law_web_here"]
theorem sc_copy : FnScope N_copy P_copy (defScope s_copy) := ⟨rfl, rfl, rfl, by decide +kernel, rfl, by decide +kernel, by decide +kernel⟩
/-- a copy whose lists are new -/
def sp_copy (K : PySem.W.Frag) : Sp := fun vs H Q _ => ∃ v u, vs = [v] ∧ Da K H (Wb.d u) v ∧ u.Ok ∧
  ∀ c H', Ex H H' → Da K H' u.d c → Q c H'
section
variable {P : Program} {w : World} {K : PySem.W.Frag} {mg : Str → Option Value} {base : Heap}
theorem ok_copy {f : Addr} {fd : FuncData} (T : Txt K mg) (F : Fun K "_law_copy" "_law_copy" s_copy f fd) :
    FnG P w K mg base CX0 1 f fd P_copy (sp_copy K) := by
  refine okG0 F sc_copy (fun vs H Q E h => ?_) (fun cdv A outer s H vs Q E hr hq h => ?_)
  · obtain ⟨v, u, rfl, _⟩ := h
    rfl
  · obtain ⟨v, u, rfl, hd, hu, q⟩ := h
    obtain ⟨t, x2, x3, rfl, hS, g2, g3⟩ := Wb.at hd
    obtain ⟨a2, ys, rfl, hL2, hA2, hz2⟩ := g2
    obtain ⟨a, xs, rfl, hL, hA, hz⟩ := g3
    have hl := hA.len
    rw [List.length_map] at hl
    refine ⟨_, (pss_one (ps_ret (pe_tup (pa_cons (pe_ix (ix_tupK K) (pv 0) pe_int (fun _ _ => rfl)) (pa_cons (pe_callTy (call_listK K) (by rfl) T.b_list bt_list (pa_cons (pe_ix (ix_tupK K) (pv 0) pe_int (fun _ _ => rfl)) pa_nil)) (pa_cons (pe_lc (own := [("_law_row", 1)]) rfl sc_copy.nd (pi_listK K (pe_ix (ix_tupK K) (pv 0) pe_int (fun _ _ => rfl))) (blkOk_by (N := N_copy) (sc := defScope s_copy) (by decide +kernel)) (fun _ _ _ _ _ => (pg_name (i := 1) sc_copy.nd rfl (by first | exact .inl rfl | exact .inr rfl))) (fun _ _ _ _ _ => pts_nil) (fun _ _ _ _ _ => (pe_callTy (call_listK K) (by rfl) T.b_list bt_list (pa_cons (pv 1) pa_nil)))) pa_nil)))))), ?_⟩
    refine ⟨_, rfl, t, _, 0, _, rfl, rfl, hS, rfl, ?_⟩
    refine ⟨_, rfl, t, _, 1, _, rfl, rfl, hS, rfl, a2, _, rfl, .inl (.inl (.inl hL2)), fun b hb => ?_⟩
    have e1 : Ex H (upd H b (.lst ys)) := Ex.nw hb
    refine ⟨_, rfl, t, _, 2, _, rfl, rfl, e1.t hS, rfl, a, rfl, ⟨_, .inl (.inl (e1 _ _ hL))⟩, fun D hD => ?_⟩
    refine lc_by xs.length (fun i H' => Ex (upd H b (.lst ys)) H' ∧ ∃ ac, H' D = some (.lst ac) ∧ DaAll K (rm H' D) ((u.ns.take i).map dInts) ac)
      ⟨Ex.nw hD, [], upd_same, rfl⟩ (fun i H' hi p => itl_go (.inl (.inl (e1 _ _ hL))) p.1 hi) (fun H' p => itl_stop (.inl (.inl (e1 _ _ hL))) p.1) ?_ ?_
    · rintro i H1 x H2 hi ⟨e2, ac, hD1, hA1⟩ y
      obtain ⟨rfl, hx⟩ := itl_yld y (.inl (.inl (e1 _ _ hL))) e2
      obtain ⟨dr, hdr, hxd⟩ := hA.at' hx
      obtain ⟨r, hrr, rfl⟩ := map_at hdr
      obtain ⟨ar, zs, rfl, hLr, hAr, _⟩ := hxd
      obtain rfl := DaAll.ints.mp hAr
      have hru := hu.row (List.mem_of_getElem? hrr)
      refine ⟨rfl, _, rfl, ar, _, rfl, .inl (.inl (.inl (e2 _ _ (e1 _ _ hLr)))), fun l hl' => ?_⟩
      have lD : l ≠ D := fun e => by
        rw [e, hD1] at hl'
        cases hl'
      have l1 := hA1.len
      rw [List.length_map, List.length_take] at l1
      have := hu.few
      refine ⟨ac, by rw [upd_ne lD.symm]; exact hD1, mil' (by omega), (e2.tr (Ex.nw hl')).wr hD, ac ++ [.ref l], upd_same, ?_⟩
      rw [take_snoc hrr, List.map_append]
      refine (hA1.up (ex_rm1 fun b' o n h => ?_)).app ⟨_, _, rfl, dInts_of ?_ (by omega), rfl⟩
      · rw [upd_ne n, upd_ne (ne_of_none h hl')]
        exact h
      · rw [rm_ne lD, upd_ne lD, upd_same]
    · rintro H1 ⟨e2, ac, hD1, hA1⟩
      rw [← hl, List.take_length] at hA1
      refine ⟨by show 3 ≤ sizeLine; decide, fun T3 hT3 => ?_⟩
      have e3 : Ex H1 (upd H1 T3 (.tup [.int u.n, .ref b, .ref D])) := Ex.nw hT3
      refine q _ _ ((e1.tr e2).tr e3) ?_
      have l1 := hA1.len
      rw [List.length_map] at l1
      refine ⟨T3, _, rfl, upd_same, _, _, rfl, rfl, _, _, rfl, ⟨b, ys, rfl, e3 _ _ (e2 _ _ upd_same), hA2.up ((e1.tr e2).tr e3), hz2⟩, _, _, rfl, ⟨D, ac, rfl, e3 _ _ hD1, hA1.up (rm_ex.tr e3), ?_⟩, rfl⟩
      rw [List.length_map]
      have := hu.few
      omega
end

/-! _law_lists: slots 0 _law_web_here, 1 _law_found, 2 _law_at, 3 _law_one, 4 _law_other, 5 _law_row -/
abbrev s_lists : Stmt := topS 34
abbrev N_lists : List Str := ["_law_web_here", "_law_found", "_law_at", "_law_one", "_law_other", "_law_row"]
abbrev P_lists : List Str := ["_law_web_here"]
theorem sc_lists : FnScope N_lists P_lists (defScope s_lists) := ⟨rfl, rfl, rfl, by decide +kernel, rfl, by decide +kernel, by decide +kernel⟩
def sp_lists (K : PySem.W.Frag) : Sp := fun vs H Q _ => ∃ v u, vs = [v] ∧ Da K H (Wb.d u) v ∧ u.Ok ∧
  ∀ p (as : List Addr) H', H p = none → Ex H H' → H' p = some (.lst (as.map V.ref)) → as.length = u.n.toNat + u.ns.length →
    (∀ (s : Nat) (b : Addr), as[s]? = some b → H' b = some (.lst ((rowOf u.lines (s : Int)).map V.int))) → Q (.ref p) H'
section
variable {P : Program} {w : World} {K : PySem.W.Frag} {mg : Str → Option Value} {base : Heap}
theorem ok_lists {f : Addr} {fd : FuncData} (T : Txt K mg) (F : Fun K "_law_lists" "_law_lists" s_lists f fd) :
    FnG P w K mg base CX0 1 f fd P_lists (sp_lists K) := by
  refine okG0 F sc_lists (fun vs H Q E h => ?_) (fun cdv A outer s H vs Q E hr hq h => ?_)
  · obtain ⟨v, u, rfl, _⟩ := h
    rfl
  · obtain ⟨v, u, rfl, hd, hu, q⟩ := h
    obtain ⟨t, x2, x3, rfl, hS, g2, g3⟩ := Wb.at hd
    obtain ⟨a2, ys, rfl, hL2, hA2, hz2⟩ := g2
    obtain ⟨a, xs, rfl, hL, hA, hz⟩ := g3
    have hl := hA.len
    have hl2 := hA2.len
    rw [List.length_map] at hl hl2
    have b1 := hu.lo
    have b2 := hu.hi
    have b3 := hu.few
    have b4 := hu.len
    refine ⟨_, (pss_cons (ps_setLc (i := 1) (own := [("_law_at", 2)]) rfl sc_lists.nd rfl rfl (sw_true rfl rfl rfl (by decide +kernel)) (pi_range1 (by rfl) T.b_range (pa_cons (pe_ix (ix_tupK K) (pv 0) pe_int (fun _ _ => rfl)) pa_nil)) (blkOk_by (N := N_lists) (sc := defScope s_lists) (by decide +kernel)) (fun _ _ _ _ _ => (pg_name (i := 2) sc_lists.nd rfl (by first | exact .inl rfl | exact .inr rfl))) (fun _ _ _ _ _ => pts_nil) (fun _ _ _ _ _ => (pe_lst pa_nil)))
      (pss_cons (ps_for PassesOwn.never rfl (pi_listK K (pe_ix (ix_tupK K) (pv 0) pe_int (fun _ _ => rfl))) (pg_tupK (n := 2) K rfl (pgs_cons (pg_name (i := 3) sc_lists.nd rfl (by first | exact .inl rfl | exact .inr rfl)) (pgs_cons (pg_name (i := 4) sc_lists.nd rfl (by first | exact .inl rfl | exact .inr rfl)) pgs_nil))) (pss_cons (ps_set (i := 5) sc_lists.nd rfl (by first | exact .inl rfl | exact .inr rfl) (pe_ix (ix_seqK K) (pv 1) (pv 3) (fun _ _ => rfl)))
      (pss_one (ps_expr (pe_bm PySem.F.plainAttrs_list PySem.F.slot_list_append PySem.F.type_list_append mt_append (pv 5) (pa_cons (pv 4) pa_nil))))))
      (pss_one (ps_ret (pe_op (op_catS K) (pv 1) (pe_lc (own := [("_law_row", 5)]) rfl sc_lists.nd (pi_listK K (pe_ix (ix_tupK K) (pv 0) pe_int (fun _ _ => rfl))) (blkOk_by (N := N_lists) (sc := defScope s_lists) (by decide +kernel)) (fun _ _ _ _ _ => (pg_name (i := 5) sc_lists.nd rfl (by first | exact .inl rfl | exact .inr rfl))) (fun _ _ _ _ _ => pts_nil) (fun _ _ _ _ _ => (pe_callTy (call_listK K) (by rfl) T.b_list bt_list (pa_cons (pv 5) pa_nil))))))))), ?_⟩
    refine ⟨_, rfl, t, _, 0, _, rfl, rfl, hS, rfl, _, rfl, by omega, by omega, fun D hD => ?_⟩
    refine lc_by u.n.toNat (fun i H' => Ex H H' ∧ ∃ as : List Addr, H' D = some (.lst (as.map V.ref)) ∧ as.Nodup ∧ as.length = i ∧
        ∀ b ∈ as, H b = none ∧ b ≠ D ∧ H' b = some (.lst []))
      ⟨Ex.nw hD, [], upd_same, List.nodup_nil, rfl, fun b hb => by cases hb⟩ (fun i H' hi p => hi) (fun H' p => Nat.le_refl _) ?_ ?_
    · rintro i H1 x H2 hi ⟨e1, as, hD1, nd, hlen, hall⟩ ⟨rfl, rfl⟩
      refine ⟨rfl, Nat.zero_le _, fun b hb => ?_⟩
      have hbD : b ≠ D := fun e => by
        rw [e, hD1] at hb
        cases hb
      refine ⟨as.map V.ref, by rw [upd_ne hbD.symm]; exact hD1, mil' (by rw [List.length_map]; omega), (e1.tr (Ex.nw hb)).wr hD, as ++ [b], ?_, ?_, ?_, ?_⟩
      · rw [upd_same, List.map_append]
        rfl
      · refine nodup_snoc nd fun hm => ?_
        rw [(hall b hm).2.2] at hb
        cases hb
      · rw [List.length_append, hlen]
        rfl
      · intro c hc
        rcases List.mem_append.mp hc with hc | hc
        · obtain ⟨c1, c2, c3⟩ := hall c hc
          refine ⟨c1, c2, ?_⟩
          rw [upd_ne c2, upd_ne (ne_of_none c3 hb)]
          exact c3
        · obtain rfl := List.mem_singleton.mp hc
          exact ⟨e1.fr hb, hbD, by rw [upd_ne hbD, upd_same]⟩
    · rintro H1 ⟨e1, as, hD1, nd, hlen, hall⟩
      refine ⟨_, rfl, t, _, 1, _, rfl, rfl, e1.t hS, rfl, a2, rfl, ⟨_, .inl (.inl (e1 _ _ hL2))⟩, ?_⟩
      refine for_by ys.length (fun i σ H' => ∃ y2 y3 y4 y5, σ = [some (V.ref t), some (V.ref D), y2, y3, y4, y5] ∧ Ex H H' ∧ H' D = some (.lst (as.map V.ref)) ∧
          ∀ (s : Nat) (b : Addr), as[s]? = some b → H' b = some (.lst ((rowOf (u.ps.take i) (s : Int)).map V.int)))
        ⟨_, _, _, _, rfl, e1, hD1, fun s b hb => (hall b (List.mem_of_getElem? hb)).2.2⟩ (fun i σ H' hi p => ?_) (fun σ H' p => ?_) ?_ ?_
      · obtain ⟨_, _, _, _, _, h4, _⟩ := p
        exact itl_go (.inl (.inl hL2)) h4 hi
      · obtain ⟨_, _, _, _, _, h4, _⟩ := p
        exact itl_stop (.inl (.inl hL2)) h4
      · rintro i σ H3 x H4 hi ⟨y2, y3, y4, y5, rfl, e3, hD3, hR3⟩ y
        obtain ⟨rfl, hx⟩ := itl_yld y (.inl (.inl hL2)) e3
        obtain ⟨p, hp, b, rfl, hSb⟩ := pairs_at hA2 hx
        obtain ⟨⟨p1, p2⟩, _⟩ := hu.ps p (List.mem_of_getElem? hp)
        have hs : p.1.toNat < as.length := by rw [hlen]; omega
        have hc := List.getElem?_eq_getElem hs
        generalize as[p.1.toNat] = c at hc
        have hcl := hR3 _ _ hc
        obtain ⟨c1, c2, _⟩ := hall c (List.mem_of_getElem? hc)
        have el : ((p.1.toNat : Nat) : Int) = p.1 := Int.toNat_of_nonneg p1
        have hsz : ((rowOf (u.ps.take i) ((p.1.toNat : Nat) : Int)).map V.int).length < sizeLine := by
          refine mil' ?_
          have h1 := rowOf_len (u.ps.take i) ((p.1.toNat : Nat) : Int)
          rw [List.length_take] at h1
          rw [List.length_map]
          omega
        refine ⟨b, _, rfl, e3.t hSb, rfl, _, _, rfl, _, _, rfl, rfl, ?_⟩
        refine ⟨_, rfl, _, rfl, .inl ⟨D, _, p.1, .ref c, rfl, rfl, .inl (.inl hD3), atI_int p1 (by rw [List.getElem?_map, hc]; rfl), ?_⟩⟩
        refine ⟨_, rfl, .inl ⟨rfl, _, .inl (.inl hcl)⟩, _, rfl, c, _, _, rfl, rfl, hcl, hsz, ?_⟩
        refine ⟨_, _, _, _, rfl, e3.wr c1, by rw [upd_ne c2.symm]; exact hD3, ?_⟩
        intro s d hd'
        rw [take_snoc hp, rowOf_app, rowOf_one]
        by_cases es : s = p.1.toNat
        · subst es
          rw [hc] at hd'
          cases hd'
          rw [upd_same, if_pos el.symm, List.map_append]
          rfl
        · have ne : d ≠ c := nodup_at nd hd' hc es
          rw [upd_ne ne, if_neg (by omega), List.append_nil]
          exact hR3 s d hd'
      · rintro σ H3 ⟨y2, y3, y4, y5, rfl, e3, hD3, hR3⟩
        rw [← hl2, List.take_length] at hR3
        refine ⟨_, rfl, _, rfl, t, _, 2, _, rfl, rfl, e3.t hS, rfl, a, rfl, ⟨_, .inl (.inl (e3 _ _ hL))⟩, fun D2 hD2 => ?_⟩
        have D2D : D2 ≠ D := fun e => by
          rw [e, hD3] at hD2
          cases hD2
        refine lc_by xs.length (fun i H' => Ex H3 H' ∧ ∃ bs : List Addr, H' D2 = some (.lst (bs.map V.ref)) ∧ bs.length = i ∧
            ∀ (k : Nat) (b : Addr), bs[k]? = some b → b ≠ D2 ∧ ∃ r, u.ns[k]? = some r ∧ H' b = some (.lst (r.map V.int)))
          ⟨Ex.nw hD2, [], upd_same, rfl, fun k b hb => by simp at hb⟩ (fun i H' hi p => itl_go (.inl (.inl (e3 _ _ hL))) p.1 hi) (fun H' p => itl_stop (.inl (.inl (e3 _ _ hL))) p.1) ?_ ?_
        · rintro i H5 x H6 hi ⟨e5, bs, hD5, hlen5, hall5⟩ y
          obtain ⟨rfl, hx⟩ := itl_yld y (.inl (.inl (e3 _ _ hL))) e5
          obtain ⟨dr, hdr, hxd⟩ := hA.at' hx
          obtain ⟨r, hrr, rfl⟩ := map_at hdr
          obtain ⟨ar, zs, rfl, hLr, hAr, _⟩ := hxd
          obtain rfl := DaAll.ints.mp hAr
          refine ⟨rfl, _, rfl, ar, _, rfl, .inl (.inl (.inl (e5 _ _ (e3 _ _ hLr)))), fun l hl' => ?_⟩
          have lD : l ≠ D2 := fun e => by
            rw [e, hD5] at hl'
            cases hl'
          refine ⟨bs.map V.ref, by rw [upd_ne lD.symm]; exact hD5, mil' (by rw [List.length_map]; omega), (e5.tr (Ex.nw hl')).wr hD2, bs ++ [l], ?_, ?_, ?_⟩
          · rw [upd_same, List.map_append]
            rfl
          · rw [List.length_append, hlen5]
            rfl
          · intro k b hb
            by_cases hk : k < bs.length
            · rw [List.getElem?_append_left hk] at hb
              obtain ⟨n1, r', n2, n3⟩ := hall5 k b hb
              refine ⟨n1, r', n2, ?_⟩
              rw [upd_ne n1, upd_ne (ne_of_none n3 hl')]
              exact n3
            · rw [List.getElem?_append_right (by omega)] at hb
              have hk2 : k - bs.length = 0 := by
                cases hq' : k - bs.length with
                | zero => rfl
                | succ z =>
                  rw [hq'] at hb
                  simp at hb
              rw [hk2] at hb
              cases hb
              have ek : k = i := by omega
              subst ek
              exact ⟨lD, r, hrr, by rw [upd_ne lD, upd_same]⟩
        · rintro H5 ⟨e5, bs, hD5, hlen5, hall5⟩
          have hD5' := e5 _ _ hD3
          refine ⟨D, D2, as.map V.ref, bs.map V.ref, rfl, rfl, .inl (.inl hD5'), .inl (.inl hD5), by simp only [List.length_map]; omega, fun p hp => ?_⟩
          refine q p (as ++ bs) _ (e3.fr (e5.fr hp)) ((e3.tr e5).tr (Ex.nw hp)) (by rw [upd_same, List.map_append]) (by rw [List.length_append]; omega) ?_
          intro k b hb
          by_cases hk : k < as.length
          · rw [List.getElem?_append_left hk] at hb
            have h1 := e5 _ _ (hR3 k b hb)
            rw [upd_ne (ne_of_none h1 hp), h1, row_low hu (by omega)]
          · rw [List.getElem?_append_right (by omega)] at hb
            obtain ⟨_, r, h1, h2⟩ := hall5 _ _ hb
            rw [upd_ne (ne_of_none h2 hp), h2]
            have hk' : k = u.n.toNat + (k - as.length) := by omega
            rw [row_high hu h1 (s := (k : Int)) (by omega)]
end

end K42
namespace K42
open PySem PySem.Spec PyProof.Rows L2 Nw
/-! _law_right: slots 0 _law_web_here, 1 _law_kept, 2 _law_lists_here, 3 _law_lines_here, 4 _law_at, 5 _law_row, 6 _law_told, 7 _law_goal, 8 _law_due, 9 _law_one -/
abbrev s_right : Stmt := topS 35
abbrev N_right : List Str := ["_law_web_here", "_law_kept", "_law_lists_here", "_law_lines_here", "_law_at", "_law_row", "_law_told", "_law_goal", "_law_due", "_law_one"]
abbrev P_right : List Str := ["_law_web_here"]
theorem sc_right : FnScope N_right P_right (defScope s_right) := ⟨rfl, rfl, rfl, by decide +kernel, rfl, by decide +kernel, by decide +kernel⟩
def sp_right (K : PySem.W.Frag) : Sp := fun vs H Q _ => ∃ v u, vs = [v] ∧ Da K H (Wb.d u) v ∧ u.Ok ∧ ∀ H', Ex H H' → Q (.bl true) H'
section
variable {P : Program} {w : World} {K : PySem.W.Frag} {mg : Str → Option Value} {base : Heap}
theorem ok_right {f : Addr} {fd : FuncData} (T : Txt K mg) (F : Fun K "_law_right" "_law_right" s_right f fd)
    (D_targets_of : DefOk P w K mg base CX0 8 "targets_of" P_targets_of (sp_targets_of K))
    (D_sources_of : DefOk P w K mg base CX0 8 "sources_of" P_sources_of (sp_sources_of K))
    (D_lines_of : DefOk P w K mg base CX0 8 "lines_of" P_lines_of (sp_lines_of K))
    (D_copy : DefOk P w K mg base CX0 1 "_law_copy" P_copy (sp_copy K))
    (D_lists : DefOk P w K mg base CX0 1 "_law_lists" P_lists (sp_lists K)) :
    FnG P w K mg base CX0 9 f fd P_right (sp_right K) := by
  refine okG0 F sc_right (fun vs H Q E h => ?_) (fun cdv A outer s H vs Q E hr hq h => ?_)
  · obtain ⟨v, u, rfl, _⟩ := h
    rfl
  · obtain ⟨v, u, rfl, hd, hu, q⟩ := h
    have b1 := hu.lo
    have b2 := hu.hi
    have b3 := hu.few
    have b4 := hu.lines_len
    refine ⟨_, (pss_cons (ps_par (i := 1) (j := 2) (by rfl) sc_right.nd rfl rfl (by decide) rfl rfl (pa_cons (pe_callD D_copy (hr.mono (by decide)) hq pass0 (pa_cons (pv 0) pa_nil)) (pa_cons (pe_callD D_lists (hr.mono (by decide)) hq pass0 (pa_cons (pv 0) pa_nil)) pa_nil)) (by rfl))
      (pss_cons (ps_set (i := 3) sc_right.nd rfl (by first | exact .inl rfl | exact .inr rfl) (pe_lst pa_nil))
      (pss_cons (ps_for PassesOwn.never rfl (pi_enum (by rfl) T.b_enumerate (pa_cons (pv 2) pa_nil)) (pg_tupK (n := 2) K rfl (pgs_cons (pg_name (i := 4) sc_right.nd rfl (by first | exact .inl rfl | exact .inr rfl)) (pgs_cons (pg_name (i := 5) sc_right.nd rfl (by first | exact .inl rfl | exact .inr rfl)) pgs_nil))) (pss_cons (ps_expr (pe_bm PySem.F.plainAttrs_list PySem.F.slot_list_extend PySem.F.type_list_extend mt_extend (pv 3) (pa_cons (pe_lc (own := [("_law_goal", 7)]) rfl sc_right.nd (pi_listK K (pv 5)) (blkOk_by (N := N_right) (sc := defScope s_right) (by decide +kernel)) (fun _ _ _ _ _ => (pg_name (i := 7) sc_right.nd rfl (by first | exact .inl rfl | exact .inr rfl))) (fun _ _ _ _ _ => pts_nil) (fun _ _ _ _ _ => (pe_tup (pa_cons (pv 4) (pa_cons (pv 7) pa_nil))))) pa_nil)))
      (pss_cons (ps_set (i := 6) sc_right.nd rfl (by first | exact .inl rfl | exact .inr rfl) (pe_callD D_targets_of (hr.mono (by decide)) hq pass0 (pa_cons (pv 0) (pa_cons (pv 4) pa_nil))))
      (pss_cons (ps_if (pt_cmpR op_ne (pe_callB (call_reprK K hq hr) (by rfl) T.b_repr bt_repr (pa_cons (pv 6) pa_nil)) (pe_callB (call_reprK K hq hr) (by rfl) T.b_repr bt_repr (pa_cons (pv 5) pa_nil)) (nomark _)) (pss_one (ps_ret pe_bl)) pss_nil)
      (pss_cons (ps_expr (pe_bm PySem.F.plainAttrs_list PySem.F.slot_list_append PySem.F.type_list_append mt_append (pv 6) (pa_cons pe_str pa_nil)))
      (pss_one (ps_if (pt_cmpR (op_neDk K hr.units) (pe_callD D_targets_of (hr.mono (by decide)) hq pass0 (pa_cons (pv 0) (pa_cons (pv 4) pa_nil))) (pv 5) (nomark _)) (pss_one (ps_ret pe_bl)) pss_nil)))))))
      (pss_cons (ps_set (i := 6) sc_right.nd rfl (by first | exact .inl rfl | exact .inr rfl) (pe_callD D_lines_of (hr.mono (by decide)) hq pass0 (pa_cons (pv 0) pa_nil)))
      (pss_cons (ps_if (pt_cmpR op_ne (pe_callB (call_reprK K hq hr) (by rfl) T.b_repr bt_repr (pa_cons (pv 6) pa_nil)) (pe_callB (call_reprK K hq hr) (by rfl) T.b_repr bt_repr (pa_cons (pe_callB (cr_sortedPOk K) (by rfl) T.b_sorted bt_sorted (pa_cons (pv 3) pa_nil)) pa_nil)) (nomark _)) (pss_one (ps_ret pe_bl)) pss_nil)
      (pss_cons (ps_expr (pe_bm PySem.F.plainAttrs_list PySem.F.slot_list_append PySem.F.type_list_append mt_append (pv 6) (pa_cons pe_str pa_nil)))
      (pss_cons (ps_for PassesOwn.never rfl (pi_range1 (by rfl) T.b_range (pa_cons (pe_ix (ix_tupK K) (pv 0) pe_int (fun _ _ => rfl)) pa_nil)) (pg_name (i := 4) sc_right.nd rfl (by first | exact .inl rfl | exact .inr rfl)) (pss_cons (ps_setLc (i := 8) (own := [("_law_one", 9), ("_law_goal", 7)]) rfl sc_right.nd rfl rfl (sw_true rfl rfl rfl (by decide +kernel)) (pi_listK K (pv 3)) (blkOk_by (N := N_right) (sc := defScope s_right) (by decide +kernel)) (fun _ _ _ _ _ => (pg_tupK (n := 2) K rfl (pgs_cons (pg_name (i := 9) sc_right.nd rfl (by first | exact .inl rfl | exact .inr rfl)) (pgs_cons (pg_name (i := 7) sc_right.nd rfl (by first | exact .inl rfl | exact .inr rfl)) pgs_nil)))) (fun _ _ _ _ _ => (pts_one (pt_cmpR op_eq (pv 7) (pv 4) (nomark _)))) (fun _ _ _ _ _ => (pv 9)))
      (pss_cons (ps_set (i := 6) sc_right.nd rfl (by first | exact .inl rfl | exact .inr rfl) (pe_callD D_sources_of (hr.mono (by decide)) hq pass0 (pa_cons (pv 0) (pa_cons (pv 4) pa_nil))))
      (pss_cons (ps_if (pt_cmpR op_ne (pe_callB (call_reprK K hq hr) (by rfl) T.b_repr bt_repr (pa_cons (pv 6) pa_nil)) (pe_callB (call_reprK K hq hr) (by rfl) T.b_repr bt_repr (pa_cons (pv 8) pa_nil)) (nomark _)) (pss_one (ps_ret pe_bl)) pss_nil)
      (pss_cons (ps_expr (pe_bm PySem.F.plainAttrs_list PySem.F.slot_list_append PySem.F.type_list_append mt_append (pv 6) (pa_cons pe_str pa_nil)))
      (pss_one (ps_if (pt_cmpR (op_neDk K hr.units) (pe_callD D_sources_of (hr.mono (by decide)) hq pass0 (pa_cons (pv 0) (pa_cons (pv 4) pa_nil))) (pv 8) (nomark _)) (pss_one (ps_ret pe_bl)) pss_nil)))))))
      (pss_one (ps_ret (pe_and (pe_cmpR (op_eqDk K hr.units) (pe_callD D_lines_of (hr.mono (by decide)) hq pass0 (pa_cons (pv 0) pa_nil)) (pe_callB (cr_sortedPOk K) (by rfl) T.b_sorted bt_sorted (pa_cons (pv 3) pa_nil)) (nomark _)) (pe_one (pe_cmpR (op_eqDk K hr.units) (pv 0) (pv 1) (nomark _))))))))))))), ?_⟩
    refine ⟨_, rfl, v, u, rfl, hd, hu, fun c H1 e1 hc => ?_⟩
    refine ⟨_, rfl, v, u, rfl, hd.up e1, hu, fun p as H2 hp e2 hp2 hlen hrow => ?_⟩
    have hAs : SqL K H2 p (as.map V.ref) := .inl (.inl hp2)
    refine ⟨_, _, rfl, ?_⟩
    refine ⟨Nat.zero_le _, fun L hL => ?_⟩
    have e12 := e1.tr e2
    have HL : H L = none := e12.fr hL
    have e23 : Ex H2 (upd H2 L (.lst [])) := Ex.nw hL
    refine ⟨_, rfl, _, _, rfl, e23.l hAs, ?_⟩
    refine for_by (as.map V.ref).length (fun i σ H' => ∃ y4 y5 y6 y7 y8 y9, σ = [some v, some c, some (V.ref p), some (V.ref L), y4, y5, y6, y7, y8, y9] ∧ Ex H2 H' ∧
        ∃ acc, H' L = some (.lst acc) ∧ DaAll K H' ((upTo u.lines (i : Int)).map dPair) acc)
      ⟨_, _, _, _, _, _, rfl, e23, [], upd_same, ?_⟩ (fun i σ H' hi p => ?_) (fun σ H' p => ?_) ?_ ?_
    · show DaAll K _ ((upTo u.lines 0).map dPair) []
      rw [upTo_none fun l hl => (hu.line l hl).1.1]
      rfl
    · obtain ⟨_, _, _, _, _, _, _, h4, _⟩ := p
      exact ite_go hAs h4 hi
    · obtain ⟨_, _, _, _, _, _, _, h4, _⟩ := p
      exact ite_stop hAs h4
    · rintro i σ H3 x H4 hi ⟨y4, y5, y6, y7, y8, y9, rfl, e3, acc, hL3, hA3⟩ ⟨T1, y1, rfl, hT1, rfl, hy1⟩
      have g1 := hy1 _ (e3.l hAs)
      obtain ⟨b, hb, rfl⟩ := map_at g1
      have hb2 := hrow i b hb
      rw [List.length_map] at hi
      have e4 : Ex H3 (upd H3 T1 (.tup [.int (i : Nat), .ref b])) := Ex.nw hT1
      have hT4 : (upd H3 T1 (.tup [.int (i : Nat), .ref b])) T1 = some (.tup [.int (i : Nat), .ref b]) := upd_same
      generalize upd H3 T1 (.tup [.int (i : Nat), .ref b]) = H4 at e4 hT4
      refine ⟨T1, _, rfl, .inl (.inl hT4), rfl, _, _, rfl, _, _, rfl, rfl, ?_⟩
      have hL4 := e4 _ _ hL3
      have hb4 := e4 _ _ (e3 _ _ hb2)
      have hB4 : SqL K H4 b ((rowOf u.lines (i : Int)).map V.int) := .inl (.inl hb4)
      have hrl := rowOf_len u.lines (i : Int)
      refine ⟨_, rfl, .inl ⟨rfl, _, .inl (.inl hL4)⟩, ?_⟩
      refine ⟨_, rfl, b, rfl, ⟨_, hB4⟩, fun D hD => ?_⟩
      have DL : D ≠ L := fun e => by
        rw [e, hL4] at hD
        cases hD
      refine lc_by ((rowOf u.lines (i : Int)).map V.int).length (fun j H' => Ex H4 H' ∧ ∃ ac, H' D = some (.lst ac) ∧
          DaAll K H' ((((rowOf u.lines (i : Int)).take j).map fun t => ((i : Int), t)).map dPair) ac)
        ⟨Ex.nw hD, [], upd_same, rfl⟩ (fun j H' hj p => itl_go hB4 p.1 hj) (fun H' p => itl_stop hB4 p.1) ?_ ?_
      · rintro j H5 x H6 hj ⟨e5, ac, hD5, hA5⟩ y
        obtain ⟨rfl, hx⟩ := itl_yld y hB4 e5
        obtain ⟨z, hz, rfl⟩ := map_at hx
        refine ⟨rfl, ?_⟩
        refine ⟨_, rfl, _, rfl, by show 2 ≤ sizeLine; decide, fun T2 hT2 => ?_⟩
        have l5 := hA5.len
        rw [List.length_map, List.length_map, List.length_take] at l5
        have e6 : Ex H6 (upd H6 T2 (.tup [.int (i : Int), .int z])) := Ex.nw hT2
        have hD6 := e6 _ _ hD5
        refine ⟨ac, hD6, mil' (by omega), (e5.tr e6).wr hD, ac ++ [.ref T2], upd_same, ?_⟩
        rw [take_snoc hz, List.map_append]
        refine pairs_wr hD6 ?_
        rw [List.map_append]
        exact (hA5.up e6).app ⟨_, _, rfl, dPair_of (p := ((i : Int), z)) upd_same, rfl⟩
      · rintro H5 ⟨e5, ac, hD5, hA5⟩
        rw [List.length_map, List.take_length] at hA5
        have hL5 := e5 _ _ hL4
        have l5 := hA5.len
        rw [List.length_map, List.length_map] at l5
        have hA3' := hA3.up (e4.tr e5)
        have l3 := hA3'.len
        have l3' : (upTo u.lines (i : Int)).length ≤ u.lines.length := List.length_filter_le _ _
        rw [List.length_map] at l3
        have hAL : DaAll K H5 ((upTo u.lines ((i + 1 : Nat) : Int)).map dPair) (acc ++ ac) := by
          rw [show (((i + 1 : Nat) : Int)) = (i : Int) + 1 by omega, upTo_step _ hu.lines_asc, List.map_append]
          exact hA3'.app hA5
        refine ⟨L, D, acc, ac, rfl, rfl, hL5, hD5, mil (by omega), ?_⟩
        have hA6 := pairs_wr (o := .lst (acc ++ ac)) hL5 hAL
        have hL6 : (upd H5 L (.lst (acc ++ ac))) L = some (.lst (acc ++ ac)) := upd_same
        have e6 : Ex H2 (upd H5 L (.lst (acc ++ ac))) := ((e3.tr e4).tr e5).wr hL
        generalize upd H5 L (.lst (acc ++ ac)) = H6 at hA6 hL6 e6
        have hs : 0 ≤ (i : Int) ∧ (i : Int) < u.n + (u.ns.length : Int) := by omega
        refine ⟨_, rfl, _, rfl, v, u, (i : Int), rfl, hd.up (e12.tr e6), hu, hs, fun g H7 hg e7 hg7 => ?_⟩
        have hrz : (rowOf u.lines (i : Int)).length ≤ 100000 := by omega
        have hb7 := e7 _ _ (e6 _ _ hb2)
        have hgd := dInts_of hg7 hrz (K := K)
        have hbd := dInts_of hb7 hrz (K := K)
        obtain ⟨w1, w2, w3⟩ := show_ints (hu.sm_row (i : Int)) (by omega)
        refine ⟨_, rfl, _, _, rfl, hgd.dInts, w1, w2, w3, ?_⟩
        refine ⟨_, rfl, _, _, rfl, hbd.dInts, w1, w2, w3, ?_⟩
        refine ⟨rfl, _, rfl, ite2 (fun h1 => ?_) (fun _ => ?_)⟩
        · simp at h1
        refine ⟨_, rfl, .inl ⟨rfl, _, .inl (.inl hg7)⟩, ?_⟩
        refine ⟨g, _, _, rfl, rfl, hg7, mil' (by rw [List.length_map]; omega), ?_⟩
        have e8 : Ex H6 (upd H7 g (.lst ((rowOf u.lines (i : Int)).map V.int ++ [.str "?"]))) := e7.wr hg
        generalize upd H7 g (.lst ((rowOf u.lines (i : Int)).map V.int ++ [.str "?"])) = H8 at e8
        refine ⟨_, rfl, _, rfl, v, u, (i : Int), rfl, hd.up ((e12.tr e6).tr e8), hu, hs, fun g2 H9 hg9 e9 h9 => ?_⟩
        have hgd9 := dInts_of h9 hrz (K := K)
        have hbd9 := dInts_of (e9 _ _ (e8 _ _ (e6 _ _ hb2))) hrz (K := K)
        refine ⟨_, rfl, _, _, hgd9.dInts, hbd9.dInts, sh_dInts _, sh_dInts _, _, rfl, ite2 (fun h1 => ?_) (fun _ => ?_)⟩
        · rw [eqv_dInts] at h1
          simp at h1
        exact ⟨_, _, _, _, _, _, rfl, (e6.tr e8).tr e9, _, e9 _ _ (e8 _ _ hL6), hA6.up (e8.tr e9)⟩
    · rintro σ H3 ⟨y4, y5, y6, y7, y8, y9, rfl, e3, acc, hL3, hA3⟩
      have ea : upTo u.lines (((as.map V.ref).length : Nat) : Int) = u.lines := upTo_all fun l hl => by
        have := (hu.line l hl).1.2
        rw [List.length_map]
        omega
      rw [ea] at hA3
      have e13 := e12.tr e3
      obtain ⟨w1, w2, w3⟩ := show_pairs hu.sm (by omega)
      have hLp : Da K H3 (dPairs u.lines) (.ref L) := ⟨L, acc, rfl, hL3, hA3, by rw [List.length_map]; omega⟩
      refine ⟨_, rfl, v, u, rfl, hd.up e13, hu, fun g xs H4 hg e4 hg4 hG4 => ?_⟩
      have hgp : Da K H4 (dPairs u.lines) (.ref g) := ⟨g, xs, rfl, hg4, hG4, by rw [List.length_map]; omega⟩
      refine ⟨_, rfl, _, _, rfl, hgp.dPairs, w1, w2, w3, ?_⟩
      have hL4 := e4 _ _ hL3
      have hA4 := hA3.up e4
      obtain ⟨k1, k2⟩ := keys_of hA4
      refine ⟨_, rfl, L, acc, keyOf H4, rfl, .inl (.inl hL4), k1, fun ys p2 s1 s2 hp2 => ?_⟩
      obtain rfl : ys = acc := SrtO.stb_uniq (ltP_swo (keyOf H4)) s1 (srtd_of (by rw [k2]; exact hu.lines_asc)) s2
      have e5 : Ex H4 (upd H4 p2 (.lst ys)) := Ex.nw hp2
      have hp5 : (upd H4 p2 (.lst ys)) p2 = some (.lst ys) := upd_same
      generalize upd H4 p2 (.lst ys) = H5 at e5 hp5
      have hpp : Da K H5 (dPairs u.lines) (.ref p2) := ⟨p2, ys, rfl, hp5, hA4.up e5, by rw [List.length_map]; omega⟩
      refine ⟨_, _, rfl, hpp.dPairs, w1, w2, w3, ?_⟩
      refine ⟨rfl, _, rfl, ite2 (fun h1 => ?_) (fun _ => ?_)⟩
      · simp at h1
      have hg5 := e5 _ _ hg4
      have lg := hG4.len
      rw [List.length_map] at lg
      refine ⟨_, rfl, .inl ⟨rfl, _, .inl (.inl hg5)⟩, ?_⟩
      refine ⟨g, _, _, rfl, rfl, hg5, mil' (by omega), ?_⟩
      have e6 : Ex H3 (upd H5 g (.lst (xs ++ [.str "?"]))) := (e4.tr e5).wr hg
      generalize upd H5 g (.lst (xs ++ [.str "?"])) = H6 at e6
      obtain ⟨t, x2, x3, rfl, hS, _, _⟩ := Wb.at hd
      refine ⟨_, rfl, t, _, 0, _, rfl, rfl, (e13.tr e6).t hS, rfl, _, rfl, by omega, by omega, ?_⟩
      have hL6 := e6 _ _ hL3
      have hA6 := hA3.up e6
      have la := hA6.len
      rw [List.length_map] at la
      refine for_by u.n.toNat (fun i σ H' => ∃ y4 y5 y6 y7 y8 y9, σ = [some (V.ref t), some c, some (V.ref p), some (V.ref L), y4, y5, y6, y7, y8, y9] ∧ Ex H6 H')
        ⟨_, _, _, _, _, _, rfl, Ex.rfl⟩ (fun i σ H' hi p => hi) (fun σ H' p => Nat.le_refl _) ?_ ?_
      · rintro i σ H7 x H8 hi ⟨y4, y5, y6, y7, y8, y9, rfl, e7⟩ ⟨rfl, rfl⟩
        have hL7 := e7 _ _ hL6
        have hA7 := hA6.up e7
        refine ⟨_, rfl, L, rfl, ⟨_, .inl (.inl hL7)⟩, fun D hD => ?_⟩
        refine lc_ev ys.length (fun k => (u.lines.getD k (0, 0)).2 == (0 + (i : Int))) (fun k y _ => y = .int (u.lines.getD k (0, 0)).1) (by omega) hD
          (fun _ _ _ _ _ h => h) (fun k H' hk e => itl_go (.inl (.inl hL7)) e hk) (fun H' e => itl_stop (.inl (.inl hL7)) e) ?_ ?_
        · intro k Ha x Hb hk e _ y Q' N' hQ hN
          obtain ⟨rfl, hx⟩ := itl_yld y (.inl (.inl hL7)) e
          obtain ⟨p, hp, b, rfl, hS⟩ := pairs_at hA7 hx
          have eg : u.lines.getD k (0, 0) = p := by rw [List.getD_eq_getElem?_getD, hp]; rfl
          refine ⟨b, _, rfl, e.t hS, rfl, _, _, rfl, _, _, rfl, rfl, rfl, ?_⟩
          refine ⟨_, rfl, _, rfl, rfl, _, rfl, ?_⟩
          refine ite2 (fun h1 => ?_) (fun h1 => ?_)
          · refine ⟨_, rfl, hQ ?_ _ _ Ex.rfl ?_⟩
            · rw [eg]
              simpa using h1
            · rw [eg]
          · refine hN ?_ _ Ex.rfl
            rw [eg]
            simpa using h1
        · intro zs Ha ea hy gv
          have ezs := gv.eq
          rw [← la, srcs_range] at ezs
          subst ezs
          have hzl := srcs_len u.lines (0 + (i : Int))
          have hss := hu.sm_srcs (0 + (i : Int))
          obtain ⟨v1, v2, v3⟩ := show_ints hss (by omega)
          have e17 := (e13.tr e6).tr (e7.tr ea)
          have hs : 0 ≤ (0 + (i : Int)) ∧ (0 + (i : Int)) < u.n := by omega
          refine ⟨_, rfl, _, rfl, .ref t, u, (0 + (i : Int)), rfl, hd.up e17, hu, hs, fun g H9 hg e9 h9 => ?_⟩
          have hDd := dInts_of (e9 _ _ hy) (by omega) (K := K)
          have hgd := dInts_of h9 (by omega) (K := K)
          refine ⟨_, rfl, _, _, rfl, hgd.dInts, v1, v2, v3, ?_⟩
          refine ⟨_, rfl, _, _, rfl, hDd.dInts, v1, v2, v3, ?_⟩
          refine ⟨rfl, _, rfl, ite2 (fun h1 => ?_) (fun _ => ?_)⟩
          · simp at h1
          refine ⟨_, rfl, .inl ⟨rfl, _, .inl (.inl h9)⟩, ?_⟩
          refine ⟨g, _, _, rfl, rfl, h9, mil' (by rw [List.length_map]; omega), ?_⟩
          have e10 : Ex Ha (upd H9 g (.lst ((srcsOf u.lines (0 + (i : Int))).map V.int ++ [.str "?"]))) := e9.wr hg
          generalize upd H9 g (.lst ((srcsOf u.lines (0 + (i : Int))).map V.int ++ [.str "?"])) = H10 at e10
          refine ⟨_, rfl, _, rfl, .ref t, u, (0 + (i : Int)), rfl, hd.up (e17.tr e10), hu, hs, fun g2 H11 hg2 e11 h11 => ?_⟩
          have hDd2 := dInts_of (e11 _ _ (e10 _ _ hy)) (by omega) (K := K)
          have hgd2 := dInts_of h11 (by omega) (K := K)
          refine ⟨_, rfl, _, _, hgd2.dInts, hDd2.dInts, sh_dInts _, sh_dInts _, _, rfl, ite2 (fun h1 => ?_) (fun _ => ?_)⟩
          · rw [eqv_dInts] at h1
            simp at h1
          exact ⟨_, _, _, _, _, _, rfl, ((e7.tr ea).tr e10).tr e11⟩
      · rintro σ H7 ⟨y4, y5, y6, y7, y8, y9, rfl, e7⟩
        have e17 := (e13.tr e6).tr e7
        refine ⟨_, rfl, .ref t, u, rfl, hd.up e17, hu, fun g2 xs2 H8 hg2 e8 hg8 hG8 => ?_⟩
        have hL8 := e8 _ _ (e7 _ _ hL6)
        have hA8 := hA6.up (e7.tr e8)
        obtain ⟨k3, k4⟩ := keys_of hA8
        refine ⟨_, rfl, L, ys, keyOf H8, rfl, .inl (.inl hL8), k3, fun zs p3 s3 s4 hp3 => ?_⟩
        obtain rfl : zs = ys := SrtO.stb_uniq (ltP_swo (keyOf H8)) s3 (srtd_of (by rw [k4]; exact hu.lines_asc)) s4
        have e9 : Ex H8 (upd H8 p3 (.lst zs)) := Ex.nw hp3
        have hp9 : (upd H8 p3 (.lst zs)) p3 = some (.lst zs) := upd_same
        generalize upd H8 p3 (.lst zs) = H9 at e9 hp9
        have h1d : Da K H9 (dPairs u.lines) (.ref p3) := ⟨p3, zs, rfl, hp9, hA8.up e9, by rw [List.length_map]; omega⟩
        have h2d : Da K H9 (dPairs u.lines) (.ref g2) := ⟨g2, xs2, rfl, e9 _ _ hg8, hG8.up e9, by rw [List.length_map]; omega⟩
        refine ⟨_, _, h2d.dPairs, h1d.dPairs, sh_dPairs _, sh_dPairs _, _, rfl, ?_⟩
        rw [eqv_dPairs, decide_eq_true rfl]
        have e19 := e17.tr (e8.tr e9)
        have hw := hd.up e19
        have hc9 := hc.up (e2.tr (e3.tr (e6.tr (e7.tr (e8.tr e9)))))
        refine ⟨_, rfl, _, rfl, _, _, hw.web, hc9.web, sh_web _, sh_web _, ?_⟩
        rw [eqv_web, decide_eq_true rfl]
        exact q _ e19
end

end K42
namespace K42
open PySem PySem.Spec PyProof.Rows L2 Nw
/-! law: slots 0 _law_script, 1 _law_k, 2 _law_purse_here, 3 _law_size, 4 _law_some, 5 _law_told -/
abbrev s_law : Stmt := topS 36
abbrev N_law : List Str := ["_law_script", "_law_k", "_law_purse_here", "_law_size", "_law_some", "_law_told"]
abbrev P_law : List Str := ["_law_script"]
theorem sc_law : FnScope N_law P_law (defScope s_law) := ⟨rfl, rfl, rfl, by decide +kernel, rfl, by decide +kernel, by decide +kernel⟩
def sp_law (K : PySem.W.Frag) : Sp := fun vs H Q _ => ∃ (a : Addr) (ns : List Int), vs = [.ref a] ∧ ns.length ≤ 63 ∧ SqL K H a (ns.map V.int) ∧ ∀ H', Ex H H' → Q (.bl true) H'
theorem sp_law_start {K : PySem.W.Frag} {H : Hp} {a : Addr} {ns : List Int} (hl : ns.length ≤ 63) (hS : SqL K H a (ns.map V.int)) : sp_law K [.ref a] H (fun v _ => v = .bl true) (fun _ _ _ => False) :=
  ⟨a, ns, rfl, hl, hS, fun _ _ => rfl⟩
section
variable {P : Program} {w : World} {K : PySem.W.Frag} {mg : Str → Option Value} {base : Heap}
theorem ok_law {f : Addr} {fd : FuncData} (T : Txt K mg) (F : Fun K "law" "law" s_law f fd)
    (D_targets_of : DefOk P w K mg base CX0 8 "targets_of" P_targets_of (sp_targets_of K))
    (D_sources_of : DefOk P w K mg base CX0 8 "sources_of" P_sources_of (sp_sources_of K))
    (D_lines_of : DefOk P w K mg base CX0 8 "lines_of" P_lines_of (sp_lines_of K))
    (D_purse : DefOk P w K mg base CX0 1 "_law_purse" P_purse (sp_purse K))
    (D_web : DefOk P w K mg base CX0 3 "_law_web" P_web (sp_web K))
    (D_right : DefOk P w K mg base CX0 9 "_law_right" P_right (sp_right K)) :
    FnG P w K mg base CX0 10 f fd P_law (sp_law K) := by
  refine okG0 F sc_law (fun vs H Q E h => ?_) (fun cdv A outer s H vs Q E hr hq h => ?_)
  · obtain ⟨a, ns, rfl, _⟩ := h
    rfl
  · obtain ⟨a, ns, rfl, hn, hS, q⟩ := h
    refine ⟨_, (pss_cons (ps_for PassesOwn.never rfl (pi_range1 (by rfl) T.b_range (pa_cons (pe_callB (call_max2 rfl) (by rfl) T.b_max bt_max (pa_cons pe_int (pa_cons (pe_callB (call_min2 rfl) (by rfl) T.b_min bt_min (pa_cons pe_int (pa_cons (pe_callB (call_lenK K) (by rfl) T.b_len bt_len (pa_cons (pv 0) pa_nil)) pa_nil))) pa_nil))) pa_nil)) (pg_name (i := 1) sc_law.nd rfl (by first | exact .inl rfl | exact .inr rfl)) (pss_cons (ps_set (i := 2) sc_law.nd rfl (by first | exact .inl rfl | exact .inr rfl) (pe_callD D_purse (hr.mono (by decide)) hq pass0 (pa_cons (pv 0) (pa_cons (pv 1) pa_nil))))
      (pss_one (ps_for PassesOwn.never rfl (pi_listK K (pe_lst (pa_cons pe_int (pa_cons pe_int (pa_cons pe_int pa_nil))))) (pg_name (i := 3) sc_law.nd rfl (by first | exact .inl rfl | exact .inr rfl)) (pss_one (ps_if (pt_not (pt_val (pe_callD D_right (hr.mono (by decide)) hq pass0 (pa_cons (pe_callD D_web (hr.mono (by decide)) hq pass0 (pa_cons (pv 2) (pa_cons (pv 3) (pa_cons pe_int pa_nil)))) pa_nil)))) (pss_one (ps_ret pe_bl)) pss_nil))))))
      (pss_cons (ps_set (i := 4) sc_law.nd rfl (by first | exact .inl rfl | exact .inr rfl) (pe_tup (pa_cons pe_int (pa_cons (pe_lst (pa_cons (pe_tup (pa_cons pe_int (pa_cons pe_int pa_nil))) (pa_cons (pe_tup (pa_cons pe_int (pa_cons pe_int pa_nil))) (pa_cons (pe_tup (pa_cons pe_int (pa_cons pe_int pa_nil))) pa_nil)))) (pa_cons (pe_lst (pa_cons (pe_lst (pa_cons pe_int (pa_cons pe_int pa_nil))) (pa_cons (pe_lst (pa_cons pe_int pa_nil)) pa_nil))) pa_nil)))))
      (pss_cons (ps_set (i := 5) sc_law.nd rfl (by first | exact .inl rfl | exact .inr rfl) (pe_lst (pa_cons (pe_callD D_targets_of (hr.mono (by decide)) hq pass0 (pa_cons (pv 4) (pa_cons pe_int pa_nil))) (pa_cons (pe_callD D_targets_of (hr.mono (by decide)) hq pass0 (pa_cons (pv 4) (pa_cons pe_int pa_nil))) (pa_cons (pe_callD D_sources_of (hr.mono (by decide)) hq pass0 (pa_cons (pv 4) (pa_cons pe_int pa_nil))) (pa_cons (pe_slice (sl_listK K) (pe_callD D_lines_of (hr.mono (by decide)) hq pass0 (pa_cons (pv 4) pa_nil)) (po_some (pe_un un_neg pe_int)) po_none) pa_nil))))))
      (pss_one (ps_ret (pe_cmpR (op_eqDk K hr.units) (pv 5) (pe_lst (pa_cons (pe_lst (pa_cons pe_int (pa_cons pe_int pa_nil))) (pa_cons (pe_lst (pa_cons pe_int (pa_cons pe_int pa_nil))) (pa_cons (pe_lst (pa_cons pe_int (pa_cons pe_int (pa_cons pe_int pa_nil)))) (pa_cons (pe_lst (pa_cons (pe_tup (pa_cons pe_int (pa_cons pe_int pa_nil))) (pa_cons (pe_tup (pa_cons pe_int (pa_cons pe_int pa_nil))) (pa_cons (pe_tup (pa_cons pe_int (pa_cons pe_int pa_nil))) pa_nil)))) pa_nil))))) (nomark _))))))), ?_⟩
    refine ⟨_, rfl, a, _, rfl, .inl hS, ?_⟩
    have hmm : ∃ m : Int, m = (if (if ((ns.map V.int).length : Int) < 6 then ((ns.map V.int).length : Int) else 6) > 1 then (if ((ns.map V.int).length : Int) < 6 then ((ns.map V.int).length : Int) else 6) else 1) ∧ 0 ≤ m ∧ m ≤ 6 := by
      refine ⟨_, rfl, ?_, ?_⟩
      · split <;> split <;> omega
      · split <;> split <;> omega
    obtain ⟨m, em, m0, m6⟩ := hmm
    refine ⟨_, _, rfl, _, _, rfl, m, by rw [em], by omega, by omega, ?_⟩
    refine for_by m.toNat (fun i σ H' => ∃ y1 y2 y3 y4 y5, σ = [some (V.ref a), y1, y2, y3, y4, y5] ∧ Ex H H')
      ⟨_, _, _, _, _, rfl, Ex.rfl⟩ (fun i σ H' hi p => hi) (fun σ H' p => Nat.le_refl _) ?_ ?_
    · rintro i σ H1 x H2 hi ⟨y1, y2, y3, y4, y5, rfl, e1⟩ ⟨rfl, rfl⟩
      refine ⟨_, rfl, _, rfl, a, ns, (0 + (i : Int)), rfl, e1.l hS, by omega, fun p H3 hp e3 p3 => ?_⟩
      refine ⟨by show 3 ≤ sizeLine; decide, fun D hD => ?_⟩
      have Dp := p3.off hD
      have hD3 : (upd H3 D (.lst [.int 3, .int 8, .int 20])) D = some (.lst [.int 3, .int 8, .int 20]) := upd_same
      have p30 := p3.up (Ex.nw hD (o := .lst [.int 3, .int 8, .int 20]))
      have e30 := e3.tr (Ex.nw hD (o := .lst [.int 3, .int 8, .int 20]))
      have hpD : D ≠ p := Dp
      generalize upd H3 D (.lst [.int 3, .int 8, .int 20]) = H4 at hD3 p30 e30
      have hSD : SqL K H4 D [.int 3, .int 8, .int 20] := .inl (.inl hD3)
      refine ⟨D, rfl, ⟨_, hSD⟩, ?_⟩
      refine for_by 3 (fun j σ H' => ∃ y3 y4 y5, σ = [some (V.ref a), some (V.int (0 + (i : Int))), some (V.ref p), y3, y4, y5] ∧ ExD p H4 H' ∧ Purse H' p (700 * j))
        ⟨_, _, _, rfl, fun _ _ _ h => h, p30⟩ (fun j σ H' hj p => ?_) (fun σ H' p => ?_) ?_ ?_
      · obtain ⟨_, _, _, _, h4, _⟩ := p
        exact itl_go (h4.l hpD hSD) Ex.rfl hj
      · obtain ⟨_, _, _, _, h4, _⟩ := p
        exact itl_stop (h4.l hpD hSD) Ex.rfl
      · rintro j σ H5 x H6 hj ⟨y3, y4, y5, rfl, e5, p5⟩ ⟨rfl, hx⟩
        have hx := hx _ (e5.l hpD hSD)
        obtain ⟨z, rfl, hz⟩ : ∃ z : Int, x = .int z ∧ (1 ≤ z ∧ z ≤ 20) := by
          match j, hj, hx with
          | 0, _, hx => exact ⟨3, (Option.some.inj hx).symm, by decide⟩
          | 1, _, hx => exact ⟨8, (Option.some.inj hx).symm, by decide⟩
          | 2, _, hx => exact ⟨20, (Option.some.inj hx).symm, by decide⟩
        refine ⟨_, rfl, _, rfl, p, z, 8, 700 * j, rfl, hz, by decide, p5, by omega, fun v u H7 e7 p7 hd hu _ _ => ?_⟩
        refine ⟨v, u, rfl, hd.up rm_ex, hu, fun H8 e8 => ?_⟩
        refine ⟨true, rfl, ite2 (fun h1 => ?_) (fun _ => ?_)⟩
        · cases h1
        · exact ⟨_, _, _, rfl, (e5.tr e7).tr e8.d, p7.up e8⟩
      · rintro σ H5 ⟨y3, y4, y5, rfl, e5, p5⟩
        exact ⟨_, _, _, _, _, rfl, e1.tr (fun b o g => e5 b o (fun n => by rw [n, hp] at g; cases g) (e30 b o g))⟩
    · rintro σ H1 ⟨y1, y2, y3, y4, y5, rfl, e1⟩
      refine ⟨by show 2 ≤ sizeLine; decide, fun t1 ht1 => ?_⟩
      have Et1 : Ex H1 (upd H1 t1 (.tup [.int 0, .int 1])) := Ex.nw ht1
      have Ft1 : (upd H1 t1 (.tup [.int 0, .int 1])) t1 = some (.tup [.int 0, .int 1]) := upd_same
      generalize upd H1 t1 (.tup [.int 0, .int 1]) = G1 at Et1 Ft1
      refine ⟨by show 2 ≤ sizeLine; decide, fun t2 ht2 => ?_⟩
      have Et2 : Ex G1 (upd G1 t2 (.tup [.int 2, .int 0])) := Ex.nw ht2
      have Ft2 : (upd G1 t2 (.tup [.int 2, .int 0])) t2 = some (.tup [.int 2, .int 0]) := upd_same
      generalize upd G1 t2 (.tup [.int 2, .int 0]) = G2 at Et2 Ft2
      refine ⟨by show 2 ≤ sizeLine; decide, fun t3 ht3 => ?_⟩
      have Et3 : Ex G2 (upd G2 t3 (.tup [.int 2, .int 2])) := Ex.nw ht3
      have Ft3 : (upd G2 t3 (.tup [.int 2, .int 2])) t3 = some (.tup [.int 2, .int 2]) := upd_same
      generalize upd G2 t3 (.tup [.int 2, .int 2]) = G3 at Et3 Ft3
      refine ⟨by show 3 ≤ sizeLine; decide, fun tl htl => ?_⟩
      have Etl : Ex G3 (upd G3 tl (.lst [.ref t1, .ref t2, .ref t3])) := Ex.nw htl
      have Ftl : (upd G3 tl (.lst [.ref t1, .ref t2, .ref t3])) tl = some (.lst [.ref t1, .ref t2, .ref t3]) := upd_same
      generalize upd G3 tl (.lst [.ref t1, .ref t2, .ref t3]) = G4 at Etl Ftl
      refine ⟨by show 2 ≤ sizeLine; decide, fun l1 hl1 => ?_⟩
      have El1 : Ex G4 (upd G4 l1 (.lst [.int 0, .int 2])) := Ex.nw hl1
      have Fl1 : (upd G4 l1 (.lst [.int 0, .int 2])) l1 = some (.lst [.int 0, .int 2]) := upd_same
      generalize upd G4 l1 (.lst [.int 0, .int 2]) = G5 at El1 Fl1
      refine ⟨by show 1 ≤ sizeLine; decide, fun l2 hl2 => ?_⟩
      have El2 : Ex G5 (upd G5 l2 (.lst [.int 2])) := Ex.nw hl2
      have Fl2 : (upd G5 l2 (.lst [.int 2])) l2 = some (.lst [.int 2]) := upd_same
      generalize upd G5 l2 (.lst [.int 2]) = G6 at El2 Fl2
      refine ⟨by show 2 ≤ sizeLine; decide, fun ln hln => ?_⟩
      have Eln : Ex G6 (upd G6 ln (.lst [.ref l1, .ref l2])) := Ex.nw hln
      have Fln : (upd G6 ln (.lst [.ref l1, .ref l2])) ln = some (.lst [.ref l1, .ref l2]) := upd_same
      generalize upd G6 ln (.lst [.ref l1, .ref l2]) = G7 at Eln Fln
      refine ⟨by show 3 ≤ sizeLine; decide, fun tw htw => ?_⟩
      have Etw : Ex G7 (upd G7 tw (.tup [.int 3, .ref tl, .ref ln])) := Ex.nw htw
      have Ftw : (upd G7 tw (.tup [.int 3, .ref tl, .ref ln])) tw = some (.tup [.int 3, .ref tl, .ref ln]) := upd_same
      generalize upd G7 tw (.tup [.int 3, .ref tl, .ref ln]) = G8 at Etw Ftw
      have hd : Da K G8 (Wb.d ⟨3, [(0, 1), (2, 0), (2, 2)], [[0, 2], [2]]⟩) (.ref tw) := by
        have E78 := Etw
        have E68 := Eln.tr Etw
        have E58 := El2.tr E68
        have E48 := El1.tr E58
        have E38 := Etl.tr E48
        have E28 := Et3.tr E38
        have E18 := Et2.tr E28
        refine ⟨tw, _, rfl, Ftw, _, _, rfl, rfl, _, _, rfl, ⟨tl, _, rfl, E48 _ _ Ftl, ?_, by decide⟩, _, _, rfl, ⟨ln, _, rfl, E78 _ _ Fln, ?_, by decide⟩, rfl⟩
        · exact ⟨_, _, rfl, dPair_of (p := (0, 1)) (E18 _ _ Ft1), _, _, rfl, dPair_of (p := (2, 0)) (E28 _ _ Ft2), _, _, rfl, dPair_of (p := (2, 2)) (E38 _ _ Ft3), rfl⟩
        · exact ⟨_, _, rfl, dInts_of (r := [0, 2]) (E58 _ _ Fl1) (by decide), _, _, rfl, dInts_of (r := [2]) (E68 _ _ Fl2) (by decide), rfl⟩
      have hu : (Wb.mk 3 [(0, 1), (2, 0), (2, 2)] [[0, 2], [2]]).Ok := ⟨by decide, by decide, by decide, by decide, by decide, by decide⟩
      have e8 : Ex H G8 := (((((((e1.tr Et1).tr Et2).tr Et3).tr Etl).tr El1).tr El2).tr Eln).tr Etw
      refine ⟨_, rfl, _, _, 2, rfl, hd, hu, by decide, fun r1 G9 n9 e9 f9 => ?_⟩
      refine ⟨_, rfl, _, _, 3, rfl, hd.up e9, hu, by decide, fun r2 G10 n10 e10 f10 => ?_⟩
      refine ⟨_, rfl, _, _, 2, rfl, hd.up (e9.tr e10), hu, by decide, fun r3 G11 n11 e11 f11 => ?_⟩
      refine ⟨_, rfl, _, _, rfl, hd.up ((e9.tr e10).tr e11), hu, fun r4 xs G12 n12 e12 f12 hA => ?_⟩
      have el : (Wb.mk 3 [(0, 1), (2, 0), (2, 2)] [[0, 2], [2]]).lines = [(0, 1), (2, 0), (2, 2), (3, 0), (3, 2), (4, 2)] := by decide
      rw [el] at hA
      obtain ⟨x1, _, rfl, d1, x2, _, rfl, d2, x3, _, rfl, d3, x4, _, rfl, d4, x5, _, rfl, d5, x6, _, rfl, d6, rfl⟩ := hA
      have hcut : cutV [x1, x2, x3, x4, x5, x6] (some (-3)) none = [x4, x5, x6] := rfl
      refine ⟨_, rfl, _, rfl, _, _, rfl, .inl (.inl f12), fun r5 n13 => ?_⟩
      rw [hcut]
      have Er5 : Ex G12 (upd G12 r5 (.lst [x4, x5, x6])) := Ex.nw n13
      have Fr5 : (upd G12 r5 (.lst [x4, x5, x6])) r5 = some (.lst [x4, x5, x6]) := upd_same
      generalize upd G12 r5 (.lst [x4, x5, x6]) = G13 at Er5 Fr5
      refine ⟨by show 4 ≤ sizeLine; decide, fun tt htt => ?_⟩
      have Ett : Ex G13 (upd G13 tt (.lst [.ref r1, .ref r2, .ref r3, .ref r5])) := Ex.nw htt
      have Ftt : (upd G13 tt (.lst [.ref r1, .ref r2, .ref r3, .ref r5])) tt = some (.lst [.ref r1, .ref r2, .ref r3, .ref r5]) := upd_same
      generalize upd G13 tt (.lst [.ref r1, .ref r2, .ref r3, .ref r5]) = G14 at Ett Ftt
      refine ⟨_, rfl, by show 2 ≤ sizeLine; decide, fun m1 hm1 => ?_⟩
      have Em1 : Ex G14 (upd G14 m1 (.lst [.int 0, .int 2])) := Ex.nw hm1
      have Fm1 : (upd G14 m1 (.lst [.int 0, .int 2])) m1 = some (.lst [.int 0, .int 2]) := upd_same
      generalize upd G14 m1 (.lst [.int 0, .int 2]) = G15 at Em1 Fm1
      refine ⟨by show 2 ≤ sizeLine; decide, fun m2 hm2 => ?_⟩
      have Em2 : Ex G15 (upd G15 m2 (.lst [.int 0, .int 2])) := Ex.nw hm2
      have Fm2 : (upd G15 m2 (.lst [.int 0, .int 2])) m2 = some (.lst [.int 0, .int 2]) := upd_same
      generalize upd G15 m2 (.lst [.int 0, .int 2]) = G16 at Em2 Fm2
      refine ⟨by show 3 ≤ sizeLine; decide, fun m3 hm3 => ?_⟩
      have Em3 : Ex G16 (upd G16 m3 (.lst [.int 2, .int 3, .int 4])) := Ex.nw hm3
      have Fm3 : (upd G16 m3 (.lst [.int 2, .int 3, .int 4])) m3 = some (.lst [.int 2, .int 3, .int 4]) := upd_same
      generalize upd G16 m3 (.lst [.int 2, .int 3, .int 4]) = G17 at Em3 Fm3
      refine ⟨by show 2 ≤ sizeLine; decide, fun p1 hp1 => ?_⟩
      have Ep1 : Ex G17 (upd G17 p1 (.tup [.int 3, .int 0])) := Ex.nw hp1
      have Fp1 : (upd G17 p1 (.tup [.int 3, .int 0])) p1 = some (.tup [.int 3, .int 0]) := upd_same
      generalize upd G17 p1 (.tup [.int 3, .int 0]) = G18 at Ep1 Fp1
      refine ⟨by show 2 ≤ sizeLine; decide, fun p2 hp2 => ?_⟩
      have Ep2 : Ex G18 (upd G18 p2 (.tup [.int 3, .int 2])) := Ex.nw hp2
      have Fp2 : (upd G18 p2 (.tup [.int 3, .int 2])) p2 = some (.tup [.int 3, .int 2]) := upd_same
      generalize upd G18 p2 (.tup [.int 3, .int 2]) = G19 at Ep2 Fp2
      refine ⟨by show 2 ≤ sizeLine; decide, fun p3 hp3 => ?_⟩
      have Ep3 : Ex G19 (upd G19 p3 (.tup [.int 4, .int 2])) := Ex.nw hp3
      have Fp3 : (upd G19 p3 (.tup [.int 4, .int 2])) p3 = some (.tup [.int 4, .int 2]) := upd_same
      generalize upd G19 p3 (.tup [.int 4, .int 2]) = G20 at Ep3 Fp3
      refine ⟨by show 3 ≤ sizeLine; decide, fun m4 hm4 => ?_⟩
      have Em4 : Ex G20 (upd G20 m4 (.lst [.ref p1, .ref p2, .ref p3])) := Ex.nw hm4
      have Fm4 : (upd G20 m4 (.lst [.ref p1, .ref p2, .ref p3])) m4 = some (.lst [.ref p1, .ref p2, .ref p3]) := upd_same
      generalize upd G20 m4 (.lst [.ref p1, .ref p2, .ref p3]) = G21 at Em4 Fm4
      refine ⟨by show 4 ≤ sizeLine; decide, fun mm hmm => ?_⟩
      have Emm : Ex G21 (upd G21 mm (.lst [.ref m1, .ref m2, .ref m3, .ref m4])) := Ex.nw hmm
      have Fmm : (upd G21 mm (.lst [.ref m1, .ref m2, .ref m3, .ref m4])) mm = some (.lst [.ref m1, .ref m2, .ref m3, .ref m4]) := upd_same
      generalize upd G21 mm (.lst [.ref m1, .ref m2, .ref m3, .ref m4]) = G22 at Emm Fmm
      have X1 := Emm
      have X2 := Em4.tr X1
      have X3 := Ep3.tr X2
      have X4 := Ep2.tr X3
      have X5 := Ep1.tr X4
      have X6 := Em3.tr X5
      have X7 := Em2.tr X6
      have X8 := Em1.tr X7
      have X9 := Ett.tr X8
      have X10 := Er5.tr X9
      have X11 := e12.tr X10
      have X12 := e11.tr X11
      have X13 := e10.tr X12
      have dl : Da K G22 (.list [dInts [0, 2], dInts [0, 2], dInts [2, 3, 4], dPairs [(3, 0), (3, 2), (4, 2)]]) (.ref tt) := by
        refine ⟨tt, _, rfl, X8 _ _ Ftt, ?_, by decide⟩
        refine ⟨_, _, rfl, dInts_of (r := [0, 2]) (X13 _ _ f9) (by decide), _, _, rfl, dInts_of (r := [0, 2]) (X12 _ _ f10) (by decide), _, _, rfl, dInts_of (r := [2, 3, 4]) (X11 _ _ f11) (by decide), _, _, rfl, ?_, rfl⟩
        refine ⟨r5, _, rfl, X9 _ _ Fr5, ?_, by decide⟩
        exact ⟨_, _, rfl, d4.up X10, _, _, rfl, d5.up X10, _, _, rfl, d6.up X10, rfl⟩
      have dr : Da K G22 (.list [dInts [0, 2], dInts [0, 2], dInts [2, 3, 4], dPairs [(3, 0), (3, 2), (4, 2)]]) (.ref mm) := by
        refine ⟨mm, _, rfl, Fmm, ?_, by decide⟩
        refine ⟨_, _, rfl, dInts_of (r := [0, 2]) (X7 _ _ Fm1) (by decide), _, _, rfl, dInts_of (r := [0, 2]) (X6 _ _ Fm2) (by decide), _, _, rfl, dInts_of (r := [2, 3, 4]) (X5 _ _ Fm3) (by decide), _, _, rfl, ?_, rfl⟩
        refine ⟨m4, _, rfl, X1 _ _ Fm4, ?_, by decide⟩
        exact ⟨_, _, rfl, dPair_of (p := (3, 0)) (X4 _ _ Fp1), _, _, rfl, dPair_of (p := (3, 2)) (X3 _ _ Fp2), _, _, rfl, dPair_of (p := (4, 2)) (X2 _ _ Fp3), rfl⟩
      have hsh : SeqAt.shaped (.list [dInts [0, 2], dInts [0, 2], dInts [2, 3, 4], dPairs [(3, 0), (3, 2), (4, 2)]]) = true := by decide
      have hnd : (PyData.list [dInts [0, 2], dInts [0, 2], dInts [2, 3, 4], dPairs [(3, 0), (3, 2), (4, 2)]]).hasDict = false := by decide
      have heq : PyData.eqv (.list [dInts [0, 2], dInts [0, 2], dInts [2, 3, 4], dPairs [(3, 0), (3, 2), (4, 2)]]) (.list [dInts [0, 2], dInts [0, 2], dInts [2, 3, 4], dPairs [(3, 0), (3, 2), (4, 2)]]) = true := by
        simp only [PyData.eqv, PyData.eqvAll, eqv_dInts, eqv_dPairs, decide_true, Bool.and_true]
      refine ⟨_, _, dl.dp _ _ hnd, dr.dp _ _ hnd, hsh, hsh, ?_⟩
      rw [heq]
      exact q _ (e8.tr (e9.tr X13))
end

theorem all_mk {l : PySem.W.OpenLaw} {w : World} {K : PySem.W.Frag} {h : Heap} {mg : Str → Option Value} {fa : Addr} (X : K.In h) (G : h.Ns mainGlobals mg) (hfa : mg "law" = some (.ref fa))
    {f0 f1 f2 f3 f4 f5 f6 f7 f8 f9 f10 f11 f12 f13 f14 f15 f16 f17 f18 f19 f20 f21 f22 f23 f24 f25 : Addr} {od0 an0 od1 an1 od2 an2 od3 an3 od4 an4 od5 an5 od6 an6 od7 an7 od8 an8 od9 an9 od10 an10 od11 an11 od12 an12 od13 an13 od14 an14 od15 an15 od16 an16 od17 an17 od18 an18 od19 an19 od20 an20 od21 an21 od22 an22 od23 an23 od24 an24 od25 an25 : Option Addr} {sl0 sl1 sl2 sl3 sl4 sl5 sl6 sl7 sl8 sl9 sl10 sl11 sl12 sl13 sl14 sl15 sl16 sl17 sl18 sl19 sl20 sl21 sl22 sl23 sl24 sl25 : Array (Option Value)}
    {oc0 kV0 dc0 pm0 cd0 ct0 oc1 kV1 dc1 pm1 cd1 ct1 oc2 kV2 dc2 pm2 cd2 ct2 oc3 kV3 dc3 pm3 cd3 ct3 oc4 kV4 dc4 pm4 cd4 ct4 oc5 kV5 dc5 pm5 cd5 ct5 oc6 kV6 dc6 pm6 cd6 ct6 oc7 kV7 dc7 pm7 cd7 ct7 oc8 kV8 dc8 pm8 cd8 ct8 oc9 kV9 dc9 pm9 cd9 ct9 oc10 kV10 dc10 pm10 cd10 ct10 oc11 kV11 dc11 pm11 cd11 ct11 oc12 kV12 dc12 pm12 cd12 ct12 oc13 kV13 dc13 pm13 cd13 ct13 oc14 kV14 dc14 pm14 cd14 ct14 oc15 kV15 dc15 pm15 cd15 ct15 oc16 kV16 dc16 pm16 cd16 ct16 oc17 kV17 dc17 pm17 cd17 ct17 oc18 kV18 dc18 pm18 cd18 ct18 oc19 kV19 dc19 pm19 cd19 ct19 oc20 kV20 dc20 pm20 cd20 ct20 oc21 kV21 dc21 pm21 cd21 ct21 oc22 kV22 dc22 pm22 cd22 ct22 oc23 kV23 dc23 pm23 cd23 ct23 oc24 kV24 dc24 pm24 cd24 ct24 oc25 kV25 dc25 pm25 cd25 ct25 : Value}
    (a0 : PySem.W.nsIn K mainGlobals "is_integer" = some (some (.ref f0))) (l0 : K.lookup f0 = some ⟨oc0, od0, .func (PySem.W.fnOf "is_integer" "is_integer" (defArgs s_is_integer) (defBody s_is_integer) (defScope s_is_integer) .none kV0 dc0 pm0 an0 cd0 ct0), sl0⟩) (c0 : PySem.W.codeIn K cd0 "is_integer" = true) (k0 : PySem.W.keepIn K (.ref f0) = true)
    (a1 : PySem.W.nsIn K mainGlobals "is_number_below" = some (some (.ref f1))) (l1 : K.lookup f1 = some ⟨oc1, od1, .func (PySem.W.fnOf "is_number_below" "is_number_below" (defArgs s_is_number_below) (defBody s_is_number_below) (defScope s_is_number_below) .none kV1 dc1 pm1 an1 cd1 ct1), sl1⟩) (c1 : PySem.W.codeIn K cd1 "is_number_below" = true) (k1 : PySem.W.keepIn K (.ref f1) = true)
    (a2 : PySem.W.nsIn K mainGlobals "is_tuple_below" = some (some (.ref f2))) (l2 : K.lookup f2 = some ⟨oc2, od2, .func (PySem.W.fnOf "is_tuple_below" "is_tuple_below" (defArgs s_is_tuple_below) (defBody s_is_tuple_below) (defScope s_is_tuple_below) .none kV2 dc2 pm2 an2 cd2 ct2), sl2⟩) (c2 : PySem.W.codeIn K cd2 "is_tuple_below" = true) (k2 : PySem.W.keepIn K (.ref f2) = true)
    (a3 : PySem.W.nsIn K mainGlobals "are_ascending" = some (some (.ref f3))) (l3 : K.lookup f3 = some ⟨oc3, od3, .func (PySem.W.fnOf "are_ascending" "are_ascending" (defArgs s_are_ascending) (defBody s_are_ascending) (defScope s_are_ascending) .none kV3 dc3 pm3 an3 cd3 ct3), sl3⟩) (c3 : PySem.W.codeIn K cd3 "are_ascending" = true) (k3 : PySem.W.keepIn K (.ref f3) = true)
    (a4 : PySem.W.nsIn K mainGlobals "are_ascending_tuples" = some (some (.ref f4))) (l4 : K.lookup f4 = some ⟨oc4, od4, .func (PySem.W.fnOf "are_ascending_tuples" "are_ascending_tuples" (defArgs s_are_ascending_tuples) (defBody s_are_ascending_tuples) (defScope s_are_ascending_tuples) .none kV4 dc4 pm4 an4 cd4 ct4), sl4⟩) (c4 : PySem.W.codeIn K cd4 "are_ascending_tuples" = true) (k4 : PySem.W.keepIn K (.ref f4) = true)
    (a5 : PySem.W.nsIn K mainGlobals "are_below" = some (some (.ref f5))) (l5 : K.lookup f5 = some ⟨oc5, od5, .func (PySem.W.fnOf "are_below" "are_below" (defArgs s_are_below) (defBody s_are_below) (defScope s_are_below) .none kV5 dc5 pm5 an5 cd5 ct5), sl5⟩) (c5 : PySem.W.codeIn K cd5 "are_below" = true) (k5 : PySem.W.keepIn K (.ref f5) = true)
    (a6 : PySem.W.nsIn K mainGlobals "are_targets" = some (some (.ref f6))) (l6 : K.lookup f6 = some ⟨oc6, od6, .func (PySem.W.fnOf "are_targets" "are_targets" (defArgs s_are_targets) (defBody s_are_targets) (defScope s_are_targets) .none kV6 dc6 pm6 an6 cd6 ct6), sl6⟩) (c6 : PySem.W.codeIn K cd6 "are_targets" = true) (k6 : PySem.W.keepIn K (.ref f6) = true)
    (a7 : PySem.W.nsIn K mainGlobals "are_nudges" = some (some (.ref f7))) (l7 : K.lookup f7 = some ⟨oc7, od7, .func (PySem.W.fnOf "are_nudges" "are_nudges" (defArgs s_are_nudges) (defBody s_are_nudges) (defScope s_are_nudges) .none kV7 dc7 pm7 an7 cd7 ct7), sl7⟩) (c7 : PySem.W.codeIn K cd7 "are_nudges" = true) (k7 : PySem.W.keepIn K (.ref f7) = true)
    (a8 : PySem.W.nsIn K mainGlobals "has_web_shape" = some (some (.ref f8))) (l8 : K.lookup f8 = some ⟨oc8, od8, .func (PySem.W.fnOf "has_web_shape" "has_web_shape" (defArgs s_has_web_shape) (defBody s_has_web_shape) (defScope s_has_web_shape) .none kV8 dc8 pm8 an8 cd8 ct8), sl8⟩) (c8 : PySem.W.codeIn K cd8 "has_web_shape" = true) (k8 : PySem.W.keepIn K (.ref f8) = true)
    (a9 : PySem.W.nsIn K mainGlobals "check_web" = some (some (.ref f9))) (l9 : K.lookup f9 = some ⟨oc9, od9, .func (PySem.W.fnOf "check_web" "check_web" (defArgs s_check_web) (defBody s_check_web) (defScope s_check_web) .none kV9 dc9 pm9 an9 cd9 ct9), sl9⟩) (c9 : PySem.W.codeIn K cd9 "check_web" = true) (k9 : PySem.W.keepIn K (.ref f9) = true)
    (a10 : PySem.W.nsIn K mainGlobals "check_source" = some (some (.ref f10))) (l10 : K.lookup f10 = some ⟨oc10, od10, .func (PySem.W.fnOf "check_source" "check_source" (defArgs s_check_source) (defBody s_check_source) (defScope s_check_source) .none kV10 dc10 pm10 an10 cd10 ct10), sl10⟩) (c10 : PySem.W.codeIn K cd10 "check_source" = true) (k10 : PySem.W.keepIn K (.ref f10) = true)
    (a11 : PySem.W.nsIn K mainGlobals "all_lines" = some (some (.ref f11))) (l11 : K.lookup f11 = some ⟨oc11, od11, .func (PySem.W.fnOf "all_lines" "all_lines" (defArgs s_all_lines) (defBody s_all_lines) (defScope s_all_lines) .none kV11 dc11 pm11 an11 cd11 ct11), sl11⟩) (c11 : PySem.W.codeIn K cd11 "all_lines" = true) (k11 : PySem.W.keepIn K (.ref f11) = true)
    (a12 : PySem.W.nsIn K mainGlobals "target_rows" = some (some (.ref f12))) (l12 : K.lookup f12 = some ⟨oc12, od12, .func (PySem.W.fnOf "target_rows" "target_rows" (defArgs s_target_rows) (defBody s_target_rows) (defScope s_target_rows) .none kV12 dc12 pm12 an12 cd12 ct12), sl12⟩) (c12 : PySem.W.codeIn K cd12 "target_rows" = true) (k12 : PySem.W.keepIn K (.ref f12) = true)
    (a13 : PySem.W.nsIn K mainGlobals "targets_of" = some (some (.ref f13))) (l13 : K.lookup f13 = some ⟨oc13, od13, .func (PySem.W.fnOf "targets_of" "targets_of" (defArgs s_targets_of) (defBody s_targets_of) (defScope s_targets_of) .none kV13 dc13 pm13 an13 cd13 ct13), sl13⟩) (c13 : PySem.W.codeIn K cd13 "targets_of" = true) (k13 : PySem.W.keepIn K (.ref f13) = true)
    (a14 : PySem.W.nsIn K mainGlobals "check_quantity" = some (some (.ref f14))) (l14 : K.lookup f14 = some ⟨oc14, od14, .func (PySem.W.fnOf "check_quantity" "check_quantity" (defArgs s_check_quantity) (defBody s_check_quantity) (defScope s_check_quantity) .none kV14 dc14 pm14 an14 cd14 ct14), sl14⟩) (c14 : PySem.W.codeIn K cd14 "check_quantity" = true) (k14 : PySem.W.keepIn K (.ref f14) = true)
    (a15 : PySem.W.nsIn K mainGlobals "source_rows" = some (some (.ref f15))) (l15 : K.lookup f15 = some ⟨oc15, od15, .func (PySem.W.fnOf "source_rows" "source_rows" (defArgs s_source_rows) (defBody s_source_rows) (defScope s_source_rows) .none kV15 dc15 pm15 an15 cd15 ct15), sl15⟩) (c15 : PySem.W.codeIn K cd15 "source_rows" = true) (k15 : PySem.W.keepIn K (.ref f15) = true)
    (a16 : PySem.W.nsIn K mainGlobals "sources_of" = some (some (.ref f16))) (l16 : K.lookup f16 = some ⟨oc16, od16, .func (PySem.W.fnOf "sources_of" "sources_of" (defArgs s_sources_of) (defBody s_sources_of) (defScope s_sources_of) .none kV16 dc16 pm16 an16 cd16 ct16), sl16⟩) (c16 : PySem.W.codeIn K cd16 "sources_of" = true) (k16 : PySem.W.keepIn K (.ref f16) = true)
    (a17 : PySem.W.nsIn K mainGlobals "lines_of" = some (some (.ref f17))) (l17 : K.lookup f17 = some ⟨oc17, od17, .func (PySem.W.fnOf "lines_of" "lines_of" (defArgs s_lines_of) (defBody s_lines_of) (defScope s_lines_of) .none kV17 dc17 pm17 an17 cd17 ct17), sl17⟩) (c17 : PySem.W.codeIn K cd17 "lines_of" = true) (k17 : PySem.W.keepIn K (.ref f17) = true)
    (a18 : PySem.W.nsIn K mainGlobals "_law_purse" = some (some (.ref f18))) (l18 : K.lookup f18 = some ⟨oc18, od18, .func (PySem.W.fnOf "_law_purse" "_law_purse" (defArgs s_purse) (defBody s_purse) (defScope s_purse) .none kV18 dc18 pm18 an18 cd18 ct18), sl18⟩) (c18 : PySem.W.codeIn K cd18 "_law_purse" = true) (k18 : PySem.W.keepIn K (.ref f18) = true)
    (a19 : PySem.W.nsIn K mainGlobals "_law_coin" = some (some (.ref f19))) (l19 : K.lookup f19 = some ⟨oc19, od19, .func (PySem.W.fnOf "_law_coin" "_law_coin" (defArgs s_coin) (defBody s_coin) (defScope s_coin) .none kV19 dc19 pm19 an19 cd19 ct19), sl19⟩) (c19 : PySem.W.codeIn K cd19 "_law_coin" = true) (k19 : PySem.W.keepIn K (.ref f19) = true)
    (a20 : PySem.W.nsIn K mainGlobals "_law_targets" = some (some (.ref f20))) (l20 : K.lookup f20 = some ⟨oc20, od20, .func (PySem.W.fnOf "_law_targets" "_law_targets" (defArgs s_targets) (defBody s_targets) (defScope s_targets) .none kV20 dc20 pm20 an20 cd20 ct20), sl20⟩) (c20 : PySem.W.codeIn K cd20 "_law_targets" = true) (k20 : PySem.W.keepIn K (.ref f20) = true)
    (a21 : PySem.W.nsIn K mainGlobals "_law_web" = some (some (.ref f21))) (l21 : K.lookup f21 = some ⟨oc21, od21, .func (PySem.W.fnOf "_law_web" "_law_web" (defArgs s_web) (defBody s_web) (defScope s_web) .none kV21 dc21 pm21 an21 cd21 ct21), sl21⟩) (c21 : PySem.W.codeIn K cd21 "_law_web" = true) (k21 : PySem.W.keepIn K (.ref f21) = true)
    (a22 : PySem.W.nsIn K mainGlobals "_law_copy" = some (some (.ref f22))) (l22 : K.lookup f22 = some ⟨oc22, od22, .func (PySem.W.fnOf "_law_copy" "_law_copy" (defArgs s_copy) (defBody s_copy) (defScope s_copy) .none kV22 dc22 pm22 an22 cd22 ct22), sl22⟩) (c22 : PySem.W.codeIn K cd22 "_law_copy" = true) (k22 : PySem.W.keepIn K (.ref f22) = true)
    (a23 : PySem.W.nsIn K mainGlobals "_law_lists" = some (some (.ref f23))) (l23 : K.lookup f23 = some ⟨oc23, od23, .func (PySem.W.fnOf "_law_lists" "_law_lists" (defArgs s_lists) (defBody s_lists) (defScope s_lists) .none kV23 dc23 pm23 an23 cd23 ct23), sl23⟩) (c23 : PySem.W.codeIn K cd23 "_law_lists" = true) (k23 : PySem.W.keepIn K (.ref f23) = true)
    (a24 : PySem.W.nsIn K mainGlobals "_law_right" = some (some (.ref f24))) (l24 : K.lookup f24 = some ⟨oc24, od24, .func (PySem.W.fnOf "_law_right" "_law_right" (defArgs s_right) (defBody s_right) (defScope s_right) .none kV24 dc24 pm24 an24 cd24 ct24), sl24⟩) (c24 : PySem.W.codeIn K cd24 "_law_right" = true) (k24 : PySem.W.keepIn K (.ref f24) = true)
    (a25 : PySem.W.nsIn K mainGlobals "law" = some (some (.ref f25))) (l25 : K.lookup f25 = some ⟨oc25, od25, .func (PySem.W.fnOf "law" "law" (defArgs s_law) (defBody s_law) (defScope s_law) .none kV25 dc25 pm25 an25 cd25 ct25), sl25⟩) (c25 : PySem.W.codeIn K cd25 "law" = true) (k25 : PySem.W.keepIn K (.ref f25) = true)
    (z_isinstance : PySem.W.nsIn K mainGlobals "isinstance" = some none)
    (z_len : PySem.W.nsIn K mainGlobals "len" = some none)
    (z_all : PySem.W.nsIn K mainGlobals "all" = some none)
    (z_repr : PySem.W.nsIn K mainGlobals "repr" = some none)
    (z_abs : PySem.W.nsIn K mainGlobals "abs" = some none)
    (z_max : PySem.W.nsIn K mainGlobals "max" = some none)
    (z_min : PySem.W.nsIn K mainGlobals "min" = some none)
    (z_sorted : PySem.W.nsIn K mainGlobals "sorted" = some none)
    (z_int : PySem.W.nsIn K mainGlobals "int" = some none)
    (z_bool : PySem.W.nsIn K mainGlobals "bool" = some none)
    (z_list : PySem.W.nsIn K mainGlobals "list" = some none)
    (z_tuple : PySem.W.nsIn K mainGlobals "tuple" = some none)
    (z_range : PySem.W.nsIn K mainGlobals "range" = some none)
    (z_enumerate : PySem.W.nsIn K mainGlobals "enumerate" = some none)
    (z_zip : PySem.W.nsIn K mainGlobals "zip" = some none)
    {t_MOST_QUANTITIES : Tok} (v_MOST_QUANTITIES : PySem.W.nsIn K mainGlobals "MOST_QUANTITIES" = some (some (.int 20 t_MOST_QUANTITIES)))
    {t_MOST_NUDGES : Tok} (v_MOST_NUDGES : PySem.W.nsIn K mainGlobals "MOST_NUDGES" = some (some (.int 8 t_MOST_NUDGES)))
    : ∃ fd : FuncData, (∀ (s : Shared) (v : Value), BindsTo s fd ⟨[v], []⟩ [("_law_script", v)]) ∧ ∀ base : Heap, K.In base → base.Ns mainGlobals mg → FnG l.prog w K mg base CX0 10 fa fd ["_law_script"] (sp_law K) := by
  have e := hfa.symm.trans (PySem.W.mg_of X G a25)
  cases e
  have T : Txt K mg := ⟨PySem.W.mg_none_of X G z_isinstance, PySem.W.mg_none_of X G z_len, PySem.W.mg_none_of X G z_all, PySem.W.mg_none_of X G z_repr, PySem.W.mg_none_of X G z_abs, PySem.W.mg_none_of X G z_max, PySem.W.mg_none_of X G z_min, PySem.W.mg_none_of X G z_sorted, PySem.W.mg_none_of X G z_int, PySem.W.mg_none_of X G z_bool, PySem.W.mg_none_of X G z_list, PySem.W.mg_none_of X G z_tuple, PySem.W.mg_none_of X G z_range, PySem.W.mg_none_of X G z_enumerate, PySem.W.mg_none_of X G z_zip, ⟨_, PySem.W.mg_of X G v_MOST_QUANTITIES⟩, ⟨_, PySem.W.mg_of X G v_MOST_NUDGES⟩⟩
  refine ⟨PySem.W.fnOf "law" "law" (defArgs s_law) (defBody s_law) (defScope s_law) .none kV25 dc25 pm25 an25 cd25 ct25, fun s v => .of_eq rfl, fun base _ _ => ?_⟩
  have F0 := fun_mk (st := s_is_integer) l0 c0 k0
  have G0 := ok_is_integer (P := l.prog) (w := w) (base := base) T F0 
  have B0 := F0.binds (ps := P_is_integer) fun _ _ _ _ _ _ us hl => match us, hl with | [_], _ => rfl
  have D_is_integer : DefOk l.prog w K mg base CX0 1 "is_integer" P_is_integer (sp_is_integer K) := ⟨f0, _, G0, PySem.W.mg_of X G a0, k0, B0⟩
  have F1 := fun_mk (st := s_is_number_below) l1 c1 k1
  have G1 := ok_is_number_below (P := l.prog) (w := w) (base := base) T F1 D_is_integer
  have B1 := F1.binds (ps := P_is_number_below) fun _ _ _ _ _ _ us hl => match us, hl with | [_, _], _ => rfl
  have D_is_number_below : DefOk l.prog w K mg base CX0 2 "is_number_below" P_is_number_below (sp_is_number_below K) := ⟨f1, _, G1, PySem.W.mg_of X G a1, k1, B1⟩
  have F2 := fun_mk (st := s_is_tuple_below) l2 c2 k2
  have G2 := ok_is_tuple_below (P := l.prog) (w := w) (base := base) T F2 D_is_number_below
  have B2 := F2.binds (ps := P_is_tuple_below) fun _ _ _ _ _ _ us hl => match us, hl with | [_, _, _], _ => rfl
  have D_is_tuple_below : DefOk l.prog w K mg base CX0 3 "is_tuple_below" P_is_tuple_below (sp_is_tuple_below K) := ⟨f2, _, G2, PySem.W.mg_of X G a2, k2, B2⟩
  have F3 := fun_mk (st := s_are_ascending) l3 c3 k3
  have G3 := ok_are_ascending (P := l.prog) (w := w) (base := base) T F3 
  have B3 := F3.binds (ps := P_are_ascending) fun _ _ _ _ _ _ us hl => match us, hl with | [_], _ => rfl
  have D_are_ascending : DefOk l.prog w K mg base CX0 1 "are_ascending" P_are_ascending (sp_are_ascending K) := ⟨f3, _, G3, PySem.W.mg_of X G a3, k3, B3⟩
  have F4 := fun_mk (st := s_are_ascending_tuples) l4 c4 k4
  have G4 := ok_are_ascending_tuples (P := l.prog) (w := w) (base := base) T F4 D_is_tuple_below D_are_ascending
  have B4 := F4.binds (ps := P_are_ascending_tuples) fun _ _ _ _ _ _ us hl => match us, hl with | [_, _, _], _ => rfl
  have D_are_ascending_tuples : DefOk l.prog w K mg base CX0 4 "are_ascending_tuples" P_are_ascending_tuples (sp_are_ascending_tuples K) := ⟨f4, _, G4, PySem.W.mg_of X G a4, k4, B4⟩
  have F5 := fun_mk (st := s_are_below) l5 c5 k5
  have G5 := ok_are_below (P := l.prog) (w := w) (base := base) T F5 D_is_number_below
  have B5 := F5.binds (ps := P_are_below) fun _ _ _ _ _ _ us hl => match us, hl with | [_, _], _ => rfl
  have D_are_below : DefOk l.prog w K mg base CX0 3 "are_below" P_are_below (sp_are_below K) := ⟨f5, _, G5, PySem.W.mg_of X G a5, k5, B5⟩
  have F6 := fun_mk (st := s_are_targets) l6 c6 k6
  have G6 := ok_are_targets (P := l.prog) (w := w) (base := base) T F6 D_are_below D_are_ascending
  have B6 := F6.binds (ps := P_are_targets) fun _ _ _ _ _ _ us hl => match us, hl with | [_, _], _ => rfl
  have D_are_targets : DefOk l.prog w K mg base CX0 4 "are_targets" P_are_targets (sp_are_targets K) := ⟨f6, _, G6, PySem.W.mg_of X G a6, k6, B6⟩
  have F7 := fun_mk (st := s_are_nudges) l7 c7 k7
  have G7 := ok_are_nudges (P := l.prog) (w := w) (base := base) T F7 D_are_targets
  have B7 := F7.binds (ps := P_are_nudges) fun _ _ _ _ _ _ us hl => match us, hl with | [_, _], _ => rfl
  have D_are_nudges : DefOk l.prog w K mg base CX0 5 "are_nudges" P_are_nudges (sp_are_nudges K) := ⟨f7, _, G7, PySem.W.mg_of X G a7, k7, B7⟩
  have F8 := fun_mk (st := s_has_web_shape) l8 c8 k8
  have G8 := ok_has_web_shape (P := l.prog) (w := w) (base := base) T F8 D_is_integer D_are_ascending_tuples D_are_nudges
  have B8 := F8.binds (ps := P_has_web_shape) fun _ _ _ _ _ _ us hl => match us, hl with | [_], _ => rfl
  have D_has_web_shape : DefOk l.prog w K mg base CX0 6 "has_web_shape" P_has_web_shape (sp_has_web_shape K) := ⟨f8, _, G8, PySem.W.mg_of X G a8, k8, B8⟩
  have F9 := fun_mk (st := s_check_web) l9 c9 k9
  have G9 := ok_check_web (P := l.prog) (w := w) (base := base) T F9 D_has_web_shape
  have B9 := F9.binds (ps := P_check_web) fun _ _ _ _ _ _ us hl => match us, hl with | [_], _ => rfl
  have D_check_web : DefOk l.prog w K mg base CX0 7 "check_web" P_check_web (sp_check_web K) := ⟨f9, _, G9, PySem.W.mg_of X G a9, k9, B9⟩
  have F10 := fun_mk (st := s_check_source) l10 c10 k10
  have G10 := ok_check_source (P := l.prog) (w := w) (base := base) T F10 D_is_number_below
  have B10 := F10.binds (ps := P_check_source) fun _ _ _ _ _ _ us hl => match us, hl with | [_, _], _ => rfl
  have D_check_source : DefOk l.prog w K mg base CX0 3 "check_source" P_check_source (sp_check_source K) := ⟨f10, _, G10, PySem.W.mg_of X G a10, k10, B10⟩
  have F11 := fun_mk (st := s_all_lines) l11 c11 k11
  have G11 := ok_all_lines (P := l.prog) (w := w) (base := base) T F11 
  have B11 := F11.binds (ps := P_all_lines) fun _ _ _ _ _ _ us hl => match us, hl with | [_], _ => rfl
  have D_all_lines : DefOk l.prog w K mg base CX0 1 "all_lines" P_all_lines (sp_all_lines K) := ⟨f11, _, G11, PySem.W.mg_of X G a11, k11, B11⟩
  have F12 := fun_mk (st := s_target_rows) l12 c12 k12
  have G12 := ok_target_rows (P := l.prog) (w := w) (base := base) T F12 D_all_lines
  have B12 := F12.binds (ps := P_target_rows) fun _ _ _ _ _ _ us hl => match us, hl with | [_], _ => rfl
  have D_target_rows : DefOk l.prog w K mg base CX0 2 "target_rows" P_target_rows (sp_target_rows K) := ⟨f12, _, G12, PySem.W.mg_of X G a12, k12, B12⟩
  have F13 := fun_mk (st := s_targets_of) l13 c13 k13
  have G13 := ok_targets_of (P := l.prog) (w := w) (base := base) T F13 D_check_web D_check_source D_target_rows
  have B13 := F13.binds (ps := P_targets_of) fun _ _ _ _ _ _ us hl => match us, hl with | [_, _], _ => rfl
  have D_targets_of : DefOk l.prog w K mg base CX0 8 "targets_of" P_targets_of (sp_targets_of K) := ⟨f13, _, G13, PySem.W.mg_of X G a13, k13, B13⟩
  have F14 := fun_mk (st := s_check_quantity) l14 c14 k14
  have G14 := ok_check_quantity (P := l.prog) (w := w) (base := base) T F14 D_is_number_below
  have B14 := F14.binds (ps := P_check_quantity) fun _ _ _ _ _ _ us hl => match us, hl with | [_, _], _ => rfl
  have D_check_quantity : DefOk l.prog w K mg base CX0 3 "check_quantity" P_check_quantity (sp_check_quantity K) := ⟨f14, _, G14, PySem.W.mg_of X G a14, k14, B14⟩
  have F15 := fun_mk (st := s_source_rows) l15 c15 k15
  have G15 := ok_source_rows (P := l.prog) (w := w) (base := base) T F15 D_all_lines
  have B15 := F15.binds (ps := P_source_rows) fun _ _ _ _ _ _ us hl => match us, hl with | [_], _ => rfl
  have D_source_rows : DefOk l.prog w K mg base CX0 2 "source_rows" P_source_rows (sp_source_rows K) := ⟨f15, _, G15, PySem.W.mg_of X G a15, k15, B15⟩
  have F16 := fun_mk (st := s_sources_of) l16 c16 k16
  have G16 := ok_sources_of (P := l.prog) (w := w) (base := base) T F16 D_check_web D_check_quantity D_source_rows
  have B16 := F16.binds (ps := P_sources_of) fun _ _ _ _ _ _ us hl => match us, hl with | [_, _], _ => rfl
  have D_sources_of : DefOk l.prog w K mg base CX0 8 "sources_of" P_sources_of (sp_sources_of K) := ⟨f16, _, G16, PySem.W.mg_of X G a16, k16, B16⟩
  have F17 := fun_mk (st := s_lines_of) l17 c17 k17
  have G17 := ok_lines_of (P := l.prog) (w := w) (base := base) T F17 D_check_web D_all_lines
  have B17 := F17.binds (ps := P_lines_of) fun _ _ _ _ _ _ us hl => match us, hl with | [_], _ => rfl
  have D_lines_of : DefOk l.prog w K mg base CX0 8 "lines_of" P_lines_of (sp_lines_of K) := ⟨f17, _, G17, PySem.W.mg_of X G a17, k17, B17⟩
  have F18 := fun_mk (st := s_purse) l18 c18 k18
  have G18 := ok_purse (P := l.prog) (w := w) (base := base) T F18 
  have B18 := F18.binds (ps := P_purse) fun _ _ _ _ _ _ us hl => match us, hl with | [_, _], _ => rfl
  have D_purse : DefOk l.prog w K mg base CX0 1 "_law_purse" P_purse (sp_purse K) := ⟨f18, _, G18, PySem.W.mg_of X G a18, k18, B18⟩
  have F19 := fun_mk (st := s_coin) l19 c19 k19
  have G19 := ok_coin (P := l.prog) (w := w) (base := base) T F19 
  have B19 := F19.binds (ps := P_coin) fun _ _ _ _ _ _ us hl => match us, hl with | [_, _], _ => rfl
  have D_coin : DefOk l.prog w K mg base CX0 1 "_law_coin" P_coin (sp_coin K) := ⟨f19, _, G19, PySem.W.mg_of X G a19, k19, B19⟩
  have F20 := fun_mk (st := s_targets) l20 c20 k20
  have G20 := ok_targets (P := l.prog) (w := w) (base := base) T F20 D_coin
  have B20 := F20.binds (ps := P_targets) fun _ _ _ _ _ _ us hl => match us, hl with | [_, _], _ => rfl
  have D_targets : DefOk l.prog w K mg base CX0 2 "_law_targets" P_targets (sp_targets K) := ⟨f20, _, G20, PySem.W.mg_of X G a20, k20, B20⟩
  have F21 := fun_mk (st := s_web) l21 c21 k21
  have G21 := ok_web (P := l.prog) (w := w) (base := base) T F21 D_coin D_targets
  have B21 := F21.binds (ps := P_web) fun _ _ _ _ _ _ us hl => match us, hl with | [_, _, _], _ => rfl
  have D_web : DefOk l.prog w K mg base CX0 3 "_law_web" P_web (sp_web K) := ⟨f21, _, G21, PySem.W.mg_of X G a21, k21, B21⟩
  have F22 := fun_mk (st := s_copy) l22 c22 k22
  have G22 := ok_copy (P := l.prog) (w := w) (base := base) T F22 
  have B22 := F22.binds (ps := P_copy) fun _ _ _ _ _ _ us hl => match us, hl with | [_], _ => rfl
  have D_copy : DefOk l.prog w K mg base CX0 1 "_law_copy" P_copy (sp_copy K) := ⟨f22, _, G22, PySem.W.mg_of X G a22, k22, B22⟩
  have F23 := fun_mk (st := s_lists) l23 c23 k23
  have G23 := ok_lists (P := l.prog) (w := w) (base := base) T F23 
  have B23 := F23.binds (ps := P_lists) fun _ _ _ _ _ _ us hl => match us, hl with | [_], _ => rfl
  have D_lists : DefOk l.prog w K mg base CX0 1 "_law_lists" P_lists (sp_lists K) := ⟨f23, _, G23, PySem.W.mg_of X G a23, k23, B23⟩
  have F24 := fun_mk (st := s_right) l24 c24 k24
  have G24 := ok_right (P := l.prog) (w := w) (base := base) T F24 D_targets_of D_sources_of D_lines_of D_copy D_lists
  have B24 := F24.binds (ps := P_right) fun _ _ _ _ _ _ us hl => match us, hl with | [_], _ => rfl
  have D_right : DefOk l.prog w K mg base CX0 9 "_law_right" P_right (sp_right K) := ⟨f24, _, G24, PySem.W.mg_of X G a24, k24, B24⟩
  have F25 := fun_mk (st := s_law) l25 c25 k25
  have G25 := ok_law (P := l.prog) (w := w) (base := base) T F25 D_targets_of D_sources_of D_lines_of D_purse D_web D_right
  exact G25
theorem walk {l : PySem.W.OpenLaw} {q : Program} {loose : List Str} {XP : (Str → Option Value) → Heap → Prop} {YP : World → Heap → Prop} {d : DefRec} {K : Params → PySem.W.Frag} (hn : l.most = some 63) (hdf : d.params.defaults = [])
    (hY : ∀ (w : World) (h : Heap), YP w h → (K w.params).In h)
    (F : ∀ (w : World) (mg : Str → Option Value) (fa : Addr) (h : Heap), (K w.params).In h → h.Ns mainGlobals mg → mg d.name = some (.ref fa) →
      ∃ fd : FuncData, (∀ (s : Shared) (u : Value), BindsTo s fd ⟨[u], []⟩ [("_law_script", u)]) ∧ ∀ base : Heap, (K w.params).In base → base.Ns mainGlobals mg → FnG l.prog w (K w.params) mg base CX0 10 fa fd ["_law_script"] (sp_law (K w.params))) :
    PySem.W.WalkO q loose XP YP l.row.toRowW d [] (fun f vs => PySem.call f vs) :=
  walkG (n := 63) (k := 10) (x := "_law_script") (CX := fun _ => CX0) (sp := fun w => sp_law (K w.params)) hn (by decide) hdf ⟨rfl, by decide, by decide⟩ hY F (fun _ H a ns hl _ hS => sp_law_start hl hS) fun _ _ _ _ _ z => z
end K42
open PySem PySem.W PyProof.Rows in
set_option maxRecDepth 100000 in
set_option maxHeartbeats 0 in
theorem PySem.Challenge.cw_nudgewebs_k42_targets_sources_lines_holds : PySem.Challenge.rw_nudgewebs_k42_targets_sources_lines.Holds := by
  w_on; o_law; k_head; (case hw => w_witness2)
  k_fill
  refine K42.walk (l := PySem.Challenge.rw_nudgewebs_k42_targets_sources_lines) rfl rfl (fun w h Y => PySem.W.kIn_of Y) ?F
  case F =>
    intro w mg fa h KX G hmg
    refine' K42.all_mk KX G hmg ?a0 ?l0 ?c0 ?k0 ?a1 ?l1 ?c1 ?k1 ?a2 ?l2 ?c2 ?k2 ?a3 ?l3 ?c3 ?k3 ?a4 ?l4 ?c4 ?k4 ?a5 ?l5 ?c5 ?k5 ?a6 ?l6 ?c6 ?k6 ?a7 ?l7 ?c7 ?k7 ?a8 ?l8 ?c8 ?k8 ?a9 ?l9 ?c9 ?k9 ?a10 ?l10 ?c10 ?k10 ?a11 ?l11 ?c11 ?k11 ?a12 ?l12 ?c12 ?k12 ?a13 ?l13 ?c13 ?k13 ?a14 ?l14 ?c14 ?k14 ?a15 ?l15 ?c15 ?k15 ?a16 ?l16 ?c16 ?k16 ?a17 ?l17 ?c17 ?k17 ?a18 ?l18 ?c18 ?k18 ?a19 ?l19 ?c19 ?k19 ?a20 ?l20 ?c20 ?k20 ?a21 ?l21 ?c21 ?k21 ?a22 ?l22 ?c22 ?k22 ?a23 ?l23 ?c23 ?k23 ?a24 ?l24 ?c24 ?k24 ?a25 ?l25 ?c25 ?k25 ?z_isinstance ?z_len ?z_all ?z_repr ?z_abs ?z_max ?z_min ?z_sorted ?z_int ?z_bool ?z_list ?z_tuple ?z_range ?z_enumerate ?z_zip ?v_MOST_QUANTITIES ?v_MOST_NUDGES
    (case a0 => k_is)
    (case l0 => k_is)
    (case c0 => k_is)
    (case k0 => k_is)
    (case a1 => k_is)
    (case l1 => k_is)
    (case c1 => k_is)
    (case k1 => k_is)
    (case a2 => k_is)
    (case l2 => k_is)
    (case c2 => k_is)
    (case k2 => k_is)
    (case a3 => k_is)
    (case l3 => k_is)
    (case c3 => k_is)
    (case k3 => k_is)
    (case a4 => k_is)
    (case l4 => k_is)
    (case c4 => k_is)
    (case k4 => k_is)
    (case a5 => k_is)
    (case l5 => k_is)
    (case c5 => k_is)
    (case k5 => k_is)
    (case a6 => k_is)
    (case l6 => k_is)
    (case c6 => k_is)
    (case k6 => k_is)
    (case a7 => k_is)
    (case l7 => k_is)
    (case c7 => k_is)
    (case k7 => k_is)
    (case a8 => k_is)
    (case l8 => k_is)
    (case c8 => k_is)
    (case k8 => k_is)
    (case a9 => k_is)
    (case l9 => k_is)
    (case c9 => k_is)
    (case k9 => k_is)
    (case a10 => k_is)
    (case l10 => k_is)
    (case c10 => k_is)
    (case k10 => k_is)
    (case a11 => k_is)
    (case l11 => k_is)
    (case c11 => k_is)
    (case k11 => k_is)
    (case a12 => k_is)
    (case l12 => k_is)
    (case c12 => k_is)
    (case k12 => k_is)
    (case a13 => k_is)
    (case l13 => k_is)
    (case c13 => k_is)
    (case k13 => k_is)
    (case a14 => k_is)
    (case l14 => k_is)
    (case c14 => k_is)
    (case k14 => k_is)
    (case a15 => k_is)
    (case l15 => k_is)
    (case c15 => k_is)
    (case k15 => k_is)
    (case a16 => k_is)
    (case l16 => k_is)
    (case c16 => k_is)
    (case k16 => k_is)
    (case a17 => k_is)
    (case l17 => k_is)
    (case c17 => k_is)
    (case k17 => k_is)
    (case a18 => k_is)
    (case l18 => k_is)
    (case c18 => k_is)
    (case k18 => k_is)
    (case a19 => k_is)
    (case l19 => k_is)
    (case c19 => k_is)
    (case k19 => k_is)
    (case a20 => k_is)
    (case l20 => k_is)
    (case c20 => k_is)
    (case k20 => k_is)
    (case a21 => k_is)
    (case l21 => k_is)
    (case c21 => k_is)
    (case k21 => k_is)
    (case a22 => k_is)
    (case l22 => k_is)
    (case c22 => k_is)
    (case k22 => k_is)
    (case a23 => k_is)
    (case l23 => k_is)
    (case c23 => k_is)
    (case k23 => k_is)
    (case a24 => k_is)
    (case l24 => k_is)
    (case c24 => k_is)
    (case k24 => k_is)
    (case a25 => k_is)
    (case l25 => k_is)
    (case c25 => k_is)
    (case k25 => k_is)
    (case z_isinstance => k_is)
    (case z_len => k_is)
    (case z_all => k_is)
    (case z_repr => k_is)
    (case z_abs => k_is)
    (case z_max => k_is)
    (case z_min => k_is)
    (case z_sorted => k_is)
    (case z_int => k_is)
    (case z_bool => k_is)
    (case z_list => k_is)
    (case z_tuple => k_is)
    (case z_range => k_is)
    (case z_enumerate => k_is)
    (case z_zip => k_is)
    (case v_MOST_QUANTITIES => k_is)
    (case v_MOST_NUDGES => k_is)
