import PyProof.Rows.All
import Wide.All
import OpenK.AllK
import Wide.FinOn
import HandS.ForExc
import HandS.Wide
import HandS.IsInst
import HandS.ExcIs
import KE.KExcInit
import KE.KExcIs
import HandS.ForMost
import HandS.WideMore
import HandS.WideBits
import HandS.RevRange
import HandS.Rev
import HandS.NoneIn
import HandS.TupMul
import PyProof.ListMulRight
import PyProof.ReprBulk
import HandS.OwnEq
import HandS.Exc
import HandS.ExcOwn
import HandS.Base
import HandS.Call
import HandS.List
import HandS.Dict
import HandS.Words
import HandS.Comp
import HandS.Iter
import HandS.SortInts
import HandS.Strs
import PyProof.Rows.StrOr
import HandS.Text
import HandS.MakeKwOnly
import HandS.Property
import HandS.ClsMeth
import HandS.SortKw
import HandS.More
import HandS.TupSets
import KE.DataMinMax
import HandS.Star
import HandS.TryOnly
import HandS.HeadHook3
import HandS.Style
import KE.BitLaws
import PySem.Challenge.RW_abacushead_k03_sums_of_numbers
set_option Elab.async false
set_option linter.all false
set_option maxRecDepth 100000
set_option exponentiation.threshold 100
/-! repr of data, and promises that hold where no repr is under way -/
namespace GL
open PySem L2 PySem.Spec PyProof.Rows

/-- nothing is being shown -/
abbrev Quiet (A : Around) : Prop := A.guards = some []

/-- a def's promise, asked only where nothing is being shown -/
structure FnG (P : Program) (w : World) (K : PySem.W.Frag) (mg : Str → Option Value) (base : Heap) (cx : CXT) (k : Nat) (f : Addr)
    (fd : FuncData) (ps : List Str) (sp : Sp) : Prop where
  len : ∀ vs H Q E, sp vs H Q E → vs.length = ps.length
  go : ∀ {A : Around} {outer : List Env} {s : Shared} {H : Hp} {args : Args} {us : List Value} {vs : List V} {Q : VK} {E : XK},
    Quiet A → Room k A → Env0 P w K mg base A outer s H → BindsTo s fd args (ps.zip us) → Vals vs us → sp vs H Q E →
    codeAny (model P w) A (.call (.ref f) args) (CR cx outer P w H s Q E) s

section
variable {P : Program} {w : World} {K : PySem.W.Frag} {mg : Str → Option Value} {base : Heap} {cx : CXT} {k : Nat} {f : Addr}
  {fd : FuncData} {ps : List Str} {sp : Sp}
theorem FnG.of (F : FnOk P w K mg base cx k f fd ps sp) : FnG P w K mg base cx k f fd ps sp :=
  ⟨F.len, fun _ hr e b v h => F.run _ _ _ _ _ _ _ _ _ hr e b v h⟩

/-- a def by its body -/
theorem FnG.mkX {N : List Str} {x qual : Str} {st : Stmt} (F : Fun K x qual st f fd) (S : FnScope N ps (defScope st))
    (len : ∀ vs H Q E, sp vs H Q E → vs.length = ps.length)
    (body : ∀ (cdv : Value) (A : Around) (outer : List Env) (s : Shared) (H : Hp) (vs : List V) (Q : VK) (E : XK),
      Quiet A → Room k (A.deeper (envOfC qual (defScope st) s.heap.objs.size f cdv)) → sp vs H Q E →
      ∃ t, PSs (cxOf cx P w K mg base N qual (defScope st) f cdv A outer s H E) (defBody st) t ∧
        t { nx := fun _ H' => Q .non H', rt := Q } (start N vs) H) : FnG P w K mg base cx (k + 1) f fd ps sp := by
  obtain ⟨oc, od, kV, doc, pm, an, cdv, ct, osl, rfl, lk, hcd⟩ := F.ex
  constructor
  · exact len
  · intro A outer s H args us vs Q E quiet hr e0 hb rv hsp
    have h1 := len _ _ _ _ hsp
    have KX : K.In s.heap := fun b o e => (e0.bs b o (e0.mod.kin b o e)).1
    have lim : s.heap.NoLimit := e0.mod.nolimit.keeps fun b o e => (e0.bs b o e).1
    obtain ⟨t, ht, hq⟩ := body cdv A outer s H vs Q E quiet (hr.deeper _) hsp
    refine codeAny_call_function hr.depth (KX _ _ lk) rfl S.co S.gen rfl (PySem.W.codeRec_of KX hcd) ?_
    refine hb _ _ _ _ (wpAny_newFunctionEnv_cells S.kind ?_ ?_)
    · rintro ⟨n, v⟩ hy
      have hp := (List.of_mem_zip hy).1
      cases S.par n hp with
      | inl q => exact Or.inl q
      | inr q => exact Or.inr ⟨q, PySem.W.cellsFrom_some _ _ _ (Or.inl q)⟩
    · intro env he s1 ic
      cases he
      refine ⟨lim.keeps ic.toInCall.keep, codeAny_func (wpAny_mono (ht.run [] s1 (start N vs) H _
        (inv_start S hr.hd e0 h1 rv ic) hq) ?_ fun _ _ z => z)⟩
      intro fl s' hs
      cases fl with
      | next =>
        obtain ⟨σ', H', J, q⟩ := hs
        exact ⟨V.non, H', J.os, J.bare, J.base, J.hok, rfl, q⟩
      | ret u =>
        obtain ⟨v, σ', H', J, r', q⟩ := hs
        exact ⟨v, H', J.os, J.bare, J.base, J.hok, r', q⟩
      | brk =>
        obtain ⟨_, _, _, q⟩ := hs
        exact (q : False).elim
      | cont =>
        obtain ⟨_, _, _, q⟩ := hs
        exact (q : False).elim
/-- .. that no exception leaves -/
theorem FnG.mk0 {N : List Str} {x qual : Str} {st : Stmt} (F : Fun K x qual st f fd) (S : FnScope N ps (defScope st))
    (len : ∀ vs H Q E, sp vs H Q E → vs.length = ps.length)
    (body : ∀ (cdv : Value) (A : Around) (outer : List Env) (s : Shared) (H : Hp) (vs : List V) (Q : VK) (E : XK),
      Quiet A → Room k (A.deeper (envOfC qual (defScope st) s.heap.objs.size f cdv)) → sp vs H Q E →
      ∃ t, PSs (cxOf CX0 P w K mg base N qual (defScope st) f cdv A outer s H E).nox (defBody st) t ∧
        t { nx := fun _ H' => Q .non H', rt := Q } (start N vs) H) : FnG P w K mg base CX0 (k + 1) f fd ps sp :=
  FnG.mkX F S len fun cdv A outer s H vs Q E qu hr h => by
    obtain ⟨t, h1, h2⟩ := body cdv A outer s H vs Q E qu hr h
    exact ⟨t, h1.nox, h2⟩
end

section
variable {X : Cx} {cx : CXT} {k : Nat} {f : Addr} {fd : FuncData} {ps : List Str} {sp : Sp} {dvs : List V} {ds : List Value} {E : XK}
/-- the call of such a def -/
theorem runG {pins : List (Addr × Obj)} {σ : L2.St} {H : Hp} {s : Shared} {Q : VK} {us : List Value} {vs : List V}
    (F : FnG X.prog X.w X.K X.mg X.base cx k f fd ps sp) (quiet : Quiet X.A) (hr : Room k X.A) (hb : Binds X.K fd ps ds) (hd : Vals dvs ds)
    (hx : Passes cx X E) (I : Inv X pins σ H s) (r : Vals vs us) (h : sp (vs ++ dvs) H Q E) :
    wpAny (model X.prog X.w) X.A (call (.ref f) us) (EP X pins σ Q) X.xe s := by
  have both := r.append hd
  have hl : (us ++ ds).length = ps.length := both.length.symm.trans (F.len _ _ _ _ h)
  refine wpAny_call (codeAny_mono (F.go quiet hr I.env0 (hb s us I.kIn hl) both h) ?_)
  intro res s' hq
  cases res with
  | error e => exact hx _ _ _ _ _ _ I hq
  | ok fl =>
    cases fl with
    | ret u => exact I.after hq
    | next => exact (hq : False).elim
    | brk => exact (hq : False).elim
    | cont => exact (hq : False).elim
theorem pe_callG {x : Str} {p pos : Pos} {e : Expr} {es : List Expr} {t : TA} (F : FnG X.prog X.w X.K X.mg X.base cx k f fd ps sp)
    (quiet : Quiet X.A) (hr : Room k X.A) (hg : Gl X x) (hm : X.mg x = some (.ref f)) (hk : PySem.W.keepIn X.K (.ref f) = true)
    (hb : Binds X.K fd ps ds) (hd : Vals dvs ds) (hx : Passes cx X E) (ha : PA X (e :: es) t)
    (hdb : (x == ("__debug__" : Str)) = false := by decide)
    (he : starEach (e :: es) X.env = (false, eval e X.env) :: starEach es X.env := by rfl)
    (hpl : (backTo pos (starEach es X.env)).any (·.1) = false := by rfl) : PE X (.Call (.Name x p) (e :: es) [] pos) (tCall sp dvs E t) := by
  constructor
  intro pins s σ H Q I h
  apply wpAny_Call_Name_kw
  apply ld_glob I hg hm _ hdb
  refine PySem.W.callWith_K (h₀ := X.base) I.ok.mod.kin hk ?_ he hpl
  refine thn (ha.run pos pins s σ H _ I h) ?_
  rintro us s1 ⟨vs, H1, I1, r, q⟩
  exact ⟨I1.kIn, runG F quiet hr hb hd hx I1 r q⟩
theorem pe_call0G {x : Str} {p pos : Pos} (F : FnG X.prog X.w X.K X.mg X.base cx k f fd ps sp)
    (quiet : Quiet X.A) (hr : Room k X.A) (hg : Gl X x) (hm : X.mg x = some (.ref f)) (hk : PySem.W.keepIn X.K (.ref f) = true)
    (hb : Binds X.K fd ps ds) (hd : Vals dvs ds) (hx : Passes cx X E)
    (hdb : (x == ("__debug__" : Str)) = false := by decide) : PE X (.Call (.Name x p) [] [] pos) (tCall sp dvs E tNil) := by
  constructor
  intro pins s σ H Q I h
  apply wpAny_Call_Name_kw
  apply ld_glob I hg hm _ hdb
  exact PySem.W.callWith_K0 I.kIn hk (runG (us := []) F quiet hr hb hd hx I .nil h)
end

/-! ### the law's own call -/
section
variable {P : Program} {w : World} {K : PySem.W.Frag} {mg mb : Str → Option Value} {cx : CXT} {k : Nat} {fa a : Addr} {fd : FuncData}
  {x : Str} {sp : Sp} {s₁ : Shared} {vs : List Value} {ns : List Int}
theorem law_goes (H : Hp) (hO : Only H) (hS : SqL K H a (ns.map V.int)) (hok : HOk P w H s₁.heap) (hA : ∀ b, H b ≠ none → b = a)
    (hK : H a ≠ none → K.lookup a = none)
    (KX : K.In s₁.heap) (hns : s₁.heap.Ns mainGlobals mg) (hb : s₁.heap.Ns builtinsNs mb)
    (hbb : ∀ x : Str, x ≠ "__name__" → mb x = bootBuiltins x) (hlim : s₁.heap.NoLimit) (hdig : s₁.heap.NoDigits) (hg : s₁.gens = #[])
    (ha : s₁.heap.get? a = some { cls := .type "list", data := .seq vs.toArray }) (hr : Room k callerA)
    (F : ∀ base : Heap, K.In base → base.Ns mainGlobals mg → base.NoDigits → FnG P w K mg base cx k fa fd [x] sp)
    (hbind : ∀ (s : Shared) (u : Value), BindsTo s fd ⟨[u], []⟩ [(x, u)])
    (hsp : sp [.ref a] H (fun v _ => v = .bl true) fun _ _ _ => False)
    (hcx : ∀ e s', cx [] H s₁ (fun _ _ _ => False) e s' → False) :
    codeAny (model P w) callerA (.call (.ref fa) ⟨[.ref a], []⟩)
      (fun r s' => r = .ok (.ret (.bool true)) ∧ OldK s₁.heap s'.heap ∧ s'.os = s₁.os ∧ AllBare s'.gens) s₁ := by
  have dictFree : ∀ b o es ep, s₁.heap.get? b = some o → o.data = .dict es ep → H b = none := by
    intro b o es ep e d
    by_cases q : H b = none
    · exact q
    · have := hA b q
      rw [this, ha] at e
      cases e
      cases (d : Data.seq vs.toArray _ = Data.dict es ep)
  have nsB : ∀ {b : Addr} {m : Str → Option Value}, s₁.heap.Ns b m → (hidT s₁.heap H).Ns b m := by
    rintro b m ⟨o, es, ep, e, d, r⟩
    exact ⟨o, es, ep, hidT_get e (dictFree b o es ep e d), d, r⟩
  have kB : K.In (hidT s₁.heap H) := by
    intro b o e
    refine hidT_get (KX b o e) ?_
    by_cases q : H b = none
    · exact q
    · have z := hA b q
      subst z
      rw [hK q] at e
      cases e
  obtain ⟨mc, l1, l2⟩ := hlim
  obtain ⟨md, d1, d2⟩ := hdig
  have M : Mod K mg (hidT s₁.heap H) := ⟨kB, nsB hns, ⟨mb, nsB hb, hbb⟩, mc, nsB l1, l2⟩
  have none0 : ∀ b : Addr, b ∉ frs ([] : List Env) := fun b z => by cases z
  have e0 : Env0 P w K mg (hidT s₁.heap H) callerA [] s₁ H :=
    ⟨rfl, M, fun b o e => of_hidT e, Nat.le_of_eq (hidT_size _ _), trivial, fun b z => (none0 b z).elim, hok, .of_eq hg⟩
  have main := (F _ kB (nsB hns) ⟨md, nsB d1, d2⟩).go (A := callerA) (outer := []) (H := H) (args := ⟨[.ref a], []⟩) (us := [.ref a]) rfl hr e0 (hbind s₁ (.ref a))
    (vs := [.ref a]) (.cons rfl .nil) hsp
  refine codeAny_mono main ?_
  intro res s' hs
  cases res with
  | error e => exact (hcx e s' hs).elim
  | ok fl =>
    cases fl with
    | next => exact (hs : False).elim
    | brk => exact (hs : False).elim
    | cont => exact (hs : False).elim
    | ret u =>
      obtain ⟨v, H', os, bare, un, hok', r', q⟩ := hs
      cases (q : v = .bl true)
      cases (r' : u = Value.bool true)
      refine ⟨rfl, OldK.of_keep ?_, os, bare⟩
      intro b o e
      cases hO b with
      | inl q => exact un.keep b o e q (none0 b) (by simp)
      | inr q =>
        obtain ⟨ob, xs, z⟩ := q
        have f1 := (hok b _ z).1
        have f2 := (hok' b _ (un.frzs b ob _ z)).1
        rw [f1] at e
        cases e
        exact f2
theorem law_callG (KX : K.In s₁.heap) (hns : s₁.heap.Ns mainGlobals mg) (hb : s₁.heap.Ns builtinsNs mb)
    (hbb : ∀ x : Str, x ≠ "__name__" → mb x = bootBuiltins x) (hlim : s₁.heap.NoLimit) (hdig : s₁.heap.NoDigits) (hg : s₁.gens = #[])
    (ha : s₁.heap.get? a = some { cls := .type "list", data := .seq vs.toArray }) (hi : IntsAre vs ns) (hl : ns.length ≤ sizeLine) (hr : Room k callerA)
    (F : ∀ base : Heap, K.In base → base.Ns mainGlobals mg → base.NoDigits → FnG P w K mg base cx k fa fd [x] sp)
    (hbind : ∀ (s : Shared) (u : Value), BindsTo s fd ⟨[u], []⟩ [(x, u)])
    (hsp : ∀ H : Hp, Only H → SqL K H a (ns.map V.int) → sp [.ref a] H (fun v _ => v = .bl true) fun _ _ _ => False)
    (hcx : ∀ H e s', cx [] H s₁ (fun _ _ _ => False) e s' → False) :
    codeAny (model P w) callerA (.call (.ref fa) ⟨[.ref a], []⟩)
      (fun r s' => r = .ok (.ret (.bool true)) ∧ OldK s₁.heap s'.heap ∧ s'.os = s₁.os ∧ AllBare s'.gens) s₁ := by
  have rv := vals_ints hi
  cases hk : K.lookup a with
  | some o =>
    have e := KX a o hk
    rw [ha] at e
    cases e
    have hS : SqL K (fun _ => none) a (ns.map V.int) :=
      .inr ⟨_, vs.toArray, _, hk, rfl, rfl, rfl, by rw [List.size_toArray, hi.length]; exact hl, by simpa using rv⟩
    have hO : Only fun _ => none := fun _ => .inl rfl
    exact law_goes (fun _ => none) hO hS (fun b u z => nomatch z) (fun b z => (z rfl).elim) (fun z => (z rfl).elim) KX hns hb hbb hlim hdig hg ha hr F hbind
      (hsp _ hO hS) (hcx _)
  | none =>
    let G : Hp := upd (fun _ => none) a (.frz { cls := .type "list", data := .seq vs.toArray } (.lst (ns.map V.int)))
    have atA : G a = some (.frz { cls := .type "list", data := .seq vs.toArray } (.lst (ns.map V.int))) := upd_same
    have off : ∀ b, b ≠ a → G b = none := fun b h => upd_ne h
    have hS : SqL K G a (ns.map V.int) := .inl (.inr ⟨_, atA⟩)
    have hO : Only G := fun b => by
      by_cases q : b = a
      · subst q
        exact .inr ⟨_, _, atA⟩
      · exact .inl (off b q)
    have hok : HOk P w G s₁.heap := by
      intro b u z
      by_cases q : b = a
      · subst q
        rw [atA] at z
        cases z
        exact ⟨ha, by rw [List.length_map]; exact hl, vs, _, rv, ha⟩
      · rw [off b q] at z
        cases z
    have hA : ∀ b, G b ≠ none → b = a := fun b z => by
      by_cases q : b = a
      · exact q
      · exact (z (off b q)).elim
    exact law_goes G hO hS hok hA (fun _ => hk) KX hns hb hbb hlim hdig hg ha hr F hbind (hsp _ hO hS) (hcx _)
end
/-- a law's row by its def's promise -/
theorem walkG {l : PySem.W.OpenLaw} {n k : Nat} {q : Program} {loose : List Str} {XP : (Str → Option Value) → Heap → Prop}
    {YP : World → Heap → Prop} {d : DefRec} {K : Params → PySem.W.Frag} {cx : World → CXT} {sp : World → Sp} {x : Str}
    (hn : l.most = some n) (hn2 : n ≤ sizeLine) (hdf : d.params.defaults = []) (hr : Room k callerA)
    (hY : ∀ (w : World) (h : Heap), YP w h → (K w.params).In h)
    (F : ∀ (w : World) (mg : Str → Option Value) (fa : Addr) (h : Heap), (K w.params).In h → h.Ns mainGlobals mg → mg d.name = some (.ref fa) →
      ∃ fd : FuncData, (∀ (s : Shared) (u : Value), BindsTo s fd ⟨[u], []⟩ [(x, u)]) ∧
        ∀ base : Heap, (K w.params).In base → base.Ns mainGlobals mg → base.NoDigits → FnG l.prog w (K w.params) mg base (cx w) k fa fd [x] (sp w))
    (hsp : ∀ (w : World) (H : Hp) (a : Addr) (ns : List Int), ns.length ≤ n → Only H → SqL (K w.params) H a (ns.map V.int) →
      sp w [.ref a] H (fun v _ => v = .bl true) fun _ _ _ => False)
    (hcx : ∀ (w : World) (H : Hp) (s : Shared) (e : Value) (s' : Shared), cx w [] H s (fun _ _ _ => False) e s' → False) :
    PySem.W.WalkO q loose XP YP l.row.toRowW d [] (fun f vs => PySem.call f vs) := by
  apply Att.attach_call hn hdf
  intro w s₀ s₁ mg mb fa o pm cd doc a vs ns G Y ho hd hcd hmg hobj hints hlen hgens
  have KX := hY w _ Y
  obtain ⟨fd, hb, hF⟩ := F w mg fa _ KX G.T.g hmg
  exact law_callG KX G.T.g G.T.b G.T.builtins G.T.nolimit G.T.nodigits hgens hobj hints (Nat.le_trans hlen hn2) hr hF hb
    (fun H hO hS => hsp w H a ns hlen hO hS) fun H e s' => hcx w H s₁ e s'

/-! ### repr -/
/-- a key as data -/
def kD : Key → PyData
  | .inl i => .int i
  | .inr x => .str x
/-- a value that is no object, as data -/
def flatD : V → PyData
  | .bl b => .bool b
  | .int i => .int i
  | .str x => .str x
  | _ => .none
def isFlat : V → Bool
  | .non | .bl _ | .int _ | .str _ => true
  | _ => false
/-- an item that is no object, or a dict of values that are no objects -/
inductive Mix1 (H : Hp) : V → PyData → Prop
  | flat {v : V} : isFlat v = true → Mix1 H v (flatD v)
  | dic {a : Addr} {kvs : List (Key × V)} : H a = some (.dK kvs) → (kvs.all fun p => isFlat p.2) = true → Mix1 H (.ref a) (.dict (kvs.map fun p => (kD p.1, flatD p.2)))
inductive MixAll (H : Hp) : List V → List PyData → Prop
  | nil : MixAll H [] []
  | cons {v : V} {vs : List V} {d : PyData} {ds : List PyData} : Mix1 H v d → MixAll H vs ds → MixAll H (v :: vs) (d :: ds)
/-- what stands at a value: data, or a dict of values that are no objects, or a tuple with such dicts -/
inductive ShD (K : PySem.W.Frag) (H : Hp) : V → PyData → Prop
  | data {v : V} {d : PyData} : Dp K H v d → ShD K H v d
  | mix {v : V} {d : PyData} : Mix1 H v d → ShD K H v d
  | tup {a : Addr} {xs : List V} {ds : List PyData} : SqT K H a xs → MixAll H xs ds → ShD K H (.ref a) (.tuple ds)
/-- repr(x) of data x -/
def rRepr (K : PySem.W.Frag) : List V → Hp → VK → Prop := fun xs H Q => ∃ x d, xs = [x] ∧ ShD K H x d ∧ d.showable = true ∧ d.depth ≤ 60 ∧
  d.shown.length ≤ sizeLine ∧ Q (.str d.shown) H
theorem Dp.noDict {K : PySem.W.Frag} {H : Hp} : ∀ (d : PyData) (v : V), Dp K H v d → d.hasDict = false := by
  intro d v h
  induction h using Dp.rec (motive_2 := fun vs ds _ => PyData.hasDictAll ds = false) with
  | non => rfl
  | bl => rfl
  | int => rfl
  | str => rfl
  | lst _ _ ih => simpa only [PyData.hasDict] using ih
  | tup _ _ ih => simpa only [PyData.hasDict] using ih
  | nil => rfl
  | cons _ _ h1 h2 => simp only [PyData.hasDictAll, h1, h2, Bool.or_self]
theorem reads_flat {h : Heap} {v : V} {u : Value} (f : isFlat v = true) (r : RelV v u) : Reads h u (flatD v) [] := by
  cases v with
  | non => cases r; exact .none
  | bl b => cases r; exact .bool b
  | int i => obtain ⟨t, rfl⟩ := r; exact .int i t
  | str x => obtain ⟨t, rfl⟩ := r; exact .str x t
  | _ => cases f
theorem reads_key {P : Program} {w : World} {h : Heap} {k : Key} {u : Value} (r : (mixKind P w).is k u = true) : Reads h u (kD k) [] := by
  rcases keyIs_shape r with ⟨i, t, rfl, rfl⟩ | ⟨x, t, rfl, rfl⟩
  · exact .int i t
  · exact .str x t
theorem reads_dic {P : Program} {w : World} {h : Heap} : ∀ {kvs : List (Key × V)} {vs : List (Key × Value)} {es : List DictEntry}, (kvs.all fun p => isFlat p.2) = true →
    KV kvs vs → Pairs (mixKind P w) es vs →
    ReadsAll h (es.map (·.key)) (kvs.map fun p => kD p.1) [] ∧ ReadsAll h (es.map (·.val)) (kvs.map fun p => flatD p.2) [] := by
  intro kvs vs es f kv pr
  induction pr generalizing kvs with
  | nil =>
    cases kv
    exact ⟨.nil, .nil⟩
  | cons hk hv _ ih =>
    cases kv with
    | cons h1 h2 =>
      simp only [List.all_cons, Bool.and_eq_true] at f
      obtain ⟨i1, i2⟩ := ih f.2 h2
      obtain ⟨e1, e2⟩ := h1
      constructor
      · exact ReadsAll.cons (as := []) (by dsimp only; rw [e1]; exact reads_key hk) i1
      · exact ReadsAll.cons (as := []) (by dsimp only; rw [hv]; exact reads_flat f.1 e2) i2
section
variable {X : Cx} {pins : List (Addr × Obj)} {σ : L2.St} {H : Hp} {s : Shared}
theorem Mix1.reads {v : V} {u : Value} {d : PyData} (I : Inv X pins σ H s) (h : Mix1 H v d) (r : RelV v u) : ∃ as, Reads s.heap u d as ∧ sysModules ∉ as := by
  cases h with
  | flat f => exact ⟨[], reads_flat f r, by simp⟩
  | @dic a kvs ha f =>
    cases r
    obtain ⟨_, ne, vs, kv, o, es, ep, h1, h2, h3, _, h5, _⟩ := I.hok a _ ha
    obtain ⟨q1, q2⟩ := reads_dic (h := s.heap) f kv h5
    refine ⟨_, Reads.dict h1 h2.1 h3 (by simpa only [List.map_map, Function.comp_def] using q1) (by simpa only [List.map_map, Function.comp_def] using q2), ?_⟩
    intro hm
    simp at hm
    simp [hm] at ne
theorem MixAll.reads (I : Inv X pins σ H s) : ∀ {vs : List V} {us : List Value} {ds : List PyData}, MixAll H vs ds → Vals vs us → ∃ as, ReadsAll s.heap us ds as ∧ sysModules ∉ as
  | _, _, _, .nil, .nil => ⟨[], .nil, by simp⟩
  | _, _, _, .cons h t, .cons r rt => by
    obtain ⟨as, q1, n1⟩ := h.reads I r
    obtain ⟨bs, q2, n2⟩ := MixAll.reads I t rt
    exact ⟨_, .cons q1 q2, by simp [n1, n2]⟩
theorem ShD.reads {v : V} {u : Value} {d : PyData} (I : Inv X pins σ H s) (h : ShD X.K H v d)
    (r : RelV v u) : ∃ as, Reads s.heap u d as ∧ (d.hasDict = true → sysModules ∉ as) := by
  cases h with
  | data h =>
    obtain ⟨as, q⟩ := Dp.reads I d v u h r
    exact ⟨as, q, fun z => by rw [Dp.noDict _ _ h] at z; cases z⟩
  | mix h =>
    obtain ⟨as, q, n⟩ := h.reads I r
    exact ⟨as, q, fun _ => n⟩
  | tup hs ha =>
    cases r
    obtain ⟨its, rv, ⟨o, ho, hc, n, hd⟩, _⟩ := I.tuple hs
    obtain ⟨as, hr, ns⟩ := MixAll.reads I ha rv
    exact ⟨_, Reads.tuple ho hc hd hr, fun _ => ns⟩
end
theorem call_repr {X : Cx} (quiet : Quiet X.A) (hu : X.A.units + 64 < cLine) : CallR X (.builtin "repr") (rRepr X.K) := by
  intro pins s σ H xs us Q I r h
  obtain ⟨x, d, rfl, hd, hs, hdep, hz, q⟩ := h
  obtain ⟨u, rfl, ru⟩ := vals1 r
  obtain ⟨as, rd, ns⟩ := hd.reads I ru
  have obj : ∀ a, u = .ref a → wpAny (model X.prog X.w) X.A (call (.builtin "repr") [u]) (EP X pins σ Q) X.xe s := by
    intro a e
    subst e
    exact repr_of_reads' rd hs ns quiet (by omega) (fun _ _ e => e) (fun h' u tk hk => ⟨.str _, H, I.kept hk, ⟨_, rfl⟩, q⟩) hz
  cases rd with
  | none => exact PySem.P.repr_of_none ⟨.str _, H, I.tok _, ⟨_, rfl⟩, q⟩
  | bool b => exact PySem.P.repr_of_bool ⟨.str _, H, I.tok _, ⟨_, rfl⟩, q⟩
  | int i t => exact PySem.P.repr_of_int (by simpa [PyData.showable] using hs) ⟨.str _, H, I.tok _, ⟨_, rfl⟩, q⟩
  | str y t => exact PySem.P.repr_of_str ⟨.str _, H, I.tok _, ⟨_, rfl⟩, q⟩ hz
  | list _ _ _ _ => exact obj _ rfl
  | tuple _ _ _ _ => exact obj _ rfl
  | dict _ _ _ _ _ => exact obj _ rfl
end GL

/-! errors of the text's own with one field, over any base; the first store into such an object; isinstance of a caught one -/
namespace GL
open PySem L2 PySem.Spec PyProof.Rows PySem.W Builtin Builtin.ObjectAttr

section
variable {prog : Program} {w : World} {A : Around} {R : Result → Shared → Prop} {K : Frag} {B : String} {bmB : List Value}
/-- the first attribute of an error -/
theorem first_store {s : Shared} {name : Str} {tk : Tok} {v : Value} {x C t0 : Addr} (SF : StoreFacts B bmB "object.__setattr__" "object") (X : K.In s.heap)
    (hx : s.heap.get? x = some (HandSPX.excO C t0)) (over : excOver K C bmB = true) (tk0 : takerIn K C name = some none) (hd : hasDictIn K C = true)
    (hq : ∀ h' tk' dx, (∀ b o, b ≠ x → s.heap.get? b = some o → h'.get? b = some o) → s.heap.objs.size ≤ dx → dx ≠ x →
      h'.get? x = some { cls := .ref C, dict := some dx, data := .fields #[.ref t0, .none, .none, .none, .bool false, .none] } →
      h'.Ns1 dx (fun y => if y = name then some v else none) → R (.ok (.ret .none)) { s with heap := h', toks := tk' }) :
    codeAny (model prog w) A (.call (.builtin "object.__setattr__") ⟨[.ref x, .str name tk, v], []⟩) R s := by
  refine osa_openX (ox := HandSPX.excO C t0) (od := none) SF X ⟨hx, rfl, rfl, trivial⟩ over tk0 fun b => ?_
  unfold hasDictIn at hd
  obtain ⟨cd, hc, hd'⟩ := any_some hd
  have small : x < s.heap.objs.size := Heap.lt_size hx
  have ne : x ≠ s.heap.objs.size := Nat.ne_of_lt small
  obtain ⟨hp, g, d, t, os⟩ := s
  refine wpAny_bind (wpAny_pure (wpAny_bind (instanceDict_exc (t := t0) (c2 := .none) hx (looks_clsIn X hc) hd' ?_)))
  show wpAny _ _ (storeInDict hp.objs.size (.str name tk) name v) _ _ _
  refine HandSPX.store_in_new ?_ ?_
  · exact ⟨_, #[], _, (Heap.get?_update_ne _ _ _ _ ne.symm).trans (Heap.get?_push_at rfl rfl), rfl, fun e he => absurd he (by simp), fun _ => rfl⟩
  · intro h' tk' hn same
    refine hq h' tk' hp.objs.size (fun b o hb ho => ?_) (Nat.le_refl _) ne.symm ?_ hn
    · exact (same.2 b (Nat.ne_of_lt (Heap.lt_size ho))).trans ((Heap.get?_update_ne _ _ _ _ hb).trans (Heap.get?_push_of_some _ ho))
    · exact (same.2 x ne).trans (Heap.get?_update_self _ (Heap.get?_push_of_some _ hx) rfl)
end

/-- the shape of __init__: the one parameter is stored under its own name -/
structure Init1 (st : Stmt) (qual fld : Str) : Prop where
  body : ∃ q1 q2 q3 q4, defBody st = [.Assign [.Attribute (.Name "self" q1) fld q2] (.Name fld q3) q4]
  n1 : List.lookup (Str.ofString "self") (defScope st).names = some NameKind.local
  n2 : List.lookup fld (defScope st).names = some NameKind.local
  kind : (defScope st).kind = .function
  co : (defScope st).isCoroutine = false
  gen : (defScope st).isGenerator = false
  ne : fld ≠ "self"
  dbg : (fld == ("__debug__" : Str)) = false
  bind : ∀ (doc pm : Value) (an : Option Addr) (cdv ct a v : Value), bindArgs (fnOf "__init__" qual (defArgs st) (defBody st) (defScope st) .none .none doc pm an cdv ct) ⟨[a, v], []⟩ = pure [(Str.ofString "self", a), (fld, v)]
  k1 : ∀ (L f : Addr) (cd : Value), (envOfC qual (defScope st) L f cd).kindOf "self" = some .local
  k2 : ∀ (L f : Addr) (cd : Value), (envOfC qual (defScope st) L f cd).kindOf fld = some .local
  sw : ∀ (L f : Addr) (cd : Value) (q1 q2 q3 q4 : Pos), swapsWith (.Name fld q3) (some (.Attribute (.Name "self" q1) fld q2)) q4.line (envOfC qual (defScope st) L f cd) = pure false

/-- what the text says of an error class x with the one field fld, over the built-in class B -/
structure ErrTxt (K : Frag) (mg : Str → Option Value) (C fI : Addr) (x fld : Str) (B newId : String) (bmB : List Value) : Prop where
  gC : mg x = some (.ref C)
  cls : ∃ nm q N bs bm sn sub ab col dd k0 k1 k2 k3 k5, K.lookup C = some (excClassObj nm q C N bs bm true sn sub ab col dd k0 k1 k2 k3 k5 newId) ∧ excTail bmB bm = true
  FB : ∃ initId, ExcBaseFacts B newId initId bmB
  SF : StoreFacts B bmB "object.__setattr__" "object"
  over : excOver K C bmB = true
  sa : findIn K (.ref C) "__setattr__" = some (some (.builtin "object.__setattr__"))
  ga : findIn K (.ref C) "__getattribute__" = some (some (.builtin "BaseException.__getattribute__"))
  gg : findIn K (.ref C) "__getattr__" = some none
  noN : findIn K (.ref C) fld = some none
  iC : findIn K (.ref C) "__init__" = some (some (.ref fI))
  tC : typeIn K (.ref fI) = some (.type "function")
  kC : keepIn K (.ref C) = true
  exC : subIn K (.ref C) (.type "BaseException") = some true
  tyC : typeIn K (.ref C) = some (.type "type")
  hdC : hasDictIn K C = true
  te : exmOne K (.ref C) (.ref C) = some true
  cc : findIn K (.ref C) "__class__" = some (some (.builtin "object.__class__"))
  cn : specialIn K (.builtin "object.__class__") "__get__" = some (some (.builtin "getset_descriptor.__get__"))
  ct : takesIn K (.builtin "object.__class__") = some true
  cm : mroIn K C (.type "object") = some true
  fn : ∃ (oc : Value) (od : Option Addr) (doc pm : Value) (an : Option Addr) (cdv ct : Value) (osl : Array (Option Value)) (st : Stmt) (qual : Str),
    K.lookup fI = some ⟨oc, od, .func (fnOf "__init__" qual (defArgs st) (defBody st) (defScope st) .none .none doc pm an cdv ct), osl⟩ ∧ codeIn K cdv qual = true ∧ Init1 st qual fld

theorem one_le (v : Value) : [v].length ≤ sizeLine := by
  rw [sizeLine_eq]
  exact (by decide : 1 ≤ 16777216)
/-- what __init__ leaves -/
structure InitLeft (h h' : Heap) (x C dx t1 : Addr) (fld : Str) (v : Value) : Prop where
  keep : ∀ b o, b ≠ x → h.get? b = some o → h'.get? b = some o
  obj : h'.get? x = some { cls := .ref C, dict := some dx, data := .fields #[.ref t1, .none, .none, .none, .bool false, .none] }
  dbig : h.objs.size ≤ dx
  dne : dx ≠ x
  ns : h'.Ns1 dx (fun y => if y = fld then some v else none)
/-- a made error -/
structure ErrMade (h h' : Heap) (e C d : Addr) (fld : Str) (v : Value) : Prop where
  keep : ∀ b o, h.get? b = some o → h'.get? b = some o
  new : h.objs.size ≤ e
  obj : ∃ oe vs, h'.get? e = some oe ∧ oe.cls = .ref C ∧ oe.dict = some d ∧ oe.data = .fields vs ∧ vs[1]? = some .none
  dbig : h.objs.size ≤ d
  dne : d ≠ e
  ns : h'.Ns1 d (fun y => if y = fld then some v else none)
section
variable {prog : Program} {w : World} {A : Around} {E : Value → Shared → Prop} {R : Result → Shared → Prop} {s : Shared} {K : Frag} {mg : Str → Option Value} {C fI : Addr}
  {x fld : Str} {B newId : String} {bmB : List Value}
theorem ld_local {M : Model} {name : Str} {scope : Scope} {L a : Addr} {cd : Value} {m : Str → Option Value} {y : Str} {pos : Pos} {v : Value} {Q : Value → Shared → Prop}
    (hn : s.heap.Ns L m) (hv : m y = some v) (h : Q v s) (hk : scope.kind = .function) (hl : (envOfC name scope L a cd).kindOf y = some .local) (hd : (y == ("__debug__" : Str)) = false) :
    wpAny M A (eval (.Name y pos) (envOfC name scope L a cd)) Q E s := wpAny_Name (wpAny_loadName_local hk hl hn hv h) hd
theorem err_init (T : ErrTxt K mg C fI x fld B newId bmB) {e t0 : Addr} {v : Value} (X : K.In s.heap) (hlim : s.heap.NoLimit) (hx : s.heap.get? e = some (HandSPX.excO C t0))
    (hnx : K.lookup e = none) (hroom : A.depth < recursionLimit)
    (hq : ∀ h' tk dx, InitLeft s.heap h' e C dx t0 fld v → R (.ok (.ret .none)) { s with heap := h', toks := tk }) :
    codeAny (model prog w) A (.call (.ref fI) ⟨[.ref e, v], []⟩) R s := by
  obtain ⟨oc, od, doc, pm, an, cdv, ct, osl, st, qual, ho, hcd, S⟩ := T.fn
  obtain ⟨q1, q2, q3, q4, hbody⟩ := S.body
  refine Att.call_fn (binds := [(Str.ofString "self", .ref e), (fld, v)]) X hlim ho hcd hroom (BindsTo.of_eq (S.bind doc pm an cdv ct (.ref e) v)) ?_ (fun s₁ IC => ?_) S.co S.gen S.kind
  · simp [S.n1, S.n2]
  obtain ⟨h₁, tk₁, rfl⟩ := IC.toInCall.same
  have k : ∀ b o, s.heap.get? b = some o → h₁.get? b = some o := IC.toInCall.keep
  have hn := IC.toInCall.ns
  have neL : s.heap.objs.size ≠ e := Nat.ne_of_gt (Heap.lt_size hx)
  have X₁ : K.In h₁ := X.keeps k
  have hx₁ := k _ _ hx
  rw [hbody]
  refine wpAny_execs_cons (plainObj_wpAny_Assign_Attribute ?_ (S.sw _ _ _ _ _ _ _))
  refine ld_local (v := v) hn ?_ (ld_local (v := .ref e) hn ?_ ?_ S.kind (S.k1 _ _ _) (by decide)) S.kind (S.k2 _ _ _) S.dbg
  · simp [bindL, S.k1, S.k2]
  · simp [bindL, S.k1, S.k2, Ne.symm S.ne]
  refine set_plain X₁ (ox := HandSPX.excO C t0) (od := none) ⟨hx₁, rfl, rfl, trivial⟩ T.sa ?_
  refine first_store (s := ⟨h₁, s.gens, s.drawn, tk₁ + 1, s.os⟩) T.SF X₁ hx₁ T.over (by unfold takerIn; rw [T.noN]; rfl) T.hdC (fun h₃ tk₃ dx k₃ dn dne hx₃ hn₃ => ?_)
  show wpAny _ _ (execs _ _) _ _ _
  have z : s.heap.objs.size < h₁.objs.size := hn.lt
  exact wpAny_execs_nil (hq h₃ tk₃ dx ⟨fun b o hb q => k₃ b o hb (k b o q), hx₃, Nat.le_of_lt (Nat.lt_of_lt_of_le z dn), dne, hn₃⟩)
theorem err_made (T : ErrTxt K mg C fI x fld B newId bmB) {v : Value} (X : K.In s.heap) (hlim : s.heap.NoLimit) (hroom : A.depth + 1 < recursionLimit)
    (hq : ∀ h' tk e d, ErrMade s.heap h' e C d fld v → R (.ok (.ret (.ref e))) { s with heap := h', toks := tk }) :
    codeAny (model prog w) A (.call (.ref C) ⟨[v], []⟩) R s := by
  obtain ⟨nm, q, N, bs, bm, sn, sub, ab, col, dd, k0, k1, k2, k3, k5, hC, hbm⟩ := T.cls
  obtain ⟨initId, FB⟩ := T.FB
  obtain ⟨hp, g, dr, tk, os⟩ := s
  have k : ∀ b o, hp.get? b = some o → ((hp.push (kdv_tup [v])).push (HandSPX.excO C hp.objs.size)).get? b = some o := fun b o q =>
    Heap.get?_push_of_some _ (Heap.get?_push_of_some _ q)
  have here : ((hp.push (kdv_tup [v])).push (HandSPX.excO C hp.objs.size)).get? (hp.objs.size + 1) = some (HandSPX.excO C hp.objs.size) := by heap_get
  have fresh : K.lookup (hp.objs.size + 1) = none := by
    cases q : K.lookup (hp.objs.size + 1) with
    | none => rfl
    | some o => exact absurd (Nat.lt_of_succ_lt (Heap.lt_size (X _ _ q : hp.get? (hp.objs.size + 1) = some o))) (Nat.lt_irrefl _)
  refine HandSPX.call_own FB (fun Y => excTail_contains Y bm hbm) (X _ _ hC) (looks_findIn X T.iC) (fun self => bind_fn X self T.tC) (one_le v) ?_
  refine err_init (s := ⟨(hp.push (kdv_tup [v])).push (HandSPX.excO C hp.objs.size), g, dr, tk, os⟩) T (X.keeps k) (hlim.keeps k) here fresh ?_ ?_
  · exact hroom
  · rintro h' tk' dx ⟨k', hx, dn, dne, hns⟩
    have big : hp.objs.size + 1 + 1 ≤ dx := by
      have q := dn
      rw [Heap.size_push, Heap.size_push] at q
      exact q
    refine ⟨rfl, hq h' tk' (hp.objs.size + 1) dx ⟨fun b o q => ?_, Nat.le_succ _, ⟨_, _, hx, rfl, rfl, rfl, rfl⟩, Nat.le_trans (Nat.le_trans (Nat.le_succ _) (Nat.le_succ _)) big, dne, hns⟩⟩
    exact k' b o (Nat.ne_of_lt (Nat.lt_succ_of_lt (Heap.lt_size q))) (k b o q)
end

theorem relO_one {fld : Str} {v : V} {v' : Value} (r : RelV v v') (f : Str) : RelO (List.lookup f [(fld, v)]) (if f = fld then some v' else none) := by
  by_cases hw : f = fld
  · subst hw
    rw [if_pos rfl]
    simp only [List.lookup, BEq.rfl]
    exact r
  · rw [if_neg hw]
    have q : (f == fld) = false := by simpa using hw
    simp only [List.lookup, q]
    trivial
section
variable {X : Cx} {C fI : Addr} {x fld : Str} {B newId : String} {bmB : List Value}
/-- x(e), an error's making -/
def tErr (C : Addr) (fld : Str) (ta : TA) : L2.St → Hp → XK → Prop := fun σ H Q => ta σ H fun vs H1 => ∃ v, vs = [v] ∧ ∀ d, H1 d = none → Q (.ref C) (some d) (upd H1 d (.xd [(fld, v)]))
theorem pmk_err {a : Expr} {ta : TA} {p pos : Pos} {k : Nat} (T : ErrTxt X.K X.mg C fI x fld B newId bmB) (hr : Room k X.A) (ha : PA X [a] ta) (hg : Gl X x := by rfl)
    (hdb : (x == ("__debug__" : Str)) = false := by decide)
    (he : starEach (a :: []) X.env = (false, eval a X.env) :: starEach [] X.env := by rfl) (hpl : (backTo pos (starEach [] X.env)).any (·.1) = false := by rfl) :
    PMk X (.Call (.Name x p) [a] [] pos) (tErr C fld ta) := by
  intro pins s σ H Q I h
  refine wpAny_Call_Name_kw (ld_glob I hg T.gC ?_ hdb)
  refine callWith_K (h₀ := X.base) I.ok.mod.kin T.kC (thn (ha.run pos pins s σ H _ I h) ?_) he hpl
  rintro us s1 ⟨vs, H1, I1, r1, v, ev, q1⟩
  subst ev
  refine ⟨I1.kIn, ?_⟩
  obtain ⟨v', rfl, rv⟩ := vals1 r1
  show wpAny _ _ (call (.ref C) [v']) _ _ _
  have hlim := I1.nolimit
  have room : X.A.depth + 1 < recursionLimit := by
    have := hr.dp
    omega
  obtain ⟨hp, g, dr, tk, os⟩ := s1
  refine wpAny_call (err_made T I1.kIn hlim room ?_)
  intro h' tk' e d M
  show MkP X pins σ Q (.ref e) ⟨h', g, dr, tk', os⟩
  obtain ⟨oe, fv, hoe, hc, hd, hdat, h1⟩ := M.obj
  obtain ⟨G', g1, g2⟩ := restrict h' fun b => decide (b ≠ e)
  have gk : ∀ b, b ≠ e → G'.get? b = h'.get? b := fun b hb => g1 b (decide_eq_true hb)
  have ge : G'.get? e = none := g2 e (by simp)
  have old : ∀ b o, hp.get? b = some o → G'.get? b = some o := fun b o q =>
    (gk b (Nat.ne_of_lt (Nat.lt_of_lt_of_le (Heap.lt_size q) M.new))).trans (M.keep b o q)
  have hns := M.ns
  have laid : ObjOk X.prog X.w (upd H1 d (.xd [(fld, v)])) G' d (.xd [(fld, v)]) :=
    ⟨_, hns.at (fun o q => (gk d M.dne).trans q), fun f => relO_one rv f⟩
  have J : Inv X pins σ (upd H1 d (.xd [(fld, v)])) ⟨G', g, dr, tk', os⟩ := I1.laid (t' := tk') old M.dbig laid
  refine ⟨e, oe, fv, ⟨G', g, dr, tk', os⟩, _, .ref C, some d, rfl, J, ?_, ge, hoe, ⟨hc, hd⟩, hdat, h1, ?_, rfl, I1.bare, raises_own T.exC T.tyC, q1 d (I1.hok.fresh M.dbig)⟩
  · intro b o q
    have q' : G'.get? b = some o := q
    by_cases hb : b = e
    · rw [hb, ge] at q'
      cases q'
    · exact (gk b hb).symm.trans q'
  · rw [upd_ne (Ne.symm M.dne)]
    exact I1.hok.fresh M.new
/-- raise x(e) -/
def tRaiseErr (C : Addr) (fld : Str) (W : WX) (ta : TA) : TS := fun _ σ H => tErr C fld ta σ H fun cls d H' => W cls d σ H'
theorem ps_raiseErr {a : Expr} {ta : TA} {W : WX} {p pos pos2 : Pos} {k : Nat} (hc : X.calm = true) (T : ErrTxt X.K X.mg C fI x fld B newId bmB) (hr : Room k X.A)
    (tk : Takes X W) (ha : PA X [a] ta) (hg : Gl X x := by rfl) (hdb : (x == ("__debug__" : Str)) = false := by decide)
    (he : starEach (a :: []) X.env = (false, eval a X.env) :: starEach [] X.env := by rfl) (hpl : (backTo pos (starEach [] X.env)).any (·.1) = false := by rfl) :
    PS X (.Raise (some (.Call (.Name x p) [a] [] pos)) none pos2) (tRaiseErr C fld W ta) := ps_raise hc tk (pmk_err T hr ha hg hdb he hpl)
/-- e.fld, e the error that the suite holds (at a; its class cls, its dict d) -/
def tErrFld (C : Addr) (fld : Str) (a : Addr) (cls : Value) (d : Option Addr) (te : TE) : TE := fun σ H Q => te σ H fun x H1 => x = .ref a ∧ cls = .ref C ∧ ∃ (dd : Addr) (v : V), d = some dd ∧
  H1 dd = some (.xd [(fld, v)]) ∧ Q v H1
theorem pe_errFld {a : Addr} {oe : Obj} {cls : Value} {d : Option Addr} {pn : List (Addr × Obj)} {e : Expr} {te : TE} {pos : Pos} (T : ErrTxt X.K X.mg C fI x fld B newId bmB)
    (hz : Zc cls d oe) (hf : ∃ vs, oe.data = .fields vs) (he : PE (X.suite a ((a, oe) :: pn)) e te)
    (hb : attributeBase e fld X.env (eval e X.env) = eval e X.env := by rfl) :
    PE (X.suite a ((a, oe) :: pn)) (.Attribute e fld pos) (tErrFld C fld a cls d te) := by
  constructor
  intro pins s σ H Q I h
  refine attr_of hb (thn (he.run pins s σ H _ I h) ?_)
  rintro u s1 ⟨y, H1, I1, ry, ey, ec, dd, v, ed, ea, q⟩
  subst ey ec ed
  obtain rfl : u = Value.ref a := ry
  obtain ⟨ha, _⟩ := I1.pin (a, oe) (List.mem_append_left _ List.mem_cons_self)
  obtain ⟨vs, hd⟩ := hf
  obtain ⟨mA, hns, hr⟩ := (show ObjOk X.prog X.w H1 s1.heap dd (.xd [(fld, v)]) from I1.hok dd _ ea)
  obtain ⟨od, ho, hl⟩ := lookIn_ns hns
  have l : List.lookup fld [(fld, v)] = some v := by simp [List.lookup]
  obtain ⟨u, hu, ru⟩ := RelO.some_of (v := v) (o := mA fld) (by rw [← l]; exact hr fld)
  have J : W.InstAt s1.heap a oe C (some od) := ⟨ha, hz.1, by unfold notCls; rw [hd] <;> rfl, by rw [hz.2]; exact ho⟩
  exact HandSPX.exc_get I1.kIn J T.ga T.gg T.exC (findObj_own T.hdC T.noN rfl (by rw [hl, hu])) (handed_of ru) ⟨v, H1, I1.tok _, ru, q⟩
/-- isinstance(e, c), e the error that the suite holds -/
def rErrIs (K : Frag) (C a : Addr) (cls : Value) (d : Option Addr) : List V → Hp → VK → Prop := fun xs H Q => ∃ (c : V) (u : Value) (b : Bool) (dd : Addr) (v : V) (fld : Str), xs = [.ref a, c] ∧ cls = .ref C ∧ d = some dd ∧
  H dd = some (.xd [(fld, v)]) ∧ ClsV c u ∧ kitOne K (.ref C) u = some b ∧ Q (.bl b) H
theorem call_errIs {a : Addr} {oe : Obj} {cls : Value} {d : Option Addr} {pn : List (Addr × Obj)} (T : ErrTxt X.K X.mg C fI x fld B newId bmB)
    (hz : Zc cls d oe) (hf : ∃ vs, oe.data = .fields vs) : CallR (X.suite a ((a, oe) :: pn)) (.builtin "isinstance") (rErrIs X.K C a cls d) := by
  intro pins s σ H xs us Q I r h
  obtain ⟨c, u, b, dd, v, fld, rfl, ec, ed, ea, k, e, q⟩ := h
  subst ec ed
  obtain ⟨u1, u2, rfl, r1, r2⟩ := vals2 r
  cases (show u1 = Value.ref a from r1)
  have e2 := k.eq r2
  subst e2
  obtain ⟨ha, _⟩ := I.pin (a, oe) (List.mem_append_left _ List.mem_cons_self)
  obtain ⟨vs, hd⟩ := hf
  obtain ⟨mA, hns, hr⟩ := (show ObjOk X.prog X.w H s.heap dd (.xd [(fld, v)]) from I.hok dd _ ea)
  obtain ⟨od, ho, hl⟩ := lookIn_ns hns
  have J : W.InstAt s.heap a oe C (some od) := ⟨ha, hz.1, by unfold notCls; rw [hd] <;> rfl, by rw [hz.2]; exact ho⟩
  have ic : (clsIn X.K C).isSome = true := by
    have h0 := T.hdC
    unfold hasDictIn at h0
    obtain ⟨cd, hc, _⟩ := any_some h0
    rw [hc]
    rfl
  exact kia_one (kitx_exc ic T.ga T.gg T.exC T.cc T.cn T.ct T.cm) I.kIn J e (fun z => nomatch z) fun tk => ⟨.bl b, H, I.tok tk, rfl, q⟩
end
end GL

/-! a def of the text with its name; operators on great integers; what kind a value is -/
namespace GL
open PySem L2 PySem.Spec PyProof.Rows

/-- a def of the text: where it stands, what its name holds, how its arguments bind -/
structure Df (K : PySem.W.Frag) (mg : Str → Option Value) (x : Str) (st : Stmt) (ps : List Str) (f : Addr) (fd : FuncData) : Prop where
  F : Fun K x x st f fd
  g : mg x = some (.ref f)
  b : Binds K fd ps []

section
variable {X : Cx}
theorem iop_mulW : OpR X (inplaceOp .Mult) (rI CMulW fun i j => .int (i * j)) := opI fun _ _ _ _ _ _ _ hc q => imul_int q hc.ok
/-- i ** j, together below 2 ^ 27 bits -/
def CPowW (i j : Int) : Prop := 0 ≤ j ∧ (Builtin.Int.intBits i : Int) * j ≤ 2 ^ 27
theorem op_powW : OpR X (binaryOp .Pow) (rI CPowW fun i j => .int (i ^ j.toNat)) := opI fun _ _ _ _ _ _ _ hc q => pow_int hc.1 hc.2 q
end

/-- what stands at a value, as far as isinstance(.., int), (.., bool), (.., tuple) see it; an integer's value -/
inductive Kd (K : PySem.W.Frag) (H : Hp) : V → Option Int → Prop
  | non : Kd K H .non none
  | bl (b : Bool) : Kd K H (.bl b) none
  | int (i : Int) : Kd K H (.int i) (some i)
  | str (x : Str) : Kd K H (.str x) none
  | lst {a : Addr} {xs : List V} : SqL K H a xs → Kd K H (.ref a) none
  | tup {a : Addr} {xs : List V} : SqT K H a xs → Kd K H (.ref a) none
  | dic {a : Addr} {kvs : List (Key × V)} : H a = some (.dK kvs) → Kd K H (.ref a) none
theorem tyx_lst {K : PySem.W.Frag} {H : Hp} {a : Addr} {xs : List V} (h : SqL K H a xs) : TyX K H (.ref a) (.type "list") := by
  rcases h with (h | ⟨o, h⟩) | ⟨o, its, n, h1, h2, _⟩
  · exact .base (.lst h)
  · exact .base (.frz h)
  · exact .kList h1 h2
theorem tyx_tup {K : PySem.W.Frag} {H : Hp} {a : Addr} {xs : List V} (h : SqT K H a xs) : TyX K H (.ref a) (.type "tuple") := by
  rcases h with (h | ⟨o, h⟩) | ⟨o, its, n, h1, h2, _⟩
  · exact .base (.tup h)
  · exact .fTuple h
  · exact .kTuple h1 h2
/-- the two questions of «an integer that is no bool» -/
theorem Kd.ask {K : PySem.W.Frag} {H : Hp} {v : V} {o : Option Int} (h : Kd K H v o) : ∃ t b1 b2, TyX K H v (.type t) ∧ kitB t "int" = some b1 ∧ kitB t "bool" = some b2 ∧ (b1 && !b2) = o.isSome := by
  cases h with
  | non => exact ⟨"NoneType", false, false, .base .non, by decide +kernel, by decide +kernel, rfl⟩
  | bl b => exact ⟨"bool", true, true, .base (.bl b), by decide +kernel, by decide +kernel, rfl⟩
  | int i => exact ⟨"int", true, false, .base (.int i), by decide +kernel, by decide +kernel, rfl⟩
  | str x => exact ⟨"str", false, false, .base (.str x), by decide +kernel, by decide +kernel, rfl⟩
  | lst h => exact ⟨"list", false, false, tyx_lst h, by decide +kernel, by decide +kernel, rfl⟩
  | tup h => exact ⟨"tuple", false, false, tyx_tup h, by decide +kernel, by decide +kernel, rfl⟩
  | dic h => exact ⟨"dict", false, false, .base (.dK h), by decide +kernel, by decide +kernel, rfl⟩
theorem Kd.int_of {K : PySem.W.Frag} {H : Hp} {v : V} {i : Int} (h : Kd K H v (some i)) : v = .int i := by cases h; rfl
/-- an integer's value in data -/
def intD : PyData → Option Int
  | .int i => some i
  | _ => none
theorem Dp.kd {K : PySem.W.Frag} {H : Hp} {v : V} {d : PyData} (h : Dp K H v d) : Kd K H v (intD d) := by
  cases h with
  | non => exact .non
  | bl b => exact .bl b
  | int i => exact .int i
  | str x => exact .str x
  | lst h _ => exact .lst h
  | tup h _ => exact .tup h
theorem Mix1.kd {K : PySem.W.Frag} {H : Hp} {v : V} {d : PyData} (h : Mix1 H v d) : Kd K H v (intD d) := by
  cases h with
  | flat f =>
    cases v with
    | non => exact .non
    | bl b => exact .bl b
    | int i => exact .int i
    | str x => exact .str x
    | _ => cases f
  | dic h _ => exact .dic h
/-- the items of a tuple, by their data -/
inductive KdAll (K : PySem.W.Frag) (H : Hp) : List V → List PyData → Prop
  | nil : KdAll K H [] []
  | cons {v : V} {vs : List V} {d : PyData} {ds : List PyData} : Kd K H v (intD d) → KdAll K H vs ds → KdAll K H (v :: vs) (d :: ds)
theorem kdAll_dp {K : PySem.W.Frag} {H : Hp} : ∀ {vs : List V} {ds : List PyData}, DpAll K H vs ds → KdAll K H vs ds
  | _, _, .nil => .nil
  | _, _, .cons h t => .cons (Dp.kd h) (kdAll_dp t)
theorem kdAll_mix {K : PySem.W.Frag} {H : Hp} : ∀ {vs : List V} {ds : List PyData}, MixAll H vs ds → KdAll K H vs ds
  | _, _, .nil => .nil
  | _, _, .cons h t => .cons (Mix1.kd h) (kdAll_mix t)
theorem kdAll_len {K : PySem.W.Frag} {H : Hp} : ∀ {xs : List V} {ds : List PyData}, KdAll K H xs ds → xs.length = ds.length
  | _, _, .nil => rfl
  | _, _, .cons _ t => congrArg Nat.succ (kdAll_len t)
theorem kdAll_two {K : PySem.W.Frag} {H : Hp} {xs : List V} {ds : List PyData} (h : KdAll K H xs ds) (h2 : ds.length = 2) :
    ∃ x y d e, xs = [x, y] ∧ ds = [d, e] ∧ Kd K H x (intD d) ∧ Kd K H y (intD e) := by
  cases h with
  | nil => cases h2
  | cons h1 t =>
    cases t with
    | nil => cases h2
    | cons g1 t =>
      cases t with
      | nil => exact ⟨_, _, _, _, rfl, rfl, h1, g1⟩
      | cons _ _ => simp at h2
/-- isinstance(v, tuple) -/
theorem tuple_ask {K : PySem.W.Frag} {H : Hp} {v : V} {d : PyData} (h : ShD K H v d) :
    (∃ a xs ds, v = .ref a ∧ SqT K H a xs ∧ KdAll K H xs ds ∧ d = .tuple ds ∧ TyX K H v (.type "tuple")) ∨
    (∃ t, TyX K H v (.type t) ∧ kitB t "tuple" = some false ∧ ∀ ds, d ≠ .tuple ds) := by
  cases h with
  | data h =>
    cases h with
    | non => exact .inr ⟨"NoneType", .base .non, by decide +kernel, fun _ z => nomatch z⟩
    | bl b => exact .inr ⟨"bool", .base (.bl b), by decide +kernel, fun _ z => nomatch z⟩
    | int i => exact .inr ⟨"int", .base (.int i), by decide +kernel, fun _ z => nomatch z⟩
    | str x => exact .inr ⟨"str", .base (.str x), by decide +kernel, fun _ z => nomatch z⟩
    | lst h _ => exact .inr ⟨"list", tyx_lst h, by decide +kernel, fun _ z => nomatch z⟩
    | tup h g => exact .inl ⟨_, _, _, rfl, h, kdAll_dp g, rfl, tyx_tup h⟩
  | mix h =>
    cases h with
    | flat f =>
      cases v with
      | non => exact .inr ⟨"NoneType", .base .non, by decide +kernel, fun _ z => nomatch z⟩
      | bl b => exact .inr ⟨"bool", .base (.bl b), by decide +kernel, fun _ z => nomatch z⟩
      | int i => exact .inr ⟨"int", .base (.int i), by decide +kernel, fun _ z => nomatch z⟩
      | str x => exact .inr ⟨"str", .base (.str x), by decide +kernel, fun _ z => nomatch z⟩
      | _ => cases f
    | dic h _ => exact .inr ⟨"dict", .base (.dK h), by decide +kernel, fun _ z => nomatch z⟩
  | tup h g => exact .inl ⟨_, _, _, rfl, h, kdAll_mix g, rfl, tyx_tup h⟩
/-- data stays where all that was tracked stays -/
theorem sqT_same {K : PySem.W.Frag} {H H' : Hp} {a : Addr} {xs : List V} (e : Same H H') (h : SqT K H a xs) : SqT K H' a xs := by
  rcases h with (h | ⟨o, h⟩) | h
  · exact .inl (.inl (e _ _ h))
  · exact .inl (.inr ⟨o, e _ _ h⟩)
  · exact .inr h
theorem dp_same {K : PySem.W.Frag} {H H' : Hp} (e : Same H H') {v : V} {d : PyData} (h : Dp K H v d) : Dp K H' v d := by
  induction h using Dp.rec (motive_2 := fun vs ds _ => DpAll K H' vs ds) with
  | non => exact .non
  | bl b => exact .bl b
  | int i => exact .int i
  | str x => exact .str x
  | lst h _ ih => exact .lst (e.seq h) ih
  | tup h _ ih => exact .tup (sqT_same e h) ih
  | nil => exact .nil
  | cons _ _ h1 h2 => exact .cons h1 h2
theorem mix_same {H H' : Hp} (e : Same H H') {v : V} {d : PyData} (h : Mix1 H v d) : Mix1 H' v d := by
  cases h with
  | flat f => exact .flat f
  | dic h f => exact .dic (e _ _ h) f
theorem mixAll_same {H H' : Hp} (e : Same H H') : ∀ {vs : List V} {ds : List PyData}, MixAll H vs ds → MixAll H' vs ds
  | _, _, .nil => .nil
  | _, _, .cons h t => .cons (mix_same e h) (mixAll_same e t)
theorem shd_same {K : PySem.W.Frag} {H H' : Hp} (e : Same H H') {v : V} {d : PyData} (h : ShD K H v d) : ShD K H' v d := by
  cases h with
  | data h => exact .data (dp_same e h)
  | mix h => exact .mix (mix_same e h)
  | tup h g => exact .tup (sqT_same e h) (mixAll_same e g)
theorem same_new {H H' : Hp} {p : Addr} {o : HO} (s : Same H H') (h : H p = none) : Same H (upd H' p o) := fun b u e => by
  rw [upd_ne (fun z => by rw [z, h] at e; cases e)]
  exact s b u e
section
variable {X : Cx}
/-- xs != [], xs == [] -/
def rNeNil (K : PySem.W.Frag) : R2 := fun x y H Q => ∃ a b xs, x = .ref a ∧ y = .ref b ∧ SqL K H a xs ∧ SqL K H b [] ∧ Q (.bl (!xs.isEmpty)) H
def rEqNil (K : PySem.W.Frag) : R2 := fun x y H Q => ∃ a b xs, x = .ref a ∧ y = .ref b ∧ SqL K H a xs ∧ SqL K H b [] ∧ Q (.bl xs.isEmpty) H
theorem op_neNil (hu : X.A.units + 1 < cLine) : OpR X (compareOp .NotEq) (rNeNil X.K) := by
  intro pins s σ H x y v u Q I rx ry h
  obtain ⟨a, b, xs, rfl, rfl, ha, hb, q⟩ := h
  cases rx
  cases ry
  obtain ⟨its, rv, ⟨o, n, ho, hc, _, hd⟩, _⟩ := I.list ha
  obtain ⟨its2, rv2, ⟨o2, n2, ho2, hc2, _, hd2⟩, _⟩ := I.list hb
  cases rv2
  have l1 : s.heap.IsList a its.toArray := ⟨_, ho, hc, n, hd⟩
  have l2 : s.heap.IsList b #[] := ⟨_, ho2, hc2, n2, hd2⟩
  cases rv with
  | nil => exact SeqAt.RcNeAt.lists l1 l2 rfl (by omega) (e := fun _ => true) (fun j h => absurd h (by simp)) _ _ _ _ ⟨.bl _, H, I, rfl, q⟩
  | cons r t => exact SeqAt.RcNeAt.lists_lengths l1 l2 (by simp) (by omega) _ _ _ _ ⟨.bl _, H, I, rfl, q⟩
theorem op_eqNil (hu : X.A.units + 1 < cLine) : OpR X (compareOp .Eq) (rEqNil X.K) := by
  intro pins s σ H x y v u Q I rx ry h
  obtain ⟨a, b, xs, rfl, rfl, ha, hb, q⟩ := h
  cases rx
  cases ry
  obtain ⟨its, rv, ⟨o, n, ho, hc, _, hd⟩, _⟩ := I.list ha
  obtain ⟨its2, rv2, ⟨o2, n2, ho2, hc2, _, hd2⟩, _⟩ := I.list hb
  cases rv2
  have l1 : s.heap.IsList a its.toArray := ⟨_, ho, hc, n, hd⟩
  have l2 : s.heap.IsList b #[] := ⟨_, ho2, hc2, n2, hd2⟩
  cases rv with
  | nil => exact SeqAt.eq_listAt l1 l2 rfl (by omega) (e := fun _ => true) (fun j h => absurd h (by simp)) ⟨.bl _, H, I, rfl, q⟩
  | cons r t => exact SeqAt.eq_list_lengthsAt l1 l2 (by simp) (by omega) ⟨.bl _, H, I, rfl, q⟩
end
section
variable {c A B : Prop} [Decidable c]
theorem ifD (hc : c) (h : A) : if decide c = true then A else B := by
  rw [decide_eq_true hc]
  exact iteT h
theorem ifDn (hc : ¬ c) (h : B) : if decide c = true then A else B := by
  rw [decide_eq_false hc]
  exact iteF h
theorem ifN (hc : ¬ c) (h : A) : if (!decide c) = true then A else B := by
  rw [decide_eq_false hc]
  exact iteT h
theorem ifNn (hc : c) (h : B) : if (!decide c) = true then A else B := by
  rw [decide_eq_true hc]
  exact iteF h
end
theorem vI {i j : Int} (h : i = j) : V.int i = V.int j := congrArg _ h
theorem vIn {i j : Int} (h : ¬ i = j) : ¬ V.int i = V.int j := fun z => h (V.int.inj z)
end GL

/-! an int times a list -/
namespace GL
open PySem L2 PySem.Spec PyProof.Rows
section
variable {X : Cx}
def rRepR : R2 := fun x y H Q => rRep y x H Q
theorem op_repR : OpR X (binaryOp .Mult) rRepR := by
  intro pins s σ H x y v u Q I rx ry g
  obtain ⟨l, k, xs, rfl, rfl, hH, k1, k2, room, q⟩ := g
  cases ry
  obtain ⟨t, rfl⟩ := rx
  obtain ⟨z, its, n, r, hl, e⟩ := I.lstM hH
  have room' : its.toArray.size * k.toNat ≤ sizeLine := by simpa [List.size_toArray, ← hl] using room
  have cap : ¬ its.toArray.size * k.toNat > (2 ^ 63 - 1) / 8 := Nat.not_lt.mpr (Nat.le_trans room' (by decide))
  have fit : ¬ (!Builtin.List.listFitsIndex k) = true := by simp [fitsIndex_both k1 k2]
  have long : ¬ Builtin.List.listTooLong (its.toArray.size * k.toNat) = true := by rw [notLongL room']; exact Bool.false_ne_true
  have new : (List.replicate (if its.toArray.isEmpty = true then 0 else k.toNat) its.toArray).foldl (· ++ ·) #[] = (List.replicate k.toNat its).flatten.toArray :=
    (size_rep its _).trans (by cases its <;> simp)
  have ans := AutoListH.list___mul___list_int_3 l its.toArray n k t fit cap long
  have road := int___mul___int_list k t l its.toArray n
  have ty : s.TypeIs (.ref l) "list" := ⟨_, e, rfl⟩
  apply lm_binaryOp_repeat_right (T := "list") (U := "int") (by decide) (fun w => typeIs_int w k t) ty F.fills_int_mul noFill_list_mul F.slot_int_mul lm_noRepeat_int repeat_list F.slot_int_index.lookup
  apply call_meets F.slot_int_mul (typeIs_int s k t) F.entry_int_mul (F.args_int_mul_2 _ _) road
  refine ⟨e, rfl, ty, ?_⟩
  apply call_meets F.slot_list_mul ty F.entry_list_mul (F.args_list_mul_2 _ _) ans
  refine ⟨e, ?_⟩
  rw [new]
  have len : (List.replicate k.toNat xs).flatten.length ≤ sizeLine := by
    rw [lm_len_rep_flat, Nat.mul_comm]; exact room
  exact ⟨.ref _, _, I.lnew (t' := s.toks) (r.rep k.toNat) len, rfl, q _ I.fresh⟩
end
end GL

/-! data that repr shows within the line -/
namespace GL
open PySem L2 PySem.Spec PyProof.Rows

/-- shown within the line: its depth and its bulk -/
structure Sw (d : PyData) (k b : Nat) : Prop where
  sh : d.showable = true
  lf : d.leavesShort 1921 = true
  dp : d.depth ≤ k
  bk : d.bulk ≤ b
structure SwAll (ds : List PyData) (k b : Nat) : Prop where
  sh : PyData.showableAll ds = true
  lf : PyData.leavesShortAll 1921 ds = true
  dp : PyData.depthAll ds ≤ k
  bk : PyData.bulkAll ds ≤ b
theorem Sw.none : Sw .none 0 0 := ⟨rfl, rfl, Nat.le_refl _, Nat.le_refl _⟩
theorem Sw.bool (b : Bool) : Sw (.bool b) 0 0 := ⟨rfl, rfl, Nat.le_refl _, Nat.le_refl _⟩
theorem Sw.int {i : Int} (h : i.natAbs < 2 ^ 1900) : Sw (.int i) 0 0 := by
  have l : i.natAbs.log2 < 1920 := Nat.lt_of_lt_of_le (PySem.Flt.log2_lt_of (by decide) h) (by decide)
  refine ⟨?_, ?_, Nat.le_refl _, Nat.le_refl _⟩
  · simpa only [PyData.showable, decide_eq_true_eq] using l
  · exact decide_eq_true (int_text_len_1921 l)
theorem Sw.str {x : Str} (h : (x.cps.toList.all fun c => decide (c < 16 ^ 8)) = true) : Sw (.str x) 0 x.cps.size := ⟨rfl, h, Nat.le_refl _, Nat.le_refl _⟩
theorem SwAll.nil : SwAll [] 0 0 := ⟨rfl, rfl, Nat.le_refl _, Nat.le_refl _⟩
theorem SwAll.cons {d : PyData} {ds : List PyData} {k b k' b' : Nat} (h : Sw d k b) (t : SwAll ds k' b') : SwAll (d :: ds) (max k k') (b + 1 + b') := by
  refine ⟨?_, ?_, ?_, ?_⟩
  · simp only [PyData.showableAll, h.sh, t.sh, Bool.and_self]
  · simp only [PyData.leavesShortAll, h.lf, t.lf, Bool.and_self]
  · have h1 := h.dp
    have h2 := t.dp
    simp only [PyData.depthAll]
    omega
  · have h1 := h.bk
    have h2 := t.bk
    simp only [PyData.bulkAll]
    omega
theorem Sw.tuple {ds : List PyData} {k b : Nat} (t : SwAll ds k b) : Sw (.tuple ds) (k + 1) b := by
  refine ⟨?_, ?_, ?_, ?_⟩
  · simpa only [PyData.showable] using t.sh
  · simpa only [PyData.leavesShort] using t.lf
  · have h := t.dp
    simp only [PyData.depth]
    omega
  · simpa only [PyData.bulk] using t.bk
theorem Sw.list {ds : List PyData} {k b : Nat} (t : SwAll ds k b) : Sw (.list ds) (k + 1) b := by
  refine ⟨?_, ?_, ?_, ?_⟩
  · simpa only [PyData.showable] using t.sh
  · simpa only [PyData.leavesShort] using t.lf
  · have h := t.dp
    simp only [PyData.depth]
    omega
  · simpa only [PyData.bulk] using t.bk
theorem Sw.nodict : Sw (.dict []) 1 0 := ⟨rfl, rfl, by simp [PyData.depth, PyData.depthKv], by simp [PyData.bulk, PyData.bulkKv]⟩
theorem Sw.up {d : PyData} {k b k' b' : Nat} (h : Sw d k b) (hk : k ≤ k') (hb : b ≤ b') : Sw d k' b' := ⟨h.sh, h.lf, Nat.le_trans h.dp hk, Nat.le_trans h.bk hb⟩
theorem Sw.len {d : PyData} {k b : Nat} (h : Sw d k b) (hb : b ≤ 5000) : d.shown.length ≤ sizeLine := by
  have e := PyData.shown_le_bulk 1921 (by decide) d h.lf
  have e2 := h.bk
  have e3 : (1921 + 2) * d.bulk ≤ (1921 + 2) * 5000 := Nat.mul_le_mul_left _ (Nat.le_trans e2 hb)
  rw [sizeLine_eq]
  omega
/-- a value that repr shows -/
def Good (K : PySem.W.Frag) (H : Hp) (v : V) : Prop := ∃ d k b, ShD K H v d ∧ Sw d k b ∧ k ≤ 60 ∧ b ≤ 5000
theorem good_same {K : PySem.W.Frag} {H H' : Hp} (e : Same H H') {v : V} (g : Good K H v) : Good K H' v := by
  obtain ⟨d, k, b, h, s, hk, hb⟩ := g
  exact ⟨d, k, b, shd_same e h, s, hk, hb⟩

/-- x == y, x an instance of the class at C with the text's own == -/
def rInsEq (K : PySem.W.Frag) (C : Addr) (sp : Sp) (E : XK) : R2 := fun x y H Q => ∃ a dx fs tb, x = .ref a ∧ H a = some (.ins C dx fs) ∧ TyX K H y tb ∧ PySem.W.notFirst K C tb = true ∧ sp [x, y] H Q E
theorem op_insEq {X : Cx} {cx : CXT} {k : Nat} {C f : Addr} {fd : FuncData} {ps : List Str} {sp : Sp} {E : XK} (F : FnOk X.prog X.w X.K X.mg X.base cx k f fd ps sp) (hr : Room k X.A)
    (hs : PySem.W.findIn X.K (.ref C) "__eq__" = some (some (.ref f))) (hf : PySem.W.isFn X.K (.ref f) = true) (hb : Binds X.K fd ps []) (hx : Passes cx X E) (hu : X.A.units < cLine) :
    OpR X (compareOp .Eq) (rInsEq X.K C sp E) := by
  intro pins s σ H x y v u Q I rx ry h
  obtain ⟨a, dx, fs, tb, rfl, ha, ty, nf, hsp⟩ := h
  cases rx
  obtain ⟨mA, J0, _⟩ := ins_get I.hok ha
  obtain ⟨od, J, _⟩ := J0.look
  obtain ⟨m, hF⟩ := I.fr
  obtain ⟨P, Z, p, _⟩ := kit_of I ry ty
  show wpAny _ _ (richCompare .Eq (.ref a) u) _ _ _
  refine PySem.W.cmp_K (op := .Eq) hu hF I.ok.mod.kin J (Z.ty _ _ I.kIn p) nf hs hf ?_
  have both : Vals [V.ref a, y] [Value.ref a, u] := .cons rfl (.cons ry .nil)
  refine wpAny_mono (run_fn (vs := [V.ref a, y]) (dvs := []) F hr hb .nil hx I both (by simpa using hsp)) ?_ fun _ _ z => z
  rintro w s' ⟨z, H', I', rz, q⟩
  have fin : EP X pins σ Q w s' := ⟨z, H', I', rz, q⟩
  cases w <;> first | exact fin | (exfalso; cases z <;> first | (obtain ⟨_, h⟩ := rz; cases h; done) | (cases rz; done))
end GL

/-! powers, and what is left of a number without its factors -/
namespace NM
open PySem

theorem natAbs_pow (b : Int) : ∀ n : Nat, (b ^ n).natAbs = b.natAbs ^ n
  | 0 => by simp
  | n + 1 => by rw [Int.pow_succ, Int.natAbs_mul, natAbs_pow b n, Nat.pow_succ]
/-- a power of a base up to 36 is small in bits -/
theorem pow_small {b : Int} (h0 : 0 ≤ b) (h : b ≤ 36) (n : Nat) : (b ^ n).natAbs < 2 ^ (6 * n + 1) := by
  rw [natAbs_pow]
  have h1 : b.natAbs ≤ 2 ^ 6 := by omega
  have h2 : b.natAbs ^ n ≤ (2 ^ 6) ^ n := Nat.pow_le_pow_left h1 n
  rw [← Nat.pow_mul] at h2
  calc b.natAbs ^ n ≤ 2 ^ (6 * n) := h2
    _ < 2 ^ (6 * n + 1) := Nat.pow_lt_pow_right (by decide) (by omega)
/-- the bits of a natural number -/
theorem lt_bits (n : Nat) : n < 2 ^ Builtin.Int.intBits (n : Int) := by
  unfold Builtin.Int.intBits
  by_cases h : n = 0
  · subst h
    decide
  · have : ((n : Int) == 0) = false := by simp; omega
    rw [this, if_neg Bool.false_ne_true]
    show n < 2 ^ ((n : Int).natAbs.log2 + 1)
    rw [Int.natAbs_natCast]
    exact Nat.lt_log2_self
theorem bits_le {n m : Nat} (h : n < 2 ^ m) : Builtin.Int.intBits (n : Int) ≤ m := by
  unfold Builtin.Int.intBits
  split
  · omega
  · rename_i h0
    have hn : n ≠ 0 := by
      intro z
      subst z
      exact h0 rfl
    show ((n : Int).natAbs.log2 + 1) ≤ m
    rw [Int.natAbs_natCast]
    exact Nat.succ_le_of_lt ((Nat.log2_lt hn).mpr h)
/-- squaring step: from c >> (k + 1) to c >> k -/
theorem shift_step (c k : Nat) : c / 2 ^ k = 2 * (c / 2 ^ (k + 1)) + c / 2 ^ k % 2 := by
  have : c / 2 ^ (k + 1) = c / 2 ^ k / 2 := by rw [Nat.pow_succ, Nat.div_div_eq_div_mul]
  omega
theorem pow_two_mul (b : Int) (n : Nat) : b ^ n * b ^ n = b ^ (2 * n) := by
  rw [← Int.pow_add]
  congr 1
  omega

theorem sq_succ (b : Int) (m : Nat) : b ^ 2 ^ m * b ^ 2 ^ m = b ^ 2 ^ (m + 1) := by
  rw [← Int.pow_add, Nat.pow_succ]
  congr 1
  omega
theorem pow_pos {b : Int} (h : 2 ≤ b) (e : Nat) : 0 < b ^ e := Int.pow_pos (by omega)
theorem two_pow_le {b : Int} (h : 2 ≤ b) (e : Nat) : 2 ^ e ≤ (b ^ e).natAbs := by
  rw [natAbs_pow]
  exact Nat.pow_le_pow_left (by omega) e
/-- a divisor's exponent is small -/
theorem exp_lt {b n : Int} {e k : Nat} (hb : 2 ≤ b) (h0 : n ≠ 0) (hd : n % b ^ e = 0) (hn : n.natAbs < 2 ^ k) : e < k := by
  have h1 : (b ^ e) ∣ n := Int.dvd_of_emod_eq_zero hd
  have h2 : (b ^ e).natAbs ≤ n.natAbs := Nat.le_of_dvd (by omega) (Int.natAbs_dvd_natAbs.mpr h1)
  have h3 : 2 ^ e < 2 ^ k := Nat.lt_of_le_of_lt (Nat.le_trans (two_pow_le hb e) h2) hn
  exact (Nat.pow_lt_pow_iff_right (by decide)).mp h3
theorem lt_two_pow_12 {m : Nat} (h : 2 ^ m < 7000) : m ≤ 12 := by
  by_cases q : m ≤ 12
  · exact q
  · have : 2 ^ 13 ≤ 2 ^ m := Nat.pow_le_pow_right (by decide) (by omega)
    omega
theorem lt_two_pow_13 {m : Nat} (h : 2 ^ m < 8900) : m ≤ 13 := by
  by_cases q : m ≤ 13
  · exact q
  · have : 2 ^ 14 ≤ 2 ^ m := Nat.pow_le_pow_right (by decide) (by omega)
    omega
/-- n is s times b ^ (f * 2 ^ J), and s no more divisible by b ^ 2 ^ J -/
structure Left (b n s : Int) (f J : Nat) : Prop where
  eq : n = s * b ^ (f * 2 ^ J)
  no : s % b ^ 2 ^ J ≠ 0
theorem Left.ne {b n s : Int} {f J : Nat} (L : Left b n s f J) : s ≠ 0 := fun z => L.no (by rw [z]; exact Int.zero_emod _)
theorem Left.le {b n s : Int} {f J : Nat} (hb : 2 ≤ b) (L : Left b n s f J) : s.natAbs ≤ n.natAbs := by
  rw [L.eq, Int.natAbs_mul]
  exact Nat.le_mul_of_pos_right _ (by have := pow_pos hb (f * 2 ^ J); omega)
theorem Left.keep {b n s : Int} {f J : Nat} (L : Left b n s f (J + 1)) (h : s % b ^ 2 ^ J ≠ 0) : Left b n s (f * 2) J := by
  refine ⟨?_, h⟩
  have e : f * 2 * 2 ^ J = f * 2 ^ (J + 1) := by rw [Nat.pow_succ, Nat.mul_assoc, Nat.mul_comm 2]
  rw [e]
  exact L.eq
theorem Left.take {b n s : Int} {f J : Nat} (hb : 2 ≤ b) (L : Left b n s f (J + 1)) (h : s % b ^ 2 ^ J = 0) : Left b n (s / b ^ 2 ^ J) (f * 2 + 1) J := by
  have hp := pow_pos hb (2 ^ J)
  have hs : s = s / b ^ 2 ^ J * b ^ 2 ^ J := (Int.ediv_mul_cancel (Int.dvd_of_emod_eq_zero h)).symm
  constructor
  · have e : (f * 2 + 1) * 2 ^ J = 2 ^ J + f * 2 ^ (J + 1) := by
      rw [Nat.add_mul, Nat.one_mul, Nat.pow_succ, Nat.mul_assoc, Nat.mul_comm 2, Nat.add_comm]
    rw [e, Int.pow_add, ← Int.mul_assoc, ← hs]
    exact L.eq
  · intro z
    apply L.no
    have z2 : s / b ^ 2 ^ J = s / b ^ 2 ^ J / b ^ 2 ^ J * b ^ 2 ^ J := (Int.ediv_mul_cancel (Int.dvd_of_emod_eq_zero z)).symm
    rw [← sq_succ]
    apply Int.emod_eq_zero_of_dvd
    refine ⟨s / b ^ 2 ^ J / b ^ 2 ^ J, ?_⟩
    calc s = s / b ^ 2 ^ J * b ^ 2 ^ J := hs
      _ = s / b ^ 2 ^ J / b ^ 2 ^ J * b ^ 2 ^ J * b ^ 2 ^ J := by rw [← z2]
      _ = _ := by rw [Int.mul_comm, Int.mul_comm (s / b ^ 2 ^ J / b ^ 2 ^ J), Int.mul_assoc]
/-- the form of a number is one: what is left, and how many factors -/
theorem one_form {b n s t : Int} {f g : Nat} (hb : 2 ≤ b) (h1 : n = s * b ^ f) (h2 : s % b ≠ 0) (h3 : n = t * b ^ g) (h4 : t % b ≠ 0) : s = t ∧ f = g := by
  have key : ∀ (s t : Int) (f d : Nat), s * b ^ f = t * b ^ (f + d) → s % b ≠ 0 → d = 0 ∧ s = t := by
    intro s t f d e hs
    rw [Int.pow_add, Int.mul_comm (b ^ f), ← Int.mul_assoc] at e
    have e2 : s = t * b ^ d := Int.eq_of_mul_eq_mul_right (by have := pow_pos hb f; omega) e
    cases d with
    | zero => exact ⟨rfl, by simpa using e2⟩
    | succ d =>
      exfalso
      apply hs
      rw [e2, Int.pow_succ, ← Int.mul_assoc]
      exact Int.mul_emod_left _ _
  rcases Nat.le_total f g with h | h
  · obtain ⟨d, rfl⟩ := Nat.exists_eq_add_of_le h
    obtain ⟨h5, h6⟩ := key s t f d (h1.symm.trans h3) h2
    subst h5
    exact ⟨h6, rfl⟩
  · obtain ⟨d, rfl⟩ := Nat.exists_eq_add_of_le h
    obtain ⟨h5, h6⟩ := key t s g d (h3.symm.trans h1) h4
    subst h5
    exact ⟨h6.symm, rfl⟩
end NM

/-! a try statement with any number of clauses 'except x as n', each with its own class, name and suite -/
namespace GL
open PySem L2 PySem.Spec PyProof.Rows
/-- an exception of the body that has been noted, while the clauses are asked: sI the state without it, s' and h3 the one with it -/
structure Air (X : Cx) (pins : List (Addr × Obj)) (σ : L2.St) (H : Hp) (cls : Value) (d : Option Addr) (a : Addr) (B : Heap) (sI s' : Shared) (h3 : Heap) : Prop where
  ok : X.Ok
  st : X.stack = X.env :: X.outer
  fr : X.env.frame = some X.env.locals
  inv : Inv X pins σ H sI
  ground : ∀ b o, sI.heap.get? b = some o → b ∉ frs X.stack → B.get? b = some o
  up : sI.heap.UpToSlots h3
  fly : HandSPX.FlyingZ B (X.env :: X.outer) a (Zc cls d) h3
  na : H a = none
  os : s'.os = sI.os
  ag : AllBare s'.gens
section
variable {X : Cx} {pins : List (Addr × Obj)} {σ : L2.St} {H : Hp} {cls : Value} {d : Option Addr} {a : Addr} {B : Heap} {sI s' : Shared} {h3 : Heap}
/-- the same a step on: the flight renewed -/
theorem Air.on (A : Air X pins σ H cls d a B sI s' h3) {h4 : Heap} (fl : HandSPX.FlyingZ B (X.env :: X.outer) a (Zc cls d) h4) (up : h3.UpToSlots h4) : Air X pins σ H cls d a B sI s' h4 :=
  { A with up := A.up.trans up, fly := fl }
theorem Air.now (A : Air X pins σ H cls d a B sI s' h3) : Inv X pins σ H { s' with heap := h3 } :=
  A.inv.landed (s' := { s' with heap := h3 }) A.ground A.fly.1 A.up A.os A.ag
/-- the error's object: neither the locals nor a frame's -/
theorem Air.apart (A : Air X pins σ H cls d a B sI s' h3) : a ≠ X.env.locals ∧ a ∉ X.fs := by
  obtain ⟨oe, vs, he, _, hd⟩ := A.fly.there
  have none_of_them : ∀ e ∈ X.env :: X.outer, ∀ L, e.frame = some L → a ≠ L := by
    intro e he' L hL z
    obtain ⟨_, o, e1, nf⟩ := A.fly.2.2.1.mem (List.mem_filterMap.mpr ⟨e, he', by rw [hL, ← z]⟩)
    rw [he] at e1
    cases e1
    exact nf _ hd
  refine ⟨none_of_them _ List.mem_cons_self _ A.fr, fun hm => ?_⟩
  obtain ⟨e, he', q⟩ := List.mem_filterMap.mp hm
  exact none_of_them e (List.mem_cons_of_mem _ he') a q rfl
/-- .. as the suites of clauses see it -/
theorem Air.inside (A : Air X pins σ H cls d a B sI s' h3) : ∃ oe, Zc cls d oe ∧ (∃ vs, oe.data = .fields vs) ∧ h3.get? a = some oe ∧ Inv (X.suite a ((a, oe) :: (X.pn ++ pins))) [] σ H { s' with heap := h3 } := by
  obtain ⟨oe, vs, he, hz, hd⟩ := A.fly.there
  exact ⟨oe, hz, ⟨vs, hd⟩, he, A.now.suite he hd A.na A.apart.1 A.apart.2⟩
/-- no clause is left: it goes on -/
theorem Air.passes {Wout : WX} {D : Ends} (A : Air X pins σ H cls d a B sI s' h3) (tk : Takes X Wout) (w : Wout cls d σ H) :
    wpAny (model X.prog X.w) X.A (handleBy (.ref a) X.env []) (SP X pins D) X.xe { s' with heap := h3 } := by
  have up : wpAny (model X.prog X.w) X.A (setFlight (.ref a) X.env.frame) (fun _ s4 => wpAny (model X.prog X.w) X.A (throw (.ref a) : Sem Flow) (SP X pins D) X.xe s4) X.xe { s' with heap := h3 } := by
    rw [A.fr]
    refine HandSPX.setFlight_upZ A.fly fun h4 held up4 => wpAny_throw (tk _ _ ?_)
    exact ⟨a, B, sI, pins, σ, H, cls, d, rfl, A.inv, A.ground, A.up.trans up4, .inr (.inr (by rw [A.st]; exact held)), A.na, A.os, A.ag, w⟩
  refine wpAny_handleBy_nil ?_
  obtain ⟨_, _, _, oe, vs, T, oT, ts, he, _, hd, h1, _⟩ := id A.fly
  unfold PySem.passOn
  refine wpAny_bind (wpAny_field he hd h1 ?_)
  rw [if_neg (by simp)]
  first
    | exact wpAny_bind (wpAny_pure (wpAny_bind up))
    | exact wpAny_bind up
/-- one clause is asked -/
theorem Air.asks {x n : Str} {c : Value} {i : Nat} {suite : List Stmt} {b₀ : Stmt} {np pos : Pos} {hds : List ExceptHandler} {ts : Addr → Value → Option Addr → TS} {W : WX} {D : Ends} (A : Air X pins σ H cls d a B sI s' h3)
    (hN : X.N.Nodup) (hi : X.N[i]? = some n) (hln : X.env.kindOf n = some .local) (hc : Names X x c)
    (hsu : ∀ (a : Addr) (oe : Obj) (cls : Value) (d : Option Addr) (pn : List (Addr × Obj)), Zc cls d oe → (∃ vs, oe.data = .fields vs) → PSs (X.suite a ((a, oe) :: pn)) (b₀ :: suite) (ts a cls d))
    (w : wAs X.K c i ts W D cls d σ H) (next : W cls d σ H → wpAny (model X.prog X.w) X.A (handleBy (.ref a) X.env hds) (SP X pins D) X.xe { s' with heap := h3 }) :
    wpAny (model X.prog X.w) X.A (handleBy (.ref a) X.env (.ExceptHandler (some (.Name x np)) (some n) (b₀ :: suite) pos :: hds)) (SP X pins D) X.xe { s' with heap := h3 } := by
  obtain ⟨b, hb, yes, no⟩ := w
  obtain ⟨oe, hz, hf, he, S⟩ := A.inside
  refine wpAny_handleBy_cons (codeAny_handlers_test ?_) (by intro q; cases q)
  -- the class's name is read
  have read : ∀ {Q : Value → Shared → Prop} {E : Value → Shared → Prop}, Q c { s' with heap := h3 } → wpAny (model X.prog X.w) (X.A.mark (some (.ref a))) (eval (.Name x np) X.env) Q E { s' with heap := h3 } := fun q => by
    obtain ⟨g, db, m | ⟨m, v, nn⟩⟩ := hc
    · exact ld_glob (X := X.suite a ((a, oe) :: (X.pn ++ pins))) S g m q db
    · exact ld_blt (X := X.suite a ((a, oe) :: (X.pn ++ pins))) S g m v q nn db
  have kind : PySem.W.Looks (model X.prog X.w) h3 (typeOf (.ref a)) cls := fun _ _ _ _ k q => wpAny_typeOf_ref (k _ _ he) (by rw [hz.1]; exact q)
  refine read ((PySem.W.exm_one (M := model X.prog X.w) A.now.kIn kind hb).here ?_)
  cases b with
  | false => exact next (no rfl)
  | true =>
    refine codeAny_handlers_suite_as ?_
    refine HandSPX.lands_againZ A.fly fun h4 fl4 up4 => ?_
    have A4 := A.on fl4 up4
    obtain ⟨oe4, hz4, hf4, _, S4⟩ := A4.inside
    refine store_ok (X := X.suite a ((a, oe4) :: (X.pn ++ pins))) (v := .ref a) S4 hN hi (.inl hln) rfl (fun s5 S5 => ?_) (.inr hln)
    refine wpAny_mono ((hsu a oe4 cls d (X.pn ++ pins) hz4 hf4).run [] s5 _ H _ S5 (yes rfl a A.na)) (fun f s6 end_ => ?_) (fun _ _ z => False.elim z)
    -- the name goes
    have drop : ∀ {σ6 : L2.St} {H6 : Hp} {Q : Shared → Prop}, Inv (X.suite a ((a, oe4) :: (X.pn ++ pins))) [] σ6 H6 s6 → (∀ s7, Inv X pins (σ6.set i none) H6 s7 → Q s7) →
        wpAny (model X.prog X.w) X.A (do bindName X.env n .none; unbindBehindTheSuite X.env n pos) (fun _ s7 => Q s7) X.xe s6 := fun S6 q => gone_ok (S6.unsuite A.ok) hN hi hln q
    match f, end_ with
    | .next, ⟨_, _, S6, q⟩ => exact drop S6 fun _ J => ⟨_, _, J, q⟩
    | .brk, ⟨_, _, S6, q⟩ => exact drop S6 fun _ J => ⟨_, _, J, q⟩
    | .cont, ⟨_, _, S6, q⟩ => exact drop S6 fun _ J => ⟨_, _, J, q⟩
    | .ret u, ⟨_, _, _, S6, r, q⟩ => exact drop S6 fun _ J => ⟨_, _, _, J, r, q⟩
end
/-- what the clauses wish of an exception, each behind the one before -/
def wNamed (K : PySem.W.Frag) (Wout : WX) (D : Ends) : List (Value × Nat × (Addr → Value → Option Addr → TS)) → WX
  | [] => Wout
  | (c, i, ts) :: r => wAs K c i ts (wNamed K Wout D r) D
/-- the clauses and their readings -/
inductive Named (X : Cx) : List ExceptHandler → List (Value × Nat × (Addr → Value → Option Addr → TS)) → Prop
  | nil : Named X [] []
  | cons {x n : Str} {c : Value} {i : Nat} {ts : Addr → Value → Option Addr → TS} {b₀ : Stmt} {suite : List Stmt} {np pos : Pos} {hds : List ExceptHandler} {l : List (Value × Nat × (Addr → Value → Option Addr → TS))}
      (hi : X.N[i]? = some n) (hln : X.env.kindOf n = some .local) (hc : Names X x c)
      (hsu : ∀ (a : Addr) (oe : Obj) (cls : Value) (d : Option Addr) (pn : List (Addr × Obj)), Zc cls d oe → (∃ vs, oe.data = .fields vs) → PSs (X.suite a ((a, oe) :: pn)) (b₀ :: suite) (ts a cls d)) (r : Named X hds l) :
      Named X (.ExceptHandler (some (.Name x np)) (some n) (b₀ :: suite) pos :: hds) ((c, i, ts) :: l)
theorem Air.all {X : Cx} {pins : List (Addr × Obj)} {σ : L2.St} {H : Hp} {cls : Value} {d : Option Addr} {a : Addr} {B : Heap} {sI s' : Shared} {h3 : Heap} {Wout : WX} {D : Ends} (A : Air X pins σ H cls d a B sI s' h3) (hN : X.N.Nodup) (tk : Takes X Wout) :
    ∀ {hds : List ExceptHandler} {l : List (Value × Nat × (Addr → Value → Option Addr → TS))}, Named X hds l → wNamed X.K Wout D l cls d σ H → wpAny (model X.prog X.w) X.A (handleBy (.ref a) X.env hds) (SP X pins D) X.xe { s' with heap := h3 }
  | _, _, .nil, w => A.passes tk w
  | _, _, .cons hi hln hc hsu r, w => A.asks hN hi hln hc hsu w fun w' => Air.all A hN tk r w'
/-- try: .. except x as n: .. except y as m: .. -/
theorem ps_try_named {X : Cx} {body : List Stmt} {h₀ : ExceptHandler} {hds : List ExceptHandler} {l : List (Value × Nat × (Addr → Value → Option Addr → TS))} {pos : Pos} {tb : WX → TS} {Wout : WX}
    (hs : X.stack = X.env :: X.outer) (hf : X.env.frame = some X.env.locals) (hN : X.N.Nodup) (tk : Takes X Wout)
    (hb : ∀ (W : WX) (pn : List (Addr × Obj)) (xe : Value → Shared → Prop), Takes (X.tr pn xe) W → PassesOwn (model X.prog X.w) X.A X.env xe → PSs (X.tr pn xe) body (tb W)) (hh : Named X (h₀ :: hds) l) :
    PS X (.Try body (h₀ :: hds) [] [] pos) (fun D σ H => tb (wNamed X.K Wout D l) D σ H) := by
  constructor
  intro pins s σ H D I h
  have ok := I.ok
  refine wpAny_Try_except ?_
  refine wpAny_mono ((hb (wNamed X.K Wout D l) (X.pn ++ pins) _ (fun u s' x => ?_) PassesOwn.looking).run [] s σ H D (I.toTry _) h) (fun f s1 e => ?_) (fun _ _ z => z)
  · obtain ⟨a, B, sI, pins', σ', H', cls, d, rfl, J, nb, up, sky, na, os, ag, w⟩ := x
    have sky' : Sky B (X.env :: X.outer) a (Zc cls d) X.env.locals s'.heap := by rw [← hs]; exact sky
    refine Sky.land Zc.steady (by rw [ok.frames, hs]) hf sky' fun h3 fl up3 => ?_
    exact Air.all ⟨ok, hs, hf, J.ofTry ok, nb, up.trans up3, fl, na, os, ag⟩ hN tk hh w
  · match f, e with
    | .next, ⟨_, _, J, q⟩ => exact wpAny_execs_nil ⟨_, _, J.ofTry ok, q⟩
    | .brk, ⟨_, _, J, q⟩ => exact ⟨_, _, J.ofTry ok, q⟩
    | .cont, ⟨_, _, J, q⟩ => exact ⟨_, _, J.ofTry ok, q⟩
    | .ret u, ⟨_, _, _, J, r, q⟩ => exact ⟨_, _, _, J.ofTry ok, r, q⟩
end GL

/-! a call of an item: fs[i](e, ..), where the item is one of some defs -/
namespace GL
open PySem L2 PySem.Spec PyProof.Rows
theorem wpAny_Call_Sub {M : Model} {A : Around} {s : Shared} {E : Value → Shared → Prop} {env : Env} {o i : Expr} {p pos : Pos} {args : List Expr} {keywords : List Keyword} {Q : Value → Shared → Prop}
    (h : wpAny M A (eval (.Subscript o i p) env) (fun f s₁ => wpAny M A (callWith pos f [] (backTo pos (starEach args env)) (backToKw pos (keywordEach keywords env))) Q E s₁) E s) :
    wpAny M A (eval (.Call (.Subscript o i p) args keywords pos) env) Q E s := by
  show wpAny M A (do callWith pos (← eval (.Subscript o i p) env) [] (backTo pos (starEach args env)) (backToKw pos (keywordEach keywords env))) Q E s
  exact wpAny_bind h
/-- f is a def that keeps sp, and may be called here; E: what is wished of its exceptions, by the slots -/
def Callee (X : Cx) (f : Addr) (sp : Sp) (E : L2.St → XK) : Prop := PySem.W.keepIn X.K (.ref f) = true ∧ ∃ (cx : CXT) (k : Nat) (fd : FuncData) (ps : List Str), FnOk X.prog X.w X.K X.mg X.base cx k f fd ps sp ∧ Room k X.A ∧ Binds X.K fd ps [] ∧ ∀ σ, PassesAt cx X σ (E σ)
theorem Callee.of {X : Cx} {f : Addr} {sp : Sp} {E : L2.St → XK} {cx : CXT} {k : Nat} {fd : FuncData} {ps : List Str} (hk : PySem.W.keepIn X.K (.ref f) = true) (F : FnOk X.prog X.w X.K X.mg X.base cx k f fd ps sp) (hr : Room k X.A) (hb : Binds X.K fd ps []) (hx : ∀ σ, PassesAt cx X σ (E σ)) : Callee X f sp E :=
  ⟨hk, cx, k, fd, ps, F, hr, hb, hx⟩
/-- the reading: the item is one of the named -/
def tCallV (C : Addr → Sp → Prop) (E : L2.St → XK) (te : TE) (t : TA) : TE := fun σ H Q => te σ H fun x H1 => ∃ f sp, x = .ref f ∧ C f sp ∧ t σ H1 fun vs H2 => sp vs H2 Q (E σ)
theorem pe_callV {X : Cx} {C : Addr → Sp → Prop} {E : L2.St → XK} {o i e : Expr} {es : List Expr} {te : TE} {t : TA} {p pos : Pos} (he : PE X (.Subscript o i p) te) (hc : ∀ f sp, C f sp → Callee X f sp E) (ha : PA X (e :: es) t)
    (hs : starEach (e :: es) X.env = (false, eval e X.env) :: starEach es X.env := by rfl) (hpl : (backTo pos (starEach es X.env)).any (·.1) = false := by rfl) : PE X (.Call (.Subscript o i p) (e :: es) [] pos) (tCallV C E te t) := by
  refine ⟨fun pins s σ H Q I h => ?_⟩
  refine wpAny_Call_Sub (thn (he.run pins s σ H _ I h) fun v s0 ⟨x, H0, I0, r0, f, sp, ex, c, q0⟩ => ?_)
  subst ex
  obtain rfl : v = Value.ref f := r0
  obtain ⟨hk, cx, k, fd, ps, F, hr, hb, hx⟩ := hc f sp c
  refine PySem.W.callWith_K (h₀ := X.base) I.ok.mod.kin hk (thn (ha.run pos pins s0 σ H0 _ I0 q0) fun us s1 ⟨vs, H1, I1, r, q⟩ => ⟨I1.kIn, ?_⟩) hs hpl
  exact run_fnS F hr hb (hx σ) I1 r q
end GL

/-! data instead of heaps: what a def does to data, as a function; the rules of the hand layer carried over to it -/
namespace DL
open PySem L2 PySem.Spec PyProof.Rows

/-- data: what a value is, with all that hangs on it; an instance by its class and its attributes -/
inductive D where
  | non
  | bl (b : Bool)
  | int (i : Int)
  | str (x : Str)
  | tup (xs : List D)
  | lst (xs : List D)
  /-- the law's own argument: it is only read -/
  | scr (ns : List Int)
  | dic (ks : List Key) (vs : List D)
  | obj (C : Addr) (ns : List Str) (vs : List D)
  deriving Inhabited

theorem seqT_same {K : PySem.W.Frag} {H H' : Hp} {a : Addr} {xs : List V} (e : Same H H') (h : SqT K H a xs) : SqT K H' a xs := by
  rcases h with (h | ⟨o, h⟩) | h
  · exact .inl (.inl (e _ _ h))
  · exact .inl (.inr ⟨o, e _ _ h⟩)
  · exact .inr h
theorem same_upd' {H H' : Hp} {p : Addr} {o : HO} (s : Same H H') (h : H p = none) : Same H (upd H' p o) := fun b u e => by
  rw [upd_ne (fun z => by rw [z, h] at e; cases e)]
  exact s b u e
mutual
/-- the value v stands for the data d in H -/
inductive Rep (K : PySem.W.Frag) (H : Hp) : V → D → Prop
  | non : Rep K H .non .non
  | bl (b : Bool) : Rep K H (.bl b) (.bl b)
  | int (i : Int) : Rep K H (.int i) (.int i)
  | str (x : Str) : Rep K H (.str x) (.str x)
  | tup {a : Addr} {vs : List V} {ds : List D} : SqT K H a vs → RepAll K H vs ds → Rep K H (.ref a) (.tup ds)
  | lst {a : Addr} {vs : List V} {ds : List D} : H a = some (.lst vs) → RepAll K H vs ds → Rep K H (.ref a) (.lst ds)
  | scr {a : Addr} {ns : List Int} : SqL K H a (ns.map V.int) → Rep K H (.ref a) (.scr ns)
  | dic {a : Addr} {kvs : List (Key × V)} {ks : List Key} {ds : List D} : H a = some (.dK kvs) → kvs.map (·.1) = ks → RepAll K H (kvs.map (·.2)) ds → Rep K H (.ref a) (.dic ks ds)
  | obj {a C dx : Addr} {fs : List (Str × V)} {ns : List Str} {ds : List D} : H a = some (.ins C dx fs) → fs.map (·.1) = ns → RepAll K H (fs.map (·.2)) ds → Rep K H (.ref a) (.obj C ns ds)
inductive RepAll (K : PySem.W.Frag) (H : Hp) : List V → List D → Prop
  | nil : RepAll K H [] []
  | cons {v : V} {vs : List V} {d : D} {ds : List D} : Rep K H v d → RepAll K H vs ds → RepAll K H (v :: vs) (d :: ds)
end

theorem Rep.same {K : PySem.W.Frag} {H H' : Hp} (e : Same H H') {v : V} {d : D} (h : Rep K H v d) : Rep K H' v d := by
  induction h using Rep.rec (motive_2 := fun vs ds _ => RepAll K H' vs ds) with
  | non => exact .non
  | bl b => exact .bl b
  | int i => exact .int i
  | str x => exact .str x
  | tup h _ ih => exact .tup (seqT_same e h) ih
  | lst h _ ih => exact .lst (e _ _ h) ih
  | scr h => exact .scr (e.seq h)
  | dic h k _ ih => exact .dic (e _ _ h) k ih
  | obj h k _ ih => exact .obj (e _ _ h) k ih
  | nil => exact .nil
  | cons _ _ h1 h2 => exact .cons h1 h2
theorem RepAll.same {K : PySem.W.Frag} {H H' : Hp} (e : Same H H') : ∀ {vs : List V} {ds : List D}, RepAll K H vs ds → RepAll K H' vs ds
  | _, _, .nil => .nil
  | _, _, .cons h t => .cons (h.same e) (RepAll.same e t)
section
variable {K : PySem.W.Frag} {H : Hp}
theorem RepAll.len : ∀ {vs : List V} {ds : List D}, RepAll K H vs ds → vs.length = ds.length
  | _, _, .nil => rfl
  | _, _, .cons _ t => congrArg Nat.succ t.len
theorem RepAll.app : ∀ {vs ws : List V} {ds es : List D}, RepAll K H vs ds → RepAll K H ws es → RepAll K H (vs ++ ws) (ds ++ es)
  | _, _, _, _, .nil, s => s
  | _, _, _, _, .cons r t, s => .cons r (t.app s)
theorem RepAll.get : ∀ {vs : List V} {ds : List D} {i : Nat} {d : D}, RepAll K H vs ds → ds[i]? = some d → ∃ v, vs[i]? = some v ∧ Rep K H v d
  | _, _, _, _, .nil, e => by simp at e
  | _, _, 0, _, .cons r _, e => by simp at e; subst e; exact ⟨_, rfl, r⟩
  | _, _, i + 1, d, .cons _ t, e => by
    obtain ⟨v, h1, h2⟩ := t.get (i := i) (d := d) (by simpa using e)
    exact ⟨v, by simpa using h1, h2⟩
theorem RepAll.getV : ∀ {vs : List V} {ds : List D} {i : Nat} {v : V}, RepAll K H vs ds → vs[i]? = some v → ∃ d, ds[i]? = some d ∧ Rep K H v d
  | _, _, _, _, .nil, e => by simp at e
  | _, _, 0, _, .cons r _, e => by simp at e; subst e; exact ⟨_, rfl, r⟩
  | _, _, i + 1, v, .cons _ t, e => by
    obtain ⟨d, h1, h2⟩ := t.getV (i := i) (v := v) (by simpa using e)
    exact ⟨d, by simpa using h1, h2⟩
theorem RepAll.take (n : Nat) : ∀ {vs : List V} {ds : List D}, RepAll K H vs ds → RepAll K H (vs.take n) (ds.take n)
  | _, _, .nil => by simp; exact .nil
  | _, _, .cons r t => by
    cases n with
    | zero => simp; exact .nil
    | succ n => simp only [List.take_succ_cons]; exact .cons r (t.take n)
theorem RepAll.drop : ∀ (n : Nat) {vs : List V} {ds : List D}, RepAll K H vs ds → RepAll K H (vs.drop n) (ds.drop n)
  | 0, _, _, h => h
  | n + 1, _, _, .nil => by simp; exact .nil
  | n + 1, _, _, .cons _ t => by simp only [List.drop_succ_cons]; exact t.drop n
theorem RepAll.set {v : V} {d : D} (h : Rep K H v d) : ∀ {vs : List V} {ds : List D} (i : Nat), RepAll K H vs ds → RepAll K H (vs.set i v) (ds.set i d)
  | _, _, _, .nil => .nil
  | _, _, 0, .cons _ t => .cons h t
  | _, _, i + 1, .cons q t => .cons q (t.set h i)
theorem RepAll.rev : ∀ {vs : List V} {ds : List D}, RepAll K H vs ds → RepAll K H vs.reverse ds.reverse
  | _, _, .nil => .nil
  | _, _, .cons r t => by simp only [List.reverse_cons]; exact t.rev.app (.cons r .nil)
theorem RepAll.ints : ∀ (ns : List Int), RepAll K H (ns.map V.int) (ns.map D.int)
  | [] => .nil
  | n :: ns => .cons (.int n) (RepAll.ints ns)
theorem RepAll.ofInts : ∀ {vs : List V} {ns : List Int}, RepAll K H vs (ns.map D.int) → vs = ns.map V.int
  | _, [], .nil => rfl
  | _, n :: ns, .cons r t => by cases r; rw [t.ofInts]; rfl
end

/-! ### the part of the heap that is shared -/
structure Step (H H0 H' H0' : Hp) : Prop where
  big : Same H H'
  small : Same H0 H0'
  sub : Same H0' H'
  apart : ∀ a o, H a = some o → H0 a = none → H0' a = none
theorem Step.refl {H H0 : Hp} (s : Same H0 H) : Step H H0 H H0 := ⟨Same.refl _, Same.refl _, s, fun _ _ _ e => e⟩
theorem Step.trans {A A0 B B0 C C0 : Hp} (h : Step A A0 B B0) (g : Step B B0 C C0) : Step A A0 C C0 :=
  ⟨Same.trans h.big g.big, Same.trans h.small g.small, g.sub, fun a o e n => g.apart a o (h.big a o e) (h.apart a o e n)⟩
theorem none_sub {H H0 : Hp} (s : Same H0 H) {p : Addr} (h : H p = none) : H0 p = none := by
  cases q : H0 p with
  | none => rfl
  | some o => rw [s p o q] at h; cases h
theorem same_upd {H : Hp} {p : Addr} {o : HO} (h : H p = none) : Same H (upd H p o) := same_upd' (Same.refl _) h
theorem same_both {H0 H : Hp} {p : Addr} {o : HO} (s : Same H0 H) : Same (upd H0 p o) (upd H p o) := fun b u e => by
  by_cases hb : b = p
  · subst hb; rw [upd_same] at e ⊢; exact e
  · rw [upd_ne hb] at e ⊢; exact s b u e
/-- a new object, shared -/
theorem Step.new {H H0 : Hp} {p : Addr} {o : HO} (s : Same H0 H) (h : H p = none) : Step H H0 (upd H p o) (upd H0 p o) :=
  ⟨same_upd h, same_upd (none_sub s h), same_both s, fun a u e n => by
    by_cases hb : a = p
    · subst hb; rw [h] at e; cases e
    · rw [upd_ne hb]; exact n⟩
/-- a new object, not shared -/
theorem Step.own {H H0 : Hp} {p : Addr} {o : HO} (s : Same H0 H) (h : H p = none) : Step H H0 (upd H p o) H0 :=
  ⟨same_upd h, Same.refl _, Same.trans s (same_upd h), fun _ _ _ n => n⟩
/-- an object that is not shared becomes shared -/
theorem Step.share {H H0 H' H0' : Hp} {p : Addr} {o : HO} (z0 : Same H0 H) (s : Step H H0 H' H0') (h : H p = none) (e : H' p = some o) (n0 : H0' p = none) : Step H H0 H' (upd H0' p o) :=
  ⟨s.big, same_upd' s.small (none_sub z0 h), fun b u q => by
    by_cases hb : b = p
    · subst hb; rw [upd_same] at q; cases q; exact e
    · rw [upd_ne hb] at q; exact s.sub b u q, fun a u q n => by
    have hb : a ≠ p := fun z => by subst z; rw [h] at q; cases q
    rw [upd_ne hb]; exact s.apart a u q n⟩

/-! ### what an expression gives -/
/-- an expression's answer: data, an error of the text's own (its class by name, what it holds), or nothing known -/
inductive Res (α : Type) where
  | ok (a : α)
  | exc (x : String) (d : D)
  | stuck
def Res.bind {α β : Type} : Res α → (α → Res β) → Res β
  | .ok a, k => k a
  | .exc x d, _ => .exc x d
  | .stuck, _ => .stuck
/-- c is asked here -/
def need {α : Type} (c : Prop) [Decidable c] (r : Res α) : Res α := if c then r else .stuck
/-- a local name: nothing known, shared data, a list or a dict that nothing else holds, an error that a suite has caught -/
inductive Slot where
  | un
  | sh (d : D)
  | own (xs : List D)
  | ownD (ks : List Key) (vs : List D)
  | er (x : String) (d : D)
  deriving Inhabited
abbrev En := List Slot
/-- the error classes: by name the class and its one field -/
abbrev ET := String → Option (Addr × Str)
/-- the caught error, where a suite runs: its object, its class, its dict -/
abbrev Caught := Option (Addr × Value × Option Addr)

/-- what a slot is known to hold -/
def Holds (K : PySem.W.Frag) (et : ET) (ce : Caught) (Hs H H0 : Hp) : Option (Option V) → Slot → Prop
  | _, .un => True
  | some (some v), .sh d => Rep K H0 v d
  | some (some v), .own xs => ∃ p vs, v = .ref p ∧ Hs p = none ∧ H p = some (.lst vs) ∧ H0 p = none ∧ RepAll K H0 vs xs
  | some (some v), .ownD ks xs => ∃ p kvs, v = .ref p ∧ Hs p = none ∧ H p = some (.dK kvs) ∧ H0 p = none ∧ kvs.map (·.1) = ks ∧ RepAll K H0 (kvs.map (·.2)) xs
  | some (some v), .er x d => ∃ a C fld dd w, ce = some (a, .ref C, some dd) ∧ et x = some (C, fld) ∧ v = .ref a ∧ H0 dd = some (.xd [(fld, w)]) ∧ Rep K H0 w d
  | _, _ => False
/-- is it a thing that nothing else holds? -/
def Slot.alone : Slot → Bool
  | .own _ | .ownD _ _ => true
  | _ => false
/-- where a def stands: Hs, H0s its start; the slots and heaps now -/
structure Stn (K : PySem.W.Frag) (et : ET) (ce : Caught) (Hs H0s : Hp) (σ : L2.St) (H H0 : Hp) (Γ : En) : Prop where
  z : Same H0s Hs
  st : Step Hs H0s H H0
  len : Γ.length ≤ σ.length
  at_ : ∀ (i : Nat) (s : Slot), Γ[i]? = some s → Holds K et ce Hs H H0 σ[i]? s
  one : ∀ (i j : Nat) (s t : Slot) (p : Addr), Γ[i]? = some s → Γ[j]? = some t → s.alone = true → t.alone = true → σ[i]? = some (some (.ref p)) → σ[j]? = some (some (.ref p)) → i = j
theorem Holds.step {K : PySem.W.Frag} {et : ET} {ce : Caught} {Hs H H0 H' H0' : Hp} (s : Step H H0 H' H0') {v : Option (Option V)} {sl : Slot} (h : Holds K et ce Hs H H0 v sl) : Holds K et ce Hs H' H0' v sl := by
  cases sl with
  | un => cases v <;> trivial
  | sh d =>
    match v, h with
    | some (some v), h => exact Rep.same s.small h
  | own xs =>
    match v, h with
    | some (some v), ⟨p, vs, e, hs, hp, h0, r⟩ => exact ⟨p, vs, e, hs, s.big _ _ hp, s.apart _ _ hp h0, r.same s.small⟩
  | ownD ks xs =>
    match v, h with
    | some (some v), ⟨p, kvs, e, hs, hp, h0, k, r⟩ => exact ⟨p, kvs, e, hs, s.big _ _ hp, s.apart _ _ hp h0, k, r.same s.small⟩
  | er x d =>
    match v, h with
    | some (some v), ⟨a, C, fld, dd, w, e, t, ev, hd, r⟩ => exact ⟨a, C, fld, dd, w, e, t, ev, s.small _ _ hd, r.same s.small⟩
section
variable {K : PySem.W.Frag} {et : ET} {ce : Caught} {Hs H0s H H0 H' H0' : Hp} {σ : L2.St} {Γ : En}
theorem Stn.sub (c : Stn K et ce Hs H0s σ H H0 Γ) : Same H0 H := c.st.sub
theorem Stn.step (c : Stn K et ce Hs H0s σ H H0 Γ) (s : Step H H0 H' H0') : Stn K et ce Hs H0s σ H' H0' Γ :=
  ⟨c.z, c.st.trans s, c.len, fun i sl e => (c.at_ i sl e).step s, c.one⟩
/-- a slot holds shared data from now on -/
theorem Stn.put (c : Stn K et ce Hs H0s σ H H0 Γ) (i : Nat) {v : V} {d : D} (h : Rep K H0 v d) : Stn K et ce Hs H0s (σ.set i (some v)) H H0 (Γ.set i (.sh d)) := by
  refine ⟨c.z, c.st, by simpa using c.len, fun j s e => ?_, fun j k s t p ej ek aj ak hj hk => ?_⟩
  · by_cases hj : i = j
    · subst hj
      have hi : i < Γ.length := by
        have := (List.getElem?_eq_some_iff.mp e).1
        simpa using this
      rw [List.getElem?_set_self hi] at e
      cases e
      rw [List.getElem?_set_self (Nat.lt_of_lt_of_le hi c.len)]
      exact h
    · rw [List.getElem?_set_ne hj] at e ⊢
      exact c.at_ j s e
  · have nj : i ≠ j := fun z => by
      subst z
      have hi : i < Γ.length := by
        have := (List.getElem?_eq_some_iff.mp ej).1
        simpa using this
      rw [List.getElem?_set_self hi] at ej; cases ej; cases aj
    have nk : i ≠ k := fun z => by
      subst z
      have hi : i < Γ.length := by
        have := (List.getElem?_eq_some_iff.mp ek).1
        simpa using this
      rw [List.getElem?_set_self hi] at ek; cases ek; cases ak
    rw [List.getElem?_set_ne nj] at ej hj
    rw [List.getElem?_set_ne nk] at ek hk
    exact c.one j k s t p ej ek aj ak hj hk
/-- nothing is known of a slot any more -/
theorem Stn.forget (c : Stn K et ce Hs H0s σ H H0 Γ) (i : Nat) (x : Option V) : Stn K et ce Hs H0s (σ.set i x) H H0 (Γ.set i .un) := by
  have no : ∀ {j : Nat} {s : Slot}, (Γ.set i .un)[j]? = some s → s.alone = true → i ≠ j := fun {j s} e a z => by
    subst z
    have hi : i < Γ.length := by
      have := (List.getElem?_eq_some_iff.mp e).1
      simpa using this
    rw [List.getElem?_set_self hi] at e; cases e; cases a
  refine ⟨c.z, c.st, by simpa using c.len, fun j s e => ?_, fun j k s t p ej ek aj ak hj hk => ?_⟩
  · by_cases hj : i = j
    · subst hj
      have hi : i < Γ.length := by
        have := (List.getElem?_eq_some_iff.mp e).1
        simpa using this
      rw [List.getElem?_set_self hi] at e
      cases e
      cases (σ.set i x)[i]? <;> trivial
    · rw [List.getElem?_set_ne hj] at e ⊢
      exact c.at_ j s e
  · have nj := no ej aj
    have nk := no ek ak
    rw [List.getElem?_set_ne nj] at ej hj
    rw [List.getElem?_set_ne nk] at ek hk
    exact c.one j k s t p ej ek aj ak hj hk
end
end DL


/-! data instead of heaps: expressions -/
namespace DL
open PySem L2 PySem.Spec PyProof.Rows

/-! ### what is wanted behind an expression -/
/-- how an answer stands for what was said: the heap ahead, the heap behind, its shared part behind -/
abbrev Rl (α β : Type) := Hp → Hp → Hp → β → α → Prop
def RD (K : PySem.W.Frag) : Rl D V := fun _ _ H0 v d => Rep K H0 v d
/-- a thing that is read where it stands: a list or dict may be one that nothing else holds -/
def RepO (K : PySem.W.Frag) (H H0 : Hp) (v : V) : D → Prop
  | .lst xs => ∃ a vs, v = .ref a ∧ H a = some (.lst vs) ∧ RepAll K H0 vs xs
  | .dic ks xs => ∃ a kvs, v = .ref a ∧ H a = some (.dK kvs) ∧ kvs.map (·.1) = ks ∧ RepAll K H0 (kvs.map (·.2)) xs
  | d => Rep K H0 v d
def RO (K : PySem.W.Frag) : Rl D V := fun _ H' H0 v d => RepO K H' H0 v d
def RA (K : PySem.W.Frag) : Rl (List D) (List V) := fun _ _ H0 vs ds => RepAll K H0 vs ds
def RB : Rl Bool Bool := fun _ _ _ b a => b = a
/-- a new list that nothing else holds -/
def RF (K : PySem.W.Frag) : Rl (List D) V := fun H H' H0 v xs => ∃ p vs, v = .ref p ∧ H p = none ∧ H' p = some (.lst vs) ∧ H0 p = none ∧ RepAll K H0 vs xs
/-- a new dict that nothing else holds -/
def RFD (K : PySem.W.Frag) : Rl (List Key × List D) V := fun H H' H0 v xs => ∃ p kvs, v = .ref p ∧ H p = none ∧ H' p = some (.dK kvs) ∧ H0 p = none ∧ kvs.map (·.1) = xs.1 ∧ RepAll K H0 (kvs.map (·.2)) xs.2
/-- what the heap ahead is: an earlier one will do -/
def Back {α β : Type} (R : Rl α β) : Prop := ∀ H G H' H0 b a, Same H G → R G H' H0 b a → R H H' H0 b a
theorem back_D {K : PySem.W.Frag} : Back (RD K) := fun _ _ _ _ _ _ _ h => h
theorem back_O {K : PySem.W.Frag} : Back (RO K) := fun _ _ _ _ _ _ _ h => h
theorem back_A {K : PySem.W.Frag} : Back (RA K) := fun _ _ _ _ _ _ _ h => h
theorem back_B : Back RB := fun _ _ _ _ _ _ _ h => h
theorem back_F {K : PySem.W.Frag} : Back (RF K) := fun _ _ _ _ _ _ s ⟨p, vs, e, h, r⟩ => ⟨p, vs, e, none_sub s h, r⟩
theorem back_FD {K : PySem.W.Frag} : Back (RFD K) := fun _ _ _ _ _ _ s ⟨p, vs, e, h, r⟩ => ⟨p, vs, e, none_sub s h, r⟩

def Post {α β : Type} (K : PySem.W.Frag) (et : ET) (W : WX) (R : Rl α β) (σ : L2.St) (H H0 : Hp) (Q : β → Hp → Prop) : Res α → Prop
  | .ok a => ∀ b H' H0', Step H H0 H' H0' → R H H' H0' b a → Q b H'
  | .exc x d => ∀ C fld dd w H' H0', et x = some (C, fld) → Step H H0 H' H0' → H0' dd = some (.xd [(fld, w)]) → Rep K H0' w d → W (.ref C) (some dd) σ H'
  | .stuck => False
theorem Post.step {α β : Type} {K : PySem.W.Frag} {et : ET} {W : WX} {R : Rl α β} (hR : Back R) {σ : L2.St} {H H0 G G0 : Hp} {Q : β → Hp → Prop} {r : Res α} (s : Step H H0 G G0) (h : Post K et W R σ H H0 Q r) : Post K et W R σ G G0 Q r := by
  cases r with
  | ok a => exact fun b H' H0' t q => h b H' H0' (s.trans t) (hR _ _ _ _ _ _ s.big q)
  | exc x d => exact fun C fld dd w H' H0' e t => h C fld dd w H' H0' e (s.trans t)
  | stuck => exact h

/-- the reading t does what m says -/
def Good {α β : Type} (K : PySem.W.Frag) (et : ET) (ce : Caught) (W : WX) (R : Rl α β) (t : L2.St → Hp → (β → Hp → Prop) → Prop) (m : En → Res α) : Prop :=
  ∀ Hs H0s σ H H0 Γ Q, Stn K et ce Hs H0s σ H H0 Γ → Post K et W R σ H H0 Q (m Γ) → t σ H Q

section
variable {α β γ δ : Type} {K : PySem.W.Frag} {et : ET} {ce : Caught} {W : WX} {σ : L2.St} {H H0 : Hp}
/-- one behind the other -/
theorem Post.next {R : Rl α β} {R2 : Rl γ δ} {Q : δ → Hp → Prop} {Q1 : β → Hp → Prop} {r : Res α} {k : α → Res γ} (h : Post K et W R2 σ H H0 Q (r.bind k))
    (hq : ∀ a b H' H0', r = .ok a → Step H H0 H' H0' → R H H' H0' b a → Post K et W R2 σ H H0 Q (k a) → Q1 b H') : Post K et W R σ H H0 Q1 r := by
  cases r with
  | ok a => exact fun b H' H0' s q => hq a b H' H0' rfl s q h
  | exc x d => exact h
  | stuck => exact h
theorem need_if {c : Prop} [Decidable c] {r : Res α} {R : Rl α β} {Q : β → Hp → Prop} (h : Post K et W R σ H H0 Q (need c r)) : c ∧ Post K et W R σ H H0 Q r := by
  unfold need at h
  split at h
  · rename_i hc; exact ⟨hc, h⟩
  · exact h.elim
end

/-! ### judgements -/
section
variable (X : Cx) (et : ET) (ce : Caught) (W : WX)
structure DE (e : Expr) (m : En → Res D) : Prop where ex : ∃ t, PE X e t ∧ Good X.K et ce W (RD X.K) t m
structure DO (e : Expr) (m : En → Res D) : Prop where ex : ∃ t, PE X e t ∧ Good X.K et ce W (RO X.K) t m
structure DF (e : Expr) (m : En → Res (List D)) : Prop where ex : ∃ t, PE X e t ∧ Good X.K et ce W (RF X.K) t m
structure DFD (e : Expr) (m : En → Res (List Key × List D)) : Prop where ex : ∃ t, PE X e t ∧ Good X.K et ce W (RFD X.K) t m
structure DA (es : List Expr) (m : En → Res (List D)) : Prop where ex : ∃ t, PA X es t ∧ Good X.K et ce W (RA X.K) t m
structure DT (e : Expr) (m : En → Res Bool) : Prop where ex : ∃ t, PT X e t ∧ Good X.K et ce W RB t m
structure DW (e : Expr) (m : En → Res Bool) : Prop where ex : ∃ t, PW X e t ∧ Good X.K et ce W RB t m
end

/-! ### answers of built-in operations -/
/-- what a built-in operation gives: data that stands, a new list, a new tuple -/
inductive Giv where
  | val (d : D)
  | newL (ds : List D)
  | newT (ds : List D)
def Giv.d : Giv → D
  | .val d => d
  | .newL ds => .lst ds
  | .newT ds => .tup ds
def toR : Option Giv → Res D
  | none => .stuck
  | some g => .ok g.d
def toF : Option Giv → Res (List D)
  | some (.newL ds) => .ok ds
  | _ => .stuck
def Asked (K : PySem.W.Frag) (H H0 : Hp) (Q : VK) : Option Giv → Prop
  | none => False
  | some (.val d) => ∀ v, Rep K H0 v d → Q v H
  | some (.newL ds) => ∀ p vs, H p = none → RepAll K H0 vs ds → Q (.ref p) (upd H p (.lst vs))
  | some (.newT ds) => ∀ p vs, H p = none → RepAll K H0 vs ds → Q (.ref p) (upd H p (.tup vs))
section
variable {K : PySem.W.Frag} {et : ET} {W : WX} {σ : L2.St} {H H0 : Hp}
theorem asked {Q : VK} {g : Option Giv} (s : Same H0 H) (h : Post K et W (RD K) σ H H0 Q (toR g)) : Asked K H H0 Q g := by
  match g, h with
  | none, h => exact h
  | some (.val d), h => exact fun v r => h v H H0 (Step.refl s) r
  | some (.newL ds), h => exact fun p vs n r => h _ _ _ (Step.new s n) (Rep.lst upd_same (r.same (same_upd' (Same.refl _) (none_sub s n))))
  | some (.newT ds), h => exact fun p vs n r => h _ _ _ (Step.new s n) (Rep.tup (SqT.of upd_same) (r.same (same_upd' (Same.refl _) (none_sub s n))))
theorem askedF {Q : VK} {g : Option Giv} (s : Same H0 H) (h : Post K et W (RF K) σ H H0 Q (toF g)) : Asked K H H0 Q g := by
  match g, h with
  | none, h => exact h.elim
  | some (.val d), h => exact h.elim
  | some (.newT ds), h => exact h.elim
  | some (.newL ds), h => exact fun p vs n r => h _ _ _ (Step.own s n) ⟨p, vs, rfl, n, upd_same, none_sub s n, r⟩
end
def r1D (K : PySem.W.Frag) (g : D → Option Giv) : V → Hp → VK → Prop := fun x H Q => ∃ H0 d, Same H0 H ∧ RepO K H H0 x d ∧ Asked K H H0 Q (g d)
def r2D (K : PySem.W.Frag) (g : D → D → Option Giv) : R2 := fun x y H Q => ∃ H0 d e, Same H0 H ∧ RepO K H H0 x d ∧ RepO K H H0 y e ∧ Asked K H H0 Q (g d e)
def rnD (K : PySem.W.Frag) (g : List D → Option Giv) : List V → Hp → VK → Prop := fun xs H Q => ∃ H0 ds, Same H0 H ∧ RepAll K H0 xs ds ∧ Asked K H H0 Q (g ds)
theorem RepO.same {K : PySem.W.Frag} {H H0 H' H0' : Hp} {v : V} {d : D} (s : Step H H0 H' H0') (h : RepO K H H0 v d) : RepO K H' H0' v d := by
  cases d with
  | lst xs => obtain ⟨a, vs, e, q, r⟩ := h; exact ⟨a, vs, e, s.big _ _ q, r.same s.small⟩
  | dic ks xs => obtain ⟨a, kvs, e, q, k, r⟩ := h; exact ⟨a, kvs, e, s.big _ _ q, k, r.same s.small⟩
  | _ => exact Rep.same s.small h
theorem Rep.toO {K : PySem.W.Frag} {H H0 : Hp} {v : V} {d : D} (s : Same H0 H) (h : Rep K H0 v d) : RepO K H H0 v d := by
  cases d with
  | lst xs => cases h with | lst q r => exact ⟨_, _, rfl, s _ _ q, r⟩
  | dic ks xs => cases h with | dic q k r => exact ⟨_, _, rfl, s _ _ q, k, r⟩
  | _ => exact h

section
variable {X : Cx} {et : ET} {ce : Caught} {W : WX} {e a b : Expr} {es : List Expr} {m ma mb : En → Res D} {pos : Pos}
theorem DE.o (h : DE X et ce W e m) : DO X et ce W e m := by
  obtain ⟨t, p, g⟩ := h
  refine ⟨t, p, fun Hs H0s σ H H0 Γ Q c q => g _ _ _ _ _ _ _ c ?_⟩
  revert q
  cases m Γ with
  | ok d => exact fun q v H' H0' s r => q v H' H0' s (r.toO s.sub)
  | exc x d => exact fun q => q
  | stuck => exact fun q => q
/-- a new thing is shared at once -/
theorem DF.all {m : En → Res (List D)} (h : DF X et ce W e m) : DE X et ce W e (fun Γ => (m Γ).bind fun xs => .ok (.lst xs)) := by
  obtain ⟨t, p, g⟩ := h
  refine ⟨t, p, fun Hs H0s σ H H0 Γ Q c q => g _ _ _ _ _ _ _ c ?_⟩
  refine Post.next q fun xs v H' H0' _ s ⟨p, vs, e, hp, hp', h0, r⟩ k => ?_
  subst e
  exact k _ H' _ (Step.share c.sub s hp hp' h0) (.lst upd_same (r.same (same_upd' (Same.refl _) h0)))
theorem DFD.all {m : En → Res (List Key × List D)} (h : DFD X et ce W e m) : DE X et ce W e (fun Γ => (m Γ).bind fun xs => .ok (.dic xs.1 xs.2)) := by
  obtain ⟨t, p, g⟩ := h
  refine ⟨t, p, fun Hs H0s σ H H0 Γ Q c q => g _ _ _ _ _ _ _ c ?_⟩
  refine Post.next q fun xs v H' H0' _ s ⟨p, vs, e, hp, hp', h0, ks, r⟩ k => ?_
  subst e
  exact k _ H' _ (Step.share c.sub s hp hp' h0) (.dic upd_same ks (r.same (same_upd' (Same.refl _) h0)))

/-! ### names and constants -/
def getS (Γ : En) (i : Nat) : Res D := match Γ[i]? with
  | some (.sh d) => .ok d
  | _ => .stuck
/-- where it is only read -/
def getO (Γ : En) (i : Nat) : Res D := match Γ[i]? with
  | some (.sh d) => .ok d
  | some (.own xs) => .ok (.lst xs)
  | some (.ownD ks xs) => .ok (.dic ks xs)
  | _ => .stuck
theorem d_var {i : Nat} (h : PE X e (tVar i)) : DE X et ce W e (fun Γ => getS Γ i) := by
  refine ⟨_, h, fun Hs H0s σ H H0 Γ Q c q => ?_⟩
  unfold getS at q
  dsimp only at q
  split at q
  · rename_i d e
    have z := c.at_ i _ e
    match hv : σ[i]?, z with
    | some (some v), z => exact ⟨v, hv, q v H H0 (Step.refl c.sub) z⟩
  · exact q.elim
theorem d_varO {i : Nat} (h : PE X e (tVar i)) : DO X et ce W e (fun Γ => getO Γ i) := by
  refine ⟨_, h, fun Hs H0s σ H H0 Γ Q c q => ?_⟩
  unfold getO at q
  dsimp only at q
  split at q
  · rename_i d e
    have z := c.at_ i _ e
    match hv : σ[i]?, z with
    | some (some v), z => exact ⟨v, hv, q v H H0 (Step.refl c.sub) (Rep.toO c.sub z)⟩
  · rename_i xs e
    have z := c.at_ i _ e
    match hv : σ[i]?, z with
    | some (some v), ⟨p, vs, ev, hs, hp, h0, r⟩ => exact ⟨v, hv, q v H H0 (Step.refl c.sub) ⟨p, vs, ev, hp, r⟩⟩
  · rename_i ks xs e
    have z := c.at_ i _ e
    match hv : σ[i]?, z with
    | some (some v), ⟨p, kvs, ev, hs, hp, h0, k, r⟩ => exact ⟨v, hv, q v H H0 (Step.refl c.sub) ⟨p, kvs, ev, hp, k, r⟩⟩
  · exact q.elim
theorem d_con {v : V} {d : D} (h : PE X e (tC v)) (r : ∀ H, Rep X.K H v d) : DE X et ce W e (fun _ => .ok d) :=
  ⟨_, h, fun Hs H0s σ H H0 Γ Q c q => q v H H0 (Step.refl c.sub) (r _)⟩
theorem d_int {i : Int} (h : PE X e (tC (.int i))) : DE X et ce W e (fun _ => .ok (.int i)) := d_con h fun _ => .int i
theorem d_bl {i : Bool} (h : PE X e (tC (.bl i))) : DE X et ce W e (fun _ => .ok (.bl i)) := d_con h fun _ => .bl i
theorem d_str {i : Str} (h : PE X e (tC (.str i))) : DE X et ce W e (fun _ => .ok (.str i)) := d_con h fun _ => .str i
theorem d_non (h : PE X e (tC .non)) : DE X et ce W e (fun _ => .ok .non) := d_con h fun _ => .non

/-! ### argument lists, tuples, lists -/
theorem da_nil : DA X et ce W [] (fun _ => .ok []) := ⟨_, pa_nil, fun _ _ _ H H0 _ _ c q => q [] H H0 (Step.refl c.sub) .nil⟩
theorem da_cons {ms : En → Res (List D)} (h : DE X et ce W e m) (hs : DA X et ce W es ms) (hst : starEach (e :: es) X.env = (false, eval e X.env) :: starEach es X.env := by rfl) :
    DA X et ce W (e :: es) (fun Γ => (m Γ).bind fun d => (ms Γ).bind fun ds => .ok (d :: ds)) := by
  obtain ⟨t, p, g⟩ := h
  obtain ⟨t2, p2, g2⟩ := hs
  refine ⟨_, pa_cons p p2 hst, fun Hs H0s σ H H0 Γ Q c q => g _ _ _ _ _ _ _ c ?_⟩
  refine Post.next q fun d v H1 H01 _ s r q => g2 _ _ _ _ _ _ _ (c.step s) ?_
  refine Post.next (q.step back_A s) fun ds vs H2 H02 _ s2 r2 q => ?_
  exact q _ _ _ s2 (.cons (r.same s2.small) r2)
theorem d_tup {ms : En → Res (List D)} {x1} (h : DA X et ce W es ms) : DE X et ce W (.Tuple es x1 pos) (fun Γ => (ms Γ).bind fun ds => need (ds.length ≤ 1000) (.ok (.tup ds))) := by
  obtain ⟨t, p, g⟩ := h
  refine ⟨_, pe_tup p, fun Hs H0s σ H H0 Γ Q c q => g _ _ _ _ _ _ _ c ?_⟩
  refine Post.next q fun ds vs H1 H01 _ s r q => ?_
  obtain ⟨hl, q⟩ := need_if q
  refine ⟨by rw [r.len]; exact Nat.le_of_lt (small1000 hl), fun p n => ?_⟩
  exact q _ _ _ (s.trans (Step.new s.sub n)) (.tup (SqT.of upd_same) (r.same (same_upd' (Same.refl _) (none_sub s.sub n))))
theorem d_lst {ms : En → Res (List D)} (h : DA X et ce W es ms) : DF X et ce W (.List es pos) (fun Γ => (ms Γ).bind fun ds => need (ds.length ≤ 1000) (.ok ds)) := by
  obtain ⟨t, p, g⟩ := h
  refine ⟨_, pe_lst p, fun Hs H0s σ H H0 Γ Q c q => g _ _ _ _ _ _ _ c ?_⟩
  refine Post.next q fun ds vs H1 H01 _ s r q => ?_
  obtain ⟨hl, q⟩ := need_if q
  refine ⟨by rw [r.len]; exact Nat.le_of_lt (small1000 hl), fun p n => ?_⟩
  exact q _ _ _ (s.trans (Step.own s.sub n)) ⟨p, vs, rfl, none_sub s.big n, upd_same, none_sub s.sub n, r⟩

/-! ### operations -/
theorem good_op {r : R2} {ta tb : TE} {g : D → D → Option Giv} (ga : Good X.K et ce W (RO X.K) ta ma) (gb : Good X.K et ce W (RO X.K) tb mb) :
    Good X.K et ce W (RD X.K) (tOp (r2D X.K g) ta tb) (fun Γ => (ma Γ).bind fun x => (mb Γ).bind fun y => toR (g x y)) := by
  intro Hs H0s σ H H0 Γ Q c q
  refine ga _ _ _ _ _ _ _ c (Post.next q fun d v H1 H01 _ s r q => gb _ _ _ _ _ _ _ (c.step s) ?_)
  refine Post.next (q.step back_D s) fun d2 v2 H2 H02 _ s2 r2 q => ?_
  exact ⟨H02, d, d2, s2.sub, r.same s2, r2, asked (σ := σ) s2.sub (q.step back_D s2)⟩
theorem good_opF {r : R2} {ta tb : TE} {g : D → D → Option Giv} (ga : Good X.K et ce W (RO X.K) ta ma) (gb : Good X.K et ce W (RO X.K) tb mb) :
    Good X.K et ce W (RF X.K) (tOp (r2D X.K g) ta tb) (fun Γ => (ma Γ).bind fun x => (mb Γ).bind fun y => toF (g x y)) := by
  intro Hs H0s σ H H0 Γ Q c q
  refine ga _ _ _ _ _ _ _ c (Post.next q fun d v H1 H01 _ s r q => gb _ _ _ _ _ _ _ (c.step s) ?_)
  refine Post.next (q.step back_F s) fun d2 v2 H2 H02 _ s2 r2 q => ?_
  exact ⟨H02, d, d2, s2.sub, r.same s2, r2, askedF (σ := σ) s2.sub (q.step back_F s2)⟩
theorem d_op {op : Operator} {g : D → D → Option Giv} (ho : OpR X (binaryOp op) (r2D X.K g)) (ha : DO X et ce W a ma) (hb : DO X et ce W b mb) :
    DE X et ce W (.BinOp a op b pos) (fun Γ => (ma Γ).bind fun x => (mb Γ).bind fun y => toR (g x y)) := by
  obtain ⟨t, p, ga⟩ := ha
  obtain ⟨t2, p2, gb⟩ := hb
  exact ⟨_, pe_op ho p p2, good_op (r := r2D X.K g) ga gb⟩
theorem d_opF {op : Operator} {g : D → D → Option Giv} (ho : OpR X (binaryOp op) (r2D X.K g)) (ha : DO X et ce W a ma) (hb : DO X et ce W b mb) :
    DF X et ce W (.BinOp a op b pos) (fun Γ => (ma Γ).bind fun x => (mb Γ).bind fun y => toF (g x y)) := by
  obtain ⟨t, p, ga⟩ := ha
  obtain ⟨t2, p2, gb⟩ := hb
  exact ⟨_, pe_op ho p p2, good_opF (r := r2D X.K g) ga gb⟩
theorem d_cmp {op : CmpOp} {g : D → D → Option Giv} (ho : OpR X (compareOp op) (r2D X.K g)) (ha : DO X et ce W a ma) (hb : DO X et ce W b mb) (hm : behindInMarks op b = false) :
    DE X et ce W (.Compare a [op] [b] pos) (fun Γ => (ma Γ).bind fun x => (mb Γ).bind fun y => toR (g x y)) := by
  obtain ⟨t, p, ga⟩ := ha
  obtain ⟨t2, p2, gb⟩ := hb
  exact ⟨_, pe_cmpR ho p p2 hm, good_op (r := r2D X.K g) ga gb⟩
def toB : Res D → Res Bool
  | .ok (.bl b) => .ok b
  | .exc x d => .exc x d
  | _ => .stuck
theorem post_B {K : PySem.W.Frag} {σ : L2.St} {H H0 : Hp} {Q : Bool → Hp → Prop} {r : Res D} (h : Post K et W RB σ H H0 Q (toB r)) : Post K et W (RD K) σ H H0 (fun x H' => ∃ k, x = .bl k ∧ Q k H') r := by
  match r, h with
  | .ok (.bl k), h => exact fun v H' H0' s q => by cases (show Rep K H0' v (.bl k) from q) with | bl => exact ⟨k, rfl, h k H' H0' s rfl⟩
  | .exc x d, h => exact h
theorem dt_cmp {op : CmpOp} {g : D → D → Option Giv} (ho : OpR X (compareOp op) (r2D X.K g)) (ha : DO X et ce W a ma) (hb : DO X et ce W b mb) (hm : behindInMarks op b = false) :
    DT X et ce W (.Compare a [op] [b] pos) (fun Γ => toB ((ma Γ).bind fun x => (mb Γ).bind fun y => toR (g x y))) := by
  obtain ⟨t, p, ga⟩ := ha
  obtain ⟨t2, p2, gb⟩ := hb
  exact ⟨_, pt_cmpR ho p p2 hm, fun Hs H0s σ H H0 Γ Q c q => good_op (r := r2D X.K g) ga gb _ _ _ _ _ _ _ c (post_B q)⟩
/-- an expression that gives a bool, as a test -/
theorem dt_val (h : DE X et ce W e m) (hp : ∀ t, PE X e t → PT X e (tB t)) : DT X et ce W e (fun Γ => toB (m Γ)) := by
  obtain ⟨t, p, g⟩ := h
  exact ⟨_, hp t p, fun Hs H0s σ H H0 Γ Q c q => g _ _ _ _ _ _ _ c (post_B q)⟩
theorem d_un {op : UnaryOp} {g : D → Option Giv} (ho : UnR X (unaryOp op) (r1D X.K g)) (ha : DO X et ce W a ma) : DE X et ce W (.UnaryOp op a pos) (fun Γ => (ma Γ).bind fun x => toR (g x)) := by
  obtain ⟨t, p, ga⟩ := ha
  refine ⟨_, pe_un ho p, fun Hs H0s σ H H0 Γ Q c q => ga _ _ _ _ _ _ _ c (Post.next q fun d v H1 H01 _ s r q => ?_)⟩
  exact ⟨H01, d, s.sub, r, asked (σ := σ) s.sub (q.step back_D s)⟩
end
end DL

/-! data instead of heaps: statements -/
namespace DL
open PySem L2 PySem.Spec PyProof.Rows

/-- where a statement ends -/
inductive Out where
  | nx (Γ : En)
  | rt (s : Slot)
  | bk (Γ : En)
  | ct (Γ : En)
  | exc (x : String) (d : D) (Γ : En)
  | stuck
def PostS (K : PySem.W.Frag) (et : ET) (ce : Caught) (W : WX) (Hs H0s H0 : Hp) (E : Ends) : Out → Prop
  | .nx Γ => ∀ σ H G, Stn K et ce Hs H0s σ H G Γ → Same H0 G → E.nx σ H
  | .bk Γ => ∀ σ H G, Stn K et ce Hs H0s σ H G Γ → Same H0 G → E.bk σ H
  | .ct Γ => ∀ σ H G, Stn K et ce Hs H0s σ H G Γ → Same H0 G → E.ct σ H
  | .rt s => ∀ v H G, Step Hs H0s H G → Holds K et none Hs H G (some (some v)) s → E.rt v H
  | .exc x d Γ => ∀ C fld dd w σ H G, et x = some (C, fld) → Stn K et ce Hs H0s σ H G Γ → Same H0 G → G dd = some (.xd [(fld, w)]) → Rep K G w d → W (.ref C) (some dd) σ H
  | .stuck => False
theorem PostS.up {K : PySem.W.Frag} {et : ET} {ce : Caught} {W : WX} {Hs H0s H0 G0 : Hp} {E : Ends} {o : Out} (s : Same H0 G0) (h : PostS K et ce W Hs H0s H0 E o) : PostS K et ce W Hs H0s G0 E o := by
  cases o with
  | nx Γ => exact fun σ H G c g => h σ H G c (Same.trans s g)
  | bk Γ => exact fun σ H G c g => h σ H G c (Same.trans s g)
  | ct Γ => exact fun σ H G c g => h σ H G c (Same.trans s g)
  | rt s => exact h
  | exc x d Γ => exact fun C fld dd w σ H G e c g => h C fld dd w σ H G e c (Same.trans s g)
  | stuck => exact h
def GoodS (K : PySem.W.Frag) (et : ET) (ce : Caught) (W : WX) (t : TS) (m : En → Out) : Prop :=
  ∀ Hs H0s σ H H0 Γ E, Stn K et ce Hs H0s σ H H0 Γ → PostS K et ce W Hs H0s H0 E (m Γ) → t E σ H
structure DS (X : Cx) (et : ET) (ce : Caught) (W : WX) (st : Stmt) (m : En → Out) : Prop where ex : ∃ t, PS X st t ∧ GoodS X.K et ce W t m
structure DSs (X : Cx) (et : ET) (ce : Caught) (W : WX) (st : List Stmt) (m : En → Out) : Prop where ex : ∃ t, PSs X st t ∧ GoodS X.K et ce W t m

def mTo {α : Type} (r : Res α) (Γ : En) (k : α → Out) : Out := match r with
  | .ok a => k a
  | .exc x d => .exc x d Γ
  | .stuck => .stuck
section
variable {α β : Type} {K : PySem.W.Frag} {et : ET} {ce : Caught} {W : WX} {σ : L2.St} {Hs H0s H H0 : Hp} {Γ : En} {E : Ends}
theorem PostS.to {R : Rl α β} {Q1 : β → Hp → Prop} {r : Res α} {k : α → Out} (c : Stn K et ce Hs H0s σ H H0 Γ) (h : PostS K et ce W Hs H0s H0 E (mTo r Γ k))
    (hq : ∀ a b H' G, r = .ok a → Step H H0 H' G → R H H' G b a → PostS K et ce W Hs H0s H0 E (k a) → Q1 b H') : Post K et W R σ H H0 Q1 r := by
  cases r with
  | ok a => exact fun b H' G s q => hq a b H' G rfl s q h
  | exc x d => exact fun C fld dd w H' G e s hd r => h C fld dd w σ H' G e (c.step s) s.small hd r
  | stuck => exact h
end

section
variable {X : Cx} {et : ET} {ce : Caught} {W : WX} {st : Stmt} {sts : List Stmt} {e a b c : Expr} {es : List Expr} {m ma mb : En → Res D} {pos : Pos} {ms mr : En → Out}
/-! ### blocks -/
def mSeq (ms mr : En → Out) (Γ : En) : Out := match ms Γ with
  | .nx Γ' => mr Γ'
  | o => o
theorem ds_nil : DSs X et ce W [] (fun Γ => .nx Γ) := ⟨_, pss_nil, fun _ _ σ H H0 Γ E c q => q σ H H0 c (Same.refl _)⟩
theorem ds_one (h : DS X et ce W st ms) : DSs X et ce W [st] ms := by
  obtain ⟨t, p, g⟩ := h
  exact ⟨_, pss_one p, g⟩
theorem ds_cons (h : DS X et ce W st ms) (hr : DSs X et ce W sts mr) : DSs X et ce W (st :: sts) (mSeq ms mr) := by
  obtain ⟨t, p, g⟩ := h
  obtain ⟨t2, p2, g2⟩ := hr
  refine ⟨_, pss_cons p p2, fun Hs H0s σ H H0 Γ E c q => g _ _ _ _ _ _ _ c ?_⟩
  unfold mSeq at q
  revert q
  cases ms Γ with
  | nx Γ' => exact fun q σ' H' G c' s => g2 _ _ _ _ _ _ _ c' (q.up s)
  | bk Γ' => exact fun q => q
  | ct Γ' => exact fun q => q
  | rt s => exact fun q => q
  | exc x d Γ' => exact fun q => q
  | stuck => exact fun q => q
theorem ds_pass : DS X et ce W (.Pass pos) (fun Γ => .nx Γ) := ⟨_, ps_pass, fun _ _ σ H H0 Γ E c q => q σ H H0 c (Same.refl _)⟩
theorem ds_break : DS X et ce W (.Break pos) (fun Γ => .bk Γ) := ⟨_, ps_break, fun _ _ σ H H0 Γ E c q => q σ H H0 c (Same.refl _)⟩
theorem ds_continue : DS X et ce W (.Continue pos) (fun Γ => .ct Γ) := ⟨_, ps_continue, fun _ _ σ H H0 Γ E c q => q σ H H0 c (Same.refl _)⟩

/-! ### targets -/
/-- the places of vs alone are other -/
def OnlyAt (vs : List Nat) (σ σ' : L2.St) : Prop := σ'.length = σ.length ∧ ∀ j, j ∉ vs → σ'[j]? = σ[j]?
theorem OnlyAt.refl {vs : List Nat} {σ : L2.St} : OnlyAt vs σ σ := ⟨rfl, fun _ _ => rfl⟩
theorem OnlyAt.trans {vs : List Nat} {σ τ υ : L2.St} (h : OnlyAt vs σ τ) (g : OnlyAt vs τ υ) : OnlyAt vs σ υ := ⟨g.1.trans h.1, fun j hj => (g.2 j hj).trans (h.2 j hj)⟩
theorem OnlyAt.set {vs : List Nat} {σ : L2.St} {i : Nat} {x : Option V} (h : i ∈ vs) : OnlyAt vs σ (σ.set i x) := ⟨by simp, fun j hj => List.getElem?_set_ne (fun z => hj (by rw [← z]; exact h))⟩
structure GoodG (K : PySem.W.Frag) (et : ET) (ce : Caught) (vs : List Nat) (g : TG) (mg : D → En → Option En) : Prop where
  go : ∀ Hs H0s σ H H0 Γ x d Γ' (Q : L2.St → Hp → Prop), Stn K et ce Hs H0s σ H H0 Γ → Rep K H0 x d → mg d Γ = some Γ' → (∀ σ', OnlyAt vs σ σ' → Stn K et ce Hs H0s σ' H H0 Γ' → Q σ' H) → g x σ H Q
structure GoodGs (K : PySem.W.Frag) (et : ET) (ce : Caught) (vs : List Nat) (g : TGs) (mg : List D → En → Option En) : Prop where
  go : ∀ Hs H0s σ H H0 Γ x d Γ' (Q : L2.St → Hp → Prop), Stn K et ce Hs H0s σ H H0 Γ → RepAll K H0 x d → mg d Γ = some Γ' → (∀ σ', OnlyAt vs σ σ' → Stn K et ce Hs H0s σ' H H0 Γ' → Q σ' H) → g x σ H Q
  len : ∀ d Γ Γ', mg d Γ = some Γ' → ∀ n, (∀ d' Γ1 Γ2, mg d' Γ1 = some Γ2 → d'.length = n) → d.length = n
def bName (i : Nat) (d : D) (Γ : En) : Option En := some (Γ.set i (.sh d))
theorem good_name {K : PySem.W.Frag} {i : Nat} {vs : List Nat} (h : i ∈ vs) : GoodG K et ce vs (gName i) (bName i) :=
  ⟨fun Hs H0s σ H H0 Γ x d Γ' Q c r e k => by cases e; exact k _ (OnlyAt.set h) (c.put i r)⟩
/-- names for the items of a tuple -/
def bTup : List (D → En → Option En) → List D → En → Option En
  | [], [], Γ => some Γ
  | f :: fs, d :: ds, Γ => (f d Γ).bind fun Γ' => bTup fs ds Γ'
  | _, _, _ => none
inductive GoodGL (K : PySem.W.Frag) (et : ET) (ce : Caught) (vs : List Nat) : TGs → List (D → En → Option En) → Prop
  | nil : GoodGL K et ce vs gNil []
  | cons {g : TG} {gs : TGs} {f : D → En → Option En} {fs : List (D → En → Option En)} : GoodG K et ce vs g f → GoodGL K et ce vs gs fs → GoodGL K et ce vs (gCons g gs) (f :: fs)
theorem GoodGL.len {K : PySem.W.Frag} : ∀ {fs : List (D → En → Option En)} {ds : List D} {Γ Γ' : En}, bTup fs ds Γ = some Γ' → ds.length = fs.length
  | [], [], _, _, _ => rfl
  | f :: fs, d :: ds, Γ, Γ', e => by
    unfold bTup at e
    cases h : f d Γ with
    | none => rw [h] at e; cases e
    | some Γ1 => rw [h] at e; exact congrArg Nat.succ (GoodGL.len (K := K) e)
  | [], _ :: _, _, _, e => by cases e
  | _ :: _, [], _, _, e => by cases e
theorem GoodGL.go {K : PySem.W.Frag} {vs : List Nat} {g : TGs} {fs : List (D → En → Option En)} (h : GoodGL K et ce vs g fs) : ∀ {Hs H0s σ H H0 Γ xs ds Γ'} {Q : L2.St → Hp → Prop}, Stn K et ce Hs H0s σ H H0 Γ → RepAll K H0 xs ds → bTup fs ds Γ = some Γ' →
    (∀ σ', OnlyAt vs σ σ' → Stn K et ce Hs H0s σ' H H0 Γ' → Q σ' H) → g xs σ H Q := by
  induction h with
  | nil =>
    intro Hs H0s σ H H0 Γ xs ds Γ' Q c r e k
    cases r with
    | nil => cases e; exact ⟨rfl, k _ OnlyAt.refl c⟩
    | cons _ _ => cases e
  | @cons g gs f fs hg _ ih =>
    intro Hs H0s σ H H0 Γ xs ds Γ' Q c r e k
    cases r with
    | nil => cases e
    | @cons v vs' d ds r rt =>
      unfold bTup at e
      cases h : f d Γ with
      | none => rw [h] at e; cases e
      | some Γ1 =>
        rw [h] at e
        exact ⟨_, _, rfl, hg.go _ _ _ _ _ _ _ _ _ _ c r h fun σ1 o1 c1 => ih c1 rt e fun σ2 o2 c2 => k σ2 (OnlyAt.trans o1 o2) c2⟩
def bOfTup (fs : List (D → En → Option En)) (d : D) (Γ : En) : Option En := match d with
  | .tup ds => bTup fs ds Γ
  | _ => none
theorem good_tup {K : PySem.W.Frag} {vs : List Nat} {g : TGs} {fs : List (D → En → Option En)} {n : Nat} (h : GoodGL K et ce vs g fs) (hn : n = fs.length) : GoodG K et ce vs (gTup K n g) (bOfTup fs) := by
  refine ⟨fun Hs H0s σ H H0 Γ x d Γ' Q c r e k => ?_⟩
  cases r with
  | tup hs ra =>
    have e : bTup fs _ Γ = some Γ' := e
    exact ⟨_, _, rfl, seqT_same c.sub hs, by rw [ra.len, GoodGL.len (K := K) e, hn], h.go c ra e k⟩
  | _ => cases e
/-- a target and what it binds -/
structure DG (X : Cx) (et : ET) (ce : Caught) (vs : List Nat) (tg : Expr) (g : TG) (mg : D → En → Option En) : Prop where
  p : PG X tg g
  ok : GoodG X.K et ce vs g mg

/-! ### stores -/
def mSet (i : Nat) (m : En → Res D) (Γ : En) : Out := mTo (m Γ) Γ fun d => .nx (Γ.set i (.sh d))
def mSetF (i : Nat) (m : En → Res (List D)) (Γ : En) : Out := mTo (m Γ) Γ fun d => .nx (Γ.set i (.own d))
def mSetFD (i : Nat) (m : En → Res (List Key × List D)) (Γ : En) : Out := mTo (m Γ) Γ fun d => .nx (Γ.set i (.ownD d.1 d.2))
def mAsg (mg : D → En → Option En) (m : En → Res D) (Γ : En) : Out := mTo (m Γ) Γ fun d => match mg d Γ with
  | some Γ' => .nx Γ'
  | none => .stuck
theorem ds_asg {g : TG} {mg : D → En → Option En} {vs : List Nat} (hp : ∀ te, PE X e te → PS X st (tAsg te g)) (hg : GoodG X.K et ce vs g mg) (h : DE X et ce W e m) : DS X et ce W st (mAsg mg m) := by
  obtain ⟨t, p, ge⟩ := h
  refine ⟨_, hp t p, fun Hs H0s σ H H0 Γ E c q => ge _ _ _ _ _ _ _ c ?_⟩
  refine PostS.to c q fun d v H' G _ s r q => ?_
  cases hm : mg d Γ with
  | none => rw [hm] at q; exact q.elim
  | some Γ' =>
    rw [hm] at q
    exact hg.go _ _ _ _ _ _ _ _ _ _ (c.step s) r hm fun σ' _ c' => q σ' H' G c' s.small
theorem ds_set {i : Nat} (hp : ∀ te, PE X e te → PS X st (tAsg te (gName i))) (h : DE X et ce W e m) : DS X et ce W st (mSet i m) := by
  obtain ⟨t, p, ge⟩ := h
  refine ⟨_, hp t p, fun Hs H0s σ H H0 Γ E c q => ge _ _ _ _ _ _ _ c ?_⟩
  exact PostS.to c q fun d v H' G _ s r q => q _ H' G ((c.step s).put i r) s.small
end
end DL

/-! data instead of heaps: things that nothing else holds; loops; comprehensions -/
namespace DL
open PySem L2 PySem.Spec PyProof.Rows

section
variable {K : PySem.W.Frag} {et : ET} {ce : Caught} {Hs H0s H H0 H' G : Hp} {σ : L2.St} {Γ : En}
theorem get_lt {α : Type} {l : List α} {i : Nat} {x y : α} (h : (l.set i x)[i]? = some y) : i < l.length := by
  have := (List.getElem?_eq_some_iff.mp h).1
  simpa using this
theorem Stn.none_of (c : Stn K et ce Hs H0s σ H H0 Γ) {p : Addr} (h : H p = none) : Hs p = none := none_sub c.st.big h
/-- what stands alone in a slot is tracked -/
theorem Stn.tracked (c : Stn K et ce Hs H0s σ H H0 Γ) {i : Nat} {s : Slot} {p : Addr} (e : Γ[i]? = some s) (a : s.alone = true) (v : σ[i]? = some (some (.ref p))) : ∃ o, H p = some o ∧ H0 p = none := by
  have z := c.at_ i s e
  rw [v] at z
  cases s with
  | own xs => obtain ⟨q, vs, ev, _, hp, h0, _⟩ := z; cases ev; exact ⟨_, hp, h0⟩
  | ownD ks xs => obtain ⟨q, vs, ev, _, hp, h0, _⟩ := z; cases ev; exact ⟨_, hp, h0⟩
  | _ => cases a
/-- a new thing that nothing else holds comes into a slot -/
theorem Stn.putNew (c : Stn K et ce Hs H0s σ H H0 Γ) (st : Step H H0 H' G) (i : Nat) {p : Addr} {s : Slot} (hn : H p = none) (h : Holds K et ce Hs H' G (some (some (.ref p))) s) :
    Stn K et ce Hs H0s (σ.set i (some (.ref p))) H' G (Γ.set i s) := by
  have c' := c.step st
  refine ⟨c.z, c'.st, by simpa using c.len, fun j t e => ?_, fun j k t u q ej ek aj ak hj hk => ?_⟩
  · by_cases hj : i = j
    · subst hj
      have hi := get_lt e
      rw [List.getElem?_set_self hi] at e
      cases e
      rw [List.getElem?_set_self (Nat.lt_of_lt_of_le hi c.len)]
      exact h
    · rw [List.getElem?_set_ne hj] at e ⊢
      exact c'.at_ j t e
  · have other : ∀ {k : Nat} {u : Slot}, i ≠ k → (Γ.set i s)[k]? = some u → u.alone = true → (σ.set i (some (.ref p)))[k]? = some (some (.ref p)) → False := fun {k u} ne ek ak hk => by
      rw [List.getElem?_set_ne ne] at ek hk
      obtain ⟨o, ho, _⟩ := c.tracked ek ak hk
      rw [hn] at ho; cases ho
    by_cases nj : i = j
    · by_cases nk : i = k
      · exact nj.symm.trans nk
      · subst nj
        have hi := get_lt ej
        rw [List.getElem?_set_self (Nat.lt_of_lt_of_le hi c.len)] at hj
        cases hj
        exact (other nk ek ak hk).elim
    · by_cases nk : i = k
      · subst nk
        have hi := get_lt ek
        rw [List.getElem?_set_self (Nat.lt_of_lt_of_le hi c.len)] at hk
        cases hk
        exact (other nj ej aj hj).elim
      · rw [List.getElem?_set_ne nj] at ej hj
        rw [List.getElem?_set_ne nk] at ek hk
        exact c.one j k t u q ej ek aj ak hj hk
/-- a thing that stands alone in a slot is written -/
theorem Stn.write (c : Stn K et ce Hs H0s σ H H0 Γ) {i : Nat} {s t : Slot} {p : Addr} {o : HO} (e : Γ[i]? = some s) (a : s.alone = true) (v : σ[i]? = some (some (.ref p))) (hs : Hs p = none)
    (h : Holds K et ce Hs (upd H p o) H0 (some (some (.ref p))) t) : Stn K et ce Hs H0s σ (upd H p o) H0 (Γ.set i t) := by
  obtain ⟨o0, hp, h0⟩ := c.tracked e a v
  have sub : Same H0 (upd H p o) := fun b u q => by
    rw [upd_ne (fun z => by rw [z, h0] at q; cases q)]
    exact c.sub b u q
  refine ⟨c.z, ⟨fun b u q => ?_, c.st.small, sub, c.st.apart⟩, by simpa using c.len, fun j u e' => ?_, fun j k u w q ej ek aj ak hj hk => ?_⟩
  · rw [upd_ne (fun z => by rw [z, hs] at q; cases q)]
    exact c.st.big b u q
  · by_cases hj : i = j
    · subst hj
      rw [List.getElem?_set_self (get_lt e')] at e'
      cases e'
      rw [v]
      exact h
    · rw [List.getElem?_set_ne hj] at e'
      have z := c.at_ j u e'
      have ne : ∀ {q : Addr}, u.alone = true → σ[j]? = some (some (.ref q)) → q ≠ p := fun {q} au hq z => by
        subst z
        exact hj (c.one i j s u q e e' a au v hq)
      cases u with
      | un => cases σ[j]? <;> trivial
      | sh d =>
        match hv : σ[j]?, z with
        | some (some w), z => exact z
      | own xs =>
        match hv : σ[j]?, z with
        | some (some w), ⟨q, vs, ew, hsq, hq, h0q, r⟩ =>
          subst ew
          exact ⟨q, vs, rfl, hsq, by rw [upd_ne (ne rfl hv)]; exact hq, h0q, r⟩
      | ownD ks xs =>
        match hv : σ[j]?, z with
        | some (some w), ⟨q, vs, ew, hsq, hq, h0q, r⟩ =>
          subst ew
          exact ⟨q, vs, rfl, hsq, by rw [upd_ne (ne rfl hv)]; exact hq, h0q, r⟩
      | er x d =>
        match hv : σ[j]?, z with
        | some (some w), z => exact z
  · have old : ∀ {k : Nat} {w : Slot}, (Γ.set i t)[k]? = some w → w.alone = true → ∃ w', Γ[k]? = some w' ∧ (i ≠ k → w' = w) := fun {k w} ek _ => by
      by_cases nk : i = k
      · subst nk
        exact ⟨s, e, fun z => absurd rfl z⟩
      · rw [List.getElem?_set_ne nk] at ek
        exact ⟨w, ek, fun _ => rfl⟩
    by_cases nj : i = j
    · by_cases nk : i = k
      · exact nj.symm.trans nk
      · subst nj
        rw [List.getElem?_set_ne nk] at ek
        exact c.one i k s w q e ek a ak hj hk
    · by_cases nk : i = k
      · subst nk
        rw [List.getElem?_set_ne nj] at ej
        exact c.one j i u s q ej e aj a hj hk
      · rw [List.getElem?_set_ne nj] at ej
        rw [List.getElem?_set_ne nk] at ek
        exact c.one j k u w q ej ek aj ak hj hk
/-- it becomes shared -/
theorem Stn.freeze (c : Stn K et ce Hs H0s σ H H0 Γ) {i : Nat} {s : Slot} {p : Addr} {o : HO} {d : D} (e : Γ[i]? = some s) (a : s.alone = true) (v : σ[i]? = some (some (.ref p))) (hs : Hs p = none) (hp : H p = some o)
    (r : Rep K (upd H0 p o) (.ref p) d) : Stn K et ce Hs H0s σ H (upd H0 p o) (Γ.set i (.sh d)) := by
  obtain ⟨_, _, h0⟩ := c.tracked e a v
  have up : Same H0 (upd H0 p o) := same_upd' (Same.refl _) h0
  refine ⟨c.z, Step.share c.z c.st hs hp h0, by simpa using c.len, fun j u e' => ?_, fun j k u w q ej ek aj ak hj hk => ?_⟩
  · by_cases hj : i = j
    · subst hj
      rw [List.getElem?_set_self (get_lt e')] at e'
      cases e'
      rw [v]
      exact r
    · rw [List.getElem?_set_ne hj] at e'
      have z := c.at_ j u e'
      have ne : ∀ {q : Addr}, u.alone = true → σ[j]? = some (some (.ref q)) → q ≠ p := fun {q} au hq z => by
        subst z
        exact hj (c.one i j s u q e e' a au v hq)
      cases u with
      | un => cases σ[j]? <;> trivial
      | sh d =>
        match hv : σ[j]?, z with
        | some (some w), z => exact Rep.same up z
      | own xs =>
        match hv : σ[j]?, z with
        | some (some w), ⟨q, vs, ew, hsq, hq, h0q, r⟩ =>
          subst ew
          exact ⟨q, vs, rfl, hsq, hq, by rw [upd_ne (ne rfl hv)]; exact h0q, r.same up⟩
      | ownD ks xs =>
        match hv : σ[j]?, z with
        | some (some w), ⟨q, vs, ew, hsq, hq, h0q, k, r⟩ =>
          subst ew
          exact ⟨q, vs, rfl, hsq, hq, by rw [upd_ne (ne rfl hv)]; exact h0q, k, r.same up⟩
      | er x d =>
        match hv : σ[j]?, z with
        | some (some w), ⟨a, C, fld, dd, w2, e1, e2, e3, e4, r⟩ => exact ⟨a, C, fld, dd, w2, e1, e2, e3, up _ _ e4, r.same up⟩
  · have nj : i ≠ j := fun z => by subst z; rw [List.getElem?_set_self (get_lt ej)] at ej; cases ej; cases aj
    have nk : i ≠ k := fun z => by subst z; rw [List.getElem?_set_self (get_lt ek)] at ek; cases ek; cases ak
    rw [List.getElem?_set_ne nj] at ej
    rw [List.getElem?_set_ne nk] at ek
    exact c.one j k u w q ej ek aj ak hj hk
end
/-- a thing that stood alone is shared from here on -/
def frz (i : Nat) (Γ : En) : En := match Γ[i]? with
  | some (.own xs) => Γ.set i (.sh (.lst xs))
  | some (.ownD ks xs) => Γ.set i (.sh (.dic ks xs))
  | _ => Γ
theorem frz_stn {K : PySem.W.Frag} {et : ET} {ce : Caught} {Hs H0s H H0 : Hp} {σ : L2.St} {Γ : En} (i : Nat) (c : Stn K et ce Hs H0s σ H H0 Γ) : ∃ G, Same H0 G ∧ Stn K et ce Hs H0s σ H G (frz i Γ) := by
  unfold frz
  split
  · rename_i xs e
    have z := c.at_ i _ e
    match hv : σ[i]?, z with
    | some (some v), ⟨p, vs, ev, hs, hp, h0, r⟩ =>
      subst ev
      exact ⟨_, same_upd' (Same.refl _) h0, c.freeze e rfl hv hs hp (.lst upd_same (r.same (same_upd' (Same.refl _) h0)))⟩
  · rename_i ks xs e
    have z := c.at_ i _ e
    match hv : σ[i]?, z with
    | some (some v), ⟨p, kvs, ev, hs, hp, h0, k, r⟩ =>
      subst ev
      exact ⟨_, same_upd' (Same.refl _) h0, c.freeze e rfl hv hs hp (.dic upd_same k (r.same (same_upd' (Same.refl _) h0)))⟩
  · exact ⟨H0, Same.refl _, c⟩
section
variable {X : Cx} {et : ET} {ce : Caught} {W : WX} {st : Stmt} {sts : List Stmt} {e a b : Expr} {es : List Expr} {m ma mb : En → Res D} {mt : En → Res Bool} {pos : Pos} {ms mr : En → Out}
theorem ds_frz (i : Nat) (h : DS X et ce W st ms) : DS X et ce W st (fun Γ => ms (frz i Γ)) := by
  obtain ⟨t, p, g⟩ := h
  refine ⟨t, p, fun Hs H0s σ H H0 Γ E c q => ?_⟩
  obtain ⟨G, s, c'⟩ := frz_stn i c
  exact g _ _ _ _ _ _ _ c' (q.up s)
theorem ds_setF {i : Nat} {m : En → Res (List D)} (hp : ∀ te, PE X e te → PS X st (tAsg te (gName i))) (h : DF X et ce W e m) : DS X et ce W st (mSetF i m) := by
  obtain ⟨t, p, ge⟩ := h
  refine ⟨_, hp t p, fun Hs H0s σ H H0 Γ E c q => ge _ _ _ _ _ _ _ c ?_⟩
  refine PostS.to c q fun xs v H' G _ s ⟨p, vs, ev, hn, hp', h0, r⟩ q => ?_
  subst ev
  exact q _ H' G (c.putNew s i hn ⟨p, vs, rfl, c.none_of hn, hp', h0, r⟩) s.small
theorem ds_setFD {i : Nat} {m : En → Res (List Key × List D)} (hp : ∀ te, PE X e te → PS X st (tAsg te (gName i))) (h : DFD X et ce W e m) : DS X et ce W st (mSetFD i m) := by
  obtain ⟨t, p, ge⟩ := h
  refine ⟨_, hp t p, fun Hs H0s σ H H0 Γ E c q => ge _ _ _ _ _ _ _ c ?_⟩
  refine PostS.to c q fun xs v H' G _ s ⟨p, vs, ev, hn, hp', h0, k, r⟩ q => ?_
  subst ev
  exact q _ H' G (c.putNew s i hn ⟨p, vs, rfl, c.none_of hn, hp', h0, k, r⟩) s.small

/-! ### return, if -/
def mRet (m : En → Res D) (Γ : En) : Out := mTo (m Γ) Γ fun d => .rt (.sh d)
def mRetF (m : En → Res (List D)) (Γ : En) : Out := mTo (m Γ) Γ fun d => .rt (.own d)
/-- return of a name whose thing nothing else holds -/
def mRetO (i : Nat) (Γ : En) : Out := match Γ[i]? with
  | some (.own xs) => .rt (.own xs)
  | some (.ownD ks xs) => .rt (.ownD ks xs)
  | some (.sh d) => .rt (.sh d)
  | _ => .stuck
theorem ds_ret (h : DE X et ce W e m) : DS X et ce W (.Return (some e) pos) (mRet m) := by
  obtain ⟨t, p, ge⟩ := h
  refine ⟨_, ps_ret p, fun Hs H0s σ H H0 Γ E c q => ge _ _ _ _ _ _ _ c ?_⟩
  exact PostS.to c q fun d v H' G _ s r q => q v H' G (c.st.trans s) r
theorem ds_retF {m : En → Res (List D)} (h : DF X et ce W e m) : DS X et ce W (.Return (some e) pos) (mRetF m) := by
  obtain ⟨t, p, ge⟩ := h
  refine ⟨_, ps_ret p, fun Hs H0s σ H H0 Γ E c q => ge _ _ _ _ _ _ _ c ?_⟩
  exact PostS.to c q fun xs v H' G _ s ⟨p, vs, ev, hn, hp', h0, r⟩ q => q v H' G (c.st.trans s) ⟨p, vs, ev, c.none_of hn, hp', h0, r⟩
theorem ds_retO {i : Nat} (h : PE X e (tVar i)) : DS X et ce W (.Return (some e) pos) (mRetO i) := by
  refine ⟨_, ps_ret h, fun Hs H0s σ H H0 Γ E c q => ?_⟩
  unfold mRetO at q
  split at q
  · rename_i xs e
    have z := c.at_ i _ e
    match hv : σ[i]?, z with
    | some (some v), z => exact ⟨v, hv, q v H H0 c.st z⟩
  · rename_i ks xs e
    have z := c.at_ i _ e
    match hv : σ[i]?, z with
    | some (some v), z => exact ⟨v, hv, q v H H0 c.st z⟩
  · rename_i d e
    have z := c.at_ i _ e
    match hv : σ[i]?, z with
    | some (some v), z => exact ⟨v, hv, q v H H0 c.st z⟩
  · exact q.elim
theorem ds_retN : DS X et ce W (.Return none pos) (fun _ => .rt (.sh .non)) := ⟨_, ps_retN, fun _ _ σ H H0 Γ E c q => q .non H H0 c.st .non⟩
def mIf (mt : En → Res Bool) (ms mr : En → Out) (Γ : En) : Out := mTo (mt Γ) Γ fun b => if b = true then ms Γ else mr Γ
theorem ds_if {c : Expr} {x y : List Stmt} (hc : DT X et ce W c mt) (ha : DSs X et ce W x ms) (hb : DSs X et ce W y mr) : DS X et ce W (.If c x y pos) (mIf mt ms mr) := by
  obtain ⟨t, p, g⟩ := hc
  obtain ⟨t1, p1, g1⟩ := ha
  obtain ⟨t2, p2, g2⟩ := hb
  refine ⟨_, ps_if p p1 p2, fun Hs H0s σ H H0 Γ E c q => g _ _ _ _ _ _ _ c ?_⟩
  refine PostS.to c q fun b b' H' G _ s r q => ?_
  cases (r : b' = b)
  cases b with
  | true => exact iteT (g1 _ _ _ _ _ _ _ (c.step s) (q.up s.small))
  | false => exact iteF (g2 _ _ _ _ _ _ _ (c.step s) (q.up s.small))

/-! ### append, stores into a list -/
def mApp (i : Nat) (m : En → Res D) (Γ : En) : Out := match Γ[i]? with
  | some (.own xs) => mTo (m Γ) Γ fun d => if xs.length < 1000000 then .nx (Γ.set i (.own (xs ++ [d]))) else .stuck
  | _ => .stuck
theorem big_line {n : Nat} (h : n < 1000000) : n < sizeLine := by rw [sizeLine_eq]; omega
theorem ds_app {i : Nat} (hp : ∀ te, PE X e te → PS X st (tDrop (tBM X.K "list" rAppend (tVar i) (tCons te tNil)))) (h : DE X et ce W e m) : DS X et ce W st (mApp i m) := by
  obtain ⟨t, p, ge⟩ := h
  refine ⟨_, hp t p, fun Hs H0s σ H H0 Γ E c q => ?_⟩
  unfold mApp at q
  split at q
  · rename_i xs e
    have z := c.at_ i _ e
    match hv : σ[i]?, z with
    | some (some v), ⟨p, vs, ev, hs, hp', h0, r⟩ =>
      subst ev
      refine ⟨_, hv, .inl ⟨rfl, vs, SqL.of hp'⟩, ge _ _ _ _ _ _ _ c (PostS.to c q fun d v H' G _ s rv q => ?_)⟩
      have c' := c.step s
      have hp2 := s.big _ _ hp'
      split at q
      · rename_i hl
        refine ⟨p, vs, v, rfl, rfl, hp2, big_line (by rw [r.len]; exact hl), ?_⟩
        exact q _ _ G (c'.write e rfl hv hs ⟨p, vs ++ [v], rfl, hs, upd_same, s.apart _ _ hp' h0, (r.same s.small).app (.cons rv .nil)⟩) s.small
      · exact q.elim
  · exact q.elim
def mSetIx (i : Nat) (mk me : En → Res D) (Γ : En) : Out := match Γ[i]? with
  | some (.own xs) => mTo (me Γ) Γ fun d => mTo (mk Γ) Γ fun k => match k with
    | .int k => match ixN xs.length k with
      | some j => .nx (Γ.set i (.own (xs.set j d)))
      | none => .stuck
    | _ => .stuck
  | _ => .stuck
theorem ds_setIx {i : Nat} {mk : En → Res D} {ek : Expr} (hp : ∀ te tk, PE X e te → PE X ek tk → PS X st (tAsg te (gSub (tVar i) tk rSetL))) (hk : DE X et ce W ek mk) (h : DE X et ce W e m) : DS X et ce W st (mSetIx i mk m) := by
  obtain ⟨t, p, ge⟩ := h
  obtain ⟨tk, pk, gk⟩ := hk
  refine ⟨_, hp t tk p pk, fun Hs H0s σ H H0 Γ E c q => ?_⟩
  unfold mSetIx at q
  split at q
  · rename_i xs e
    have z := c.at_ i _ e
    match hv : σ[i]?, z with
    | some (some v), ⟨p, vs, ev, hs, hp', h0, r⟩ =>
      subst ev
      refine ge _ _ _ _ _ _ _ c (PostS.to c q fun d v H' G _ s rv q => ⟨_, hv, gk _ _ _ _ _ _ _ (c.step s) (PostS.to (c.step s) (q.up s.small) fun k vk H2 G2 _ s2 rk q => ?_)⟩)
      have st := s.trans s2
      have c' := c.step st
      cases k with
      | int k =>
        cases (show Rep X.K G2 vk (.int k) from rk)
        dsimp only at q
        split at q
        · rename_i j hj
          refine ⟨p, vs, k, j, rfl, rfl, st.big _ _ hp', by rw [r.len]; exact hj, ?_⟩
          exact q _ _ G2 (c'.write e rfl hv hs ⟨p, vs.set j v, rfl, hs, upd_same, st.apart _ _ hp' h0, (r.same st.small).set (rv.same s2.small) j⟩) s2.small
        · exact q.elim
      | _ => exact q.elim
  · exact q.elim
/-- x op= e -/
def mAug (i : Nat) (g : D → D → Option Giv) (m : En → Res D) (Γ : En) : Out := mTo (getS Γ i) Γ fun x => mTo (m Γ) Γ fun y => mTo (toR (g x y)) Γ fun d => .nx (Γ.set i (.sh d))
theorem ds_aug {i : Nat} {g : D → D → Option Giv} (hp : ∀ te, PE X e te → PS X st (tAug i te (r2D X.K g))) (h : DE X et ce W e m) : DS X et ce W st (mAug i g m) := by
  obtain ⟨t, p, ge⟩ := h
  refine ⟨_, hp t p, fun Hs H0s σ H H0 Γ E c q => ?_⟩
  unfold mAug at q
  cases hx : getS Γ i with
  | exc x d =>
    unfold getS at hx
    split at hx <;> cases hx
  | stuck => rw [hx] at q; exact q.elim
  | ok x =>
    rw [hx] at q
    unfold getS at hx
    split at hx
    · rename_i d e
      cases hx
      have z := c.at_ i _ e
      match hv : σ[i]?, z with
      | some (some v), z =>
        refine ⟨v, hv, ge _ _ _ _ _ _ _ c (PostS.to c q fun y vy H' G _ s ry q => ?_)⟩
        have c' := c.step s
        have zr : Rep X.K G v x := Rep.same s.small z
        refine ⟨G, x, y, s.sub, zr.toO s.sub, Rep.toO s.sub ry, asked (W := W) (et := et) (σ := σ) s.sub (PostS.to c' (q.up s.small) fun w vw H2 G2 _ s2 rw q => ?_)⟩
        exact q _ _ G2 ((c'.step s2).put i rw) s2.small
    · cases hx
def mPar (i j : Nat) (ms : En → Res (List D)) (Γ : En) : Out := mTo (ms Γ) Γ fun ds => match ds with
  | [x, y] => .nx ((Γ.set i (.sh x)).set j (.sh y))
  | _ => .stuck
theorem ds_par {i j : Nat} {ms : En → Res (List D)} (hp : ∀ ta, PA X es ta → PS X st (tPar i j ta)) (h : DA X et ce W es ms) : DS X et ce W st (mPar i j ms) := by
  obtain ⟨t, p, ge⟩ := h
  refine ⟨_, hp t p, fun Hs H0s σ H H0 Γ E c q => ge _ _ _ _ _ _ _ c (PostS.to c q fun ds vs H' G _ s r q => ?_)⟩
  match ds, (show RepAll X.K G vs ds from r), q with
  | [x, y], .cons r1 (.cons r2 .nil), q => exact ⟨_, _, rfl, q _ _ G (((c.step s).put i r1).put j r2) s.small⟩

/-! ### while -/
def whileM (mt : En → Res Bool) (ms : En → Out) : Nat → En → Out
  | 0, _ => .stuck
  | n + 1, Γ => mTo (mt Γ) Γ fun b => if b = true then (match ms Γ with
    | .nx Γ' => whileM mt ms n Γ'
    | .ct Γ' => whileM mt ms n Γ'
    | .bk Γ' => .nx Γ'
    | o => o) else .nx Γ
theorem ds_while {c : Expr} {body : List Stmt} (n : Nat) (hp : PassesOwn (model X.prog X.w) X.A X.env X.xe) (hc : DT X et ce W c mt) (hb : DSs X et ce W body ms) : DS X et ce W (.While c body [] pos) (whileM mt ms n) := by
  obtain ⟨tc, pc, gc⟩ := hc
  obtain ⟨tb, pb, gb⟩ := hb
  refine ⟨_, ps_while hp pc pb, fun Hs H0s σ H H0 Γ E c q => ?_⟩
  refine ⟨fun m σ H => ∃ G Γ, Stn X.K et ce Hs H0s σ H G Γ ∧ Same H0 G ∧ PostS X.K et ce W Hs H0s G E (whileM mt ms m Γ), ⟨n, H0, Γ, c, Same.refl _, q⟩, ?_⟩
  rintro m σ1 H1 ⟨G, Γ1, c1, s1, q1⟩
  cases m with
  | zero => exact q1.elim
  | succ m =>
    refine gc _ _ _ _ _ _ _ c1 (PostS.to c1 q1 fun b b' H' G' _ s r q => ?_)
    cases (r : b' = b)
    cases b with
    | false => exact iteF (q _ _ G' (c1.step s) s.small)
    | true =>
      refine iteT ⟨fun σ' H' => ∃ G2 Γ2, Stn X.K et ce Hs H0s σ' H' G2 Γ2 ∧ Same H0 G2 ∧ PostS X.K et ce W Hs H0s G2 E (whileM mt ms m Γ2), fun σ' H' z => ⟨m, Nat.lt_succ_self m, z⟩, gb _ _ _ _ _ _ _ (c1.step s) ?_⟩
      have sG := Same.trans s1 s.small
      have q := q.up s.small
      rw [if_pos rfl] at q
      revert q
      cases ms Γ1 with
      | nx Γ' => exact fun q σ' H2 G2 c2 s2 => ⟨G2, Γ', c2, Same.trans sG s2, q.up s2⟩
      | ct Γ' => exact fun q σ' H2 G2 c2 s2 => ⟨G2, Γ', c2, Same.trans sG s2, q.up s2⟩
      | bk Γ' => exact fun q => q
      | rt s => exact fun q => q
      | exc x d Γ' => exact fun q => q
      | stuck => exact fun q => q

/-! ### what a loop walks -/
structure Walks (K : PySem.W.Frag) (J : It) (H0l : Hp) (ds : List D) : Prop where
  go : ∀ i H G, i < ds.length → Same H0l G → Same G H → J.go i H ∧ ∀ x H', J.yld i H x H' → ∃ G' d, ds[i]? = some d ∧ Step H G H' G' ∧ Rep K G' x d
  stop : ∀ i H G, ds.length ≤ i → Same H0l G → Same G H → J.stop i H
def RI (K : PySem.W.Frag) : Rl (List D) It := fun _ _ H0 J ds => Walks K J H0 ds
theorem back_I {K : PySem.W.Frag} : Back (RI K) := fun _ _ _ _ _ _ _ h => h
structure DI (X : Cx) (et : ET) (ce : Caught) (W : WX) (tg e : Expr) (m : En → Res (List D)) : Prop where ex : ∃ t, PI X tg e t ∧ Good X.K et ce W (RI X.K) t m
theorem walks_list {K : PySem.W.Frag} {H0 : Hp} {a : Addr} {vs : List V} {ds : List D} (hs : ∀ G H, Same H0 G → Same G H → SqL K H a vs) (r : RepAll K H0 vs ds) : Walks K (Itl K a) H0 ds := by
  constructor
  · intro i H G hi s1 s2
    have hl := hs G H s1 s2
    have hd : ds[i]? = some ds[i] := by simp [hi]
    obtain ⟨v, hv, rv⟩ := r.get hd
    refine ⟨⟨vs, v, hl, hv⟩, fun x H' y => ?_⟩
    obtain ⟨e, y⟩ := y
    subst e
    have := y vs hl
    rw [hv] at this
    cases this
    exact ⟨G, _, hd, Step.refl s2, rv.same s1⟩
  · intro i H G hi s1 s2
    exact ⟨vs, hs G H s1 s2, by rw [r.len]; exact hi⟩
end
end DL

/-! data instead of heaps: for, comprehensions, raise, try, calls, defs -/
namespace DL
open PySem L2 PySem.Spec PyProof.Rows GL

section
variable {X : Cx} {et : ET} {ce : Caught} {W : WX} {st : Stmt} {sts : List Stmt} {e a b tg : Expr} {es : List Expr} {m ma mb : En → Res D} {mt : En → Res Bool} {mi : En → Res (List D)} {mg : D → En → Option En} {vs : List Nat} {pos : Pos} {ms mr : En → Out}
/-! ### for -/
def forM (mg : D → En → Option En) (ms : En → Out) : List D → En → Out
  | [], Γ => .nx Γ
  | x :: r, Γ => match mg x Γ with
    | none => .stuck
    | some Γ1 => match ms Γ1 with
      | .nx Γ' => forM mg ms r Γ'
      | .ct Γ' => forM mg ms r Γ'
      | .bk Γ' => .nx Γ'
      | o => o
def mFor (mi : En → Res (List D)) (mg : D → En → Option En) (ms : En → Out) (Γ : En) : Out := mTo (mi Γ) Γ fun xs => forM mg ms xs Γ
theorem ds_for {body : List Stmt} {g : TG} (hp : PassesOwn (model X.prog X.w) X.A X.env X.xe) (hc : X.calm = true) (hi : DI X et ce W tg e mi) (pg : PG X tg g) (hg : GoodG X.K et ce vs g mg) (hb : DSs X et ce W body ms)
    (hs : ∀ x, foldedSetIterable e X.env x = pure x := by intro _; rfl) : DS X et ce W (.For tg e body [] pos) (mFor mi mg ms) := by
  obtain ⟨ti, pi, gi⟩ := hi
  obtain ⟨tb, pb, gb⟩ := hb
  refine ⟨_, ps_for hp hc pi pg pb hs, fun Hs H0s σ H H0 Γ E c q => gi _ _ _ _ _ _ _ c (PostS.to c q fun ds J H1 G1 _ s wk q => ?_)⟩
  have wk : Walks X.K J G1 ds := wk
  refine ⟨fun i m σ H => i ≤ ds.length ∧ m = ds.length - i ∧ ∃ G Γ, Stn X.K et ce Hs H0s σ H G Γ ∧ Same G1 G ∧ PostS X.K et ce W Hs H0s G E (forM mg ms (ds.drop i) Γ),
    ⟨ds.length, Nat.zero_le _, rfl, G1, Γ, c.step s, Same.refl _, q.up s.small⟩, ?_⟩
  rintro i n σ1 H2 ⟨hi, rfl, G, Γ1, c1, s1, q1⟩
  by_cases hlt : i < ds.length
  · obtain ⟨go, yld⟩ := wk.go i H2 G hlt s1 c1.sub
    refine .inr ⟨go, fun σ' H' => ∃ G' Γ', Stn X.K et ce Hs H0s σ' H' G' Γ' ∧ Same G1 G' ∧ PostS X.K et ce W Hs H0s G' E (forM mg ms (ds.drop (i + 1)) Γ'),
      fun σ' H' z => ⟨ds.length - (i + 1), by omega, hlt, rfl, z⟩, fun x H' y => ?_⟩
    obtain ⟨G', d, hd, s2, rx⟩ := yld x H' y
    have he : ds.drop i = d :: ds.drop (i + 1) := by
      rw [List.drop_eq_getElem_cons hlt]
      congr 1
      rw [List.getElem?_eq_getElem hlt] at hd
      exact Option.some.inj hd
    rw [he] at q1
    unfold forM at q1
    cases hm : mg d Γ1 with
    | none => rw [hm] at q1; exact q1.elim
    | some Γ2 =>
      rw [hm] at q1
      refine hg.go _ _ _ _ _ _ _ _ _ _ (c1.step s2) rx hm fun σ2 _ c2 => gb _ _ _ _ _ _ _ c2 ?_
      have q2 := q1.up s2.small
      have s3 := Same.trans s1 s2.small
      revert q2
      dsimp only
      cases ms Γ2 with
      | nx Γ' => exact fun q σ' H2 G2 c2 z => ⟨G2, Γ', c2, Same.trans s3 z, q.up z⟩
      | ct Γ' => exact fun q σ' H2 G2 c2 z => ⟨G2, Γ', c2, Same.trans s3 z, q.up z⟩
      | bk Γ' => exact fun q => q
      | rt s => exact fun q => q
      | exc x d Γ' => exact fun q => q
      | stuck => exact fun q => q
  · have e : i = ds.length := by omega
    subst e
    rw [List.drop_length] at q1
    exact .inl ⟨wk.stop _ H2 G (Nat.le_refl _) s1 c1.sub, q1 _ _ G c1 (Same.refl _)⟩

/-! ### comprehensions -/
def wipeE (Γ : En) : List Nat → En
  | [] => Γ
  | v :: vs => (wipeE Γ vs).set v .un
theorem Stn.wipe {K : PySem.W.Frag} {Hs H0s H H0 : Hp} {σ : L2.St} {Γ : En} (c : Stn K et ce Hs H0s σ H H0 Γ) : ∀ vs : List Nat, Stn K et ce Hs H0s (L2.wipe σ vs) H H0 (wipeE Γ vs)
  | [] => c
  | v :: vs => (c.wipe vs).forget v none
theorem wipe_at {σ : L2.St} : ∀ {vs : List Nat} {j : Nat}, j ∉ vs → (L2.wipe σ vs)[j]? = σ[j]?
  | [], _, _ => rfl
  | v :: vs, j, h => by
    have h1 : v ≠ j := fun z => h (by simp [z])
    show ((L2.wipe σ vs).set v none)[j]? = _
    rw [List.getElem?_set_ne h1]
    exact wipe_at fun z => h (by simp [z])
theorem wipe_in {σ : L2.St} : ∀ {vs : List Nat} {j : Nat}, j ∈ vs → (L2.wipe σ vs)[j]? = if j < σ.length then some none else none
  | v :: vs, j, h => by
    show ((L2.wipe σ vs).set v none)[j]? = _
    by_cases e : v = j
    · subst e
      by_cases hl : v < σ.length
      · rw [List.getElem?_set_self (by rw [wipe_length]; exact hl), if_pos hl]
      · rw [List.getElem?_eq_none (by rw [List.length_set, wipe_length]; omega), if_neg hl]
    · rw [List.getElem?_set_ne e]
      exact wipe_in (by simpa [Ne.symm e] using h)
theorem wipe_only {σ τ : L2.St} {vs : List Nat} (h : OnlyAt vs (L2.wipe σ vs) τ) : L2.wipe τ vs = L2.wipe σ vs := by
  have hl : τ.length = σ.length := by rw [h.1, wipe_length]
  apply List.ext_getElem?
  intro j
  by_cases hj : j ∈ vs
  · rw [wipe_in hj, wipe_in hj, hl]
  · rw [wipe_at hj, h.2 j hj]
/-- within a block nothing may be raised -/
def noX {α : Type} : Res α → Res α
  | .ok a => .ok a
  | _ => .stuck
abbrev W0 : WX := fun _ _ _ _ => False
def compM (mg : D → En → Option En) (mt : En → Res Bool) (m : En → Res D) (Γ : En) : List D → Res (List D)
  | [] => .ok []
  | x :: r => match mg x Γ with
    | none => .stuck
    | some Γ1 => (noX (mt Γ1)).bind fun b => if b = true then (noX (m Γ1)).bind fun d => (compM mg mt m Γ r).bind fun ds => .ok (d :: ds) else compM mg mt m Γ r
/-- every other form of a reading -/
def tEM {α β : Type} (K : PySem.W.Frag) (et : ET) (ce : Caught) (W : WX) (R : Rl α β) (m : En → Res α) : L2.St → Hp → (β → Hp → Prop) → Prop := fun σ H Q =>
  ∃ Hs H0s H0 Γ, Stn K et ce Hs H0s σ H H0 Γ ∧ Post K et W R σ H H0 Q (m Γ)
def tM (K : PySem.W.Frag) (et : ET) (ce : Caught) (W : WX) (m : En → Out) : TS := fun E σ H => ∃ Hs H0s H0 Γ, Stn K et ce Hs H0s σ H H0 Γ ∧ PostS K et ce W Hs H0s H0 E (m Γ)
theorem DE.can (h : DE X et ce W e m) : PE X e (tEM X.K et ce W (RD X.K) m) := by
  obtain ⟨t, p, g⟩ := h
  exact ⟨fun pins s σ H Q I ⟨Hs, H0s, H0, Γ, c, q⟩ => p.run pins s σ H Q I (g _ _ _ _ _ _ _ c q)⟩
theorem DT.can (h : DT X et ce W e mt) : PT X e (tEM X.K et ce W RB mt) := by
  obtain ⟨t, p, g⟩ := h
  exact ⟨fun pins s σ H Q I ⟨Hs, H0s, H0, Γ, c, q⟩ => p.run pins s σ H Q I (g _ _ _ _ _ _ _ c q)⟩
theorem DSs.can (h : DSs X et ce W sts ms) : PSs X sts (tM X.K et ce W ms) := by
  obtain ⟨t, p, g⟩ := h
  exact ⟨fun pins s σ H E I ⟨Hs, H0s, H0, Γ, c, q⟩ => p.run pins s σ H E I (g _ _ _ _ _ _ _ c q)⟩
theorem post_noX {α β : Type} {K : PySem.W.Frag} {R : Rl α β} {σ : L2.St} {H H0 : Hp} {Q : β → Hp → Prop} {r : Res α} {a : α} (h : noX r = .ok a) (q : ∀ b H' G, Step H H0 H' G → R H H' G b a → Q b H') : Post K et W0 R σ H H0 Q r := by
  cases r with
  | ok a' => cases h; exact q
  | exc x d => cases h
  | stuck => cases h
/-- a comprehension's tests -/
structure DTs (X : Cx) (et : ET) (ce : Caught) (ifs : List Expr) (mt : En → Res Bool) : Prop where ex : PTs X ifs (tEM X.K et ce W0 RB mt)
theorem dts_nil : DTs X et ce [] (fun _ => .ok true) :=
  ⟨⟨fun pins s σ H Q I ⟨Hs, H0s, H0, Γ, c, q⟩ => pts_nil.run pins s σ H Q I (q true H H0 (Step.refl c.sub) rfl)⟩⟩
theorem dts_one {c : Expr} (h : DT X et ce W0 c mt) : DTs X et ce [c] mt := ⟨pts_one h.can⟩
def mComp (vs : List Nat) (mi : En → Res (List D)) (mg : D → En → Option En) (mt : En → Res Bool) (m : En → Res D) (Γ : En) : Res (List D) := (mi Γ).bind fun xs => need (xs.length < 1000000) (compM mg mt m (wipeE Γ vs) xs)
theorem good_comp {wi : TI} {g : TG} (gi : Good X.K et ce W (RI X.K) wi mi) (hg : GoodG X.K et ce vs g mg) :
    Good X.K et ce W (RF X.K) (tLc wi g (tEM X.K et ce W0 RB mt) (tEM X.K et ce W0 (RD X.K) m) vs) (mComp vs mi mg mt m) := by
  intro Hs H0s σ H H0 Γ Q c q
  refine gi _ _ _ _ _ _ _ c (Post.next q fun ds J H1 G1 _ s wk q => ?_)
  have wk : Walks X.K J G1 ds := wk
  obtain ⟨hsz, q⟩ := need_if q
  intro L hL
  -- the end is reached
  cases hc : compM mg mt m (wipeE Γ vs) ds with
  | exc x d =>
    exfalso
    clear q
    have : ∀ (ds : List D) x d, compM mg mt m (wipeE Γ vs) ds ≠ .exc x d := by
      intro ds
      induction ds with
      | nil => intro x d z; cases z
      | cons y r ih =>
        intro x d z
        unfold compM at z
        split at z
        · cases z
        · rename_i Γ1 _
          cases h1 : noX (mt Γ1) with
          | exc x2 d2 => cases h2 : mt Γ1 <;> rw [h2] at h1 <;> cases h1
          | stuck => rw [h1] at z; cases z
          | ok bb =>
            rw [h1] at z
            simp only [Res.bind] at z
            split at z
            · cases h3 : noX (m Γ1) with
              | exc x2 d2 => cases h2 : m Γ1 <;> rw [h2] at h3 <;> cases h3
              | stuck => rw [h3] at z; cases z
              | ok dd =>
                rw [h3] at z
                cases h4 : compM mg mt m (wipeE Γ vs) r with
                | ok _ => rw [h4] at z; cases z
                | stuck => rw [h4] at z; cases z
                | exc x3 d3 => exact ih _ _ h4
            · exact ih _ _ z
    exact this _ _ _ hc
  | stuck => rw [hc] at q; exact q.elim
  | ok out =>
    rw [hc] at q
    have hL0 : G1 L = none := none_sub s.sub hL
    have c1 := c.step s
    refine ⟨fun i n H2 => i ≤ ds.length ∧ n = ds.length - i ∧ ∃ G acc accD rest, Step H1 G1 H2 G ∧ H2 L = some (.lst acc) ∧ G L = none ∧ RepAll X.K G acc accD ∧ accD.length ≤ i ∧
      compM mg mt m (wipeE Γ vs) (ds.drop i) = .ok rest ∧ accD ++ rest = out,
      ⟨ds.length, Nat.zero_le _, rfl, G1, [], [], out, Step.own s.sub hL, upd_same, hL0, .nil, Nat.le_refl _, hc, rfl⟩, ?_⟩
    rintro i n H2 ⟨hi, rfl, G, acc, accD, rest, sg, hacc, hG, ra, hal, hr, hout⟩
    by_cases hlt : i < ds.length
    · obtain ⟨go, yld⟩ := wk.go i H2 G hlt sg.small sg.sub
      refine .inr ⟨go, fun H3 => ∃ G acc accD rest, Step H1 G1 H3 G ∧ H3 L = some (.lst acc) ∧ G L = none ∧ RepAll X.K G acc accD ∧ accD.length ≤ i + 1 ∧
        compM mg mt m (wipeE Γ vs) (ds.drop (i + 1)) = .ok rest ∧ accD ++ rest = out, fun H3 z => ⟨ds.length - (i + 1), by omega, hlt, rfl, z⟩, fun x H3 y => ?_⟩
      obtain ⟨G3, d, hd, s3, rx⟩ := yld x H3 y
      have he : ds.drop i = d :: ds.drop (i + 1) := by
        rw [List.drop_eq_getElem_cons hlt]
        congr 1
        rw [List.getElem?_eq_getElem hlt] at hd
        exact Option.some.inj hd
      rw [he] at hr
      unfold compM at hr
      split at hr
      · cases hr
      · rename_i Γ1 hm
        have cw : Stn X.K et ce Hs H0s (L2.wipe σ vs) H3 G3 (wipeE Γ vs) := ((c1.step sg).step s3).wipe vs
        refine hg.go _ _ _ _ _ _ _ _ _ _ cw rx hm fun σ3 o3 c3 => ⟨wipe_only o3, ?_⟩
        cases h1 : noX (mt Γ1) with
        | exc x2 d2 => cases h2 : mt Γ1 <;> rw [h2] at h1 <;> cases h1
        | stuck => rw [h1] at hr; cases hr
        | ok bb =>
          rw [h1] at hr
          have hr : (if bb = true then (noX (m Γ1)).bind fun d => (compM mg mt m (wipeE Γ vs) (ds.drop (i + 1))).bind fun ds => .ok (d :: ds) else compM mg mt m (wipeE Γ vs) (ds.drop (i + 1))) = .ok rest := hr
          refine ⟨Hs, H0s, G3, Γ1, c3, post_noX h1 fun b' H4 G4 s4 eb => ?_⟩
          cases (eb : b' = bb)
          have s34 := s3.trans s4
          cases bb with
          | false =>
            rw [if_neg Bool.false_ne_true] at hr
            refine iteF ⟨G4, acc, accD, rest, sg.trans s34, s34.big _ _ hacc, s34.apart _ _ hacc hG, ra.same s34.small, Nat.le_succ_of_le hal, hr, hout⟩
          | true =>
            rw [if_pos rfl] at hr
            refine iteT ?_
            cases h3 : noX (m Γ1) with
            | exc x2 d2 => cases h2 : m Γ1 <;> rw [h2] at h3 <;> cases h3
            | stuck => rw [h3] at hr; cases hr
            | ok dd =>
              rw [h3] at hr
              refine ⟨Hs, H0s, G4, Γ1, c3.step s4, post_noX h3 fun v H5 G5 s5 rv => ?_⟩
              have hr : ((compM mg mt m (wipeE Γ vs) (ds.drop (i + 1))).bind fun ds => .ok (dd :: ds)) = .ok rest := hr
              have s345 := s34.trans s5
              have hacc5 := s345.big _ _ hacc
              have hG5 := s345.apart _ _ hacc hG
              have al : acc.length = accD.length := ra.len
              refine ⟨acc, hacc5, by rw [sizeLine_eq]; omega, ?_⟩
              cases h4 : compM mg mt m (wipeE Γ vs) (ds.drop (i + 1)) with
              | exc x2 d2 => rw [h4] at hr; cases hr
              | stuck => rw [h4] at hr; cases hr
              | ok rest2 =>
                rw [h4] at hr
                cases hr
                have sg5 := sg.trans s345
                refine ⟨G5, acc ++ [v], accD ++ [dd], rest2, ⟨fun b o q => ?_, sg5.small, fun b o q => ?_, sg5.apart⟩, upd_same, hG5, (ra.same s345.small).app (.cons rv .nil), by simp; omega, rfl, by simp [← hout]⟩
                · rw [upd_ne (fun z => by rw [z, hL] at q; cases q)]
                  exact sg5.big b o q
                · rw [upd_ne (fun z => by rw [z, hG5] at q; cases q)]
                  exact sg5.sub b o q
    · have e : i = ds.length := by omega
      subst e
      rw [List.drop_length] at hr
      cases hr
      refine .inl ⟨wk.stop _ H2 G (Nat.le_refl _) sg.small sg.sub, ?_⟩
      rw [List.append_nil] at hout
      subst hout
      exact q _ H2 G (s.trans sg) ⟨L, acc, rfl, none_sub s.big hL, hacc, hG, ra⟩
end
end DL

/-! data instead of heaps: raise, try, calls, defs -/
namespace DL
open PySem L2 PySem.Spec PyProof.Rows GL

section
variable {X : Cx} {et : ET} {ce : Caught} {W : WX} {st : Stmt} {sts : List Stmt} {e a b tg : Expr} {es : List Expr} {m ma mb : En → Res D} {mt : En → Res Bool} {mi : En → Res (List D)} {mg : D → En → Option En} {vs : List Nat} {pos : Pos} {ms mr : En → Out}
/-! ### raise -/
def mRaise (x : String) (m : En → Res D) (Γ : En) : Out := mTo (m Γ) Γ fun d => .exc x d Γ
theorem ds_raise {x : String} {C : Addr} {fld : Str} (hx : et x = some (C, fld)) (hp : ∀ ta, PA X [a] ta → PS X st (tRaiseErr C fld W ta)) (h : DE X et ce W a m) (hst : starEach (a :: []) X.env = (false, eval a X.env) :: starEach [] X.env := by rfl) : DS X et ce W st (mRaise x m) := by
  obtain ⟨t, p, g⟩ := h
  refine ⟨_, hp _ (pa_cons p pa_nil hst), fun Hs H0s σ H H0 Γ E c q => g _ _ _ _ _ _ _ c (PostS.to c q fun d v H' G _ s r q => ?_)⟩
  refine ⟨v, rfl, fun dd n => ?_⟩
  have s2 := s.trans (Step.new (o := .xd [(fld, v)]) s.sub n)
  exact q C fld dd v σ _ _ hx (c.step s2) s2.small upd_same (Rep.same (same_upd' (Same.refl _) (none_sub s.sub n)) r)

/-! ### try -/
/-- no caught error is known any more -/
def cleanS : Slot → Slot
  | .er _ _ => .un
  | s => s
def clean (Γ : En) : En := Γ.map cleanS
theorem Stn.clean {K : PySem.W.Frag} {Hs H0s H H0 : Hp} {σ : L2.St} {Γ : En} (c : Stn K et ce Hs H0s σ H H0 Γ) : Stn K et none Hs H0s σ H H0 (clean Γ) := by
  have of : ∀ {i : Nat} {s : Slot}, (DL.clean Γ)[i]? = some s → ∃ s', Γ[i]? = some s' ∧ s = cleanS s' := fun {i s} e => by
    unfold DL.clean at e
    rw [List.getElem?_map] at e
    cases h : Γ[i]? with
    | none => rw [h] at e; cases e
    | some s' => rw [h] at e; cases e; exact ⟨s', rfl, rfl⟩
  refine ⟨c.z, c.st, by unfold DL.clean; simpa using c.len, fun i s e => ?_, fun i j s t p ei ej ai aj hi hj => ?_⟩
  · obtain ⟨s', e', rfl⟩ := of e
    have z := c.at_ i s' e'
    cases s' with
    | er x d => cases σ[i]? <;> trivial
    | un => cases σ[i]? <;> trivial
    | sh d =>
      match hv : σ[i]?, z with
      | some (some v), z => exact z
    | own xs =>
      match hv : σ[i]?, z with
      | some (some v), z => exact z
    | ownD ks xs =>
      match hv : σ[i]?, z with
      | some (some v), z => exact z
  · obtain ⟨s', es', rfl⟩ := of ei
    obtain ⟨t', et', rfl⟩ := of ej
    exact c.one i j s' t' p es' et' (by cases s' <;> first | rfl | cases ai) (by cases t' <;> first | rfl | cases aj) hi hj
/-- the error is caught: a suite may speak of it -/
theorem Stn.catch_ {K : PySem.W.Frag} {Hs H0s H H0 : Hp} {σ : L2.St} {Γ : En} (c : Stn K et none Hs H0s σ H H0 Γ) (ce : Caught) : Stn K et ce Hs H0s σ H H0 Γ := by
  refine ⟨c.z, c.st, c.len, fun i s e => ?_, c.one⟩
  have z := c.at_ i s e
  cases s with
  | er x d =>
    match hv : σ[i]?, z with
    | some (some v), ⟨_, _, _, _, _, h, _⟩ => cases h
  | un => cases σ[i]? <;> trivial
  | sh d =>
    match hv : σ[i]?, z with
    | some (some v), z => exact z
  | own xs =>
    match hv : σ[i]?, z with
    | some (some v), z => exact z
  | ownD ks xs =>
    match hv : σ[i]?, z with
    | some (some v), z => exact z
theorem Stn.putErr {K : PySem.W.Frag} {Hs H0s H H0 : Hp} {σ : L2.St} {Γ : En} {x : String} {d : D} {C dd p : Addr} {fld : Str} {w : V} (c : Stn K et (some (p, .ref C, some dd)) Hs H0s σ H H0 Γ) (i : Nat) (hx : et x = some (C, fld)) (hd : H0 dd = some (.xd [(fld, w)])) (r : Rep K H0 w d) :
    Stn K et (some (p, .ref C, some dd)) Hs H0s (σ.set i (some (.ref p))) H H0 (Γ.set i (.er x d)) := by
  have no : ∀ {j : Nat} {s : Slot}, (Γ.set i (.er x d))[j]? = some s → s.alone = true → i ≠ j := fun {j s} e a z => by
    subst z
    rw [List.getElem?_set_self (get_lt e)] at e; cases e; cases a
  refine ⟨c.z, c.st, by simpa using c.len, fun j s e => ?_, fun j k s t q ej ek aj ak hj hk => ?_⟩
  · by_cases hj : i = j
    · subst hj
      have hi := get_lt e
      rw [List.getElem?_set_self hi] at e
      cases e
      rw [List.getElem?_set_self (Nat.lt_of_lt_of_le hi c.len)]
      exact ⟨p, C, fld, dd, w, rfl, hx, rfl, hd, r⟩
    · rw [List.getElem?_set_ne hj] at e ⊢
      exact c.at_ j s e
  · have nj := no ej aj
    have nk := no ek ak
    rw [List.getElem?_set_ne nj] at ej hj
    rw [List.getElem?_set_ne nk] at ek hk
    exact c.one j k s t q ej ek aj ak hj hk
/-- behind a suite its name is gone -/
def behind (i : Nat) : Out → Out
  | .nx Γ => .nx ((clean Γ).set i .un)
  | .bk Γ => .bk ((clean Γ).set i .un)
  | .ct Γ => .ct ((clean Γ).set i .un)
  | .rt s => .rt s
  | _ => .stuck
/-- a clause: which errors it takes, its name's slot, its suite -/
structure Clause where
  cat : String → Bool
  i : Nat
  m : En → Out
def mHandle : List Clause → String → D → En → Out
  | [], x, d, Γ => .exc x d Γ
  | h :: r, x, d, Γ => if h.cat x = true then behind h.i (h.m (Γ.set h.i (.er x d))) else mHandle r x d Γ
def mTry (mb : En → Out) (hs : List Clause) (Γ : En) : Out := match mb Γ with
  | .exc x d Γ' => mHandle hs x d Γ'
  | o => o
def clauseT (K : PySem.W.Frag) (et : ET) (c : Value) (h : Clause) : Value × Nat × (Addr → Value → Option Addr → TS) := (c, h.i, fun a cls d => tM K et (some (a, cls, d)) W0 h.m)
/-- the class c takes just these -/
def CatOk (K : PySem.W.Frag) (et : ET) (c : Value) (cat : String → Bool) : Prop := ∀ x C fld, et x = some (C, fld) → PySem.W.exmOne K (.ref C) c = some (cat x)
inductive CatsOk (K : PySem.W.Frag) (et : ET) : List Value → List Clause → Prop
  | nil : CatsOk K et [] []
  | cons {c : Value} {cs : List Value} {h : Clause} {hs : List Clause} : CatOk K et c h.cat → CatsOk K et cs hs → CatsOk K et (c :: cs) (h :: hs)
theorem post_behind {K : PySem.W.Frag} {Hs H0s H0 : Hp} {E : Ends} {W : WX} {i : Nat} {o : Out} {cf : Caught} (h : PostS K et none W Hs H0s H0 E (behind i o)) :
    PostS K et cf W0 Hs H0s H0 { nx := fun σ' H' => E.nx (σ'.set i none) H', rt := E.rt, bk := fun σ' H' => E.bk (σ'.set i none) H', ct := fun σ' H' => E.ct (σ'.set i none) H' } o := by
  cases o with
  | nx Γ => exact fun σ H G c s => h _ H G (c.clean.forget i none) s
  | bk Γ => exact fun σ H G c s => h _ H G (c.clean.forget i none) s
  | ct Γ => exact fun σ H G c s => h _ H G (c.clean.forget i none) s
  | rt s => exact h
  | exc x d Γ => exact h.elim
  | stuck => exact h.elim
theorem handle_ok {K : PySem.W.Frag} {Hs H0s H0 : Hp} {E : Ends} {x : String} {d : D} {Γ : En} : ∀ {cs : List Value} {hs : List Clause}, CatsOk K et cs hs → PostS K et none W Hs H0s H0 E (mHandle hs x d Γ) →
    PostS K et none (wNamed K W E (List.zipWith (clauseT K et) cs hs)) Hs H0s H0 E (.exc x d Γ)
  | _, _, .nil, q => q
  | _, _, @CatsOk.cons _ _ c cs h hs hc hr, q => fun C fld dd w σ H G hx cst s hd r => by
    refine ⟨h.cat x, hc x C fld hx, fun hb p hp => ?_, fun hb => ?_⟩
    · unfold mHandle at q
      rw [if_pos hb] at q
      exact ⟨Hs, H0s, G, Γ.set h.i (.er x d), (cst.catch_ _).putErr h.i hx hd r, post_behind (q.up s)⟩
    · unfold mHandle at q
      rw [if_neg (by rw [hb]; exact Bool.false_ne_true)] at q
      exact handle_ok hr q C fld dd w σ H G hx cst s hd r
theorem ds_try {body : List Stmt} {h₀ : ExceptHandler} {hds : List ExceptHandler} {cs : List Value} {hs : List Clause} (hst : X.stack = X.env :: X.outer) (hf : X.env.frame = some X.env.locals) (hN : X.N.Nodup) (tk : Takes X W)
    (hb : ∀ (W : WX) (pn : List (Addr × Obj)) (xe : Value → Shared → Prop), Takes (X.tr pn xe) W → PassesOwn (model X.prog X.w) X.A X.env xe → DSs (X.tr pn xe) et none W body ms) (hc : CatsOk X.K et cs hs)
    (hh : Named X (h₀ :: hds) (List.zipWith (clauseT X.K et) cs hs)) : DS X et none W (.Try body (h₀ :: hds) [] [] pos) (mTry ms hs) := by
  refine ⟨_, ps_try_named (tb := fun W => tM X.K et none W ms) hst hf hN tk (fun W pn xe t p => (hb W pn xe t p).can) hh, fun Hs H0s σ H H0 Γ E c q => ?_⟩
  refine ⟨Hs, H0s, H0, Γ, c, ?_⟩
  unfold mTry at q
  revert q
  cases ms Γ with
  | exc x d Γ' => exact fun q => handle_ok hc q
  | nx Γ' => exact fun q => q
  | bk Γ' => exact fun q => q
  | ct Γ' => exact fun q => q
  | rt s => exact fun q => q
  | stuck => exact fun q => q
/-- e.fld of the caught error -/
def mErrFld (i : Nat) (x : String) (Γ : En) : Res D := match Γ[i]? with
  | some (.er y d) => if y = x then .ok d else .stuck
  | _ => .stuck
theorem d_errFld {i : Nat} {x : String} {C p : Addr} {fld : Str} {cls : Value} {dd : Option Addr} (hx : et x = some (C, fld)) (hp : ∀ te, PE X a te → PE X e (tErrFld C fld p cls dd te)) (h : PE X a (tVar i)) : DE X et (some (p, cls, dd)) W e (mErrFld i x) := by
  refine ⟨_, hp _ h, fun Hs H0s σ H H0 Γ Q c q => ?_⟩
  unfold mErrFld at q
  split at q
  · rename_i y d e
    split at q
    · rename_i hy
      subst hy
      have z := c.at_ i _ e
      match hv : σ[i]?, z with
      | some (some v), ⟨a', C', fld', d', w, e1, e2, e3, e4, r⟩ =>
        rw [hx] at e2
        cases e2
        cases e1
        exact ⟨v, hv, e3, rfl, d', w, rfl, c.sub _ _ e4, q w H H0 (Step.refl c.sub) r⟩
    · exact q.elim
  · exact q.elim

/-! ### calls -/
theorem takesF {X : Cx} : Takes X W0 := fun _ _ ⟨_, _, _, _, _, _, _, _, _, _, _, _, _, _, _, _, w⟩ => w.elim
/-- what a def does to data -/
def spD (K : PySem.W.Frag) (et : ET) (n : Nat) (M : List D → Res Slot) : Sp := fun vs H Q E => vs.length = n ∧ ∃ H0 ds, Same H0 H ∧ RepAll K H0 vs ds ∧ match M ds with
  | .ok s => ∀ v H' G, Step H H0 H' G → Holds K et none H H' G (some (some v)) s → Q v H'
  | .exc x d => ∀ C fld dd w H' G, et x = some (C, fld) → Step H H0 H' G → G dd = some (.xd [(fld, w)]) → Rep K G w d → E (.ref C) (some dd) H'
  | .stuck => False
def tCallW (sp : Sp) (W : WX) (t : TA) : TE := fun σ H Q => t σ H fun vs H1 => sp vs H1 Q fun c d H => W c d σ H
section
variable {k : Nat} {f : Addr} {fd : FuncData} {ps : List Str} {sp : Sp} {E : L2.St → XK}
theorem runGS {pins : List (Addr × Obj)} {σ : L2.St} {H : Hp} {s : Shared} {Q : VK} {us : List Value} {vs : List V} (F : FnG X.prog X.w X.K X.mg X.base (L2.CX X.prog X.w) k f fd ps sp) (quiet : Quiet X.A) (hr : Room k X.A) (hb : Binds X.K fd ps []) (tk : Takes X W)
    (I : Inv X pins σ H s) (r : Vals vs us) (h : sp vs H Q fun c d H => W c d σ H) : wpAny (model X.prog X.w) X.A (call (.ref f) us) (EP X pins σ Q) X.xe s := by
  have hl : us.length = ps.length := r.length.symm.trans (F.len _ _ _ _ h)
  have hbb := hb s us I.kIn (by rw [List.append_nil]; exact hl)
  rw [List.append_nil] at hbb
  refine wpAny_call (codeAny_mono (F.go quiet hr I.env0 hbb r h) ?_)
  intro res s' hq
  cases res with
  | error e => exact passAt tk σ _ _ _ _ _ I hq
  | ok fl =>
    cases fl with
    | ret u => exact I.after hq
    | next => exact (hq : False).elim
    | brk => exact (hq : False).elim
    | cont => exact (hq : False).elim
theorem pe_callW {x : Str} {p pos : Pos} {t : TA} (F : FnG X.prog X.w X.K X.mg X.base (L2.CX X.prog X.w) k f fd ps sp)
    (quiet : Quiet X.A) (hr : Room k X.A) (hg : Gl X x) (hm : X.mg x = some (.ref f)) (hk : PySem.W.keepIn X.K (.ref f) = true)
    (hb : Binds X.K fd ps []) (tk : Takes X W) (ha : PA X (e :: es) t)
    (hdb : (x == ("__debug__" : Str)) = false := by decide)
    (he : starEach (e :: es) X.env = (false, eval e X.env) :: starEach es X.env := by rfl)
    (hpl : (backTo pos (starEach es X.env)).any (·.1) = false := by rfl) : PE X (.Call (.Name x p) (e :: es) [] pos) (tCallW sp W t) := by
  constructor
  intro pins s σ H Q I h
  apply wpAny_Call_Name_kw
  apply ld_glob I hg hm _ hdb
  refine PySem.W.callWith_K (h₀ := X.base) I.ok.mod.kin hk ?_ he hpl
  refine thn (ha.run pos pins s σ H _ I h) ?_
  rintro us s1 ⟨vs, H1, I1, r, q⟩
  exact ⟨I1.kIn, runGS F quiet hr hb tk I1 r q⟩
theorem pe_callW0 {x : Str} {p pos : Pos} (F : FnG X.prog X.w X.K X.mg X.base (L2.CX X.prog X.w) k f fd ps sp)
    (quiet : Quiet X.A) (hr : Room k X.A) (hg : Gl X x) (hm : X.mg x = some (.ref f)) (hk : PySem.W.keepIn X.K (.ref f) = true)
    (hb : Binds X.K fd ps []) (tk : Takes X W)
    (hdb : (x == ("__debug__" : Str)) = false := by decide) : PE X (.Call (.Name x p) [] [] pos) (tCallW sp W tNil) := by
  constructor
  intro pins s σ H Q I h
  apply wpAny_Call_Name_kw
  apply ld_glob I hg hm _ hdb
  exact PySem.W.callWith_K0 I.kIn hk (runGS (us := []) F quiet hr hb tk I .nil h)
/-- what a def hands back, as data -/
def slotD : Slot → Res D
  | .sh d => .ok d
  | .own xs => .ok (.lst xs)
  | .ownD ks xs => .ok (.dic ks xs)
  | _ => .stuck
def slotF : Slot → Res (List D)
  | .own xs => .ok xs
  | _ => .stuck
def slotFD : Slot → Res (List Key × List D)
  | .ownD ks xs => .ok (ks, xs)
  | _ => .stuck
theorem good_call {n : Nat} {M : List D → Res Slot} {t : TA} {mas : En → Res (List D)} (ga : Good X.K et ce W (RA X.K) t mas) (hn : ∀ Γ ds, mas Γ = .ok ds → ds.length = n) :
    Good X.K et ce W (RD X.K) (tCallW (spD X.K et n M) W t) (fun Γ => (mas Γ).bind fun ds => (M ds).bind slotD) := by
  intro Hs H0s σ H H0 Γ Q c q
  refine ga _ _ _ _ _ _ _ c (Post.next q fun ds vs H1 G1 he s r q => ?_)
  have r : RepAll X.K G1 vs ds := r
  refine ⟨r.len.trans (hn _ _ he), G1, ds, s.sub, r, ?_⟩
  have q := q.step back_D s
  cases hM : M ds with
  | stuck => rw [hM] at q; exact q
  | exc x d => rw [hM] at q; exact q
  | ok sl =>
    rw [hM] at q
    intro v H' G st hv
    cases sl with
    | sh d => exact q v H' G st hv
    | own xs =>
      obtain ⟨p, ws, ev, hn, hp, h0, rr⟩ := hv
      exact q v H' _ (Step.share s.sub st hn hp h0) (by subst ev; exact .lst upd_same (rr.same (same_upd' (Same.refl _) h0)))
    | ownD ks xs =>
      obtain ⟨p, ws, ev, hn, hp, h0, hk, rr⟩ := hv
      exact q v H' _ (Step.share s.sub st hn hp h0) (by subst ev; exact .dic upd_same hk (rr.same (same_upd' (Same.refl _) h0)))
    | un => exact (q : False).elim
    | er x d => exact (q : False).elim
theorem good_callF {n : Nat} {M : List D → Res Slot} {t : TA} {mas : En → Res (List D)} (ga : Good X.K et ce W (RA X.K) t mas) (hn : ∀ Γ ds, mas Γ = .ok ds → ds.length = n) :
    Good X.K et ce W (RF X.K) (tCallW (spD X.K et n M) W t) (fun Γ => (mas Γ).bind fun ds => (M ds).bind slotF) := by
  intro Hs H0s σ H H0 Γ Q c q
  refine ga _ _ _ _ _ _ _ c (Post.next q fun ds vs H1 G1 he s r q => ?_)
  have r : RepAll X.K G1 vs ds := r
  refine ⟨r.len.trans (hn _ _ he), G1, ds, s.sub, r, ?_⟩
  have q := q.step back_F s
  cases hM : M ds with
  | stuck => rw [hM] at q; exact q
  | exc x d => rw [hM] at q; exact q
  | ok sl =>
    rw [hM] at q
    intro v H' G st hv
    cases sl with
    | own xs =>
      obtain ⟨p, ws, ev, hn, hp, h0, rr⟩ := hv
      exact q v H' G st ⟨p, ws, ev, hn, hp, h0, rr⟩
    | sh d => exact (q : False).elim
    | ownD ks xs => exact (q : False).elim
    | un => exact (q : False).elim
    | er x d => exact (q : False).elim
/-- a list of arguments of known length -/
structure DAn (X : Cx) (et : ET) (ce : Caught) (W : WX) (es : List Expr) (n : Nat) (m : En → Res (List D)) : Prop where
  a : DA X et ce W es m
  n : ∀ Γ ds, m Γ = .ok ds → ds.length = n
theorem dan_nil : DAn X et ce W [] 0 (fun _ => .ok []) := ⟨da_nil, fun _ _ h => by cases h; rfl⟩
theorem dan_cons {n : Nat} {mas : En → Res (List D)} (h : DE X et ce W e m) (hs : DAn X et ce W es n mas) (hst : starEach (e :: es) X.env = (false, eval e X.env) :: starEach es X.env := by rfl) :
    DAn X et ce W (e :: es) (n + 1) (fun Γ => (m Γ).bind fun d => (mas Γ).bind fun ds => .ok (d :: ds)) :=
  ⟨da_cons h hs.a hst, fun Γ ds z => by
    cases h1 : m Γ with
    | stuck => rw [h1] at z; cases z
    | exc x d => rw [h1] at z; cases z
    | ok d =>
      cases h2 : mas Γ with
      | stuck => rw [h1, h2] at z; cases z
      | exc x d => rw [h1, h2] at z; cases z
      | ok r => rw [h1, h2] at z; cases z; exact congrArg Nat.succ (hs.n _ _ h2)⟩
theorem d_call {n : Nat} {M : List D → Res Slot} {mas : En → Res (List D)} (hp : ∀ t, PA X es t → PE X e (tCallW (spD X.K et n M) W t)) (ha : DAn X et ce W es n mas) : DE X et ce W e (fun Γ => (mas Γ).bind fun ds => (M ds).bind slotD) := by
  obtain ⟨⟨t, p, g⟩, hn⟩ := ha
  exact ⟨_, hp t p, good_call g hn⟩
theorem d_callF {n : Nat} {M : List D → Res Slot} {mas : En → Res (List D)} (hp : ∀ t, PA X es t → PE X e (tCallW (spD X.K et n M) W t)) (ha : DAn X et ce W es n mas) : DF X et ce W e (fun Γ => (mas Γ).bind fun ds => (M ds).bind slotF) := by
  obtain ⟨⟨t, p, g⟩, hn⟩ := ha
  exact ⟨_, hp t p, good_callF g hn⟩
theorem d_call0 {M : List D → Res Slot} (hp : PE X e (tCallW (spD X.K et 0 M) W tNil)) : DE X et ce W e (fun Γ => (M []).bind slotD) := by
  refine ⟨_, hp, fun Hs H0s σ H H0 Γ Q c q => ?_⟩
  exact good_call (X := X) (ce := ce) (M := M) (t := tNil) (mas := fun _ => .ok []) (fun Hs H0s σ H H0 Γ Q c q => q [] H H0 (Step.refl c.sub) .nil) (fun _ _ h => by cases h; rfl) _ _ _ _ _ _ _ c q
end
end

/-! ### a def -/
def startD (N : Nat) (ds : List D) : En := ds.map Slot.sh ++ List.replicate (N - ds.length) .un
def mBody (N : Nat) (mb : En → Out) (ds : List D) : Res Slot := match mb (startD N ds) with
  | .nx _ => .ok (.sh .non)
  | .rt s => .ok s
  | .exc x d _ => .exc x d
  | _ => .stuck
theorem start_stn {K : PySem.W.Frag} {et : ET} {H H0 : Hp} {N : List Str} {vs : List V} {ds : List D} (s : Same H0 H) (r : RepAll K H0 vs ds) : Stn K et none H H0 (L2.start N vs) H H0 (startD N.length ds) := by
  have hl := r.len
  refine ⟨s, Step.refl s, by unfold L2.start startD; simp [hl], fun i sl e => ?_, fun i j sl t p ei ej ai aj hi hj => ?_⟩
  · unfold startD at e
    by_cases hi : i < ds.length
    · rw [List.getElem?_append_left (by simpa using hi), List.getElem?_map, List.getElem?_eq_getElem hi] at e
      cases e
      obtain ⟨v, hv, rv⟩ := r.get (List.getElem?_eq_getElem hi)
      have : (L2.start N vs)[i]? = some (some v) := by
        unfold L2.start
        rw [List.getElem?_append_left (by rw [List.length_map, hl]; exact hi), List.getElem?_map, hv]; rfl
      rw [this]
      exact rv
    · rw [List.getElem?_append_right (by simpa using hi), List.getElem?_replicate] at e
      split at e
      · cases e; cases (L2.start N vs)[i]? <;> trivial
      · cases e
  · exfalso
    unfold startD at ei
    by_cases hi' : i < ds.length
    · rw [List.getElem?_append_left (by simpa using hi'), List.getElem?_map, List.getElem?_eq_getElem hi'] at ei
      cases ei; cases ai
    · rw [List.getElem?_append_right (by simpa using hi'), List.getElem?_replicate] at ei
      split at ei
      · cases ei; cases ai
      · cases ei
theorem fn_data {P : Program} {w : World} {K : PySem.W.Frag} {mg : Str → Option Value} {base : Heap} {k : Nat} {f : Addr} {fd : FuncData} {ps N : List Str} {x qual : Str} {st : Stmt} {et : ET} {mb : En → Out}
    (F : Fun K x qual st f fd) (S : FnScope N ps (defScope st))
    (body : ∀ (cdv : Value) (A : Around) (outer : List PySem.Env) (s : Shared) (H : Hp) (E : XK), Quiet A → Room k (A.deeper (envOfC qual (defScope st) s.heap.objs.size f cdv)) →
      DSs (cxOf (L2.CX P w) P w K mg base N qual (defScope st) f cdv A outer s H E) et none (fun c d _ H => E c d H) (defBody st) mb) :
    FnG P w K mg base (L2.CX P w) (k + 1) f fd ps (spD K et ps.length (mBody N.length mb)) := by
  refine FnG.mkX F S (fun vs H Q E h => h.1) fun cdv A outer s H vs Q E qu hr h => ?_
  obtain ⟨hl, H0, ds, sub, r, q⟩ := h
  obtain ⟨t, p, g⟩ := body cdv A outer s H E qu hr
  refine ⟨t, p, g H H0 _ _ _ _ _ (start_stn sub r) ?_⟩
  unfold mBody at q
  revert q
  cases mb (startD N.length ds) with
  | nx Γ => exact fun q σ' H' G c _ => q .non H' G c.st .non
  | rt s => exact fun q v H' G st hv => q v H' G st hv
  | exc x d Γ => exact fun q C fld dd w σ' H' G hx c _ hd r => q C fld dd w H' G hx c.st hd r
  | bk Γ => exact fun q => (q : False).elim
  | ct Γ => exact fun q => (q : False).elim
  | stuck => exact fun q => (q : False).elim
end DL

/-! data instead of heaps: the built-in operations and functions -/
namespace DL
open PySem L2 PySem.Spec PyProof.Rows GL

/-! ### numbers -/
def i2 (f : Int → Int → Option Giv) : D → D → Option Giv
  | .int i, .int j => f i j
  | _, _ => none
def giv (c : Prop) [Decidable c] (d : D) : Option Giv := if c then some (.val d) else none
theorem asked_giv {K : PySem.W.Frag} {H H0 : Hp} {Q : VK} {c : Prop} [Decidable c] {d : D} (h : Asked K H H0 Q (giv c d)) : c ∧ ∀ v, Rep K H0 v d → Q v H := by
  unfold giv at h
  split at h
  · rename_i hc; exact ⟨hc, h⟩
  · exact h.elim
section
variable {X : Cx}
theorem opr_imp {f : Value → Value → Sem Value} {r r' : R2} (ho : OpR X f r) (h : ∀ x y H Q, r' x y H Q → r x y H Q) : OpR X f r' := fun pins s σ H x y v u Q I rx ry q => ho pins s σ H x y v u Q I rx ry (h x y H Q q)
theorem unr_imp {f : Value → Sem Value} {r r' : V → Hp → VK → Prop} (ho : UnR X f r) (h : ∀ x H Q, r' x H Q → r x H Q) : UnR X f r' := fun pins s σ H x v Q I rx q => ho pins s σ H x v Q I rx (h x H Q q)
theorem callr_imp {f : Value} {r r' : List V → Hp → VK → Prop} (ho : CallR X f r) (h : ∀ x H Q, r' x H Q → r x H Q) : CallR X f r' := fun pins s σ H x v Q I rx q => ho pins s σ H x v Q I rx (h x H Q q)
theorem rep_int {K : PySem.W.Frag} {H : Hp} {x : V} {i : Int} (h : Rep K H x (.int i)) : x = .int i := by cases h; rfl
theorem rep_bl {K : PySem.W.Frag} {H : Hp} {x : V} {i : Bool} (h : Rep K H x (.bl i)) : x = .bl i := by cases h; rfl
theorem rep_str {K : PySem.W.Frag} {H : Hp} {x : V} {i : Str} (h : Rep K H x (.str i)) : x = .str i := by cases h; rfl
theorem rep_non {K : PySem.W.Frag} {H : Hp} {x : V} (h : Rep K H x .non) : x = .non := by cases h; rfl
theorem two_ints {K : PySem.W.Frag} {F : Int → Int → Option Giv} {x y : V} {H : Hp} {Q : VK} (h : r2D K (i2 F) x y H Q) : ∃ H0 i j, x = .int i ∧ y = .int j ∧ Asked K H H0 Q (F i j) := by
  obtain ⟨H0, d, e, sub, rd, re, q⟩ := h
  cases d with
  | int i => cases e with
    | int j => exact ⟨H0, i, j, rep_int rd, rep_int re, q⟩
    | _ => exact q.elim
  | _ => exact q.elim
theorem op_i2 {f : Value → Value → Sem Value} {C : Int → Int → Prop} {g : Int → Int → V} {F : Int → Int → Option Giv} (ho : OpR X f (rI C g))
    (h : ∀ i j H H0 Q, Asked X.K H H0 Q (F i j) → C i j ∧ Q (g i j) H) : OpR X f (r2D X.K (i2 F)) := opr_imp ho fun x y H Q q => by
  obtain ⟨H0, i, j, e1, e2, q⟩ := two_ints q
  obtain ⟨h1, h2⟩ := h _ _ _ _ _ q
  exact ⟨i, j, e1, e2, h1, h2⟩
theorem op_i0 {f : Value → Value → Sem Value} {g : Int → Int → V} {F : Int → Int → Option Giv} (ho : OpR X f (rI0 g)) (h : ∀ i j H H0 Q, Asked X.K H H0 Q (F i j) → Q (g i j) H) : OpR X f (r2D X.K (i2 F)) := opr_imp ho fun x y H Q q => by
  obtain ⟨H0, i, j, e1, e2, q⟩ := two_ints q
  exact ⟨i, j, e1, e2, h _ _ _ _ _ q⟩
def gSub : D → D → Option Giv := i2 fun i j => some (.val (.int (i - j)))
def gMulI : D → D → Option Giv := i2 fun i j => giv (i.natAbs.log2 + j.natAbs.log2 < 1000000) (.int (i * j))
def gDiv : D → D → Option Giv := i2 fun i j => giv (0 < j ∧ (j.natAbs.log2 < 9000 ∨ i.natAbs < 2 ^ 4400)) (.int (i / j))
def gMod : D → D → Option Giv := i2 fun i j => giv (0 < j) (.int (i % j))
def gPow : D → D → Option Giv := i2 fun i j => giv (0 ≤ j ∧ (Builtin.Int.intBits i : Int) * j ≤ 2 ^ 27) (.int (i ^ j.toNat))
def gShr : D → D → Option Giv := i2 fun i j => giv (0 ≤ j) (.int (i / 2 ^ j.toNat))
def gAnd : D → D → Option Giv := i2 fun i j => some (.val (.int (Builtin.bitAnd i j)))
def gAddI : D → D → Option Giv := i2 fun i j => some (.val (.int (i + j)))
def gLt : D → D → Option Giv := i2 fun i j => some (.val (.bl (decide (i < j))))
def gLe : D → D → Option Giv := i2 fun i j => some (.val (.bl (decide (i ≤ j))))
def gGt : D → D → Option Giv := i2 fun i j => some (.val (.bl (decide (j < i))))
def gGe : D → D → Option Giv := i2 fun i j => some (.val (.bl (decide (j ≤ i))))
theorem o_sub : OpR X (binaryOp .Sub) (r2D X.K gSub) := op_i0 op_sub fun i j H H0 Q q => q _ (.int _)
theorem o_mulI : OpR X (binaryOp .Mult) (r2D X.K gMulI) := op_i2 op_mulW fun i j H H0 Q q => ⟨(asked_giv q).1, (asked_giv q).2 _ (.int _)⟩
theorem noPylong_few {x y : Int} (h : x.natAbs < 2 ^ 4400) : Builtin.divisionGoesByPylong x y = false := by
  have key : (if (x == 0) = true then 0 else x.natAbs.log2 / 30 + 1) ≤ 150 := by
    by_cases hx : (x == 0) = true
    · rw [if_pos hx]; exact Nat.zero_le _
    · rw [if_neg hx]
      have h0 : x.natAbs ≠ 0 := fun z => hx (by simpa using z)
      have h30 : x.natAbs.log2 < 4400 := (Nat.log2_lt h0).mpr h
      omega
  unfold Builtin.divisionGoesByPylong
  simp only []
  rw [decide_eq_false (p := (if (x == 0) = true then 0 else x.natAbs.log2 / 30 + 1) > _) (by omega), Bool.and_false]
theorem noPylong_any {i j : Int} (h : 0 < j ∧ (j.natAbs.log2 < 9000 ∨ i.natAbs < 2 ^ 4400)) : Builtin.divisionGoesByPylong i j = false := by
  rcases h.2 with h | h
  · exact PyProof.noPylong_of_log2 h
  · exact noPylong_few h
theorem o_div : OpR X (binaryOp .FloorDiv) (r2D X.K gDiv) := op_i2 (C := fun i j => 0 < j ∧ (j.natAbs.log2 < 9000 ∨ i.natAbs < 2 ^ 4400)) (g := fun i j => .int (i / j)) (opI fun i j _ _ _ _ _ hc q => by
    have h1 : (0 : Int) < j := hc.1
    exact floordiv_int (by omega) (by rw [Int.fdiv_eq_ediv_of_nonneg i (by omega)]; exact q) (.inl (noPylong_any hc))) fun i j H H0 Q q => ⟨(asked_giv q).1, (asked_giv q).2 _ (.int _)⟩
theorem o_mod : OpR X (binaryOp .Mod) (r2D X.K gMod) := op_i2 op_mod fun i j H H0 Q q => ⟨(asked_giv q).1, (asked_giv q).2 _ (.int _)⟩
theorem o_pow : OpR X (binaryOp .Pow) (r2D X.K gPow) := op_i2 op_powW fun i j H H0 Q q => ⟨(asked_giv q).1, (asked_giv q).2 _ (.int _)⟩
theorem o_shr : OpR X (binaryOp .RShift) (r2D X.K gShr) := op_i2 op_shr fun i j H H0 Q q => ⟨(asked_giv q).1, (asked_giv q).2 _ (.int _)⟩
theorem o_and : OpR X (binaryOp .BitAnd) (r2D X.K gAnd) := op_i0 op_and fun i j H H0 Q q => q _ (.int _)
theorem o_lt : OpR X (compareOp .Lt) (r2D X.K gLt) := op_i0 op_lt fun i j H H0 Q q => q _ (.bl _)
theorem o_le : OpR X (compareOp .LtE) (r2D X.K gLe) := op_i0 op_le fun i j H H0 Q q => q _ (.bl _)
theorem o_gt : OpR X (compareOp .Gt) (r2D X.K gGt) := op_i0 op_gt fun i j H H0 Q q => q _ (.bl _)
theorem o_ge : OpR X (compareOp .GtE) (r2D X.K gGe) := op_i0 op_ge fun i j H H0 Q q => q _ (.bl _)
-- x op= y
theorem q_add : OpR X (inplaceOp .Add) (r2D X.K gAddI) := op_i0 iop_add fun i j H H0 Q q => q _ (.int _)
theorem q_sub : OpR X (inplaceOp .Sub) (r2D X.K gSub) := op_i0 iop_sub fun i j H H0 Q q => q _ (.int _)
theorem q_mul : OpR X (inplaceOp .Mult) (r2D X.K gMulI) := op_i2 iop_mulW fun i j H H0 Q q => ⟨(asked_giv q).1, (asked_giv q).2 _ (.int _)⟩
theorem q_div : OpR X (inplaceOp .FloorDiv) (r2D X.K gDiv) := op_i2 (C := fun i j => 0 < j ∧ (j.natAbs.log2 < 9000 ∨ i.natAbs < 2 ^ 4400)) (g := fun i j => .int (i / j)) (opI fun i j _ _ _ _ _ hc q => by
    have h1 : (0 : Int) < j := hc.1
    exact ifloordiv_int (by omega) (by rw [Int.fdiv_eq_ediv_of_nonneg i (by omega)]; exact q) (.inl (noPylong_any hc))) fun i j H H0 Q q => ⟨(asked_giv q).1, (asked_giv q).2 _ (.int _)⟩
def gNeg : D → Option Giv
  | .int i => some (.val (.int (-i)))
  | _ => none
theorem u_neg : UnR X (unaryOp .USub) (r1D X.K gNeg) := unr_imp un_neg fun x H Q q => by
  obtain ⟨H0, d, sub, rd, q⟩ := q
  cases d with
  | int i => exact ⟨i, rep_int rd, q _ (.int _)⟩
  | _ => exact q.elim

/-! ### + of numbers, texts, lists, tuples -/
def gAdd : D → D → Option Giv
  | .int i, .int j => some (.val (.int (i + j)))
  | .str x, .str y => giv (x.length + y.length ≤ 1000000) (.str (x ++ y))
  | .lst xs, .lst ys => if xs.length + ys.length ≤ 1000000 then some (.newL (xs ++ ys)) else none
  | .tup xs, .tup ys => if 0 < xs.length ∧ 0 < ys.length ∧ xs.length + ys.length ≤ 1000000 then some (.newT (xs ++ ys)) else none
  | _, _ => none
theorem line_of {n : Nat} (h : n ≤ 1000000) : n ≤ sizeLine := by rw [sizeLine_eq]; omega
theorem opr_or {f : Value → Value → Sem Value} {r r' : R2} (h1 : OpR X f r) (h2 : OpR X f r') : OpR X f (fun x y H Q => r x y H Q ∨ r' x y H Q) := fun pins s σ H x y v u Q I rx ry q =>
  q.elim (fun q => h1 pins s σ H x y v u Q I rx ry q) (fun q => h2 pins s σ H x y v u Q I rx ry q)
theorem callr_or {f : Value} {r r' : List V → Hp → VK → Prop} (h1 : CallR X f r) (h2 : CallR X f r') : CallR X f (fun x H Q => r x H Q ∨ r' x H Q) := fun pins s σ H x v Q I rx q =>
  q.elim (fun q => h1 pins s σ H x v Q I rx q) (fun q => h2 pins s σ H x v Q I rx q)
theorem asked_if {K : PySem.W.Frag} {H H0 : Hp} {Q : VK} {c : Prop} [Decidable c] {g : Giv} (h : Asked K H H0 Q (if c then some g else none)) : c ∧ Asked K H H0 Q (some g) := by
  split at h
  · rename_i hc; exact ⟨hc, h⟩
  · exact h.elim
theorem o_add : OpR X (binaryOp .Add) (r2D X.K gAdd) := opr_imp (opr_or op_add (opr_or op_add_str (opr_or op_cat op_catT))) fun x y H Q q => by
  obtain ⟨H0, d, e, sub, rd, re, q⟩ := q
  cases d with
  | int i => cases e with
    | int j => exact .inl ⟨i, j, rep_int rd, rep_int re, q _ (.int _)⟩
    | _ => exact q.elim
  | str i => cases e with
    | str j =>
      obtain ⟨hc, q⟩ := asked_giv q
      exact .inr (.inl ⟨i, j, rep_str rd, rep_str re, line_of hc, q _ (.str _)⟩)
    | _ => exact q.elim
  | lst xs => cases e with
    | lst ys =>
      obtain ⟨hc, q⟩ := asked_if q
      obtain ⟨a, vs, ev, ha, ra⟩ := rd
      obtain ⟨b, ws, ew, hb, rb⟩ := re
      exact .inr (.inr (.inl ⟨a, b, vs, ws, ev, ew, ha, hb, by rw [ra.len, rb.len]; exact line_of hc, fun p n => q p _ n (ra.app rb)⟩))
    | _ => exact q.elim
  | tup xs => cases e with
    | tup ys =>
      obtain ⟨⟨h1, h2, hc⟩, q⟩ := asked_if q
      cases rd with | tup ha ra => cases re with | tup hb rb =>
        have l1 := ra.len
        have l2 := rb.len
        exact .inr (.inr (.inr ⟨_, _, _, _, rfl, rfl, seqT_same sub ha, seqT_same sub hb, fun z => by rw [z] at l1; simp at l1; omega, by rw [l1, l2]; exact line_of hc, fun z => by rw [z] at l2; simp at l2; omega, fun _ p n => q p _ n (ra.app rb)⟩))
    | _ => exact q.elim
  | _ => exact q.elim
/-- n copies of a list -/
def repD : Nat → List D → List D
  | 0, _ => []
  | n + 1, xs => xs ++ repD n xs
theorem rep_repD {K : PySem.W.Frag} {H : Hp} {vs : List V} {xs : List D} (r : RepAll K H vs xs) : ∀ n, RepAll K H (List.replicate n vs).flatten (repD n xs)
  | 0 => .nil
  | n + 1 => by
    rw [List.replicate_succ, List.flatten_cons]
    exact r.app (rep_repD r n)
def gMul : D → D → Option Giv
  | .int i, .int j => giv (i.natAbs.log2 + j.natAbs.log2 < 1000000) (.int (i * j))
  | .lst xs, .int k => if -1000000 ≤ k ∧ k ≤ 1000000 ∧ xs.length * k.toNat ≤ 1000000 then some (.newL (repD k.toNat xs)) else none
  | .int k, .lst xs => if -1000000 ≤ k ∧ k ≤ 1000000 ∧ xs.length * k.toNat ≤ 1000000 then some (.newL (repD k.toNat xs)) else none
  | _, _ => none
theorem o_mul : OpR X (binaryOp .Mult) (r2D X.K gMul) := opr_imp (opr_or op_mulW (opr_or op_rep op_repR)) fun x y H Q q => by
  obtain ⟨H0, d, e, sub, rd, re, q⟩ := q
  cases d with
  | int i => cases e with
    | int j =>
      obtain ⟨hc, q⟩ := asked_giv q
      exact .inl ⟨i, j, rep_int rd, rep_int re, hc, q _ (.int _)⟩
    | lst xs =>
      obtain ⟨⟨h1, h2, hc⟩, q⟩ := asked_if q
      obtain ⟨a, vs, ev, ha, ra⟩ := re
      exact .inr (.inr ⟨a, i, vs, ev, rep_int rd, ha, by omega, by omega, by rw [ra.len]; exact line_of hc, fun p n => q p _ n (rep_repD ra _)⟩)
    | _ => exact q.elim
  | lst xs => cases e with
    | int k =>
      obtain ⟨⟨h1, h2, hc⟩, q⟩ := asked_if q
      obtain ⟨a, vs, ev, ha, ra⟩ := rd
      exact .inr (.inl ⟨a, k, vs, ev, rep_int re, ha, by omega, by omega, by rw [ra.len]; exact line_of hc, fun p n => q p _ n (rep_repD ra _)⟩)
    | _ => exact q.elim
  | _ => exact q.elim

/-! ### ==, is None, in -/
mutual
/-- as the library's data; nothing said of what plain refuses -/
def py : D → PyData
  | .non => .none
  | .bl b => .bool b
  | .int i => .int i
  | .str x => .str x
  | .tup xs => .tuple (pyAll xs)
  | .lst xs => .list (pyAll xs)
  | .scr ns => .list (ns.map .int)
  | .dic _ _ => .none
  | .obj _ _ _ => .none
def pyAll : List D → List PyData
  | [] => []
  | x :: xs => py x :: pyAll xs
end
mutual
def plain : D → Bool
  | .tup xs => plainAll xs
  | .lst xs => plainAll xs
  | .dic _ _ => false
  | .obj _ _ _ => false
  | _ => true
def plainAll : List D → Bool
  | [] => true
  | x :: xs => plain x && plainAll xs
end
theorem dp_ints {K : PySem.W.Frag} {H : Hp} : ∀ ns : List Int, DpAll K H (ns.map V.int) (ns.map PyData.int)
  | [] => .nil
  | n :: ns => .cons (.int n) (dp_ints ns)
theorem rep_dp {K : PySem.W.Frag} {H : Hp} {v : V} {d : D} (h : Rep K H v d) : plain d = true → Dp K H v (py d) := by
  induction h using Rep.rec (motive_2 := fun vs ds _ => plainAll ds = true → DpAll K H vs (pyAll ds)) with
  | non => exact fun _ => .non
  | bl b => exact fun _ => .bl b
  | int i => exact fun _ => .int i
  | str x => exact fun _ => .str x
  | tup h _ ih => exact fun p => by unfold plain at p; unfold py; exact .tup h (ih p)
  | lst h _ ih => exact fun p => by unfold plain at p; unfold py; exact .lst (SqL.of h) (ih p)
  | scr h => exact fun _ => by unfold py; exact .lst h (dp_ints _)
  | dic h k _ ih => exact fun p => by unfold plain at p; cases p
  | obj h k _ ih => exact fun p => by unfold plain at p; cases p
  | nil =>
    show DpAll K H [] (pyAll [])
    unfold pyAll
    exact .nil
  | cons _ _ h1 h2 =>
    rename_i p
    show DpAll K H _ (pyAll _)
    unfold plainAll at p
    rw [Bool.and_eq_true] at p
    unfold pyAll
    exact .cons (h1 p.1) (h2 p.2)
theorem repAll_dp {K : PySem.W.Frag} {H : Hp} : ∀ {vs : List V} {ds : List D}, RepAll K H vs ds → plainAll ds = true → DpAll K H vs (pyAll ds)
  | _, _, .nil, _ => by unfold pyAll; exact .nil
  | _, _, .cons h t, p => by
    unfold plainAll at p
    rw [Bool.and_eq_true] at p
    unfold pyAll
    exact .cons (rep_dp h p.1) (repAll_dp t p.2)
theorem repO_dp {K : PySem.W.Frag} {H H0 : Hp} {v : V} {d : D} (s : Same H0 H) (h : RepO K H H0 v d) (p : plain d = true) : Dp K H v (py d) := by
  cases d with
  | lst xs =>
    obtain ⟨a, vs, e, ha, r⟩ := h
    subst e
    unfold plain at p
    unfold py
    exact .lst (SqL.of ha) (repAll_dp (r.same s) p)
  | dic ks xs => unfold plain at p; cases p
  | _ => exact rep_dp (Rep.same s h) p
def eqOk (d : D) : Bool := plain d && SeqAt.shaped (py d)
def gEqD (d e : D) : Option Giv := giv (eqOk d = true ∧ eqOk e = true) (.bl (PyData.eqv (py d) (py e)))
def gNeD (d e : D) : Option Giv := giv (eqOk d = true ∧ eqOk e = true) (.bl (!PyData.eqv (py d) (py e)))
def gEq : D → D → Option Giv
  | .str x, .str y => some (.val (.bl (x == y)))
  | .lst xs, .lst [] => some (.val (.bl xs.isEmpty))
  | d, e => gEqD d e
def gNe : D → D → Option Giv
  | .str x, .str y => some (.val (.bl (!(x == y))))
  | .lst xs, .lst [] => some (.val (.bl (!xs.isEmpty)))
  | d, e => gNeD d e
theorem eqOk_of {d : D} (h : eqOk d = true) : plain d = true ∧ SeqAt.shaped (py d) = true := by
  unfold eqOk at h
  rw [Bool.and_eq_true] at h
  exact h
theorem rep_empty {K : PySem.W.Frag} {H : Hp} {vs : List V} {ds : List D} (r : RepAll K H vs ds) : vs.isEmpty = ds.isEmpty := by cases r <;> rfl
theorem repO_lst {K : PySem.W.Frag} {H H0 : Hp} {v : V} {xs : List D} (h : RepO K H H0 v (.lst xs)) : ∃ a vs, v = .ref a ∧ SqL K H a vs ∧ RepAll K H0 vs xs := by
  obtain ⟨a, vs, e, h, r⟩ := h
  exact ⟨a, vs, e, SqL.of h, r⟩
theorem o_eq (hu : X.A.units + 64 < cLine) : OpR X (compareOp .Eq) (r2D X.K gEq) := opr_imp (opr_or (opr_or op_eq (op_eqD hu)) (op_eqNil (by omega))) fun x y H Q q => by
  obtain ⟨H0, d, e, sub, rd, re, q⟩ := q
  have gen : Asked X.K H H0 Q (gEqD d e) → rEqD X.K x y H Q := fun q => by
    obtain ⟨⟨h1, h2⟩, q⟩ := asked_giv q
    exact ⟨_, _, repO_dp sub rd (eqOk_of h1).1, repO_dp sub re (eqOk_of h2).1, (eqOk_of h1).2, (eqOk_of h2).2, q _ (.bl _)⟩
  cases d with
  | str i => cases e with
    | str j =>
      have e1 := rep_str rd
      have e2 := rep_str re
      subst e1 e2
      exact .inl (.inl ⟨rfl, by rw [dec_str]; exact q _ (.bl _)⟩)
    | _ => exact .inl (.inr (gen q))
  | lst xs => cases e with
    | lst ys => cases ys with
      | nil =>
        obtain ⟨a, vs, rfl, h1, r1⟩ := repO_lst rd
        obtain ⟨b, ws, rfl, h2, r2⟩ := repO_lst re
        cases r2
        exact .inr ⟨a, b, vs, rfl, rfl, h1, h2, by rw [rep_empty r1]; exact q _ (.bl _)⟩
      | cons y ys => exact .inl (.inr (gen q))
    | _ => exact .inl (.inr (gen q))
  | _ => exact .inl (.inr (gen q))
theorem o_ne (hu : X.A.units + 64 < cLine) : OpR X (compareOp .NotEq) (r2D X.K gNe) := opr_imp (opr_or (opr_or op_ne (op_neD hu)) (op_neNil (by omega))) fun x y H Q q => by
  obtain ⟨H0, d, e, sub, rd, re, q⟩ := q
  have gen : Asked X.K H H0 Q (gNeD d e) → rNeD X.K x y H Q := fun q => by
    obtain ⟨⟨h1, h2⟩, q⟩ := asked_giv q
    exact ⟨_, _, repO_dp sub rd (eqOk_of h1).1, repO_dp sub re (eqOk_of h2).1, (eqOk_of h1).2, (eqOk_of h2).2, q _ (.bl _)⟩
  cases d with
  | str i => cases e with
    | str j =>
      have e1 := rep_str rd
      have e2 := rep_str re
      subst e1 e2
      exact .inl (.inl ⟨rfl, by rw [dec_str]; exact q _ (.bl _)⟩)
    | _ => exact .inl (.inr (gen q))
  | lst xs => cases e with
    | lst ys => cases ys with
      | nil =>
        obtain ⟨a, vs, rfl, h1, r1⟩ := repO_lst rd
        obtain ⟨b, ws, rfl, h2, r2⟩ := repO_lst re
        cases r2
        exact .inr ⟨a, b, vs, rfl, rfl, h1, h2, by rw [rep_empty r1]; exact q _ (.bl _)⟩
      | cons y ys => exact .inl (.inr (gen q))
    | _ => exact .inl (.inr (gen q))
  | _ => exact .inl (.inr (gen q))
def isNon : D → Bool
  | .non => true
  | _ => false
theorem repO_non {K : PySem.W.Frag} {H H0 : Hp} {v : V} {d : D} (h : RepO K H H0 v d) : decide (v = .non) = isNon d := by
  cases d with
  | lst xs => obtain ⟨a, vs, e, _⟩ := h; subst e; rfl
  | dic ks xs => obtain ⟨a, vs, e, _⟩ := h; subst e; rfl
  | _ => cases (show Rep K H0 v _ from h) <;> rfl
def gIsN (d e : D) : Option Giv := giv (isNon e = true) (.bl (isNon d))
def gNotN (d e : D) : Option Giv := giv (isNon e = true) (.bl (!isNon d))
theorem o_isN : OpR X (compareOp .Is) (r2D X.K gIsN) := opr_imp op_isN fun x y H Q q => by
  obtain ⟨H0, d, e, sub, rd, re, q⟩ := q
  obtain ⟨h, q⟩ := asked_giv q
  rw [repO_non rd]
  exact ⟨of_decide_eq_true ((repO_non re).trans h), q _ (.bl _)⟩
theorem o_notN : OpR X (compareOp .IsNot) (r2D X.K gNotN) := opr_imp op_notN fun x y H Q q => by
  obtain ⟨H0, d, e, sub, rd, re, q⟩ := q
  obtain ⟨h, q⟩ := asked_giv q
  rw [repO_non rd]
  exact ⟨of_decide_eq_true ((repO_non re).trans h), q _ (.bl _)⟩
/-- a value that is no object -/
def flat : D → Bool
  | .non | .bl _ | .int _ | .str _ => true
  | _ => false
def toV : D → V
  | .bl b => .bl b
  | .int i => .int i
  | .str x => .str x
  | _ => .non
theorem flat_rep {K : PySem.W.Frag} {H : Hp} {v : V} {d : D} (h : Rep K H v d) (f : flat d = true) : v = toV d ∧ flatV v = true := by
  cases h <;> first | exact ⟨rfl, rfl⟩ | cases f
theorem flat_all {K : PySem.W.Frag} {H : Hp} : ∀ {vs : List V} {ds : List D}, RepAll K H vs ds → ds.all flat = true → vs = ds.map toV ∧ vs.all flatV = true
  | _, _, .nil, _ => ⟨rfl, rfl⟩
  | _, _, .cons h t, f => by
    rw [List.all_cons, Bool.and_eq_true] at f
    obtain ⟨e1, f1⟩ := flat_rep h f.1
    obtain ⟨e2, f2⟩ := flat_all t f.2
    exact ⟨by rw [e1, e2]; rfl, by rw [List.all_cons, f1, f2]; rfl⟩
def inD (x : D) (xs : List D) : Bool := inV (toV x) (xs.map toV)
/-- is a text in a text? -/
def inS (x y : Str) : Bool := !(Builtin.Str.occurrences y x 0 y.length 1).isEmpty
def inStr (neg : Bool) : D → Str → Option Giv
  | .str x, y => some (.val (.bl (if neg then !inS x y else inS x y)))
  | _, _ => none
def gIn (neg : Bool) : D → D → Option Giv
  | x, .str y => inStr neg x y
  | x, .lst xs => giv (flat x = true ∧ xs.all flat = true) (.bl (if neg then !inD x xs else inD x xs))
  | x, .tup xs => giv (flat x = true ∧ xs.all flat = true) (.bl (if neg then !inD x xs else inD x xs))
  | _, _ => none
theorem flat_repO {K : PySem.W.Frag} {H H0 : Hp} {v : V} {d : D} (h : RepO K H H0 v d) (f : flat d = true) : v = toV d ∧ flatV v = true := by
  cases d with
  | lst xs => cases f
  | dic ks xs => cases f
  | _ => exact flat_rep h f
theorem in_of {neg : Bool} {x y : V} {H : Hp} {Q : VK} (q : r2D X.K (gIn neg) x y H Q) : rIn X.K neg x y H Q ∨ ∃ i j, x = .str i ∧ y = .str j ∧ Q (.bl (if neg then !inS i j else inS i j)) H := by
  obtain ⟨H0, d, e, sub, rd, re, q⟩ := q
  cases e with
  | lst xs =>
    obtain ⟨⟨h1, h2⟩, q⟩ := asked_giv q
    obtain ⟨a, vs, ev, ha, ra⟩ := re
    obtain ⟨e1, f1⟩ := flat_repO rd h1
    obtain ⟨e2, f2⟩ := flat_all ra h2
    exact .inl ⟨a, vs, ev, .inl (SqL.of ha), f1, f2, by rw [e1, e2]; exact q _ (.bl _)⟩
  | tup xs =>
    obtain ⟨⟨h1, h2⟩, q⟩ := asked_giv q
    cases re with | tup ha ra =>
      obtain ⟨e1, f1⟩ := flat_repO rd h1
      obtain ⟨e2, f2⟩ := flat_all ra h2
      exact .inl ⟨_, _, rfl, .inr (seqT_same sub ha), f1, f2, by rw [e1, e2]; exact q _ (.bl _)⟩
  | str z => cases d with
    | str w =>
      have e1 := rep_str rd
      have e2 := rep_str re
      subst e1 e2
      exact .inr ⟨w, z, rfl, rfl, q _ (.bl _)⟩
    | _ => exact q.elim
  | _ => exact q.elim
theorem o_in : OpR X (compareOp .In) (r2D X.K (gIn false)) := opr_imp (opr_or op_in_seq op_in_str) fun x y H Q q => in_of q
theorem o_notIn : OpR X (compareOp .NotIn) (r2D X.K (gIn true)) := opr_imp (opr_or op_notIn_seq op_notin_str) fun x y H Q q => in_of q

/-! ### an item -/
def gIx : D → D → Option Giv
  | .lst xs, .int i => (atI xs i).map .val
  | .tup xs, .int i => (atI xs i).map .val
  | .scr ns, .int i => (atI ns i).map fun n => .val (.int n)
  | .str z, .int i => if z.length ≤ 1000000 then (atI z.cps.toList i).map fun c => .val (.str ⟨#[c]⟩) else none
  | _, _ => none
theorem atI_rep {K : PySem.W.Frag} {H : Hp} {vs : List V} {ds : List D} {i : Int} {d : D} (r : RepAll K H vs ds) (h : atI ds i = some d) : ∃ v, atI vs i = some v ∧ Rep K H v d := by
  unfold atI at h ⊢
  rw [r.len]
  cases e : ixN ds.length i with
  | none => rw [e] at h; cases h
  | some j =>
    rw [e] at h
    exact r.get h
theorem asked_map {K : PySem.W.Frag} {H H0 : Hp} {Q : VK} {α : Type} {o : Option α} {f : α → D} (h : Asked K H H0 Q (o.map fun a => .val (f a))) : ∃ a, o = some a ∧ ∀ v, Rep K H0 v (f a) → Q v H := by
  cases o with
  | none => exact h.elim
  | some a => exact ⟨a, rfl, h⟩
theorem atI_map {α β : Type} {f : α → β} {xs : List α} {i : Int} {a : α} (h : atI xs i = some a) : atI (xs.map f) i = some (f a) := by
  unfold atI at h ⊢
  rw [List.length_map]
  cases e : ixN xs.length i with
  | none => rw [e] at h; cases h
  | some j =>
    rw [e] at h
    show (xs.map f)[j]? = _
    rw [List.getElem?_map]
    have h : xs[j]? = some a := h
    rw [h]; rfl
theorem ixr_imp {r r' : R2} (ho : IxR X r) (h : ∀ x y H Q, r' x y H Q → r x y H Q) : IxR X r' := fun a b pins s σ H x y v u Q I rx ry q hs => ho a b pins s σ H x y v u Q I rx ry (h x y H Q q) hs
theorem x_ix : IxR X (r2D X.K gIx) := ixr_imp ix_seq fun x y H Q q => by
  obtain ⟨H0, d, e, sub, rd, re, q⟩ := q
  cases e with
  | int i =>
    have ey := rep_int (show Rep X.K H0 y (.int i) from re)
    cases d with
    | lst xs =>
      obtain ⟨z, hz, q⟩ := asked_map (f := fun d => d) q
      obtain ⟨a, vs, ev, ha, ra⟩ := rd
      obtain ⟨v, hv, rv⟩ := atI_rep ra hz
      exact .inl ⟨a, vs, i, v, ev, ey, SqL.of ha, hv, q _ rv⟩
    | tup xs =>
      obtain ⟨z, hz, q⟩ := asked_map (f := fun d => d) q
      cases rd with | tup ha ra =>
        obtain ⟨v, hv, rv⟩ := atI_rep ra hz
        exact .inr (.inl ⟨_, _, i, v, rfl, ey, seqT_same sub ha, hv, q _ rv⟩)
    | scr ns =>
      obtain ⟨z, hz, q⟩ := asked_map q
      cases rd with | scr ha => exact .inl ⟨_, _, i, .int z, rfl, ey, sub.seq ha, atI_map hz, q _ (.int _)⟩
    | str z =>
      have q : Asked X.K H H0 Q (if z.length ≤ 1000000 then (atI z.cps.toList i).map fun c => .val (.str ⟨#[c]⟩) else none) := q
      split at q
      · rename_i hc
        obtain ⟨c, hz, q⟩ := asked_map q
        exact .inr (.inr ⟨z, i, c, rep_str rd, ey, line_of hc, hz, q _ (.str _)⟩)
      · exact q.elim
    | _ => exact q.elim
  | _ => cases d <;> exact q.elim
end
end DL

/-! data instead of heaps: items, slices, calls of built-ins, tests, what loops walk -/
namespace DL
open PySem L2 PySem.Spec PyProof.Rows GL

section
variable {X : Cx} {et : ET} {ce : Caught} {W : WX} {e a b c tg : Expr} {es : List Expr} {m ma mb mc : En → Res D} {mt mu : En → Res Bool} {pos p2 : Pos}
theorem d_ix (ha : DO X et ce W a ma) (hb : DO X et ce W b mb) (hs : PlainIx b) : DE X et ce W (.Subscript a b pos) (fun Γ => (ma Γ).bind fun x => (mb Γ).bind fun y => toR (gIx x y)) := by
  obtain ⟨t, p, ga⟩ := ha
  obtain ⟨t2, p2, gb⟩ := hb
  exact ⟨_, pe_ix x_ix p p2 hs, good_op (r := r2D X.K gIx) ga gb⟩
/-! ### slices -/
def cutL {α : Type} (xs : List α) (lo hi : Option Int) : List α := (xs.drop (HT.sIx xs.length 0 lo)).take (HT.sIx xs.length xs.length hi - HT.sIx xs.length 0 lo)
theorem rep_cut {K : PySem.W.Frag} {H : Hp} {vs : List V} {ds : List D} (r : RepAll K H vs ds) (lo hi : Option Int) : RepAll K H (cutV vs lo hi) (cutL ds lo hi) := by
  unfold cutV cutL
  rw [r.len]
  exact (r.drop _).take _
def gSl (lo hi : Option Int) : D → Option Giv
  | .lst xs => some (.newL (cutL xs lo hi))
  | .scr ns => some (.newL (cutL (ns.map .int) lo hi))
  | .str z => giv (z.length ≤ 1000000) (.str (cutS z lo hi))
  | _ => none
theorem slr_imp {r r' : V → Option Int → Option Int → Hp → VK → Prop} (ho : SlR X r) (h : ∀ x lo hi H Q, r' x lo hi H Q → r x lo hi H Q) : SlR X r' := fun pins s σ H x v vl vu lo hi sl Q I rx hs pl pu q =>
  ho pins s σ H x v vl vu lo hi sl Q I rx hs pl pu (h x lo hi H Q q)
theorem x_sl : SlR X (fun x lo hi H Q => r1D X.K (gSl lo hi) x H Q) := slr_imp (sl_list.or sl_str) fun x lo hi H Q q => by
  obtain ⟨H0, d, sub, rd, q⟩ := q
  cases d with
  | lst xs =>
    obtain ⟨a, vs, ev, ha, ra⟩ := rd
    exact .inl ⟨a, vs, ev, SqL.of ha, fun p n => q p _ n (rep_cut ra lo hi)⟩
  | scr ns => cases rd with | scr ha => exact .inl ⟨_, _, rfl, sub.seq ha, fun p n => q p _ n (rep_cut (RepAll.ints ns) lo hi)⟩
  | str z =>
    obtain ⟨hc, q⟩ := asked_giv q
    exact .inr ⟨z, rep_str rd, line_of hc, q _ (.str _)⟩
  | _ => exact q.elim
def RP : Rl (Option Int) (Option Int) := fun _ _ _ b a => b = a
theorem back_P : Back RP := fun _ _ _ _ _ _ _ h => h
structure DP (X : Cx) (et : ET) (ce : Caught) (W : WX) (e : Option Expr) (m : En → Res (Option Int)) : Prop where ex : ∃ t, PO X e t ∧ Good X.K et ce W RP t m
theorem dp_none : DP X et ce W none (fun _ => .ok none) := ⟨_, po_none, fun Hs H0s σ H H0 Γ Q c q => q none H H0 (Step.refl c.sub) rfl⟩
def toI : D → Res (Option Int)
  | .int i => .ok (some i)
  | _ => .stuck
theorem dp_some (h : DO X et ce W e m) : DP X et ce W (some e) (fun Γ => (m Γ).bind toI) := by
  obtain ⟨t, p, g⟩ := h
  refine ⟨_, po_some p, fun Hs H0s σ H H0 Γ Q c q => g _ _ _ _ _ _ _ c (Post.next q fun d v H1 G _ s r q => ?_)⟩
  cases d with
  | int i => exact ⟨i, rep_int r, q _ H1 G s rfl⟩
  | _ => exact (q : False).elim
theorem good_sl {te : TE} {tl th : TO} {ml mh : En → Res (Option Int)} (ga : Good X.K et ce W (RO X.K) te ma) (gl : Good X.K et ce W RP tl ml) (gh : Good X.K et ce W RP th mh) :
    Good X.K et ce W (RF X.K) (tSl (fun x lo hi H Q => r1D X.K (gSl lo hi) x H Q) te tl th) (fun Γ => (ma Γ).bind fun x => (ml Γ).bind fun lo => (mh Γ).bind fun hi => toF (gSl lo hi x)) ∧
    Good X.K et ce W (RD X.K) (tSl (fun x lo hi H Q => r1D X.K (gSl lo hi) x H Q) te tl th) (fun Γ => (ma Γ).bind fun x => (ml Γ).bind fun lo => (mh Γ).bind fun hi => toR (gSl lo hi x)) := by
  constructor
  · intro Hs H0s σ H H0 Γ Q c q
    refine ga _ _ _ _ _ _ _ c (Post.next q fun d v H1 G1 _ s r q => gl _ _ _ _ _ _ _ (c.step s) (Post.next (q.step back_F s) fun lo lo' H2 G2 _ s2 e2 q => ?_))
    subst e2
    refine gh _ _ _ _ _ _ _ ((c.step s).step s2) (Post.next (q.step back_F s2) fun hi hi' H3 G3 _ s3 e3 q => ?_)
    subst e3
    exact ⟨G3, d, s3.sub, (r.same s2).same s3, askedF (σ := σ) s3.sub (q.step back_F s3)⟩
  · intro Hs H0s σ H H0 Γ Q c q
    refine ga _ _ _ _ _ _ _ c (Post.next q fun d v H1 G1 _ s r q => gl _ _ _ _ _ _ _ (c.step s) (Post.next (q.step back_D s) fun lo lo' H2 G2 _ s2 e2 q => ?_))
    subst e2
    refine gh _ _ _ _ _ _ _ ((c.step s).step s2) (Post.next (q.step back_D s2) fun hi hi' H3 G3 _ s3 e3 q => ?_)
    subst e3
    exact ⟨G3, d, s3.sub, (r.same s2).same s3, asked (σ := σ) s3.sub (q.step back_D s3)⟩
theorem d_sl {lo hi : Option Expr} {ml mh : En → Res (Option Int)} (h : DO X et ce W e m) (hl : DP X et ce W lo ml) (hh : DP X et ce W hi mh) :
    DE X et ce W (.Subscript e (.Slice lo hi none p2) pos) (fun Γ => (m Γ).bind fun x => (ml Γ).bind fun lo => (mh Γ).bind fun hi => toR (gSl lo hi x)) := by
  obtain ⟨t, p, g⟩ := h
  obtain ⟨tl, pl, gl⟩ := hl
  obtain ⟨th, ph, gh⟩ := hh
  exact ⟨_, pe_slice x_sl p pl ph, (good_sl g gl gh).2⟩
theorem d_slF {lo hi : Option Expr} {ml mh : En → Res (Option Int)} (h : DO X et ce W e m) (hl : DP X et ce W lo ml) (hh : DP X et ce W hi mh) :
    DF X et ce W (.Subscript e (.Slice lo hi none p2) pos) (fun Γ => (m Γ).bind fun x => (ml Γ).bind fun lo => (mh Γ).bind fun hi => toF (gSl lo hi x)) := by
  obtain ⟨t, p, g⟩ := h
  obtain ⟨tl, pl, gl⟩ := hl
  obtain ⟨th, ph, gh⟩ := hh
  exact ⟨_, pe_slice x_sl p pl ph, (good_sl g gl gh).1⟩

/-! ### calls of built-in functions -/
def rc1 (r : V → Hp → VK → Prop) : List V → Hp → VK → Prop := fun vs H Q => ∃ v, vs = [v] ∧ r v H Q
def rc2 (r : R2) : List V → Hp → VK → Prop := fun vs H Q => ∃ v w, vs = [v, w] ∧ r v w H Q
theorem good_c1 {te : TE} {g : D → Option Giv} (ga : Good X.K et ce W (RO X.K) te ma) : Good X.K et ce W (RD X.K) (tCB (rc1 (r1D X.K g)) (tCons te tNil)) (fun Γ => (ma Γ).bind fun x => toR (g x)) := by
  intro Hs H0s σ H H0 Γ Q c q
  refine ga _ _ _ _ _ _ _ c (Post.next q fun d v H1 G1 _ s r q => ?_)
  exact ⟨v, rfl, G1, d, s.sub, r, asked (σ := σ) s.sub (q.step back_D s)⟩
theorem good_c2 {ta tb : TE} {g : D → D → Option Giv} (ga : Good X.K et ce W (RO X.K) ta ma) (gb : Good X.K et ce W (RO X.K) tb mb) :
    Good X.K et ce W (RD X.K) (tCB (rc2 (r2D X.K g)) (tCons ta (tCons tb tNil))) (fun Γ => (ma Γ).bind fun x => (mb Γ).bind fun y => toR (g x y)) := by
  intro Hs H0s σ H H0 Γ Q c q
  refine ga _ _ _ _ _ _ _ c (Post.next q fun d v H1 G1 _ s r q => gb _ _ _ _ _ _ _ (c.step s) (Post.next (q.step back_D s) fun d2 v2 H2 G2 _ s2 r2 q => ?_))
  exact ⟨v, v2, rfl, G2, d, d2, s2.sub, r.same s2, r2, asked (σ := σ) s2.sub (q.step back_D s2)⟩
/-- f(a): hp by the rule of the layer for a call of that built-in -/
theorem d_c1 {g : D → Option Giv} (hp : ∀ t, PA X [a] t → PE X e (tCB (rc1 (r1D X.K g)) t)) (ha : DO X et ce W a ma) (hst : starEach (a :: []) X.env = (false, eval a X.env) :: starEach [] X.env := by rfl) : DE X et ce W e (fun Γ => (ma Γ).bind fun x => toR (g x)) := by
  obtain ⟨t, p, ga⟩ := ha
  exact ⟨_, hp _ (pa_cons p pa_nil hst), good_c1 ga⟩
theorem d_c2 {g : D → D → Option Giv} (hp : ∀ t, PA X [a, b] t → PE X e (tCB (rc2 (r2D X.K g)) t)) (ha : DO X et ce W a ma) (hb : DO X et ce W b mb) (hst : starEach (a :: [b]) X.env = (false, eval a X.env) :: starEach [b] X.env := by rfl)
    (hst2 : starEach (b :: []) X.env = (false, eval b X.env) :: starEach [] X.env := by rfl) : DE X et ce W e (fun Γ => (ma Γ).bind fun x => (mb Γ).bind fun y => toR (g x y)) := by
  obtain ⟨t, p, ga⟩ := ha
  obtain ⟨t2, p2, gb⟩ := hb
  exact ⟨_, hp _ (pa_cons p (pa_cons p2 pa_nil hst2) hst), good_c2 ga gb⟩
def gLen : D → Option Giv
  | .lst xs => some (.val (.int xs.length))
  | .tup xs => some (.val (.int xs.length))
  | .scr xs => some (.val (.int xs.length))
  | .str z => giv (z.length ≤ 1000000) (.int z.length)
  | _ => none
theorem b_len : CallR X (.builtin "len") (rc1 (r1D X.K gLen)) := callr_imp call_len fun vs H Q q => by
  obtain ⟨v, ev, H0, d, sub, rd, q⟩ := q
  subst ev
  cases d with
  | lst xs =>
    obtain ⟨a, vs, ev, ha, ra⟩ := rd
    subst ev
    exact ⟨_, _, rfl, .inl ⟨vs, SqL.of ha, rfl⟩, by rw [ra.len]; exact q _ (.int _)⟩
  | tup xs => cases rd with | tup ha ra => exact ⟨_, _, rfl, .inr ⟨_, seqT_same sub ha, rfl⟩, by rw [ra.len]; exact q _ (.int _)⟩
  | scr ns => cases rd with | scr ha => exact ⟨_, _, rfl, .inl ⟨_, sub.seq ha, rfl⟩, by rw [List.length_map]; exact q _ (.int _)⟩
  | str z =>
    obtain ⟨hc, q⟩ := asked_giv q
    have e := rep_str rd
    subst e
    exact ⟨_, _, rfl, ⟨line_of hc, rfl⟩, q _ (.int _)⟩
  | _ => exact q.elim
def gAbs : D → Option Giv
  | .int i => some (.val (.int (if i < 0 then -i else i)))
  | _ => none
theorem b_abs : CallR X (.builtin "abs") (rc1 (r1D X.K gAbs)) := callr_imp call_abs fun vs H Q q => by
  obtain ⟨v, ev, H0, d, sub, rd, q⟩ := q
  subst ev
  cases d with
  | int i => exact ⟨i, by rw [rep_int rd], q _ (.int _)⟩
  | _ => exact q.elim
def gInt : D → Option Giv
  | .int i => some (.val (.int i))
  | .bl k => some (.val (.int (if k then 1 else 0)))
  | _ => none
theorem b_int : CallR X (.type "int") (rc1 (r1D X.K gInt)) := callr_imp call_int1 fun vs H Q q => by
  obtain ⟨v, ev, H0, d, sub, rd, q⟩ := q
  subst ev
  cases d with
  | int i => exact .inl ⟨i, by rw [rep_int rd], q _ (.int _)⟩
  | bl i => exact .inr ⟨i, by rw [rep_bl rd], q _ (.int _)⟩
  | _ => exact q.elim
def gMax : D → D → Option Giv := i2 fun i j => some (.val (.int (if j > i then j else i)))
def gMin : D → D → Option Giv := i2 fun i j => some (.val (.int (if j < i then j else i)))
theorem b_max (hc : X.calm = true) : CallR X (.builtin "max") (rc2 (r2D X.K gMax)) := callr_imp (call_max2 hc) fun vs H Q q => by
  obtain ⟨v, w, ev, q⟩ := q
  obtain ⟨H0, i, j, e1, e2, k⟩ := two_ints q
  subst ev e1 e2
  exact ⟨i, j, rfl, k _ (.int _)⟩
theorem b_min (hc : X.calm = true) : CallR X (.builtin "min") (rc2 (r2D X.K gMin)) := callr_imp (call_min2 hc) fun vs H Q q => by
  obtain ⟨v, w, ev, q⟩ := q
  obtain ⟨H0, i, j, e1, e2, k⟩ := two_ints q
  subst ev e1 e2
  exact ⟨i, j, rfl, k _ (.int _)⟩
/-- list(xs), list(t) -/
def gList : D → Option Giv
  | .lst xs => some (.newL xs)
  | .tup xs => some (.newL xs)
  | _ => none
theorem b_list : CallR X (.type "list") (rc1 (r1D X.K gList)) := callr_imp call_list_of fun vs H Q q => by
  obtain ⟨v, ev, H0, d, sub, rd, q⟩ := q
  subst ev
  cases d with
  | lst xs =>
    obtain ⟨a, vs, ev, ha, ra⟩ := rd
    subst ev
    exact ⟨a, vs, rfl, .inl (SqL.of ha), fun p n => q p _ n ra⟩
  | tup xs => cases rd with | tup ha ra => exact ⟨_, _, rfl, .inr (seqT_same sub ha), fun p n => q p _ n ra⟩
  | _ => exact q.elim

/-! ### isinstance -/
/-- the built-in types that are asked for -/
inductive Ty where
  | int | bool | str | tuple | list
def Ty.name : Ty → String
  | .int => "int"
  | .bool => "bool"
  | .str => "str"
  | .tuple => "tuple"
  | .list => "list"
def isi : Ty → D → Bool
  | .int, .int _ => true
  | .int, .bl _ => true
  | .bool, .bl _ => true
  | .str, .str _ => true
  | .tuple, .tup _ => true
  | .list, .lst _ => true
  | .list, .scr _ => true
  | _, _ => false
def noObj : D → Bool
  | .obj _ _ _ => false
  | _ => true
def gIsi (T : Ty) (d : D) : Option Giv := giv (noObj d = true) (.bl (isi T d))
theorem tyx_of {K : PySem.W.Frag} {H H0 : Hp} {v : V} {d : D} (s : Same H0 H) (h : RepO K H H0 v d) (n : noObj d = true) (T : Ty) : ∃ t, TyX K H v (.type t) ∧ kitB t T.name = some (isi T d) := by
  cases d with
  | lst xs =>
    obtain ⟨a, vs, e, ha, _⟩ := h
    subst e
    exact ⟨"list", .base (.lst ha), by cases T <;> first | (show kitB "list" _ = some true; decide +kernel) | (show kitB "list" _ = some false; decide +kernel)⟩
  | dic ks xs =>
    obtain ⟨a, vs, e, ha, _⟩ := h
    subst e
    exact ⟨"dict", .base (.dK ha), by cases T <;> first | (show kitB "dict" _ = some true; decide +kernel) | (show kitB "dict" _ = some false; decide +kernel)⟩
  | non => cases h; exact ⟨"NoneType", .base .non, by cases T <;> first | (show kitB "NoneType" _ = some true; decide +kernel) | (show kitB "NoneType" _ = some false; decide +kernel)⟩
  | bl b => cases h; exact ⟨"bool", .base (.bl b), by cases T <;> first | (show kitB "bool" _ = some true; decide +kernel) | (show kitB "bool" _ = some false; decide +kernel)⟩
  | int i => cases h; exact ⟨"int", .base (.int i), by cases T <;> first | (show kitB "int" _ = some true; decide +kernel) | (show kitB "int" _ = some false; decide +kernel)⟩
  | str x => cases h; exact ⟨"str", .base (.str x), by cases T <;> first | (show kitB "str" _ = some true; decide +kernel) | (show kitB "str" _ = some false; decide +kernel)⟩
  | tup xs => cases h with | tup ha _ => exact ⟨"tuple", tyx_tup (seqT_same s ha), by cases T <;> first | (show kitB "tuple" _ = some true; decide +kernel) | (show kitB "tuple" _ = some false; decide +kernel)⟩
  | scr ns => cases h with | scr ha => exact ⟨"list", tyx_lst (s.seq ha), by cases T <;> first | (show kitB "list" _ = some true; decide +kernel) | (show kitB "list" _ = some false; decide +kernel)⟩
  | obj C ns xs => cases n
theorem d_isi {T : Ty} {p : Pos} (hg : Gl X "isinstance") (hm : X.mg "isinstance" = none) (hb : PE X b (tC (.ty T.name))) (ha : DO X et ce W a ma)
    (hst : starEach (a :: [b]) X.env = (false, eval a X.env) :: starEach [b] X.env := by rfl) (hst2 : starEach (b :: []) X.env = (false, eval b X.env) :: starEach [] X.env := by rfl)
    (hpl : (backTo pos (starEach [b] X.env)).any (·.1) = false := by rfl) :
    DE X et ce W (.Call (.Name "isinstance" p) [a, b] [] pos) (fun Γ => (ma Γ).bind fun x => toR (gIsi T x)) := by
  obtain ⟨t, pa, ga⟩ := ha
  refine ⟨_, pe_callB call_isi hg hm (by decide +kernel) (pa_cons pa (pa_cons hb pa_nil hst2) hst) (by decide) (by decide) hst hpl, fun Hs H0s σ H H0 Γ Q c q => ga _ _ _ _ _ _ _ c (Post.next q fun d v H1 G1 _ s r q => ?_)⟩
  have q := asked (σ := σ) s.sub (q.step back_D s)
  obtain ⟨hn, q⟩ := asked_giv q
  obtain ⟨k, ty, hk⟩ := tyx_of s.sub r hn T
  exact ⟨v, .ty T.name, .type k, .type T.name, _, rfl, .ty _, ty, kit_ty hk, q _ (.bl _)⟩
end
end DL

/-! data instead of heaps: and, or, not, tests, repr, what loops walk, dicts -/
namespace DL
open PySem L2 PySem.Spec PyProof.Rows GL

section
variable {X : Cx} {et : ET} {ce : Caught} {W : WX} {e a b c tg : Expr} {es : List Expr} {m ma mb mc : En → Res D} {mt mu : En → Res Bool} {pos p2 : Pos}
/-! ### not, and, or, if .. else -/
def asB : D → Res Bool
  | .bl b => .ok b
  | _ => .stuck
theorem d_not (h : DE X et ce W a m) : DE X et ce W (.UnaryOp .Not a pos) (fun Γ => (m Γ).bind fun d => (asB d).bind fun b => .ok (.bl (!b))) := by
  obtain ⟨t, p, g⟩ := h
  refine ⟨_, pe_not p, fun Hs H0s σ H H0 Γ Q c q => g _ _ _ _ _ _ _ c (Post.next q fun d v H1 G _ s r q => ?_)⟩
  cases d with
  | bl b => exact ⟨b, rep_bl r, q _ H1 G s (.bl _)⟩
  | _ => exact (q : False).elim
theorem d_one {op} (h : DE X et ce W a m) : DE X et ce W (.BoolOp op [a] pos) m := by
  obtain ⟨t, p, g⟩ := h
  exact ⟨t, pe_one p, g⟩
theorem d_and {rest : List Expr} (ha : DE X et ce W a ma) (hb : DE X et ce W (.BoolOp .And (b :: rest) pos) mb) :
    DE X et ce W (.BoolOp .And (a :: b :: rest) pos) (fun Γ => (ma Γ).bind fun d => (asB d).bind fun b => if b = true then mb Γ else .ok (.bl false)) := by
  obtain ⟨t, p, g⟩ := ha
  obtain ⟨t2, p2, g2⟩ := hb
  refine ⟨_, pe_and p p2, fun Hs H0s σ H H0 Γ Q c q => g _ _ _ _ _ _ _ c (Post.next q fun d v H1 G _ s r q => ?_)⟩
  cases d with
  | bl b =>
    refine ⟨b, rep_bl r, ?_⟩
    have q : Post X.K et W (RD X.K) σ H H0 Q (if b = true then mb Γ else .ok (.bl false)) := q
    cases b with
    | true => rw [if_pos rfl] at q; exact iteT (g2 _ _ _ _ _ _ _ (c.step s) (q.step back_D s))
    | false => rw [if_neg Bool.false_ne_true] at q; exact iteF (q _ H1 G s (.bl _))
  | _ => exact (q : False).elim
theorem d_or {rest : List Expr} (ha : DE X et ce W a ma) (hb : DE X et ce W (.BoolOp .Or (b :: rest) pos) mb) :
    DE X et ce W (.BoolOp .Or (a :: b :: rest) pos) (fun Γ => (ma Γ).bind fun d => (asB d).bind fun b => if b = true then .ok (.bl true) else mb Γ) := by
  obtain ⟨t, p, g⟩ := ha
  obtain ⟨t2, p2, g2⟩ := hb
  refine ⟨_, pe_or p p2, fun Hs H0s σ H H0 Γ Q c q => g _ _ _ _ _ _ _ c (Post.next q fun d v H1 G _ s r q => ?_)⟩
  cases d with
  | bl b =>
    refine ⟨b, rep_bl r, ?_⟩
    have q : Post X.K et W (RD X.K) σ H H0 Q (if b = true then .ok (.bl true) else mb Γ) := q
    cases b with
    | true => rw [if_pos rfl] at q; exact iteT (q _ H1 G s (.bl _))
    | false => rw [if_neg Bool.false_ne_true] at q; exact iteF (g2 _ _ _ _ _ _ _ (c.step s) (q.step back_D s))
  | _ => exact (q : False).elim
theorem d_if (hc : DT X et ce W c mt) (ha : DE X et ce W a ma) (hb : DE X et ce W b mb) : DE X et ce W (.IfExp c a b pos) (fun Γ => (mt Γ).bind fun k => if k = true then ma Γ else mb Γ) := by
  obtain ⟨t, p, g⟩ := hc
  obtain ⟨t1, p1, g1⟩ := ha
  obtain ⟨t2, p2, g2⟩ := hb
  refine ⟨_, pe_ifExp p p1 p2, fun Hs H0s σ H H0 Γ Q c q => g _ _ _ _ _ _ _ c (Post.next q fun k k' H1 G _ s r q => ?_)⟩
  cases (r : k' = k)
  cases k with
  | true => rw [if_pos rfl] at q; exact iteT (g1 _ _ _ _ _ _ _ (c.step s) (q.step back_D s))
  | false => rw [if_neg Bool.false_ne_true] at q; exact iteF (g2 _ _ _ _ _ _ _ (c.step s) (q.step back_D s))
theorem dt_not (h : DT X et ce W a mt) : DT X et ce W (.UnaryOp .Not a pos) (fun Γ => (mt Γ).bind fun b => .ok (!b)) := by
  obtain ⟨t, p, g⟩ := h
  refine ⟨_, pt_not p, fun Hs H0s σ H H0 Γ Q c q => g _ _ _ _ _ _ _ c (Post.next q fun k k' H1 G _ s r q => ?_)⟩
  cases (r : k' = k)
  exact q _ H1 G s rfl
theorem dt_w (h : DW X et ce W a mt) : DT X et ce W a mt := by
  obtain ⟨t, p, g⟩ := h
  exact ⟨t, p.pt, g⟩
theorem good_and {ta tb : TT} (ga : Good X.K et ce W RB ta mt) (gb : Good X.K et ce W RB tb mu) : Good X.K et ce W RB (tAnd ta tb) (fun Γ => (mt Γ).bind fun b => if b = true then mu Γ else .ok false) := by
  intro Hs H0s σ H H0 Γ Q c q
  refine ga _ _ _ _ _ _ _ c (Post.next q fun k k' H1 G _ s r q => ?_)
  cases (r : k' = k)
  cases k with
  | true => rw [if_pos rfl] at q; exact iteT (gb _ _ _ _ _ _ _ (c.step s) (q.step back_B s))
  | false => rw [if_neg Bool.false_ne_true] at q; exact iteF (q _ H1 G s rfl)
theorem good_or {ta tb : TT} (ga : Good X.K et ce W RB ta mt) (gb : Good X.K et ce W RB tb mu) : Good X.K et ce W RB (tOr ta tb) (fun Γ => (mt Γ).bind fun b => if b = true then .ok true else mu Γ) := by
  intro Hs H0s σ H H0 Γ Q c q
  refine ga _ _ _ _ _ _ _ c (Post.next q fun k k' H1 G _ s r q => ?_)
  cases (r : k' = k)
  cases k with
  | true => rw [if_pos rfl] at q; exact iteT (q _ H1 G s rfl)
  | false => rw [if_neg Bool.false_ne_true] at q; exact iteF (gb _ _ _ _ _ _ _ (c.step s) (q.step back_B s))
theorem dw_and {rest : List Expr} (ha : DT X et ce W a mt) (hb : DW X et ce W (.BoolOp .And (b :: rest) pos) mu) : DW X et ce W (.BoolOp .And (a :: b :: rest) pos) (fun Γ => (mt Γ).bind fun b => if b = true then mu Γ else .ok false) := by
  obtain ⟨t, p, g⟩ := ha
  obtain ⟨t2, p2, g2⟩ := hb
  exact ⟨_, pw_and p p2, good_and g g2⟩
theorem dw_or {rest : List Expr} (ha : DT X et ce W a mt) (hb : DW X et ce W (.BoolOp .Or (b :: rest) pos) mu) : DW X et ce W (.BoolOp .Or (a :: b :: rest) pos) (fun Γ => (mt Γ).bind fun b => if b = true then .ok true else mu Γ) := by
  obtain ⟨t, p, g⟩ := ha
  obtain ⟨t2, p2, g2⟩ := hb
  exact ⟨_, pw_or p p2, good_or g g2⟩
theorem dw_and1 (h : DT X et ce W a mt) : DW X et ce W (.BoolOp .And [a] pos) mt := by
  obtain ⟨t, p, g⟩ := h
  exact ⟨_, pw_and1 p, g⟩
theorem dw_or1 (h : DT X et ce W a mt) : DW X et ce W (.BoolOp .Or [a] pos) mt := by
  obtain ⟨t, p, g⟩ := h
  exact ⟨_, pw_or1 p, g⟩
/-- a op b op' c -/
theorem good_chain {ta tb tc : TE} {g g' : D → D → Option Giv} (ga : Good X.K et ce W (RO X.K) ta ma) (gb : Good X.K et ce W (RO X.K) tb mb) (gc : Good X.K et ce W (RO X.K) tc mc)
    (hb : ∀ d e r, g d e = some r → ∃ k, r = .val (.bl k)) :
    Good X.K et ce W (RD X.K) (tChain (r2D X.K g) (r2D X.K g') ta tb tc) (fun Γ => (ma Γ).bind fun x => (mb Γ).bind fun y => (toR (g x y)).bind fun z => (asB z).bind fun k => if k = true then (mc Γ).bind fun w => toR (g' y w) else .ok (.bl false)) := by
  intro Hs H0s σ H H0 Γ Q c q
  refine ga _ _ _ _ _ _ _ c (Post.next q fun x v H1 G1 _ s r q => gb _ _ _ _ _ _ _ (c.step s) (Post.next (q.step back_D s) fun y v2 H2 G2 _ s2 r2 q => ?_))
  refine ⟨G2, x, y, s2.sub, r.same s2, r2, ?_⟩
  cases hg : g x y with
  | none => rw [hg] at q; exact (q : False).elim
  | some rr =>
    obtain ⟨k, e⟩ := hb _ _ _ hg
    subst e
    rw [hg] at q
    have q : Post X.K et W (RD X.K) σ H1 G1 Q (if k = true then (mc Γ).bind fun w => toR (g' y w) else .ok (.bl false)) := q
    intro w rw_
    cases rep_bl rw_
    refine ⟨k, rfl, ?_⟩
    cases k with
    | false => rw [if_neg Bool.false_ne_true] at q; exact iteF (q _ H2 G2 s2 (.bl _))
    | true =>
      rw [if_pos rfl] at q
      refine iteT (gc _ _ _ _ _ _ _ ((c.step s).step s2) (Post.next (q.step back_D s2) fun z v3 H3 G3 _ s3 r3 q => ?_))
      exact ⟨G3, y, z, s3.sub, r2.same s3, r3, asked (σ := σ) s3.sub (q.step back_D s3)⟩
theorem d_chain {g g' : D → D → Option Giv} (ha : DO X et ce W a ma) (hb : DO X et ce W b mb) (hc : DO X et ce W c mc) (hk : ∀ d e r, g d e = some r → ∃ k, r = .val (.bl k))
    (hp : ∀ ta tb tc, PE X a ta → PE X b tb → PE X c tc → PE X e (tChain (r2D X.K g) (r2D X.K g') ta tb tc)) :
    DE X et ce W e (fun Γ => (ma Γ).bind fun x => (mb Γ).bind fun y => (toR (g x y)).bind fun z => (asB z).bind fun k => if k = true then (mc Γ).bind fun w => toR (g' y w) else .ok (.bl false)) := by
  obtain ⟨t, p, ga⟩ := ha
  obtain ⟨t2, p2, gb⟩ := hb
  obtain ⟨t3, p3, gc⟩ := hc
  exact ⟨_, hp _ _ _ p p2 p3, good_chain ga gb gc hk⟩
theorem dt_chain {g g' : D → D → Option Giv} (ha : DO X et ce W a ma) (hb : DO X et ce W b mb) (hc : DO X et ce W c mc) (hk : ∀ d e r, g d e = some r → ∃ k, r = .val (.bl k))
    (hp : ∀ ta tb tc, PE X a ta → PE X b tb → PE X c tc → PT X e (tTest (tChain (r2D X.K g) (r2D X.K g') ta tb tc))) :
    DT X et ce W e (fun Γ => toB ((ma Γ).bind fun x => (mb Γ).bind fun y => (toR (g x y)).bind fun z => (asB z).bind fun k => if k = true then (mc Γ).bind fun w => toR (g' y w) else .ok (.bl false))) := by
  obtain ⟨t, p, ga⟩ := ha
  obtain ⟨t2, p2, gb⟩ := hb
  obtain ⟨t3, p3, gc⟩ := hc
  exact ⟨_, hp _ _ _ p p2 p3, fun Hs H0s σ H H0 Γ Q c q => good_chain ga gb gc hk _ _ _ _ _ _ _ c (post_B q)⟩
theorem lt_bl : ∀ d e r, gLt d e = some r → ∃ k, r = Giv.val (.bl k) := fun d e r h => by
  unfold gLt i2 at h; split at h
  · cases h; exact ⟨_, rfl⟩
  · cases h
theorem le_bl : ∀ d e r, gLe d e = some r → ∃ k, r = Giv.val (.bl k) := fun d e r h => by
  unfold gLe i2 at h; split at h
  · cases h; exact ⟨_, rfl⟩
  · cases h
theorem gt_bl : ∀ d e r, gGt d e = some r → ∃ k, r = Giv.val (.bl k) := fun d e r h => by
  unfold gGt i2 at h; split at h
  · cases h; exact ⟨_, rfl⟩
  · cases h
theorem ge_bl : ∀ d e r, gGe d e = some r → ∃ k, r = Giv.val (.bl k) := fun d e r h => by
  unfold gGe i2 at h; split at h
  · cases h; exact ⟨_, rfl⟩
  · cases h
/-- a value's truth -/
def truth : D → Res Bool
  | .non => .ok false
  | .bl b => .ok b
  | .int i => .ok (i != 0)
  | .str z => need (z.length ≤ 1000000) (.ok ((z.length : Int) != 0))
  | .lst xs => .ok (!xs.isEmpty)
  | .tup xs => .ok (!xs.isEmpty)
  | .scr xs => .ok (!xs.isEmpty)
  | _ => .stuck
theorem isEmpty_rep {K : PySem.W.Frag} {H : Hp} {vs : List V} {ds : List D} (r : RepAll K H vs ds) : vs.isEmpty = ds.isEmpty := by cases r <;> rfl
theorem dt_truth (hp : ∀ t, PE X a t → PT X a (fun σ H Q => t σ H fun x H' => ∃ k, TruV X.K x H' k ∧ Q k H')) (h : DO X et ce W a m) : DT X et ce W a (fun Γ => (m Γ).bind truth) := by
  obtain ⟨t, p, g⟩ := h
  refine ⟨_, hp _ p, fun Hs H0s σ H H0 Γ Q c q => g _ _ _ _ _ _ _ c (Post.next q fun d v H1 G _ s r q => ?_)⟩
  cases d with
  | non => cases rep_non r; exact ⟨_, rfl, q _ H1 G s rfl⟩
  | bl b => cases rep_bl r; exact ⟨_, rfl, q _ H1 G s rfl⟩
  | int i => cases rep_int r; exact ⟨_, rfl, q _ H1 G s rfl⟩
  | str z => cases rep_str r; exact ⟨_, ⟨line_of (need_if q).1, rfl⟩, (need_if q).2 _ H1 G s rfl⟩
  | lst xs =>
    obtain ⟨p, vs, ev, ha, ra⟩ := r
    subst ev
    exact ⟨_, .inl ⟨vs, SqL.of ha, rfl⟩, by rw [isEmpty_rep ra]; exact q _ H1 G s rfl⟩
  | tup xs => cases r with | tup ha ra => exact ⟨_, .inr (.inl ⟨_, seqT_same s.sub ha, rfl⟩), by rw [isEmpty_rep ra]; exact q _ H1 G s rfl⟩
  | scr ns => cases r with | scr ha => exact ⟨_, .inl ⟨_, s.sub.seq ha, rfl⟩, by rw [show (ns.map V.int).isEmpty = ns.isEmpty by cases ns <;> rfl]; exact q _ H1 G s rfl⟩
  | _ => exact (q : False).elim

/-! ### repr -/
/-- a dict of values that are no objects -/
def flatDic : D → Bool
  | .dic _ xs => xs.all flat
  | d => flat d
def pyK : Key → PyData
  | .inl k => .int k
  | .inr x => .str x
/-- as repr shows it -/
def pyS : D → PyData
  | .dic ks xs => .dict ((ks.zip xs).map fun p => (pyK p.1, py p.2))
  | d => py d
def pyR : D → PyData
  | .tup xs => .tuple (xs.map pyS)
  | d => pyS d
def shows : D → Bool
  | .tup xs => plainAll xs || xs.all flatDic
  | .dic ks xs => xs.all flat
  | d => plain d
def gRepr (d : D) : Option Giv := giv (shows d = true ∧ (pyR d).showable = true ∧ (pyR d).depth ≤ 60 ∧ (pyR d).shown.length ≤ sizeLine) (.str (pyR d).shown)
theorem pyAll_map : ∀ xs : List D, plainAll xs = true → pyAll xs = xs.map pyS
  | [], _ => by unfold pyAll; rfl
  | x :: xs, h => by
    unfold plainAll at h
    rw [Bool.and_eq_true] at h
    unfold pyAll
    rw [pyAll_map xs h.2, List.map_cons]
    congr 1
    cases x <;> first | rfl | (unfold plain at h; cases h.1)
theorem py_flat {K : PySem.W.Frag} {H : Hp} {v : V} {d : D} (h : Rep K H v d) (f : flat d = true) : isFlat v = true ∧ flatD v = py d := by
  cases h <;> first | exact ⟨rfl, by unfold py; rfl⟩ | cases f
theorem kv_flat {K : PySem.W.Frag} {H : Hp} : ∀ {kvs : List (Key × V)} {xs : List D}, RepAll K H (kvs.map (·.2)) xs → xs.all flat = true →
    (kvs.all fun p => isFlat p.2) = true ∧ (kvs.map fun p => (kD p.1, flatD p.2)) = ((kvs.map (·.1)).zip xs).map fun p => (pyK p.1, py p.2)
  | [], _, .nil, _ => ⟨rfl, rfl⟩
  | (k, v) :: r, _, .cons h t, f => by
    rw [List.all_cons, Bool.and_eq_true] at f
    obtain ⟨h1, h2⟩ := py_flat h f.1
    obtain ⟨h3, h4⟩ := kv_flat t f.2
    refine ⟨by rw [List.all_cons, h3]; simpa using h1, ?_⟩
    rw [List.map_cons, h4, List.map_cons, List.zip_cons_cons, List.map_cons]
    congr 1
    show (kD k, flatD v) = (pyK k, py _)
    rw [h2]
    cases k <;> rfl
theorem mix_of {K : PySem.W.Frag} {H : Hp} {v : V} {d : D} (h : Rep K H v d) (f : flatDic d = true) : Mix1 H v (pyS d) := by
  cases d with
  | dic ks xs =>
    cases h with | dic ha hk r =>
      obtain ⟨h1, h2⟩ := kv_flat r f
      have := Mix1.dic ha h1
      rw [h2, hk] at this
      exact this
  | _ =>
    obtain ⟨h1, h2⟩ := py_flat h f
    have := Mix1.flat (H := H) h1
    rw [h2] at this
    exact this
theorem mixAll_of {K : PySem.W.Frag} {H : Hp} : ∀ {vs : List V} {ds : List D}, RepAll K H vs ds → ds.all flatDic = true → MixAll H vs (ds.map pyS)
  | _, _, .nil, _ => .nil
  | _, _, .cons h t, f => by
    rw [List.all_cons, Bool.and_eq_true] at f
    exact .cons (mix_of h f.1) (mixAll_of t f.2)
theorem shd_of {K : PySem.W.Frag} {H H0 : Hp} {v : V} {d : D} (s : Same H0 H) (h : RepO K H H0 v d) (f : shows d = true) : ShD K H v (pyR d) := by
  cases d with
  | tup xs =>
    have h : Rep K H0 v (.tup xs) := h
    cases h with
    | tup ha ra =>
      by_cases hp : plainAll xs = true
      · have q := rep_dp (Rep.same s (Rep.tup (K := K) ha ra)) (by unfold plain; exact hp)
        unfold py at q
        rw [pyAll_map xs hp] at q
        exact .data q
      · have f2 : xs.all flatDic = true := by
          unfold shows at f
          rw [Bool.or_eq_true] at f
          exact f.resolve_left hp
        exact .tup (seqT_same s ha) (mixAll_of (ra.same s) f2)
  | dic ks xs =>
    obtain ⟨a, kvs, ev, ha, hk, ra⟩ := h
    subst ev
    obtain ⟨h1, h2⟩ := kv_flat (ra.same s) f
    have := Mix1.dic ha h1
    rw [h2, hk] at this
    exact .mix this
  | _ => exact .data (repO_dp s h f)
theorem b_repr (quiet : Quiet X.A) (hu : X.A.units + 64 < cLine) : CallR X (.builtin "repr") (rc1 (r1D X.K gRepr)) := callr_imp (call_repr quiet hu) fun vs H Q q => by
  obtain ⟨v, ev, H0, d, sub, rd, q⟩ := q
  subst ev
  obtain ⟨⟨h1, h2, h3, h4⟩, q⟩ := asked_giv q
  exact ⟨v, _, rfl, shd_of sub rd h1, h2, h3, h4, q _ (.str _)⟩
end
end DL

/-! data instead of heaps: what loops walk; dicts -/
namespace DL
open PySem L2 PySem.Spec PyProof.Rows GL

section
variable {X : Cx} {et : ET} {ce : Caught} {W : WX} {e a b c tg : Expr} {es : List Expr} {m ma mb mc : En → Res D} {mt mu : En → Res Bool} {pos p2 : Pos}
theorem walks_lst {K : PySem.W.Frag} {H0 : Hp} {a : Addr} {vs : List V} {ds : List D} (h : H0 a = some (.lst vs)) (r : RepAll K H0 vs ds) : Walks K (Itl K a) H0 ds := walks_list (fun G H s1 s2 => SqL.of (s2 _ _ (s1 _ _ h))) r
theorem walks_tup {K : PySem.W.Frag} {H0 : Hp} {a : Addr} {vs : List V} {ds : List D} (h : SqT K H0 a vs) (r : RepAll K H0 vs ds) : Walks K (Itt K a) H0 ds := by
  constructor
  · intro i H G hi s1 s2
    have hl := seqT_same s2 (seqT_same s1 h)
    have hd : ds[i]? = some ds[i] := by simp [hi]
    obtain ⟨v, hv, rv⟩ := r.get hd
    refine ⟨⟨vs, v, hl, hv⟩, fun x H' y => ?_⟩
    obtain ⟨e, y⟩ := y
    subst e
    have := y vs hl
    rw [hv] at this
    cases this
    exact ⟨G, _, hd, Step.refl s2, rv.same s1⟩
  · intro i H G hi s1 s2
    exact ⟨vs, seqT_same s2 (seqT_same s1 h), by rw [r.len]; exact hi⟩
def asL : D → Res (List D)
  | .lst xs => .ok xs
  | _ => .stuck
def asT : D → Res (List D)
  | .tup xs => .ok xs
  | _ => .stuck
theorem di_list (h : DE X et ce W a m) : DI X et ce W tg a (fun Γ => (m Γ).bind asL) := by
  obtain ⟨t, p, g⟩ := h
  refine ⟨_, pi_list p, fun Hs H0s σ H H0 Γ Q c q => g _ _ _ _ _ _ _ c (Post.next q fun d v H1 G _ s r q => ?_)⟩
  cases d with
  | lst xs => cases r with | lst ha ra => exact ⟨_, rfl, ⟨_, SqL.of (s.sub _ _ ha)⟩, q _ H1 G s (walks_lst ha ra)⟩
  | _ => exact (q : False).elim
theorem di_tup (h : DE X et ce W a m) : DI X et ce W tg a (fun Γ => (m Γ).bind asT) := by
  obtain ⟨t, p, g⟩ := h
  refine ⟨_, pi_tup p, fun Hs H0s σ H H0 Γ Q c q => g _ _ _ _ _ _ _ c (Post.next q fun d v H1 G _ s r q => ?_)⟩
  cases d with
  | tup xs => cases r with | tup ha ra => exact ⟨_, rfl, ⟨_, seqT_same s.sub ha⟩, q _ H1 G s (walks_tup ha ra)⟩
  | _ => exact (q : False).elim
/-- i, i + 1, .., i + n - 1 -/
def rangeD (i : Int) : Nat → List D
  | 0 => []
  | n + 1 => .int i :: rangeD (i + 1) n
theorem rangeD_len (i : Int) (n : Nat) : (rangeD i n).length = n := by
  induction n generalizing i with
  | zero => rfl
  | succ n ih => exact congrArg Nat.succ (ih (i + 1))
theorem rangeD_get (i : Int) {n j : Nat} (h : j < n) : (rangeD i n)[j]? = some (.int (i + j)) := by
  induction n generalizing i j with
  | zero => omega
  | succ n ih =>
    cases j with
    | zero => simp [rangeD]
    | succ j =>
      show (rangeD (i + 1) n)[j]? = _
      rw [ih (i + 1) (by omega)]
      have : i + 1 + (j : Int) = i + ((j + 1 : Nat) : Int) := by omega
      rw [this]
theorem walks_range {K : PySem.W.Frag} {H0 : Hp} (lo : Int) (n : Nat) : Walks K (Itr lo n) H0 (rangeD lo n) := by
  constructor
  · intro i H G hi s1 s2
    rw [rangeD_len] at hi
    refine ⟨hi, fun x H' y => ?_⟩
    obtain ⟨e, e2⟩ := y
    subst e e2
    exact ⟨G, _, rangeD_get lo hi, Step.refl s2, .int _⟩
  · intro i H G hi s1 s2
    rw [rangeD_len] at hi
    exact hi
/-- i, i - 1, .. n numbers -/
def downD (i : Int) : Nat → List D
  | 0 => []
  | n + 1 => .int i :: downD (i - 1) n
theorem downD_len (i : Int) (n : Nat) : (downD i n).length = n := by
  induction n generalizing i with
  | zero => rfl
  | succ n ih => exact congrArg Nat.succ (ih (i - 1))
theorem downD_get (i : Int) {n j : Nat} (h : j < n) : (downD i n)[j]? = some (.int (i - j)) := by
  induction n generalizing i j with
  | zero => omega
  | succ n ih =>
    cases j with
    | zero => simp [downD]
    | succ j =>
      show (downD (i - 1) n)[j]? = _
      rw [ih (i - 1) (by omega)]
      have : i - 1 - (j : Int) = i - ((j + 1 : Nat) : Int) := by omega
      rw [this]
theorem walks_down {K : PySem.W.Frag} {H0 : Hp} (lo : Int) (n : Nat) : Walks K (Itc lo (-1) n) H0 (downD lo n) := by
  constructor
  · intro i H G hi s1 s2
    rw [downD_len] at hi
    refine ⟨hi, fun x H' y => ?_⟩
    obtain ⟨e, e2⟩ := y
    subst e e2
    refine ⟨G, _, downD_get lo hi, Step.refl s2, ?_⟩
    have : lo + (i : Int) * (-1) = lo - i := by omega
    rw [this]
    exact .int _
  · intro i H G hi s1 s2
    rw [downD_len] at hi
    exact hi
def rng1 : List D → Res (List D)
  | [.int n] => need (-1000000 ≤ n ∧ n ≤ 1000000) (.ok (rangeD 0 n.toNat))
  | _ => .stuck
def rng2 : List D → Res (List D)
  | [.int i, .int j] => need (-1000000 ≤ i ∧ i ≤ 1000000 ∧ -1000000 ≤ j ∧ j ≤ 1000000) (.ok (rangeD i (j - i).toNat))
  | _ => .stuck
/-- range(i, j, -1) -/
def rng3 : List D → Res (List D)
  | [.int i, .int j, .int c] => need (c = -1 ∧ -1000000 ≤ i ∧ i ≤ 1000000 ∧ -1000000 ≤ j ∧ j ≤ 1000000) (.ok (downD i (i - j).toNat))
  | _ => .stuck
variable {mas : En → Res (List D)}
theorem di_range1 {p : Pos} (hg : Gl X "range") (hm : X.mg "range" = none) (h : DA X et ce W [a] mas) (hs : starEach [a] X.env = [(false, eval a X.env)] := by rfl) : DI X et ce W tg (.Call (.Name "range" p) [a] [] pos) (fun Γ => (mas Γ).bind rng1) := by
  obtain ⟨t, pa, g⟩ := h
  refine ⟨_, pi_range1 hg hm pa hs, fun Hs H0s σ H H0 Γ Q c q => g _ _ _ _ _ _ _ c (Post.next q fun ds vs H1 G _ s r q => ?_)⟩
  match ds, (show RepAll X.K G vs ds from r), q with
  | [.int n], .cons r1 .nil, q =>
    obtain ⟨hn, q⟩ := need_if q
    cases rep_int r1
    exact ⟨n, rfl, by omega, by omega, q _ H1 G s (walks_range _ _)⟩
theorem di_range2 {p : Pos} (hg : Gl X "range") (hm : X.mg "range" = none) (h : DA X et ce W [a, b] mas) (hs : starEach [a, b] X.env = [(false, eval a X.env), (false, eval b X.env)] := by rfl) (hs2 : starEach [b] X.env = [(false, eval b X.env)] := by rfl) :
    DI X et ce W tg (.Call (.Name "range" p) [a, b] [] pos) (fun Γ => (mas Γ).bind rng2) := by
  obtain ⟨t, pa, g⟩ := h
  refine ⟨_, pi_range2 hg hm pa hs hs2, fun Hs H0s σ H H0 Γ Q c q => g _ _ _ _ _ _ _ c (Post.next q fun ds vs H1 G _ s r q => ?_)⟩
  match ds, (show RepAll X.K G vs ds from r), q with
  | [.int i, .int j], .cons r1 (.cons r2 .nil), q =>
    obtain ⟨hn, q⟩ := need_if q
    cases rep_int r1
    cases rep_int r2
    exact ⟨i, j, rfl, ⟨by omega, by omega, by omega, by omega⟩, q _ H1 G s (walks_range _ _)⟩
theorem di_range3 {p : Pos} (hg : Gl X "range") (hm : X.mg "range" = none) (h : DA X et ce W [a, b, c] mas)
    (hs : starEach [a, b, c] X.env = (false, eval a X.env) :: starEach [b, c] X.env := by rfl) (hpl : (backTo pos (starEach [b, c] X.env)).any (·.1) = false := by rfl) :
    DI X et ce W tg (.Call (.Name "range" p) [a, b, c] [] pos) (fun Γ => (mas Γ).bind rng3) := by
  obtain ⟨t, pa, g⟩ := h
  refine ⟨_, pi_range3 hg hm pa hs hpl, fun Hs H0s σ H H0 Γ Q c q => g _ _ _ _ _ _ _ c (Post.next q fun ds vs H1 G _ s r q => ?_)⟩
  match ds, (show RepAll X.K G vs ds from r), q with
  | [.int i, .int j, .int k], .cons r1 (.cons r2 (.cons r3 .nil)), q =>
    obtain ⟨⟨hk, hn⟩, q2⟩ := need_if q
    subst hk
    cases rep_int r1
    cases rep_int r2
    cases rep_int r3
    exact ⟨i, j, -1, _, rfl, RgC.neg (by omega) (by omega) (by omega) (by omega), q2 _ H1 G s (walks_down _ _)⟩
/-- pairs of a place and an item -/
def enumD : Nat → List D → List D
  | _, [] => []
  | i, x :: r => .tup [.int i, x] :: enumD (i + 1) r
theorem enumD_len : ∀ (i : Nat) (ds : List D), (enumD i ds).length = ds.length
  | _, [] => rfl
  | i, x :: r => congrArg Nat.succ (enumD_len (i + 1) r)
theorem enumD_get : ∀ {i j : Nat} {ds : List D} {d : D}, ds[j]? = some d → (enumD i ds)[j]? = some (.tup [.int ((i + j : Nat) : Int), d])
  | _, _, [], _, h => by simp at h
  | i, 0, x :: r, d, h => by simp at h; subst h; simp [enumD]
  | i, j + 1, x :: r, d, h => by
    show (enumD (i + 1) r)[j]? = _
    rw [enumD_get (i := i + 1) (by simpa using h)]
    have : i + 1 + j = i + (j + 1) := by omega
    rw [this]
theorem walks_enum {K : PySem.W.Frag} {H0 : Hp} {a : Addr} {vs : List V} {ds : List D} (h : H0 a = some (.lst vs)) (r : RepAll K H0 vs ds) : Walks K (Ite K a) H0 (enumD 0 ds) := by
  constructor
  · intro i H G hi s1 s2
    rw [enumD_len] at hi
    have hl : SqL K H a vs := SqL.of (s2 _ _ (s1 _ _ h))
    have hd : ds[i]? = some ds[i] := by simp [hi]
    obtain ⟨v, hv, rv⟩ := r.get hd
    refine ⟨⟨vs, v, hl, hv⟩, fun x H' y => ?_⟩
    obtain ⟨T, w, ex, hT, eH, y⟩ := y
    subst ex eH
    have := y vs hl
    rw [hv] at this
    cases this
    refine ⟨upd G T _, _, enumD_get hd, Step.new s2 hT, .tup (SqT.of upd_same) (.cons ?_ (.cons ((rv.same s1).same (same_upd' (Same.refl _) (none_sub s2 hT))) .nil))⟩
    rw [Nat.zero_add]
    exact .int _
  · intro i H G hi s1 s2
    rw [enumD_len] at hi
    exact ⟨vs, SqL.of (s2 _ _ (s1 _ _ h)), by rw [r.len]; exact hi⟩
theorem di_enum {p tpos : Pos} {elts : List Expr} {kk : Nat} (hg : Gl X "enumerate") (hm : X.mg "enumerate" = none) (h : DE X et ce W a m) (hs : starEach [a] X.env = [(false, eval a X.env)] := by rfl) :
    DI X et ce W (.Tuple elts kk tpos) (.Call (.Name "enumerate" p) [a] [] pos) (fun Γ => (m Γ).bind fun d => (asL d).bind fun xs => .ok (enumD 0 xs)) := by
  obtain ⟨t, pa, g⟩ := h
  refine ⟨_, pi_enum hg hm (pa_cons pa pa_nil (by rw [hs]; rfl)) hs, fun Hs H0s σ H H0 Γ Q c q => g _ _ _ _ _ _ _ c (Post.next q fun d v H1 G _ s r q => ?_)⟩
  cases d with
  | lst xs => cases r with | lst ha ra => exact ⟨_, _, rfl, SqL.of (s.sub _ _ ha), q _ H1 G s (walks_enum ha ra)⟩
  | _ => exact (q : False).elim
theorem walks_rev {K : PySem.W.Frag} {H0 : Hp} {a : Addr} {vs : List V} {ds : List D} (h : H0 a = some (.lst vs)) (r : RepAll K H0 vs ds) : Walks K (Itv K a vs.length) H0 ds.reverse := by
  have hlen := r.len
  constructor
  · intro i H G hi s1 s2
    rw [List.length_reverse] at hi
    have hl : SqL K H a vs := SqL.of (s2 _ _ (s1 _ _ h))
    have hd : ds[ds.length - 1 - i]? = some ds[ds.length - 1 - i] := List.getElem?_eq_getElem (by omega)
    obtain ⟨v, hv, rv⟩ := r.get hd
    rw [← hlen] at hv
    refine ⟨⟨by omega, vs, v, hl, hv⟩, fun x H' y => ?_⟩
    obtain ⟨e, y⟩ := y
    subst e
    have := y vs hl
    rw [hv] at this
    cases this
    exact ⟨G, _, by rw [List.getElem?_reverse hi]; exact hd, Step.refl s2, rv.same s1⟩
  · intro i H G hi s1 s2
    rw [List.length_reverse] at hi
    show vs.length ≤ i
    omega
theorem di_rev {p : Pos} (hg : Gl X "reversed") (hm : X.mg "reversed" = none) (h : DE X et ce W a m) (hs : starEach [a] X.env = [(false, eval a X.env)] := by rfl) :
    DI X et ce W tg (.Call (.Name "reversed" p) [a] [] pos) (fun Γ => (m Γ).bind fun d => (asL d).bind fun xs => .ok xs.reverse) := by
  obtain ⟨t, pa, g⟩ := h
  refine ⟨_, pi_reversed hg hm (pa_cons pa pa_nil (by rw [hs]; rfl)) hs, fun Hs H0s σ H H0 Γ Q c q => g _ _ _ _ _ _ _ c (Post.next q fun d v H1 G _ s r q => ?_)⟩
  cases d with
  | lst xs => cases r with | lst ha ra => exact ⟨_, _, rfl, SqL.of (s.sub _ _ ha), q _ H1 G s (walks_rev ha ra)⟩
  | _ => exact (q : False).elim
/-! ### n.bit_length() -/
def gBits : D → Option Giv
  | .int i => some (.val (.int (Builtin.Int.intBits i : Nat)))
  | _ => none
theorem d_bits (hp : ∀ t, PE X a t → PE X e (tBits t)) (h : DO X et ce W a m) : DE X et ce W e (fun Γ => (m Γ).bind fun x => toR (gBits x)) := by
  obtain ⟨t, p, g⟩ := h
  refine ⟨_, hp _ p, fun Hs H0s σ H H0 Γ Q c q => g _ _ _ _ _ _ _ c (Post.next q fun d v H1 G _ s r q => ?_)⟩
  cases d with
  | int i => exact ⟨i, rep_int r, q _ H1 G s (.int _)⟩
  | _ => exact (q : False).elim
/-! ### {} -/
theorem d_dict0 (hp : PE X e tDNewK) : DFD X et ce W e (fun _ => .ok ([], [])) :=
  ⟨_, hp, fun Hs H0s σ H H0 Γ Q c q p n => q _ _ _ (Step.own c.sub n) ⟨p, [], rfl, n, upd_same, none_sub c.sub n, rfl, .nil⟩⟩
/-- a module's constant that is a tuple of texts, numbers -/
theorem d_conT {p : Addr} {ds : List D} (h : PE X e (tC (.ref p))) (r : ∀ H, Rep X.K H (.ref p) (.tup ds)) : DE X et ce W e (fun _ => .ok (.tup ds)) := d_con h r
end
end DL

/-! short names for what the rules make of a text -/
namespace DL
open PySem L2 PySem.Spec PyProof.Rows GL

abbrev MD := En → Res D
abbrev ML := En → Res (List D)
def eVar (i : Nat) : MD := fun Γ => getS Γ i
def eVarO (i : Nat) : MD := fun Γ => getO Γ i
def eC (d : D) : MD := fun _ => .ok d
def eNil : ML := fun _ => .ok []
def eCons (m : MD) (ms : ML) : ML := fun Γ => (m Γ).bind fun d => (ms Γ).bind fun ds => .ok (d :: ds)
def eTup (ms : ML) : MD := fun Γ => (ms Γ).bind fun ds => need (ds.length ≤ 1000) (.ok (.tup ds))
def fLst (ms : ML) : ML := fun Γ => (ms Γ).bind fun ds => need (ds.length ≤ 1000) (.ok ds)
def eAll (m : ML) : MD := fun Γ => (m Γ).bind fun xs => .ok (.lst xs)
def eAllD (m : En → Res (List Key × List D)) : MD := fun Γ => (m Γ).bind fun xs => .ok (.dic xs.1 xs.2)
def fDict0 : En → Res (List Key × List D) := fun _ => .ok ([], [])
def eOp (g : D → D → Option Giv) (a b : MD) : MD := fun Γ => (a Γ).bind fun x => (b Γ).bind fun y => toR (g x y)
def fOp (g : D → D → Option Giv) (a b : MD) : ML := fun Γ => (a Γ).bind fun x => (b Γ).bind fun y => toF (g x y)
def eUn (g : D → Option Giv) (a : MD) : MD := fun Γ => (a Γ).bind fun x => toR (g x)
def bB (m : MD) : En → Res Bool := fun Γ => toB (m Γ)
def bTruth (m : MD) : En → Res Bool := fun Γ => (m Γ).bind truth
def pN : En → Res (Option Int) := fun _ => .ok none
def pS (m : MD) : En → Res (Option Int) := fun Γ => (m Γ).bind toI
def eSl (a : MD) (l h : En → Res (Option Int)) : MD := fun Γ => (a Γ).bind fun x => (l Γ).bind fun lo => (h Γ).bind fun hi => toR (gSl lo hi x)
def fSl (a : MD) (l h : En → Res (Option Int)) : ML := fun Γ => (a Γ).bind fun x => (l Γ).bind fun lo => (h Γ).bind fun hi => toF (gSl lo hi x)
def eNot (m : MD) : MD := fun Γ => (m Γ).bind fun d => (asB d).bind fun b => .ok (.bl (!b))
def eAnd (a b : MD) : MD := fun Γ => (a Γ).bind fun d => (asB d).bind fun k => if k = true then b Γ else .ok (.bl false)
def eOr (a b : MD) : MD := fun Γ => (a Γ).bind fun d => (asB d).bind fun k => if k = true then .ok (.bl true) else b Γ
def eIf (t : En → Res Bool) (a b : MD) : MD := fun Γ => (t Γ).bind fun k => if k = true then a Γ else b Γ
def bNot (t : En → Res Bool) : En → Res Bool := fun Γ => (t Γ).bind fun b => .ok (!b)
def bAnd (t u : En → Res Bool) : En → Res Bool := fun Γ => (t Γ).bind fun b => if b = true then u Γ else .ok false
def bOr (t u : En → Res Bool) : En → Res Bool := fun Γ => (t Γ).bind fun b => if b = true then .ok true else u Γ
def bYes : En → Res Bool := fun _ => .ok true
def eChain (g g' : D → D → Option Giv) (a b c : MD) : MD := fun Γ => (a Γ).bind fun x => (b Γ).bind fun y => (toR (g x y)).bind fun z => (asB z).bind fun k => if k = true then (c Γ).bind fun w => toR (g' y w) else .ok (.bl false)
def eCall (M : List D → Res Slot) (ms : ML) : MD := fun Γ => (ms Γ).bind fun ds => (M ds).bind slotD
def fCall (M : List D → Res Slot) (ms : ML) : ML := fun Γ => (ms Γ).bind fun ds => (M ds).bind slotF
def eCall0 (M : List D → Res Slot) : MD := fun _ => (M []).bind slotD
def iLst (m : MD) : ML := fun Γ => (m Γ).bind asL
def iTupl (m : MD) : ML := fun Γ => (m Γ).bind asT
def iR1 (ms : ML) : ML := fun Γ => (ms Γ).bind rng1
def iR2 (ms : ML) : ML := fun Γ => (ms Γ).bind rng2
def iR3 (ms : ML) : ML := fun Γ => (ms Γ).bind rng3
def iEnumr (m : MD) : ML := fun Γ => (m Γ).bind fun d => (asL d).bind fun xs => .ok (enumD 0 xs)
def iRevr (m : MD) : ML := fun Γ => (m Γ).bind fun d => (asL d).bind fun xs => .ok xs.reverse
def sNx : En → Out := fun Γ => .nx Γ
def sRetN : En → Out := fun _ => .rt (.sh .non)
def sFrz (i : Nat) (m : En → Out) : En → Out := fun Γ => m (frz i Γ)
/-- an expression alone -/
def mExpr (m : MD) (Γ : En) : Out := mTo (m Γ) Γ fun _ => .nx Γ
/-- isinstance(e, c) of the caught error e, whose class is x -/
def mErrIsi (i : Nat) (x : String) (b : Bool) (Γ : En) : Res D := match Γ[i]? with
  | some (.er y _) => if y = x then .ok (.bl b) else .stuck
  | _ => .stuck
section
variable {X : Cx} {et : ET} {ce : Caught} {W : WX} {st : Stmt} {e tg e' : Expr} {m : MD} {mt : En → Res Bool} {mi : ML} {mg : D → En → Option En} {vs : List Nat} {g : TG}
theorem ds_expr (hp : ∀ t, PE X e t → PS X st (tDrop t)) (h : DE X et ce W e m) : DS X et ce W st (mExpr m) := by
  obtain ⟨t, p, ge⟩ := h
  refine ⟨_, hp _ p, fun Hs H0s σ H H0 Γ E c q => ge _ _ _ _ _ _ _ c ?_⟩
  exact PostS.to c q fun d v H' G _ s r q => q _ _ G (c.step s) s.small
theorem d_errIsi {a b : Expr} {i : Nat} {x : String} {C p : Addr} {fld : Str} {cls : Value} {dd : Option Addr} {cv : V} {u : Value} {k : Bool} (hx : et x = some (C, fld))
    (hp : ∀ t, PA X [a, b] t → PE X e (tCB (rErrIs X.K C p cls dd) t)) (ha : PE X a (tVar i)) (hb : PE X b (tC cv)) (hc : ClsV cv u) (hk : PySem.W.kitOne X.K (.ref C) u = some k)
    (hst : starEach (a :: [b]) X.env = (false, eval a X.env) :: starEach [b] X.env := by rfl) (hst2 : starEach (b :: []) X.env = (false, eval b X.env) :: starEach [] X.env := by rfl) :
    DE X et (some (p, cls, dd)) W e (mErrIsi i x k) := by
  refine ⟨_, hp _ (pa_cons ha (pa_cons hb pa_nil hst2) hst), fun Hs H0s σ H H0 Γ Q c q => ?_⟩
  unfold mErrIsi at q
  split at q
  · rename_i y d e
    split at q
    · rename_i hy
      subst hy
      have z := c.at_ i _ e
      match hv : σ[i]?, z with
      | some (some v), ⟨a', C', fld', d', w, e1, e2, e3, e4, r⟩ =>
        rw [hx] at e2
        cases e2
        cases e1
        subst e3
        exact ⟨_, hv, cv, u, k, d', w, fld, rfl, rfl, rfl, c.sub _ _ e4, hc, hk, q _ H H0 (Step.refl c.sub) (.bl _)⟩
    · exact q.elim
  · exact q.elim
theorem d_comp (hp : ∀ wi, PI X tg e wi → PE X e' (tLc wi g (tEM X.K et ce W0 RB mt) (tEM X.K et ce W0 (RD X.K) m) vs)) (hi : DI X et ce W tg e mi) (hg : GoodG X.K et ce vs g mg) : DF X et ce W e' (mComp vs mi mg mt m) := by
  obtain ⟨t, p, gi⟩ := hi
  exact ⟨_, hp t p, good_comp gi hg⟩
theorem ds_setLcF {i : Nat} (hp : ∀ wi, PI X tg e wi → PS X st (tAsg (tLc wi g (tEM X.K et ce W0 RB mt) (tEM X.K et ce W0 (RD X.K) m) vs) (gName i))) (hi : DI X et ce W tg e mi) (hg : GoodG X.K et ce vs g mg) : DS X et ce W st (mSetF i (mComp vs mi mg mt m)) := by
  obtain ⟨t, p, gi⟩ := hi
  refine ⟨_, hp t p, fun Hs H0s σ H H0 Γ E c q => good_comp gi hg _ _ _ _ _ _ _ c ?_⟩
  refine PostS.to c q fun xs v H' G _ s ⟨p, vs, ev, hn, hp', h0, r⟩ q => ?_
  subst ev
  exact q _ H' G (c.putNew s i hn ⟨p, vs, rfl, c.none_of hn, hp', h0, r⟩) s.small
theorem ds_setLc {i : Nat} (hp : ∀ wi, PI X tg e wi → PS X st (tAsg (tLc wi g (tEM X.K et ce W0 RB mt) (tEM X.K et ce W0 (RD X.K) m) vs) (gName i))) (hi : DI X et ce W tg e mi) (hg : GoodG X.K et ce vs g mg) : DS X et ce W st (mSet i (eAll (mComp vs mi mg mt m))) := by
  obtain ⟨t, p, gi⟩ := hi
  refine ⟨_, hp t p, fun Hs H0s σ H H0 Γ E c q => good_comp gi hg _ _ _ _ _ _ _ c ?_⟩
  have q : PostS X.K et ce W Hs H0s H0 E (mTo ((mComp vs mi mg mt m Γ).bind fun xs => .ok (.lst xs)) Γ fun d => .nx (Γ.set i (.sh d))) := q
  cases hc : mComp vs mi mg mt m Γ with
  | stuck => rw [hc] at q; exact q.elim
  | exc x d => rw [hc] at q; exact fun C fld dd w H' G e s hd r => q C fld dd w σ H' G e (c.step s) s.small hd r
  | ok xs =>
    rw [hc] at q
    have q : PostS X.K et ce W Hs H0s H0 E (.nx (Γ.set i (.sh (.lst xs)))) := q
    intro v H' G s hv
    obtain ⟨p, vs, ev, hn, hp', h0, r⟩ := hv
    have s2 := Step.share c.sub s hn hp' h0
    exact q _ H' _ ((c.step s2).put i (by subst ev; exact .lst upd_same (r.same (same_upd' (Same.refl _) h0)))) s2.small
end
end DL

/-! data instead of heaps: a law's end -/
namespace DL
open PySem L2 PySem.Spec PyProof.Rows GL

/-- a law's own promise -/
def sp_law (K : PySem.W.Frag) : Sp := fun vs H Q _ => ∃ (a : Addr) (ns : List Int), vs = [.ref a] ∧ SqL K H a (ns.map V.int) ∧ ns.length ≤ 63 ∧ ∀ H', Q (.bl true) H'
/-- what a law is to give -/
def LawTrue (M : List D → Res Slot) : Prop := ∀ ns : List Int, ns.length ≤ 63 → M [.scr ns] = .ok (.sh (.bl true))
theorem law_sp {P : Program} {w : World} {K : PySem.W.Frag} {mg : Str → Option Value} {base : Heap} {cx : CXT} {k : Nat} {f : Addr} {fd : FuncData} {ps : List Str} {et : ET} {M : List D → Res Slot}
    (h : LawTrue M) (F : FnG P w K mg base cx k f fd ps (spD K et 1 M)) : FnG P w K mg base cx k f fd ps (sp_law K) := by
  have up : ∀ vs H Q E, sp_law K vs H Q E → spD K et 1 M vs H Q E := by
    rintro vs H Q E ⟨a, ns, rfl, hS, hl, q⟩
    refine ⟨rfl, H, [.scr ns], Same.refl _, .cons (.scr hS) .nil, ?_⟩
    rw [h ns hl]
    intro v H' G s hv
    cases rep_bl (show Rep K G v (.bl true) from hv)
    exact q H'
  exact ⟨fun vs H Q E z => F.len vs H Q E (up _ _ _ _ z), fun qu hr e b r z => F.go qu hr e b r (up _ _ _ _ z)⟩
theorem walkD {l : PySem.W.OpenLaw} {q : Program} {loose : List Str} {XP : (Str → Option Value) → Heap → Prop} {YP : World → Heap → Prop} {d : DefRec} {K : Params → PySem.W.Frag} {k : Nat} {x : Str} (hn : l.most = some 63) (hdf : d.params.defaults = []) (hr : Room k callerA)
    (hY : ∀ (w : World) (h : Heap), YP w h → (K w.params).In h)
    (F : ∀ (w : World) (mg : Str → Option Value) (fa : Addr) (h : Heap), (K w.params).In h → h.Ns mainGlobals mg → mg d.name = some (.ref fa) →
      ∃ fd : FuncData, (∀ (s : Shared) (u : Value), BindsTo s fd ⟨[u], []⟩ [(x, u)]) ∧ ∀ base : Heap, (K w.params).In base → base.Ns mainGlobals mg → base.NoDigits → FnG l.prog w (K w.params) mg base (L2.CX l.prog w) k fa fd [x] (sp_law (K w.params))) :
    PySem.W.WalkO q loose XP YP l.row.toRowW d [] (fun f vs => PySem.call f vs) :=
  walkG (n := 63) (k := k) (x := x) (cx := fun w => L2.CX l.prog w) (sp := fun w => sp_law (K w.params)) hn (by decide) hdf hr hY F (fun _ _ a ns hl _ hS => ⟨a, ns, rfl, hS, hl, fun _ => rfl⟩)
    fun _ _ _ _ _ ⟨_, _, _, _, _, _, _, _, _, _, _, _, z⟩ => z
end DL

/-! rows by which simp runs what a def does to data -/
namespace DL
open PySem L2 PySem.Spec PyProof.Rows GL
section
variable {α β : Type}
@[simp] theorem bind_ok (a : α) (k : α → Res β) : (Res.ok a).bind k = k a := rfl
@[simp] theorem bind_exc (x : String) (d : D) (k : α → Res β) : (Res.exc x d).bind k = .exc x d := rfl
@[simp] theorem bind_stuck (k : α → Res β) : (Res.stuck).bind k = .stuck := rfl
@[simp] theorem mTo_ok (a : α) (Γ : En) (k : α → Out) : mTo (.ok a) Γ k = k a := rfl
@[simp] theorem mTo_exc (x : String) (d : D) (Γ : En) (k : α → Out) : mTo (.exc x d) Γ k = .exc x d Γ := rfl
@[simp] theorem mTo_stuck (Γ : En) (k : α → Out) : mTo .stuck Γ k = .stuck := rfl
@[simp] theorem getS_0 (d : D) (Γ : En) : getS (.sh d :: Γ) 0 = .ok d := rfl
@[simp] theorem getS_s (s : Slot) (Γ : En) (i : Nat) : getS (s :: Γ) (i + 1) = getS Γ i := by simp [getS]
@[simp] theorem getO_0 (d : D) (Γ : En) : getO (.sh d :: Γ) 0 = .ok d := rfl
@[simp] theorem getO_0o (xs : List D) (Γ : En) : getO (.own xs :: Γ) 0 = .ok (.lst xs) := rfl
@[simp] theorem getO_0d (ks : List Key) (xs : List D) (Γ : En) : getO (.ownD ks xs :: Γ) 0 = .ok (.dic ks xs) := rfl
@[simp] theorem getO_s (s : Slot) (Γ : En) (i : Nat) : getO (s :: Γ) (i + 1) = getO Γ i := by simp [getO]
@[simp] theorem toR_val (d : D) : toR (some (.val d)) = .ok d := rfl
@[simp] theorem toR_none : toR none = .stuck := rfl
@[simp] theorem toR_newL (ds : List D) : toR (some (.newL ds)) = .ok (.lst ds) := rfl
@[simp] theorem toR_newT (ds : List D) : toR (some (.newT ds)) = .ok (.tup ds) := rfl
@[simp] theorem toF_newL (ds : List D) : toF (some (.newL ds)) = .ok ds := rfl
@[simp] theorem asB_bl (b : Bool) : asB (.bl b) = .ok b := rfl
@[simp] theorem slotD_sh (d : D) : slotD (.sh d) = .ok d := rfl
@[simp] theorem slotD_own (d : List D) : slotD (.own d) = .ok (.lst d) := rfl
@[simp] theorem slotD_ownD (k : List Key) (d : List D) : slotD (.ownD k d) = .ok (.dic k d) := rfl
@[simp] theorem slotF_own (d : List D) : slotF (.own d) = .ok d := rfl
@[simp] theorem toB_ok (b : Bool) : toB (.ok (.bl b)) = .ok b := rfl
@[simp] theorem toB_exc (x : String) (d : D) : toB (.exc x d) = .exc x d := rfl
@[simp] theorem asL_lst (xs : List D) : asL (.lst xs) = .ok xs := rfl
@[simp] theorem asT_tup (xs : List D) : asT (.tup xs) = .ok xs := rfl
@[simp] theorem toI_int (i : Int) : toI (.int i) = .ok (some i) := rfl
@[simp] theorem noX_ok (a : α) : noX (Res.ok a) = .ok a := rfl
@[simp] theorem need_pos {c : Prop} [Decidable c] {r : Res α} (h : c) : need c r = r := if_pos h
@[simp] theorem giv_pos {c : Prop} [Decidable c] {d : D} (h : c) : giv c d = some (.val d) := if_pos h

end
/-! ### the short names -/
@[simp] theorem eVar_def (i : Nat) (Γ : En) : eVar i Γ = getS Γ i := rfl
@[simp] theorem eVarO_def (i : Nat) (Γ : En) : eVarO i Γ = getO Γ i := rfl
@[simp] theorem eC_def (d : D) (Γ : En) : eC d Γ = .ok d := rfl
@[simp] theorem eNil_def  (Γ : En) : eNil  Γ = .ok [] := rfl
@[simp] theorem eCons_def (m : MD) (ms : ML) (Γ : En) : eCons m ms Γ = (m Γ).bind fun d => (ms Γ).bind fun ds => .ok (d :: ds) := rfl
@[simp] theorem eTup_def (ms : ML) (Γ : En) : eTup ms Γ = (ms Γ).bind fun ds => need (ds.length ≤ 1000) (.ok (.tup ds)) := rfl
@[simp] theorem fLst_def (ms : ML) (Γ : En) : fLst ms Γ = (ms Γ).bind fun ds => need (ds.length ≤ 1000) (.ok ds) := rfl
@[simp] theorem eAll_def (m : ML) (Γ : En) : eAll m Γ = (m Γ).bind fun xs => .ok (.lst xs) := rfl
@[simp] theorem eAllD_def (m : En → Res (List Key × List D)) (Γ : En) : eAllD m Γ = (m Γ).bind fun xs => .ok (.dic xs.1 xs.2) := rfl
@[simp] theorem fDict0_def  (Γ : En) : fDict0  Γ = .ok ([], []) := rfl
@[simp] theorem eOp_def (g : D → D → Option Giv) (a b : MD) (Γ : En) : eOp g a b Γ = (a Γ).bind fun x => (b Γ).bind fun y => toR (g x y) := rfl
@[simp] theorem fOp_def (g : D → D → Option Giv) (a b : MD) (Γ : En) : fOp g a b Γ = (a Γ).bind fun x => (b Γ).bind fun y => toF (g x y) := rfl
@[simp] theorem eUn_def (g : D → Option Giv) (a : MD) (Γ : En) : eUn g a Γ = (a Γ).bind fun x => toR (g x) := rfl
@[simp] theorem bB_def (m : MD) (Γ : En) : bB m Γ = toB (m Γ) := rfl
@[simp] theorem bTruth_def (m : MD) (Γ : En) : bTruth m Γ = (m Γ).bind truth := rfl
@[simp] theorem pN_def  (Γ : En) : pN  Γ = .ok none := rfl
@[simp] theorem pS_def (m : MD) (Γ : En) : pS m Γ = (m Γ).bind toI := rfl
@[simp] theorem eSl_def (a : MD) (l h : En → Res (Option Int)) (Γ : En) : eSl a l h Γ = (a Γ).bind fun x => (l Γ).bind fun lo => (h Γ).bind fun hi => toR (gSl lo hi x) := rfl
@[simp] theorem fSl_def (a : MD) (l h : En → Res (Option Int)) (Γ : En) : fSl a l h Γ = (a Γ).bind fun x => (l Γ).bind fun lo => (h Γ).bind fun hi => toF (gSl lo hi x) := rfl
@[simp] theorem eNot_def (m : MD) (Γ : En) : eNot m Γ = (m Γ).bind fun d => (asB d).bind fun b => .ok (.bl (!b)) := rfl
@[simp] theorem eAnd_def (a b : MD) (Γ : En) : eAnd a b Γ = (a Γ).bind fun d => (asB d).bind fun k => if k = true then b Γ else .ok (.bl false) := rfl
@[simp] theorem eOr_def (a b : MD) (Γ : En) : eOr a b Γ = (a Γ).bind fun d => (asB d).bind fun k => if k = true then .ok (.bl true) else b Γ := rfl
@[simp] theorem eIf_def (t : En → Res Bool) (a b : MD) (Γ : En) : eIf t a b Γ = (t Γ).bind fun k => if k = true then a Γ else b Γ := rfl
@[simp] theorem bNot_def (t : En → Res Bool) (Γ : En) : bNot t Γ = (t Γ).bind fun b => .ok (!b) := rfl
@[simp] theorem bAnd_def (t u : En → Res Bool) (Γ : En) : bAnd t u Γ = (t Γ).bind fun b => if b = true then u Γ else .ok false := rfl
@[simp] theorem bOr_def (t u : En → Res Bool) (Γ : En) : bOr t u Γ = (t Γ).bind fun b => if b = true then .ok true else u Γ := rfl
@[simp] theorem bYes_def  (Γ : En) : bYes  Γ = .ok true := rfl
@[simp] theorem eChain_def (g g' : D → D → Option Giv) (a b c : MD) (Γ : En) : eChain g g' a b c Γ = (a Γ).bind fun x => (b Γ).bind fun y => (toR (g x y)).bind fun z => (asB z).bind fun k => if k = true then (c Γ).bind fun w => toR (g' y w) else .ok (.bl false) := rfl
@[simp] theorem eCall_def (M : List D → Res Slot) (ms : ML) (Γ : En) : eCall M ms Γ = (ms Γ).bind fun ds => (M ds).bind slotD := rfl
@[simp] theorem fCall_def (M : List D → Res Slot) (ms : ML) (Γ : En) : fCall M ms Γ = (ms Γ).bind fun ds => (M ds).bind slotF := rfl
@[simp] theorem eCall0_def (M : List D → Res Slot) (Γ : En) : eCall0 M Γ = (M []).bind slotD := rfl
@[simp] theorem iLst_def (m : MD) (Γ : En) : iLst m Γ = (m Γ).bind asL := rfl
@[simp] theorem iTupl_def (m : MD) (Γ : En) : iTupl m Γ = (m Γ).bind asT := rfl
@[simp] theorem iR1_def (ms : ML) (Γ : En) : iR1 ms Γ = (ms Γ).bind rng1 := rfl
@[simp] theorem iR2_def (ms : ML) (Γ : En) : iR2 ms Γ = (ms Γ).bind rng2 := rfl
@[simp] theorem iR3_def (ms : ML) (Γ : En) : iR3 ms Γ = (ms Γ).bind rng3 := rfl
@[simp] theorem iEnumr_def (m : MD) (Γ : En) : iEnumr m Γ = (m Γ).bind fun d => (asL d).bind fun xs => .ok (enumD 0 xs) := rfl
@[simp] theorem iRevr_def (m : MD) (Γ : En) : iRevr m Γ = (m Γ).bind fun d => (asL d).bind fun xs => .ok xs.reverse := rfl
@[simp] theorem sNx_def  (Γ : En) : sNx  Γ = .nx Γ := rfl
@[simp] theorem sRetN_def  (Γ : En) : sRetN  Γ = .rt (.sh .non) := rfl
@[simp] theorem sFrz_def (i : Nat) (m : En → Out) (Γ : En) : sFrz i m Γ = m (frz i Γ) := rfl
/-! ### statements -/
def Out.then : Out → (En → Out) → Out
  | .nx Γ, k => k Γ
  | o, _ => o
@[simp] theorem then_nx (Γ : En) (k : En → Out) : (Out.nx Γ).then k = k Γ := rfl
@[simp] theorem then_rt (s : Slot) (k : En → Out) : (Out.rt s).then k = .rt s := rfl
@[simp] theorem then_exc (x : String) (d : D) (Γ : En) (k : En → Out) : (Out.exc x d Γ).then k = .exc x d Γ := rfl
@[simp] theorem then_bk (Γ : En) (k : En → Out) : (Out.bk Γ).then k = .bk Γ := rfl
@[simp] theorem then_ct (Γ : En) (k : En → Out) : (Out.ct Γ).then k = .ct Γ := rfl
@[simp] theorem seq_eq (a b : En → Out) (Γ : En) : mSeq a b Γ = (a Γ).then b := by
  unfold mSeq Out.then
  cases a Γ <;> rfl
@[simp] theorem set_eq (i : Nat) (m : MD) (Γ : En) : mSet i m Γ = mTo (m Γ) Γ fun d => .nx (Γ.set i (.sh d)) := rfl
@[simp] theorem setF_eq (i : Nat) (m : ML) (Γ : En) : mSetF i m Γ = mTo (m Γ) Γ fun d => .nx (Γ.set i (.own d)) := rfl
@[simp] theorem ret_eq (m : MD) (Γ : En) : mRet m Γ = mTo (m Γ) Γ fun d => .rt (.sh d) := rfl
@[simp] theorem retF_eq (m : ML) (Γ : En) : mRetF m Γ = mTo (m Γ) Γ fun d => .rt (.own d) := rfl
@[simp] theorem expr_eq (m : MD) (Γ : En) : mExpr m Γ = mTo (m Γ) Γ fun _ => .nx Γ := rfl
@[simp] theorem raise_eq (x : String) (m : MD) (Γ : En) : mRaise x m Γ = mTo (m Γ) Γ fun d => .exc x d Γ := rfl
@[simp] theorem if_eq (t : En → Res Bool) (a b : En → Out) (Γ : En) : mIf t a b Γ = mTo (t Γ) Γ fun k => if k = true then a Γ else b Γ := rfl
@[simp] theorem asg_eq (g : D → En → Option En) (m : MD) (Γ : En) : mAsg g m Γ = mTo (m Γ) Γ fun d => (match g d Γ with | some Γ' => .nx Γ' | none => .stuck) := rfl
@[simp] theorem aug_eq (i : Nat) (g : D → D → Option Giv) (m : MD) (Γ : En) : mAug i g m Γ = mTo (getS Γ i) Γ fun x => mTo (m Γ) Γ fun y => mTo (toR (g x y)) Γ fun d => .nx (Γ.set i (.sh d)) := rfl
@[simp] theorem par_eq (i j : Nat) (x y : MD) (Γ : En) : mPar i j (eCons x (eCons y eNil)) Γ = mTo (x Γ) Γ fun a => mTo (y Γ) Γ fun b => .nx ((Γ.set i (.sh a)).set j (.sh b)) := by
  show mTo ((x Γ).bind fun d => ((y Γ).bind fun d2 => Res.ok [d2]).bind fun ds => .ok (d :: ds)) Γ _ = _
  cases x Γ <;> cases y Γ <;> rfl
/-- a slot that holds a list alone -/
def ownAt (Γ : En) (i : Nat) : Option (List D) := match Γ[i]? with
  | some (.own xs) => some xs
  | _ => none
@[simp] theorem ownAt_0 (xs : List D) (Γ : En) : ownAt (.own xs :: Γ) 0 = some xs := rfl
@[simp] theorem ownAt_s (s : Slot) (Γ : En) (i : Nat) : ownAt (s :: Γ) (i + 1) = ownAt Γ i := by simp [ownAt]
@[simp] theorem app_eq (i : Nat) (m : MD) (Γ : En) : mApp i m Γ = (match ownAt Γ i with | some xs => mTo (m Γ) Γ fun d => if xs.length < 1000000 then .nx (Γ.set i (.own (xs ++ [d]))) else .stuck | none => .stuck) := by
  unfold mApp ownAt
  split <;> rename_i h <;> simp [h]
@[simp] theorem retO_eq (i : Nat) (Γ : En) (xs : List D) (h : ownAt Γ i = some xs) : mRetO i Γ = .rt (.own xs) := by
  unfold ownAt at h
  unfold mRetO
  split at h <;> rename_i h2
  · cases h; rw [h2]
  · cases h
@[simp] theorem for_eq (mi : ML) (g : D → En → Option En) (b : En → Out) (Γ : En) : mFor mi g b Γ = mTo (mi Γ) Γ fun xs => forM g b xs Γ := rfl
@[simp] theorem bName_eq (i : Nat) (d : D) (Γ : En) : bName i d Γ = some (Γ.set i (.sh d)) := rfl
@[simp] theorem bOfTup_eq (fs : List (D → En → Option En)) (xs : List D) (Γ : En) : bOfTup fs (.tup xs) Γ = bTup fs xs Γ := rfl
@[simp] theorem bTup_nil (Γ : En) : bTup [] [] Γ = some Γ := rfl
@[simp] theorem bTup_cons (f : D → En → Option En) (fs : List (D → En → Option En)) (d : D) (ds : List D) (Γ : En) : bTup (f :: fs) (d :: ds) Γ = (f d Γ).bind fun Γ' => bTup fs ds Γ' := rfl
theorem forM_nil (g : D → En → Option En) (b : En → Out) (Γ : En) : forM g b [] Γ = .nx Γ := rfl
/-- behind a turn -/
def Out.turn : Out → (En → Out) → Out
  | .nx Γ, k => k Γ
  | .ct Γ, k => k Γ
  | .bk Γ, _ => .nx Γ
  | o, _ => o
@[simp] theorem turn_nx (Γ : En) (k : En → Out) : (Out.nx Γ).turn k = k Γ := rfl
@[simp] theorem turn_ct (Γ : En) (k : En → Out) : (Out.ct Γ).turn k = k Γ := rfl
@[simp] theorem turn_bk (Γ : En) (k : En → Out) : (Out.bk Γ).turn k = .nx Γ := rfl
@[simp] theorem turn_rt (s : Slot) (k : En → Out) : (Out.rt s).turn k = .rt s := rfl
@[simp] theorem turn_exc (x : String) (d : D) (Γ : En) (k : En → Out) : (Out.exc x d Γ).turn k = .exc x d Γ := rfl
theorem forM_cons (g : D → En → Option En) (b : En → Out) (x : D) (r : List D) (Γ Γ1 : En) (h : g x Γ = some Γ1) : forM g b (x :: r) Γ = (b Γ1).turn (forM g b r) := by
  rw [forM, h]
  dsimp only
  generalize b Γ1 = o
  cases o <;> rfl
theorem whileM_succ (t : En → Res Bool) (b : En → Out) (n : Nat) (Γ : En) : whileM t b (n + 1) Γ = mTo (t Γ) Γ fun k => if k = true then (b Γ).turn (whileM t b n) else .nx Γ := by
  rw [whileM]
  congr 1
  funext k
  cases k
  · rfl
  · rw [if_pos rfl, if_pos rfl]
    generalize b Γ = o
    cases o <;> rfl
theorem body_rt {N : Nat} {mb : En → Out} {ds : List D} {s : Slot} (h : mb (startD N ds) = .rt s) : mBody N mb ds = .ok s := by unfold mBody; rw [h]
theorem body_exc {N : Nat} {mb : En → Out} {ds : List D} {x : String} {d : D} {Γ : En} (h : mb (startD N ds) = .exc x d Γ) : mBody N mb ds = .exc x d := by unfold mBody; rw [h]
theorem body_nx {N : Nat} {mb : En → Out} {ds : List D} {Γ : En} (h : mb (startD N ds) = .nx Γ) : mBody N mb ds = .ok (.sh .non) := by unfold mBody; rw [h]
/-- a body's answer -/
def Out.res : Out → Res Slot
  | .nx _ => .ok (.sh .non)
  | .rt s => .ok s
  | .exc x d _ => .exc x d
  | _ => .stuck
@[simp] theorem res_nx (Γ : En) : (Out.nx Γ).res = .ok (.sh .non) := rfl
@[simp] theorem res_rt (s : Slot) : (Out.rt s).res = .ok s := rfl
@[simp] theorem res_exc (x : String) (d : D) (Γ : En) : (Out.exc x d Γ).res = .exc x d := rfl
theorem body_eq (N : Nat) (mb : En → Out) (ds : List D) : mBody N mb ds = (mb (startD N ds)).res := by
  unfold mBody Out.res
  cases mb (startD N ds) <;> rfl
/-! ### numbers -/
section
variable (i j : Int)
@[simp] theorem gSub_int : gSub (.int i) (.int j) = some (.val (.int (i - j))) := rfl
@[simp] theorem gAdd_int : gAdd (.int i) (.int j) = some (.val (.int (i + j))) := rfl
@[simp] theorem gAddI_int : gAddI (.int i) (.int j) = some (.val (.int (i + j))) := rfl
theorem gMul_int : gMul (.int i) (.int j) = giv (i.natAbs.log2 + j.natAbs.log2 < 1000000) (.int (i * j)) := rfl
theorem gMulI_int : gMulI (.int i) (.int j) = giv (i.natAbs.log2 + j.natAbs.log2 < 1000000) (.int (i * j)) := rfl
theorem gDiv_int : gDiv (.int i) (.int j) = giv (0 < j ∧ (j.natAbs.log2 < 9000 ∨ i.natAbs < 2 ^ 4400)) (.int (i / j)) := rfl
@[simp] theorem gMod_int : gMod (.int i) (.int j) = giv (0 < j) (.int (i % j)) := rfl
theorem gPow_int : gPow (.int i) (.int j) = giv (0 ≤ j ∧ (Builtin.Int.intBits i : Int) * j ≤ 2 ^ 27) (.int (i ^ j.toNat)) := rfl
@[simp] theorem gShr_int : gShr (.int i) (.int j) = giv (0 ≤ j) (.int (i / 2 ^ j.toNat)) := rfl
@[simp] theorem gAnd_int : gAnd (.int i) (.int j) = some (.val (.int (Builtin.bitAnd i j))) := rfl
@[simp] theorem gLt_int : gLt (.int i) (.int j) = some (.val (.bl (decide (i < j)))) := rfl
@[simp] theorem gLe_int : gLe (.int i) (.int j) = some (.val (.bl (decide (i ≤ j)))) := rfl
@[simp] theorem gGt_int : gGt (.int i) (.int j) = some (.val (.bl (decide (j < i)))) := rfl
@[simp] theorem gGe_int : gGe (.int i) (.int j) = some (.val (.bl (decide (j ≤ i)))) := rfl
@[simp] theorem gNeg_int : gNeg (.int i) = some (.val (.int (-i))) := rfl
@[simp] theorem gAbs_int : gAbs (.int i) = some (.val (.int (if i < 0 then -i else i))) := rfl
@[simp] theorem gMax_int : gMax (.int i) (.int j) = some (.val (.int (if j > i then j else i))) := rfl
@[simp] theorem gMin_int : gMin (.int i) (.int j) = some (.val (.int (if j < i then j else i))) := rfl
@[simp] theorem gInt_int : gInt (.int i) = some (.val (.int i)) := rfl
@[simp] theorem gBits_int : gBits (.int i) = some (.val (.int (Builtin.Int.intBits i : Nat))) := rfl
theorem mul_ok {i j : Int} {a b : Nat} (ha : i.natAbs < 2 ^ a) (hb : j.natAbs < 2 ^ b) (h0 : 0 < a) (h1 : 0 < b) (h : a + b ≤ 1000000) : gMul (.int i) (.int j) = some (.val (.int (i * j))) := giv_pos (wide_mul ha hb h0 h1 h)
theorem mulI_ok {i j : Int} {a b : Nat} (ha : i.natAbs < 2 ^ a) (hb : j.natAbs < 2 ^ b) (h0 : 0 < a) (h1 : 0 < b) (h : a + b ≤ 1000000) : gMulI (.int i) (.int j) = some (.val (.int (i * j))) := giv_pos (wide_mul ha hb h0 h1 h)
theorem div_ok {i j : Int} {a : Nat} (h : 0 < j) (ha : j.natAbs < 2 ^ a) (h0 : 0 < a) (h9 : a ≤ 9000) : gDiv (.int i) (.int j) = some (.val (.int (i / j))) := giv_pos ⟨h, .inl (Nat.lt_of_lt_of_le (PySem.Flt.log2_lt_of h0 ha) h9)⟩
end
theorem int_eqOk (i : Int) : eqOk (.int i) = true := by unfold eqOk plain py; rfl
@[simp] theorem gEq_int (i j : Int) : gEq (.int i) (.int j) = some (.val (.bl (i == j))) := by
  show gEqD (.int i) (.int j) = _
  unfold gEqD
  rw [giv_pos ⟨int_eqOk i, int_eqOk j⟩]
  unfold py
  simp [PyData.eqv]
@[simp] theorem gNe_int (i j : Int) : gNe (.int i) (.int j) = some (.val (.bl (!(i == j)))) := by
  show gNeD (.int i) (.int j) = _
  unfold gNeD
  rw [giv_pos ⟨int_eqOk i, int_eqOk j⟩]
  unfold py
  simp [PyData.eqv]
@[simp] theorem gEq_str (x y : Str) : gEq (.str x) (.str y) = some (.val (.bl (x == y))) := rfl
@[simp] theorem gNe_str (x y : Str) : gNe (.str x) (.str y) = some (.val (.bl (!(x == y)))) := rfl
@[simp] theorem gLen_lst (xs : List D) : gLen (.lst xs) = some (.val (.int xs.length)) := rfl
@[simp] theorem gLen_tup (xs : List D) : gLen (.tup xs) = some (.val (.int xs.length)) := rfl
@[simp] theorem gLen_scr (xs : List Int) : gLen (.scr xs) = some (.val (.int xs.length)) := rfl
@[simp] theorem truth_int (i : Int) : truth (.int i) = .ok (i != 0) := rfl
@[simp] theorem truth_bl (b : Bool) : truth (.bl b) = .ok b := rfl
@[simp] theorem truth_lst (xs : List D) : truth (.lst xs) = .ok (!xs.isEmpty) := rfl
theorem gIx_lst (xs : List D) (i : Int) : gIx (.lst xs) (.int i) = (atI xs i).map .val := rfl
theorem gIx_tup (xs : List D) (i : Int) : gIx (.tup xs) (.int i) = (atI xs i).map .val := rfl
theorem atI_nn {α : Type} {xs : List α} {i : Int} {a : α} (h0 : 0 ≤ i) (h : xs[i.toNat]? = some a) : atI xs i = some a := by
  have : ((i.toNat : Nat) : Int) = i := Int.toNat_of_nonneg h0
  rw [← this]
  exact atI_nat h
@[simp] theorem rng1_int (n : Int) : rng1 [.int n] = need (-1000000 ≤ n ∧ n ≤ 1000000) (.ok (rangeD 0 n.toNat)) := rfl
@[simp] theorem rng2_int (i j : Int) : rng2 [.int i, .int j] = need (-1000000 ≤ i ∧ i ≤ 1000000 ∧ -1000000 ≤ j ∧ j ≤ 1000000) (.ok (rangeD i (j - i).toNat)) := rfl
@[simp] theorem rng3_int (i j c : Int) : rng3 [.int i, .int j, .int c] = need (c = -1 ∧ -1000000 ≤ i ∧ i ≤ 1000000 ∧ -1000000 ≤ j ∧ j ≤ 1000000) (.ok (downD i (i - j).toNat)) := rfl
@[simp] theorem startD_eq (N : Nat) (ds : List D) : startD N ds = ds.map Slot.sh ++ List.replicate (N - ds.length) .un := rfl
@[simp] theorem noObj_non  : noObj D.non = true := rfl
@[simp] theorem isi_int_non  : isi .int D.non = false := rfl
@[simp] theorem isi_bool_non  : isi .bool D.non = false := rfl
@[simp] theorem isi_str_non  : isi .str D.non = false := rfl
@[simp] theorem isi_tuple_non  : isi .tuple D.non = false := rfl
@[simp] theorem isi_list_non  : isi .list D.non = false := rfl
@[simp] theorem noObj_bl (b : Bool) : noObj (D.bl b) = true := rfl
@[simp] theorem isi_int_bl (b : Bool) : isi .int (D.bl b) = true := rfl
@[simp] theorem isi_bool_bl (b : Bool) : isi .bool (D.bl b) = true := rfl
@[simp] theorem isi_str_bl (b : Bool) : isi .str (D.bl b) = false := rfl
@[simp] theorem isi_tuple_bl (b : Bool) : isi .tuple (D.bl b) = false := rfl
@[simp] theorem isi_list_bl (b : Bool) : isi .list (D.bl b) = false := rfl
@[simp] theorem noObj_int (i : Int) : noObj (D.int i) = true := rfl
@[simp] theorem isi_int_int (i : Int) : isi .int (D.int i) = true := rfl
@[simp] theorem isi_bool_int (i : Int) : isi .bool (D.int i) = false := rfl
@[simp] theorem isi_str_int (i : Int) : isi .str (D.int i) = false := rfl
@[simp] theorem isi_tuple_int (i : Int) : isi .tuple (D.int i) = false := rfl
@[simp] theorem isi_list_int (i : Int) : isi .list (D.int i) = false := rfl
@[simp] theorem noObj_str (x : Str) : noObj (D.str x) = true := rfl
@[simp] theorem isi_int_str (x : Str) : isi .int (D.str x) = false := rfl
@[simp] theorem isi_bool_str (x : Str) : isi .bool (D.str x) = false := rfl
@[simp] theorem isi_str_str (x : Str) : isi .str (D.str x) = true := rfl
@[simp] theorem isi_tuple_str (x : Str) : isi .tuple (D.str x) = false := rfl
@[simp] theorem isi_list_str (x : Str) : isi .list (D.str x) = false := rfl
@[simp] theorem noObj_tup (xs : List D) : noObj (D.tup xs) = true := rfl
@[simp] theorem isi_int_tup (xs : List D) : isi .int (D.tup xs) = false := rfl
@[simp] theorem isi_bool_tup (xs : List D) : isi .bool (D.tup xs) = false := rfl
@[simp] theorem isi_str_tup (xs : List D) : isi .str (D.tup xs) = false := rfl
@[simp] theorem isi_tuple_tup (xs : List D) : isi .tuple (D.tup xs) = true := rfl
@[simp] theorem isi_list_tup (xs : List D) : isi .list (D.tup xs) = false := rfl
@[simp] theorem noObj_lst (xs : List D) : noObj (D.lst xs) = true := rfl
@[simp] theorem isi_int_lst (xs : List D) : isi .int (D.lst xs) = false := rfl
@[simp] theorem isi_bool_lst (xs : List D) : isi .bool (D.lst xs) = false := rfl
@[simp] theorem isi_str_lst (xs : List D) : isi .str (D.lst xs) = false := rfl
@[simp] theorem isi_tuple_lst (xs : List D) : isi .tuple (D.lst xs) = false := rfl
@[simp] theorem isi_list_lst (xs : List D) : isi .list (D.lst xs) = true := rfl
@[simp] theorem noObj_scr (ns : List Int) : noObj (D.scr ns) = true := rfl
@[simp] theorem isi_int_scr (ns : List Int) : isi .int (D.scr ns) = false := rfl
@[simp] theorem isi_bool_scr (ns : List Int) : isi .bool (D.scr ns) = false := rfl
@[simp] theorem isi_str_scr (ns : List Int) : isi .str (D.scr ns) = false := rfl
@[simp] theorem isi_tuple_scr (ns : List Int) : isi .tuple (D.scr ns) = false := rfl
@[simp] theorem isi_list_scr (ns : List Int) : isi .list (D.scr ns) = true := rfl
@[simp] theorem noObj_dic (ks : List Key) (xs : List D) : noObj (D.dic ks xs) = true := rfl
@[simp] theorem isi_int_dic (ks : List Key) (xs : List D) : isi .int (D.dic ks xs) = false := rfl
@[simp] theorem isi_bool_dic (ks : List Key) (xs : List D) : isi .bool (D.dic ks xs) = false := rfl
@[simp] theorem isi_str_dic (ks : List Key) (xs : List D) : isi .str (D.dic ks xs) = false := rfl
@[simp] theorem isi_tuple_dic (ks : List Key) (xs : List D) : isi .tuple (D.dic ks xs) = false := rfl
@[simp] theorem isi_list_dic (ks : List Key) (xs : List D) : isi .list (D.dic ks xs) = false := rfl
@[simp] theorem gIsi_int_non  : gIsi .int D.non = some (.val (.bl false)) := rfl
@[simp] theorem gIsi_bool_non  : gIsi .bool D.non = some (.val (.bl false)) := rfl
@[simp] theorem gIsi_str_non  : gIsi .str D.non = some (.val (.bl false)) := rfl
@[simp] theorem gIsi_tuple_non  : gIsi .tuple D.non = some (.val (.bl false)) := rfl
@[simp] theorem gIsi_list_non  : gIsi .list D.non = some (.val (.bl false)) := rfl
@[simp] theorem gIsi_int_bl (b : Bool) : gIsi .int (D.bl b) = some (.val (.bl true)) := rfl
@[simp] theorem gIsi_bool_bl (b : Bool) : gIsi .bool (D.bl b) = some (.val (.bl true)) := rfl
@[simp] theorem gIsi_str_bl (b : Bool) : gIsi .str (D.bl b) = some (.val (.bl false)) := rfl
@[simp] theorem gIsi_tuple_bl (b : Bool) : gIsi .tuple (D.bl b) = some (.val (.bl false)) := rfl
@[simp] theorem gIsi_list_bl (b : Bool) : gIsi .list (D.bl b) = some (.val (.bl false)) := rfl
@[simp] theorem gIsi_int_int (i : Int) : gIsi .int (D.int i) = some (.val (.bl true)) := rfl
@[simp] theorem gIsi_bool_int (i : Int) : gIsi .bool (D.int i) = some (.val (.bl false)) := rfl
@[simp] theorem gIsi_str_int (i : Int) : gIsi .str (D.int i) = some (.val (.bl false)) := rfl
@[simp] theorem gIsi_tuple_int (i : Int) : gIsi .tuple (D.int i) = some (.val (.bl false)) := rfl
@[simp] theorem gIsi_list_int (i : Int) : gIsi .list (D.int i) = some (.val (.bl false)) := rfl
@[simp] theorem gIsi_int_str (x : Str) : gIsi .int (D.str x) = some (.val (.bl false)) := rfl
@[simp] theorem gIsi_bool_str (x : Str) : gIsi .bool (D.str x) = some (.val (.bl false)) := rfl
@[simp] theorem gIsi_str_str (x : Str) : gIsi .str (D.str x) = some (.val (.bl true)) := rfl
@[simp] theorem gIsi_tuple_str (x : Str) : gIsi .tuple (D.str x) = some (.val (.bl false)) := rfl
@[simp] theorem gIsi_list_str (x : Str) : gIsi .list (D.str x) = some (.val (.bl false)) := rfl
@[simp] theorem gIsi_int_tup (xs : List D) : gIsi .int (D.tup xs) = some (.val (.bl false)) := rfl
@[simp] theorem gIsi_bool_tup (xs : List D) : gIsi .bool (D.tup xs) = some (.val (.bl false)) := rfl
@[simp] theorem gIsi_str_tup (xs : List D) : gIsi .str (D.tup xs) = some (.val (.bl false)) := rfl
@[simp] theorem gIsi_tuple_tup (xs : List D) : gIsi .tuple (D.tup xs) = some (.val (.bl true)) := rfl
@[simp] theorem gIsi_list_tup (xs : List D) : gIsi .list (D.tup xs) = some (.val (.bl false)) := rfl
@[simp] theorem gIsi_int_lst (xs : List D) : gIsi .int (D.lst xs) = some (.val (.bl false)) := rfl
@[simp] theorem gIsi_bool_lst (xs : List D) : gIsi .bool (D.lst xs) = some (.val (.bl false)) := rfl
@[simp] theorem gIsi_str_lst (xs : List D) : gIsi .str (D.lst xs) = some (.val (.bl false)) := rfl
@[simp] theorem gIsi_tuple_lst (xs : List D) : gIsi .tuple (D.lst xs) = some (.val (.bl false)) := rfl
@[simp] theorem gIsi_list_lst (xs : List D) : gIsi .list (D.lst xs) = some (.val (.bl true)) := rfl
@[simp] theorem gIsi_int_scr (ns : List Int) : gIsi .int (D.scr ns) = some (.val (.bl false)) := rfl
@[simp] theorem gIsi_bool_scr (ns : List Int) : gIsi .bool (D.scr ns) = some (.val (.bl false)) := rfl
@[simp] theorem gIsi_str_scr (ns : List Int) : gIsi .str (D.scr ns) = some (.val (.bl false)) := rfl
@[simp] theorem gIsi_tuple_scr (ns : List Int) : gIsi .tuple (D.scr ns) = some (.val (.bl false)) := rfl
@[simp] theorem gIsi_list_scr (ns : List Int) : gIsi .list (D.scr ns) = some (.val (.bl true)) := rfl
@[simp] theorem gIsi_int_dic (ks : List Key) (xs : List D) : gIsi .int (D.dic ks xs) = some (.val (.bl false)) := rfl
@[simp] theorem gIsi_bool_dic (ks : List Key) (xs : List D) : gIsi .bool (D.dic ks xs) = some (.val (.bl false)) := rfl
@[simp] theorem gIsi_str_dic (ks : List Key) (xs : List D) : gIsi .str (D.dic ks xs) = some (.val (.bl false)) := rfl
@[simp] theorem gIsi_tuple_dic (ks : List Key) (xs : List D) : gIsi .tuple (D.dic ks xs) = some (.val (.bl false)) := rfl
@[simp] theorem gIsi_list_dic (ks : List Key) (xs : List D) : gIsi .list (D.dic ks xs) = some (.val (.bl false)) := rfl
theorem gIsi_eq (T : Ty) (d : D) (h : noObj d = true) : gIsi T d = some (.val (.bl (isi T d))) := giv_pos h
/-! ### repr -/
/-- data that repr shows within the line -/
def Shown (d : D) : Prop := shows d = true ∧ (pyR d).showable = true ∧ (pyR d).depth ≤ 60 ∧ (pyR d).shown.length ≤ sizeLine
theorem gRepr_of {d : D} (h : Shown d) : gRepr d = some (.val (.str (pyR d).shown)) := giv_pos h
theorem shown_bl (b : Bool) : Shown (.bl b) := by
  refine ⟨rfl, rfl, Nat.zero_le _, ?_⟩
  cases b <;> (show _ ≤ sizeLine; rw [sizeLine_eq]; decide +kernel)
theorem shown_int {i : Int} (h : i.natAbs < 2 ^ 1900) : Shown (.int i) := by
  have s := Sw.int h
  exact ⟨rfl, s.sh, Nat.le_trans s.dp (Nat.zero_le _), s.len (by decide)⟩
theorem swAll_ints : ∀ {xs : List Int}, (∀ i ∈ xs, i.natAbs < 2 ^ 1900) → SwAll (xs.map PyData.int) 0 xs.length
  | [], _ => .nil
  | x :: r, h => by
    have s := SwAll.cons (Sw.int (h x List.mem_cons_self)) (swAll_ints fun i hi => h i (List.mem_cons_of_mem _ hi))
    have e : 0 + 1 + r.length = (x :: r).length := by simp only [List.length_cons]; omega
    rw [e] at s
    exact s
theorem plain_ints : ∀ xs : List Int, plainAll (xs.map .int) = true
  | [] => rfl
  | _ :: r => plain_ints r
theorem pyS_ints (xs : List Int) : (xs.map D.int).map pyS = xs.map PyData.int := by
  rw [List.map_map]
  rfl
theorem pyR_ints (xs : List Int) : pyR (.tup (xs.map .int)) = .tuple (xs.map .int) := by
  show PyData.tuple ((xs.map D.int).map pyS) = _
  rw [pyS_ints]
theorem shown_ints {xs : List Int} (h : ∀ i ∈ xs, i.natAbs < 2 ^ 1900) (hl : xs.length ≤ 4000) : Shown (.tup (xs.map .int)) := by
  have s := Sw.tuple (swAll_ints h)
  unfold Shown
  rw [pyR_ints]
  refine ⟨?_, s.sh, Nat.le_trans s.dp (by decide), s.len (by omega)⟩
  show (plainAll (xs.map .int) || _) = true
  rw [plain_ints]; rfl
end DL

/-! repr of long integers -/
namespace DL
open PySem L2 PySem.Spec PyProof.Rows GL
def gReprW : D → Option Giv
  | .int i => giv (i.natAbs < 10 ^ 4300) (.str (pyR (.int i)).shown)
  | d => gRepr d
theorem reprW_int {prog : Program} {w : World} {A : Around} {E : Value → Shared → Prop} {s : Shared} {a : Int} {t : Tok} {Q : Value → Shared → Prop} (hh : A.handled = none) (hn : s.heap.NoDigits) (ha : a.natAbs < 10 ^ 4300)
    (h : Q (.str (toString a) s.toks) { s with toks := s.toks + 1 }) : wpAny (model prog w) A (call (.builtin "repr") [.int a t]) Q E s := by
  refine Calls.call_function_entry F.kind_repr F.plain_repr F.entry_repr (F.args_repr1 _) ?_
  have none : ([Value.int a t].any Value.onHeap) = false := rfl
  unfold Builtin.«repr»
  refine wpAny_bind (m := oneArg _ _) (wpAny_pure ?_)
  simp only [cRoomFor, none, Bool.false_eq_true, if_false, pure_bind]
  refine wpAny_bind (wpAny_specialOf (typeIs_int s a t) F.slot_int_repr.lookup ?_)
  refine wpAny_bind (m := callSpecialIfBound? _ _) (wpAny_callSpecialIfBound?_slot (typeIs_int s a t) F.slot_int_repr (call_int_repr_or hh hn (fun _ => ?_) fun hge => (Nat.not_le_of_lt ha hge).elim))
  exact wpAny_bind (wpAny_isInstance (b := true) rfl isSubtype_str_str (wpAny_pure ⟨_, rfl, h⟩))
section
variable {X : Cx}
theorem b_reprW {k : Nat} (quiet : Quiet X.A) (hr : Room k X.A) (hu : X.A.units + 64 < cLine) (nd : X.base.NoDigits) : CallR X (.builtin "repr") (rc1 (r1D X.K gReprW)) := by
  intro pins s σ H xs us Q I r h
  obtain ⟨v, ev, H0, d, sub, rd, q⟩ := h
  cases d with
  | int i =>
    subst ev
    obtain ⟨h1, q⟩ := asked_giv q
    obtain ⟨u, rfl, ru⟩ := vals1 r
    have e := rep_int rd
    subst e
    obtain ⟨t, rfl⟩ := ru
    have q := q _ (.str _)
    rw [show (pyR (.int i)).shown = Str.ofString (toString i) from PyData.shown_int i] at q
    exact reprW_int hr.hd (nd.keeps I.bk) h1 ⟨.str _, H, I.tok _, ⟨_, rfl⟩, q⟩
  | _ => exact b_repr quiet hu pins s σ H xs us Q I r ⟨v, ev, H0, _, sub, rd, q⟩
end
theorem reprW_of {i : Int} (h : i.natAbs < 10 ^ 4300) : gReprW (.int i) = some (.val (.str (pyR (.int i)).shown)) := giv_pos h
theorem reprW_eq {d : D} (h : ∀ i, d ≠ .int i) : gReprW d = gRepr d := by cases d <;> first | rfl | exact absurd rfl (h _)
end DL

/-! loops over data; sizes -/
namespace DL
open PySem L2 PySem.Spec PyProof.Rows GL
/-- a loop whose turns go on -/
theorem forM_inv {g : D → En → Option En} {b : En → Out} (P : Nat → En → Prop) : ∀ (xs : List D) (k : Nat) (Γ : En), P k Γ →
    (∀ i x Γ, xs[i]? = some x → P (k + i) Γ → ∃ Γ1 Γ', g x Γ = some Γ1 ∧ (b Γ1 = .nx Γ' ∨ b Γ1 = .ct Γ') ∧ P (k + i + 1) Γ') → ∃ Γ', forM g b xs Γ = .nx Γ' ∧ P (k + xs.length) Γ'
  | [], k, Γ, h, _ => ⟨Γ, rfl, h⟩
  | x :: r, k, Γ, h, hs => by
    obtain ⟨Γ1, Γ', h1, h2, h3⟩ := hs 0 x Γ rfl h
    rw [forM_cons g b x r Γ Γ1 h1]
    have e : (b Γ1).turn (forM g b r) = forM g b r Γ' := by rcases h2 with h2 | h2 <;> rw [h2] <;> rfl
    rw [e]
    obtain ⟨Γ'', e1, e2⟩ := forM_inv P r (k + 1) Γ' h3 fun i x Γ hx hp => by
      have q := hs (i + 1) x Γ (by simpa using hx)
      rw [show k + (i + 1) = k + 1 + i by omega] at q
      exact q hp
    exact ⟨Γ'', e1, by rw [List.length_cons, show k + (r.length + 1) = k + 1 + r.length by omega]; exact e2⟩
/-- a loop whose turns return where c holds, and else go on -/
theorem forM_find {g : D → En → Option En} {b : En → Out} (P : Nat → En → Prop) (c : Nat → D → Bool) (s : Nat → D → Slot) : ∀ (xs : List D) (k : Nat) (Γ : En), P k Γ →
    (∀ i x Γ, xs[i]? = some x → P (k + i) Γ → ∃ Γ1, g x Γ = some Γ1 ∧ (if c (k + i) x = true then b Γ1 = .rt (s (k + i) x) else ∃ Γ', (b Γ1 = .nx Γ' ∨ b Γ1 = .ct Γ') ∧ P (k + i + 1) Γ')) →
    (∃ i x, xs[i]? = some x ∧ c (k + i) x = true ∧ (∀ j y, j < i → xs[j]? = some y → c (k + j) y = false) ∧ forM g b xs Γ = .rt (s (k + i) x)) ∨
    ((∀ j y, xs[j]? = some y → c (k + j) y = false) ∧ ∃ Γ', forM g b xs Γ = .nx Γ' ∧ P (k + xs.length) Γ')
  | [], k, Γ, h, _ => .inr ⟨fun j y e => by simp at e, Γ, rfl, h⟩
  | x :: r, k, Γ, h, hs => by
    obtain ⟨Γ1, h1, h2⟩ := hs 0 x Γ rfl h
    rw [forM_cons g b x r Γ Γ1 h1]
    cases hc : c (k + 0) x with
    | true =>
      rw [hc, if_pos rfl] at h2
      exact .inl ⟨0, x, rfl, hc, fun j y hj => by omega, by rw [h2]; rfl⟩
    | false =>
      rw [hc, if_neg Bool.false_ne_true] at h2
      obtain ⟨Γ', h2, h3⟩ := h2
      have e : (b Γ1).turn (forM g b r) = forM g b r Γ' := by rcases h2 with h2 | h2 <;> rw [h2] <;> rfl
      rw [e]
      have go := forM_find P c s r (k + 1) Γ' h3 fun i x Γ hx hp => by
        have q := hs (i + 1) x Γ (by simpa using hx)
        rw [show k + (i + 1) = k + 1 + i by omega] at q
        exact q hp
      have z : ∀ j, k + 1 + j = k + (j + 1) := fun j => by omega
      rcases go with ⟨i, y, e1, e2, e3, e4⟩ | ⟨e1, Γ'', e2, e3⟩
      · rw [z] at e2 e4
        refine .inl ⟨i + 1, y, by simpa using e1, e2, fun j w hj hw => ?_, e4⟩
        cases j with
        | zero => simp at hw; subst hw; exact hc
        | succ j => rw [← z]; exact e3 j w (by omega) (by simpa using hw)
      · refine .inr ⟨fun j w hw => ?_, Γ'', e2, by rw [List.length_cons, show k + (r.length + 1) = k + 1 + r.length by omega]; exact e3⟩
        cases j with
        | zero => simp at hw; subst hw; exact hc
        | succ j => rw [← z]; exact e1 j w (by simpa using hw)
/-- a while by a measure -/
theorem whileM_inv {t : En → Res Bool} {b : En → Out} (P : Nat → En → Prop)
    (hs : ∀ m Γ, P m Γ → t Γ = .ok false ∨ (t Γ = .ok true ∧ ∃ Γ' m', (b Γ = .nx Γ' ∨ b Γ = .ct Γ') ∧ m' < m ∧ P m' Γ')) :
    ∀ (n m : Nat) (Γ : En), P m Γ → m < n → ∃ Γ' m', whileM t b n Γ = .nx Γ' ∧ P m' Γ' ∧ t Γ' = .ok false
  | 0, m, Γ, _, h => by omega
  | n + 1, m, Γ, hp, h => by
    rw [whileM_succ]
    rcases hs m Γ hp with e | ⟨e, Γ', m', e2, hm, hp'⟩
    · rw [e]; exact ⟨Γ, m, rfl, hp, e⟩
    · rw [e]
      have e3 : (b Γ).turn (whileM t b n) = whileM t b n Γ' := by rcases e2 with e2 | e2 <;> rw [e2] <;> rfl
      show ∃ Γ'' m'', (if true = true then (b Γ).turn (whileM t b n) else .nx Γ) = .nx Γ'' ∧ _
      rw [if_pos rfl, e3]
      exact whileM_inv P hs n m' Γ' hp' (by omega)
/-- a comprehension that keeps all -/
theorem compM_map {g : D → En → Option En} {m : MD} {Γ : En} (f : D → D) : ∀ (xs : List D), (∀ x ∈ xs, ∃ Γ1, g x Γ = some Γ1 ∧ m Γ1 = .ok (f x)) → compM g bYes m Γ xs = .ok (xs.map f)
  | [], _ => rfl
  | x :: r, h => by
    obtain ⟨Γ1, h1, h2⟩ := h x List.mem_cons_self
    rw [compM, h1]
    dsimp only
    rw [h2, compM_map f r fun y hy => h y (List.mem_cons_of_mem _ hy)]
    rfl
theorem compM_filter {g : D → En → Option En} {t : En → Res Bool} {m : MD} {Γ : En} (c : D → Bool) (f : D → D) : ∀ (xs : List D), (∀ x ∈ xs, ∃ Γ1, g x Γ = some Γ1 ∧ t Γ1 = .ok (c x) ∧ (c x = true → m Γ1 = .ok (f x))) → compM g t m Γ xs = .ok ((xs.filter c).map f)
  | [], _ => rfl
  | x :: r, h => by
    obtain ⟨Γ1, h1, h2, h3⟩ := h x List.mem_cons_self
    rw [compM, h1]
    dsimp only
    rw [h2, compM_filter c f r fun y hy => h y (List.mem_cons_of_mem _ hy), List.filter_cons]
    cases hc : c x with
    | true => simp only [noX_ok, bind_ok, if_true, h3 hc, List.map_cons]
    | false => rfl
/-! ### sizes -/
theorem bits_abs {i : Int} {a : Nat} (h : i.natAbs < 2 ^ a) : Builtin.Int.intBits i ≤ a := by
  unfold Builtin.Int.intBits
  split
  · exact Nat.zero_le _
  · rename_i h0
    have h0' : i.natAbs ≠ 0 := by simpa using h0
    have := (Nat.log2_lt h0').mpr h
    omega
theorem pow_ok {i : Int} {j a : Nat} (h : i.natAbs < 2 ^ a) (hb : a * j ≤ 2 ^ 27) : gPow (.int i) (.int (j : Int)) = some (.val (.int (i ^ j))) := by
  have b := bits_abs h
  have c : Builtin.Int.intBits i * j ≤ a * j := Nat.mul_le_mul_right _ b
  rw [gPow_int, giv_pos ⟨by omega, by
    have : ((Builtin.Int.intBits i * j : Nat) : Int) ≤ ((2 ^ 27 : Nat) : Int) := Int.ofNat_le.mpr (Nat.le_trans c hb)
    simpa using this⟩]
  simp
theorem lt_pow {i : Int} {a : Nat} (h0 : 0 ≤ i) (h : i < 2 ^ a) : i.natAbs < 2 ^ a := by
  have e : (i.natAbs : Int) = i := Int.natAbs_of_nonneg h0
  have e2 : ((2 ^ a : Nat) : Int) = 2 ^ a := by simp
  omega
end DL

/-! the text of a pair of integers -/
namespace DL
open PySem L2 PySem.Spec PyProof.Rows GL TL
/-- an integer's signs -/
def intL (i : Int) : List Nat := tl (Str.ofString (toString i))
theorem intL_nat (n : Nat) : intL (n : Int) = numL n := tl_num n
theorem intL_neg (n : Nat) : intL (Int.negSucc n) = 45 :: numL (n + 1) := by
  have e : toString (Int.negSucc n) = "-" ++ toString ((n + 1 : Nat) : Int) := rfl
  have e2 := tl_num (n + 1)
  unfold intL
  rw [e, tl_ofString, String.toList_append, List.map_append]
  rw [tl_ofString] at e2
  rw [e2]
  rfl
theorem intL_zero {i : Int} (h : intL i = [48]) : i = 0 := by
  cases i with
  | ofNat n =>
    have e : intL (n : Int) = [48] := h
    rw [intL_nat, ← (show numL 0 = [48] from numL_lt (by decide))] at e
    rw [numL_inj e]; rfl
  | negSucc n =>
    rw [intL_neg] at h
    injection h with h1
    cases h1
theorem intL_ne (i : Int) : intL i ≠ [] := by
  cases i with
  | ofNat n => exact fun h => numL_ne n (by rw [← intL_nat]; exact h)
  | negSucc n => rw [intL_neg]; exact List.cons_ne_nil _ _
theorem intL_free {k : Nat} (hk : k ≠ 45 ∧ (k < 48 ∨ 57 < k)) (i : Int) : k ∉ intL i := int_text_free' k hk i
theorem pair_text (n e : Int) : tl (pyR (.tup [.int n, .int e])).shown = 40 :: (intL n ++ ([44, 32] ++ (intL e ++ [41]))) := by
  have e1 : pyR (.tup [.int n, .int e]) = .tuple [.int n, .int e] := pyR_ints [n, e]
  rw [e1, PyData.shown_tuple]
  rw [tl_append, tl_append, tl_join, PyData.shownAll_cons, PyData.shownAll_cons, PyData.shown_int, PyData.shown_int]
  have e2 : PyData.shownAll [] = [] := by simp only [PyData.shownAll]
  rw [e2]
  show tl ("(" : Str) ++ (intL n ++ (tl ", " ++ intL e)) ++ tl (Str.ofString ")") = _
  simp only [tl_ofString]
  show [40] ++ (intL n ++ ([44, 32] ++ intL e)) ++ [41] = _
  simp
theorem pair_zero (n e : Int) : ((pyR (.tup [.int n, .int e])).shown == ("(0, 0)" : Str)) = (decide (n = 0) && decide (e = 0)) := by
  by_cases h : n = 0 ∧ e = 0
  · obtain ⟨rfl, rfl⟩ := h
    have : (pyR (.tup [.int 0, .int 0])).shown = ("(0, 0)" : Str) := by
      refine ext_tl ?_
      rw [pair_text, show intL 0 = [48] from (intL_nat 0).trans (numL_lt (by decide)), tl_ofString]
      decide
    rw [this]
    simp
  · have hne : (pyR (.tup [.int n, .int e])).shown ≠ ("(0, 0)" : Str) := by
      intro hz
      have hz2 := congrArg tl hz
      rw [pair_text, tl_ofString, show ("(0, 0)" : String).toList.map Char.toNat = [40, 48, 44, 32, 48, 41] by decide] at hz2
      injection hz2 with _ hz3
      have f := intL_free (k := 44) (by decide) n
      have nn := intL_ne n
      generalize hA : intL n = A at hz3 f nn
      match A, hz3, f, nn with
      | [], _, _, nn => exact nn rfl
      | [a], hz3, _, _ =>
        injection hz3 with ha hz4
        have hz5 : 44 :: 32 :: (intL e ++ [41]) = [44, 32, 48, 41] := hz4
        injection hz5 with _ hz6
        injection hz6 with _ hz7
        have he : intL e = [48] := List.append_cancel_right (as := intL e) (bs := [41]) (cs := [48]) hz7
        exact h ⟨intL_zero (by rw [hA, ha]), intL_zero he⟩
      | a :: b :: r, hz3, f, _ =>
        injection hz3 with _ hz4
        injection hz4 with hb _
        exact f (by rw [hb]; simp)
    rw [beq_eq_false_iff_ne.mpr hne]
    symm
    rw [Bool.and_eq_false_iff]
    by_cases h0 : n = 0
    · right; exact decide_eq_false fun h1 => h ⟨h0, h1⟩
    · left; exact decide_eq_false h0
end DL

/-! a class of the text whose instances hold one tuple and never change -/
namespace DL
open PySem L2 PySem.Spec PyProof.Rows GL

/-- is it an int? -/
def kdI : D → Option Int
  | .int i => some i
  | _ => none
theorem rep_kd {K : PySem.W.Frag} {H : Hp} {v : V} {d : D} (r : Rep K H v d) (hn : noObj d = true) : Kd K H v (kdI d) := by
  cases r with
  | non => exact .non
  | bl b => exact .bl b
  | int i => exact .int i
  | str x => exact .str x
  | tup h _ => exact .tup h
  | lst h _ => exact .lst (SqL.of h)
  | scr h => exact .lst h
  | dic h _ _ => exact .dic h
  | obj _ _ _ => cases hn
/-- an instance at p, what it holds at q -/
structure RowAt (K : PySem.W.Frag) (C : Addr) (H : Hp) (p : Addr) (xs : List V) : Prop where
  ob : ∃ dx q, H p = some (.ins C dx [("settings", .ref q)]) ∧ SqT K H q xs
theorem rowAt_same {K : PySem.W.Frag} {C : Addr} {H H' : Hp} {p : Addr} {xs : List V} (e : Same H H') (h : RowAt K C H p xs) : RowAt K C H' p xs := by
  obtain ⟨dx, q, h1, h2⟩ := h.ob
  exact ⟨dx, q, e _ _ h1, seqT_same e h2⟩
def inRange (o : Option Int) (lo hi : Int) : Bool := match o with
  | some i => decide (lo ≤ i ∧ i ≤ hi)
  | none => false
def endGood (v : V) (o : Option Int) : Bool := decide (v = .non) || inRange o (-1000) 1000
def wrongField (b m a f l : Option Int) (vf vl : V) : Option Str :=
  if inRange b 2 36 = false then some "base" else if inRange m 1 1000000 = false then some "move" else if inRange a 1 1000000 = false then some "add"
  else if endGood vf f = false then some "first" else if endGood vl l = false then some "last"
  else match f, l with
    | some i, some j => if j < i then some "last" else none
    | _, _ => none
def sp_get (K : PySem.W.Frag) (C : Addr) (i : Nat) : Sp := fun vs H Q _ => ∃ p b m a f l, vs = [.ref p] ∧ RowAt K C H p [b, m, a, f, l] ∧ Q ([b, m, a, f, l].getD i .non) H
def sp_init (K : PySem.W.Frag) (C CE : Addr) : Sp := fun vs H Q E => ∃ p dx vb vm va vf vl b m a f l, vs = [.ref p, vb, vm, va, vf, vl] ∧ H p = some (.ins C dx []) ∧
  Kd K H vb b ∧ Kd K H vm m ∧ Kd K H va a ∧ Kd K H vf f ∧ Kd K H vl l ∧
  (∀ x, wrongField b m a f l vf vl = some x → ∀ (H' : Hp) (d : Addr), Same H H' → H d = none → H' d = some (.xd [("field", .str x)]) → E (.ref CE) (some d) H') ∧
  (wrongField b m a f l vf vl = none → ∀ (G : Hp) (q : Addr), H q = none → G = upd (upd H q (.tup [vb, vm, va, vf, vl])) p (.ins C dx [("settings", .ref q)]) → Q .non G)
def loGood (i : Int) : Option Int → Bool
  | some a => decide (a ≤ i)
  | none => true
def hiGood (i : Int) : Option Int → Bool
  | some b => decide (i ≤ b)
  | none => true
def hasP (f l : Option Int) : Option Int → Bool
  | some i => decide (-1000 ≤ i ∧ i ≤ 1000) && loGood i f && hiGood i l
  | none => false
def intV : Option Int → V
  | none => .non
  | some i => .int i
def sp_has (K : PySem.W.Frag) (C : Addr) : Sp := fun vs H Q _ => ∃ p b m a f l v o, vs = [.ref p, v] ∧ RowAt K C H p [b, m, a, intV f, intV l] ∧ Kd K H v o ∧ Q (.bl (hasP f l o)) H

/-! ### on data -/
def rowD (C : Addr) (b m a f l : D) : D := .obj C [("settings" : Str)] [.tup [b, m, a, f, l]]
def rowParts (C : Addr) : D → Option (List D)
  | .obj C' ns [.tup [b, m, a, f, l]] => if C' = C ∧ ns = [("settings" : Str)] then some [b, m, a, f, l] else none
  | _ => none
theorem rowParts_some {C : Addr} {d : D} {xs : List D} (h : rowParts C d = some xs) : ∃ b m a f l, d = rowD C b m a f l ∧ xs = [b, m, a, f, l] := by
  unfold rowParts at h
  split at h
  · split at h
    · rename_i hc
      obtain ⟨rfl, rfl⟩ := hc
      cases h
      exact ⟨_, _, _, _, _, rfl, rfl⟩
    · cases h
  · cases h
theorem rep_row {K : PySem.W.Frag} {H : Hp} {C : Addr} {v : V} {b m a f l : D} (r : Rep K H v (rowD C b m a f l)) :
    ∃ p vb vm va vf vl, v = .ref p ∧ RowAt K C H p [vb, vm, va, vf, vl] ∧ Rep K H vb b ∧ Rep K H vm m ∧ Rep K H va a ∧ Rep K H vf f ∧ Rep K H vl l := by
  unfold rowD at r
  generalize hL : [D.tup [b, m, a, f, l]] = L at r
  generalize hN : [("settings" : Str)] = N at r
  cases r with
  | @obj p C dx fs ns ds h k ra =>
    subst hN hL
    have hl : fs.length = 1 := by have := congrArg List.length k; rw [List.length_map] at this; exact this
    obtain ⟨⟨x, w⟩, rfl⟩ := List.length_eq_one_iff.mp hl
    have k2 : x = ("settings" : Str) := List.head_eq_of_cons_eq k
    have ra : RepAll K H [w] [.tup [b, m, a, f, l]] := ra
    rw [k2] at h
    cases ra with
    | cons rw rn =>
      cases rw with
      | tup ht rs =>
        cases rs with | cons r1 rs => cases rs with | cons r2 rs => cases rs with | cons r3 rs => cases rs with | cons r4 rs => cases rs with | cons r5 rs =>
          cases rs
          exact ⟨p, _, _, _, _, _, rfl, ⟨dx, _, h, ht⟩, r1, r2, r3, r4, r5⟩
def gRow (C : Addr) (i : Nat) (d : D) : Option Giv := match rowParts C d with
  | some xs => (xs[i]?).map .val
  | none => none
/-- an end: none or an int -/
def isEnd : D → Bool
  | .non => true
  | .int _ => true
  | _ => false
def newRow (C : Addr) : List D → Res D
  | [b, m, a, f, l] => need (noObj b = true ∧ noObj m = true ∧ noObj a = true ∧ isEnd f = true ∧ isEnd l = true ∧ wrongField (kdI b) (kdI m) (kdI a) (kdI f) (kdI l) (intV (kdI f)) (intV (kdI l)) = none) (.ok (rowD C b m a f l))
  | _ => .stuck
def eProp (C : Addr) (i : Nat) (m : MD) : MD := fun Γ => (m Γ).bind fun d => toR (gRow C i d)
def hasR (f l : D) (r : Res D) : Res D := need (isEnd f = true ∧ isEnd l = true) (r.bind fun v => need (noObj v = true) (.ok (.bl (hasP (kdI f) (kdI l) (kdI v)))))
def eHas (C : Addr) (m mv : MD) : MD := fun Γ => (m Γ).bind fun d => match rowParts C d with
  | some [_, _, _, f, l] => hasR f l (mv Γ)
  | _ => .stuck
def eNewRow (C : Addr) (n k : Nat) (arr : List D → List D → List D) (ms mk : ML) : MD := fun Γ => (ms Γ).bind fun ds => (mk Γ).bind fun zs => need (ds.length = n ∧ zs.length = k) (newRow C (arr ds zs))
theorem rep_end {K : PySem.W.Frag} {H : Hp} {v : V} {d : D} (r : Rep K H v d) (h : isEnd d = true) : v = intV (kdI d) ∧ noObj d = true := by
  cases d with
  | non => cases r; exact ⟨rfl, rfl⟩
  | int i => cases r; exact ⟨rfl, rfl⟩
  | _ => cases h
section
variable {X : Cx} {et : ET} {ce : Caught} {W : WX} {e e1 : Expr} {es : List Expr} {m m1 : MD} {pos p2 : Pos} {f : Str} {C : Addr} {i : Nat}
theorem d_prop (ha : DO X et ce W e m) (hp : ∀ t, PE X e t → PE X (.Attribute e f pos) (tProp C (sp_get X.K C i) [] E0 t)) (hi : i < 5) : DE X et ce W (.Attribute e f pos) (eProp C i m) := by
  obtain ⟨t, p, ga⟩ := ha
  refine ⟨_, hp _ p, fun Hs H0s σ H H0 Γ Q c q => ga _ _ _ _ _ _ _ c (Post.next q fun d v H1 H01 _ s r q => ?_)⟩
  have q := asked (σ := σ) s.sub (q.step back_D s)
  unfold gRow at q
  cases hd : rowParts C d with
  | none => rw [hd] at q; exact q.elim
  | some xs =>
    rw [hd] at q
    obtain ⟨b, mo, a, fi, l, rfl, rfl⟩ := rowParts_some hd
    obtain ⟨p0, vb, vm, va, vf, vl, rfl, ha, r1, r2, r3, r4, r5⟩ := rep_row (show Rep X.K H01 v _ from r)
    have ha1 := rowAt_same s.sub ha
    obtain ⟨dx, qq, h1, h2⟩ := id ha1.ob
    refine ⟨p0, dx, _, rfl, h1, p0, vb, vm, va, vf, vl, rfl, ha1, ?_⟩
    match i, hi with
    | 0, _ => exact q _ r1
    | 1, _ => exact q _ r2
    | 2, _ => exact q _ r3
    | 3, _ => exact q _ r4
    | 4, _ => exact q _ r5
theorem d_has (ha : DO X et ce W e m) (hb : DE X et ce W e1 m1) {mn : Str} (hn : ∀ w : V, ([(("settings" : Str), w)] : List (Str × V)).lookup mn = none) (hp : ∀ t t1, PE X e t → PA X [e1] t1 → PE X (.Call (.Attribute e mn p2) [e1] [] pos) (tMeth C mn (sp_has X.K C) [] E0 t t1)) (hst : starEach [e1] X.env = (false, eval e1 X.env) :: starEach [] X.env := by rfl) :
    DE X et ce W (.Call (.Attribute e mn p2) [e1] [] pos) (eHas C m m1) := by
  obtain ⟨t, p, ga⟩ := ha
  obtain ⟨t1, pb, gb⟩ := da_cons hb da_nil hst
  refine ⟨_, hp _ _ p pb, fun Hs H0s σ H H0 Γ Q c q => ga _ _ _ _ _ _ _ c (Post.next q fun d v H1 H01 _ s r q => ?_)⟩
  cases hd : rowParts C d with
  | none => rw [hd] at q; exact q.elim
  | some xs =>
    rw [hd] at q
    obtain ⟨b, mo, a, fi, l, rfl, rfl⟩ := rowParts_some hd
    have q : Post X.K et W (RD X.K) σ H1 H01 Q (hasR fi l (m1 Γ)) := q.step back_D s
    obtain ⟨⟨hf, hl⟩, q⟩ := need_if q
    obtain ⟨p0, vb, vm, va, vf, vl, rfl, ha, r1, r2, r3, r4, r5⟩ := rep_row (show Rep X.K H01 v _ from r)
    have ha1 := rowAt_same s.sub ha
    obtain ⟨dx, qq, h1, h2⟩ := id ha1.ob
    refine ⟨p0, dx, _, rfl, h1, hn _, ?_⟩
    have q1 : Post X.K et W (RA X.K) σ H1 H01 (fun vs H2 => sp_has X.K C (.ref p0 :: (vs ++ [])) H2 Q E0) ((m1 Γ).bind fun x => (Res.ok []).bind fun xs => .ok (x :: xs)) := by
      cases hm : m1 Γ with
      | ok w =>
        rw [hm] at q
        obtain ⟨hw, q⟩ := need_if (show Post X.K et W (RD X.K) σ H1 H01 Q (need (noObj w = true) _) from q)
        intro vs H2 H02 s2 rv
        cases rv with
        | cons rw rn =>
          cases rn
          obtain ⟨e4, n4⟩ := rep_end r4 hf
          obtain ⟨e5, n5⟩ := rep_end r5 hl
          subst e4 e5
          exact ⟨p0, vb, vm, va, kdI fi, kdI l, _, kdI w, rfl, rowAt_same s2.big ha1, rep_kd (rw.same s2.sub) hw, q _ _ _ s2 (.bl _)⟩
      | exc x dd =>
        rw [hm] at q
        exact q
      | stuck => rw [hm] at q; exact q.elim
    exact gb _ _ _ _ _ _ _ (c.step s) q1
/-- keywords -/
structure DK (X : Cx) (et : ET) (ce : Caught) (W : WX) (ks : List Keyword) (m : ML) : Prop where ex : ∃ t, PK X ks t ∧ Good X.K et ce W (RA X.K) t m
theorem dk_nil : DK X et ce W [] eNil := ⟨_, pk_nil, fun Hs H0s σ H H0 Γ Q c q => q _ _ _ (Step.refl c.sub) .nil⟩
theorem dk_cons {kw : Str} {kpos : Pos} {ks : List Keyword} {ms : ML} (h : DE X et ce W e m) (hs : DK X et ce W ks ms) : DK X et ce W (⟨some kw, e, kpos⟩ :: ks) (eCons m ms) := by
  obtain ⟨t, p, g⟩ := h
  obtain ⟨t2, p2, g2⟩ := hs
  refine ⟨_, pk_cons p p2, fun Hs H0s σ H H0 Γ Q c q => g _ _ _ _ _ _ _ c ?_⟩
  refine Post.next q fun d v H1 H01 _ s r q => g2 _ _ _ _ _ _ _ (c.step s) ?_
  refine Post.next (q.step back_A s) fun ds vs H2 H02 _ s2 r2 q => ?_
  exact q _ _ _ s2 (.cons (r.same s2.small) r2)
theorem newRow_some {K : PySem.W.Frag} {σ : L2.St} {H H0 : Hp} {Q : VK} {xs : List D} (h : Post K et W (RD K) σ H H0 Q (newRow C xs)) :
    ∃ b m a f l, xs = [b, m, a, f, l] ∧ noObj b = true ∧ noObj m = true ∧ noObj a = true ∧ isEnd f = true ∧ isEnd l = true ∧ wrongField (kdI b) (kdI m) (kdI a) (kdI f) (kdI l) (intV (kdI f)) (intV (kdI l)) = none ∧
      ∀ v H' H0', Step H H0 H' H0' → Rep K H0' v (rowD C b m a f l) → Q v H' := by
  unfold newRow at h
  split at h
  · obtain ⟨⟨h1, h2, h3, h4, h5, h6⟩, q⟩ := need_if h
    exact ⟨_, _, _, _, _, rfl, h1, h2, h3, h4, h5, h6, fun v H' H0' s r => q v H' H0' s r⟩
  · exact h.elim
theorem rep_five {K : PySem.W.Frag} {H : Hp} {ws : List V} {b m a f l : D} (r : RepAll K H ws [b, m, a, f, l]) : ∃ v1 v2 v3 v4 v5, ws = [v1, v2, v3, v4, v5] ∧ Rep K H v1 b ∧ Rep K H v2 m ∧ Rep K H v3 a ∧ Rep K H v4 f ∧ Rep K H v5 l := by
  cases r with | cons ra rw => cases rw with | cons rb rw => cases rw with | cons rc rw => cases rw with | cons rd rw => cases rw with | cons re rw =>
  cases rw
  exact ⟨_, _, _, _, _, rfl, ra, rb, rc, rd, re⟩
/-- C(e, .., k = v, ..) -/
theorem d_newRow {CE : Addr} {E : XK} {x : Str} {p : Pos} {ks : List Keyword} {n k : Nat} {ms mk : ML} {gV : List V → List V → List V} {arr : List D → List D → List D}
    (hg : ∀ (K : PySem.W.Frag) (H : Hp) (u : V) (vs zs : List V) (ds es : List D), ds.length = n → es.length = k → RepAll K H vs ds → RepAll K H zs es → ∃ ws, gV (u :: vs) zs = u :: ws ∧ RepAll K H ws (arr ds es))
    (ha : DA X et ce W es ms) (hk : DK X et ce W ks mk) (hp : ∀ t tk, PA X es t → PK X ks tk → PE X (.Call (.Name x p) es ks pos) (tMakeK C n k (sp_init X.K C CE) gV E t tk)) :
    DE X et ce W (.Call (.Name x p) es ks pos) (eNewRow C n k arr ms mk) := by
  obtain ⟨t, pt, ga⟩ := ha
  obtain ⟨tk, pk, gk⟩ := hk
  refine ⟨_, hp _ _ pt pk, fun Hs H0s σ H H0 Γ Q c q => ga _ _ _ _ _ _ _ c (Post.next q fun ds vs H1 H01 _ s r q => gk _ _ _ _ _ _ _ (c.step s) ?_)⟩
  refine Post.next (q.step back_D s) fun es zs H2 H02 _ s2 r2 q => ?_
  have q := q.step back_D s2
  obtain ⟨⟨l1, l2⟩, q⟩ := need_if q
  have r1 := r.same s2.small
  refine ⟨r.len.trans l1, r2.len.trans l2, fun a dx ha hdx ne => ?_⟩
  obtain ⟨ws, ew, rw⟩ := hg X.K H02 (.ref a) vs zs ds es l1 l2 r1 r2
  obtain ⟨b, mo, ad, fi, l, exs, n1, n2, n3, n4, n5, n6, q⟩ := newRow_some q
  rw [exs] at rw
  rw [ew]
  have w1 : Step H2 H02 (upd H2 dx (.own a)) (upd H02 dx (.own a)) := Step.new s2.sub hdx
  have hab : (upd H2 dx (HO.own a)) a = none := by rw [upd_ne ne.symm]; exact ha
  have sA : Same H02 (upd (upd H2 dx (.own a)) a (.ins C dx [])) := Same.trans s2.sub (Same.trans w1.big (same_upd hab))
  obtain ⟨v1, v2, v3, v4, v5, rfl, ra, rb, rc, rd, re⟩ := rep_five rw
  obtain ⟨e4, m4⟩ := rep_end rd n4
  obtain ⟨e5, m5⟩ := rep_end re n5
  refine ⟨a, dx, _, _, _, _, _, kdI b, kdI mo, kdI ad, kdI fi, kdI l, rfl, upd_same, rep_kd (ra.same sA) n1, rep_kd (rb.same sA) n2, rep_kd (rc.same sA) n3, rep_kd (rd.same sA) m4, rep_kd (re.same sA) m5, fun y hy => ?_, fun _ G qq hq hG => ⟨rfl, ?_⟩⟩
  · rw [e4, e5, n6] at hy; cases hy
  · have nqa : qq ≠ a := fun z => by rw [z, upd_same] at hq; cases hq
    have hq1 : (upd H2 dx (HO.own a)) qq = none := by rw [← hq, upd_ne nqa]
    have w2 := Step.new (o := .tup [v1, v2, v3, v4, v5]) w1.sub hq1
    have hx3 : (upd (upd H2 dx (HO.own a)) qq (.tup [v1, v2, v3, v4, v5])) a = none := by rw [upd_ne nqa.symm]; exact hab
    have w3 := Step.new (o := .ins C dx [("settings", .ref qq)]) w2.sub hx3
    have eG : G = upd (upd (upd H2 dx (.own a)) qq (.tup [v1, v2, v3, v4, v5])) a (.ins C dx [("settings", .ref qq)]) := by
      rw [hG]
      funext z
      by_cases h1 : z = a
      · rw [h1, upd_same, upd_same]
      · rw [upd_ne h1, upd_ne h1]
        by_cases h2 : z = qq
        · rw [h2, upd_same, upd_same]
        · rw [upd_ne h2, upd_ne h2, upd_ne h1]
    rw [eG]
    refine q _ _ _ (w1.trans (w2.trans w3)) ?_
    have s3 := (w1.trans (w2.trans w3)).small
    refine .obj upd_same rfl (.cons (.tup (SqT.of ?_) (.cons (ra.same s3) (.cons (rb.same s3) (.cons (rc.same s3) (.cons (rd.same s3) (.cons (re.same s3) .nil)))))) .nil)
    rw [upd_ne nqa, upd_same]
end
theorem pass_no {P : Program} {w : World} {X : Cx} : Passes (L2.CX P w) X (fun _ _ _ => False) := by
  rintro pins σ H s e s' I ⟨a, B, H', cls, d, h1, h2, h3, h4, h5, h6, h7, h⟩
  exact h.elim
def a_none (ds _ : List D) : List D := ds ++ [.int 1, .int 1, .non, .non]
def a_first_last (ds zs : List D) : List D := ds ++ [.int 1, .int 1] ++ zs
def a_move_add (ds zs : List D) : List D := ds ++ zs ++ [.non, .non]
def a_move_add_first_last (ds zs : List D) : List D := ds ++ zs
section
variable {n k : Nat}
theorem g_none : ∀ (K : PySem.W.Frag) (H : Hp) (u : V) (vs zs : List V) (ds es : List D), ds.length = n → es.length = k → RepAll K H vs ds → RepAll K H zs es → ∃ ws, (fun vs _ => vs ++ [V.int 1, V.int 1, V.non, V.non] : List V → List V → List V) (u :: vs) zs = u :: ws ∧ RepAll K H ws (a_none ds es) :=
  fun _ _ _ vs _ _ _ _ _ r _ => ⟨vs ++ [V.int 1, V.int 1, V.non, V.non], rfl, r.app (.cons (.int 1) (.cons (.int 1) (.cons .non (.cons .non .nil))))⟩
theorem g_first_last : ∀ (K : PySem.W.Frag) (H : Hp) (u : V) (vs zs : List V) (ds es : List D), ds.length = n → es.length = k → RepAll K H vs ds → RepAll K H zs es → ∃ ws, (fun vs zs => vs ++ [V.int 1, V.int 1] ++ zs : List V → List V → List V) (u :: vs) zs = u :: ws ∧ RepAll K H ws (a_first_last ds es) :=
  fun _ _ _ vs zs _ _ _ _ r r2 => ⟨vs ++ [V.int 1, V.int 1] ++ zs, rfl, (r.app (.cons (.int 1) (.cons (.int 1) .nil))).app r2⟩
theorem g_move_add : ∀ (K : PySem.W.Frag) (H : Hp) (u : V) (vs zs : List V) (ds es : List D), ds.length = n → es.length = k → RepAll K H vs ds → RepAll K H zs es → ∃ ws, (fun vs zs => vs ++ zs ++ [V.non, V.non] : List V → List V → List V) (u :: vs) zs = u :: ws ∧ RepAll K H ws (a_move_add ds es) :=
  fun _ _ _ vs zs _ _ _ _ r r2 => ⟨vs ++ zs ++ [V.non, V.non], rfl, (r.app r2).app (.cons .non (.cons .non .nil))⟩
theorem g_move_add_first_last : ∀ (K : PySem.W.Frag) (H : Hp) (u : V) (vs zs : List V) (ds es : List D), ds.length = n → es.length = k → RepAll K H vs ds → RepAll K H zs es → ∃ ws, (fun vs zs => vs ++ zs : List V → List V → List V) (u :: vs) zs = u :: ws ∧ RepAll K H ws (a_move_add_first_last ds es) :=
  fun _ _ _ vs zs _ _ _ _ r r2 => ⟨vs ++ zs, rfl, r.app r2⟩
end
end DL

/-! sorted(d, reverse=True) of a dict with few keys -/
namespace DL
open PySem L2 PySem.Spec PyProof.Rows GL
section
variable {X : Cx}
def rSortedDR : List V → List V → Hp → VK → Prop := fun xs zs H Q => ∃ (a : Addr) (kvs : List (Key × V)) (ks : List Int), xs = [.ref a] ∧ zs = [.bl true] ∧ Rd H a (.dK kvs) ∧ kvs.map (·.1) = ks.map Sum.inl ∧ ks.length < 64 ∧
  ∀ (ys : List Int) (p : Addr), ys.Perm ks → ys.Pairwise (· ≥ ·) → H p = none → Q (.ref p) (upd H p (.lst (ys.map V.int)))
theorem cr_sortedDR (hcalm : X.calm = true) : CallRK X (.builtin "sorted") [Str.ofString "reverse"] rSortedDR := by
  intro pins s σ H xs zs us ws Q I r rz q
  obtain ⟨a, kvs, ks, rfl, rfl, hd, hks, h64, q⟩ := q
  obtain rfl := Vals.ref1 r
  obtain ⟨w1, rfl, e1⟩ := vals1 rz
  obtain rfl : w1 = Value.bool true := e1
  obtain ⟨z, lo, vs, rel, dd⟩ := dk_rd I.hok hd
  obtain ⟨ep, hat⟩ := dd.dictAt
  have hkeys : vs.map (·.1) = ks.map Sum.inl := rel.keys.symm.trans hks
  have hl : vs.length = ks.length := by rw [← List.length_map (f := (·.1)) (as := vs), hkeys, List.length_map]
  have h16 : vs.length ≤ sizeLine := by rw [hl, sizeLine_eq]; omega
  refine call_function_entry_kw kind_sorted plain_sorted entry_sorted (args_sorted_rev _ _) ?_
  unfold Builtin.«sorted»
  refine wpAny_bind (m := checkCount "sorted" 1 1 _) (wpAny_pure ?_)
  refine wpAny_bind (PySem.W.kdu_collect (A := X.A.in1) (PySem.W.kdl_dict (knd := mixKind X.prog X.w) (kvs := vs) (ep := ep) lo) (I.ok.hd hcalm) hat h16 fun h' tk acc hk hacc => ?_)
  have hal : acc.toList.length = ks.length := by rw [Array.length_toList, hacc.1, hl]
  have hS : IntsAre acc.toList ks := ints_each hal fun j v e => by
    obtain ⟨k, x, e1, e2⟩ := hacc.2 j v (by rw [← Array.getElem?_toList]; exact e)
    have e3 : (vs.map (·.1))[j]? = some k := by rw [List.getElem?_map, e1]; rfl
    rw [hkeys, List.getElem?_map] at e3
    obtain ⟨y, e4, e5⟩ := Option.map_eq_some_iff.mp e3
    subst e5
    rcases keyIs_shape (show keyIs (Sum.inl y) v = true from e2) with ⟨i, t, ek, ev⟩ | ⟨z, t, ek, ev⟩
    · cases ek
      exact ⟨y, t, e4, ev⟩
    · cases ek
  have I1 : Inv X pins σ H { s with heap := h', toks := tk } := I.kept hk
  refine wpAny_bind (wpAny_newList ?_ (by rw [hal, sizeLine_eq]; omega))
  have hoL : (h'.push (seqObj "list" acc.toList.toArray 0)).get? h'.objs.size = some (seqObj "list" acc.toList.toArray 0) := Heap.get?_push_size _ rfl
  show wpAny _ _ _ _ _ { s with heap := h'.push (seqObj "list" acc.toList.toArray 0), toks := tk }
  refine wpAny_bind (wpAny_holding (wpAny_call_entry_kw slot_list_sort ⟨_, hoL, rfl⟩ entry_list_sort ?_ (args_list_sort_rev _ _)))
  refine SrtR.list_sort_ordR (b := true) SrtO.swo_int hoL (by rw [hal, sizeLine_eq]; omega) (fun h2 => SrtO.ints_sortable hS h2) fun out hs hb => ⟨_, rfl, ?_⟩
  obtain ⟨ns', k1, k2, k3⟩ := SrtR.ints_outR hS hs hb
  have hlen : (ns'.map V.int).length ≤ sizeLine := by
    rw [List.length_map, k2.length_eq, sizeLine_eq]
    omega
  have k3' : ns'.Pairwise (· ≥ ·) := k3
  have e0 : ((out.toArray.reverse).toList).toArray = out.toArray.reverse := by rw [Array.toArray_toList]
  have k1' : IntsAre (out.toArray.reverse).toList ns' := k1
  obtain ⟨e', he'⟩ := sortedHeap_at (vs := acc.toList) (out := out.toArray.reverse) hoL
  refine wpAny_pure ⟨_, rfl, V.ref h'.objs.size, upd H h'.objs.size (.lst (ns'.map V.int)), I1.laid (t' := tk) (fun b u e => ?_) (Nat.le_refl _) ⟨hlen, (out.toArray.reverse).toList, e', vals_of_ints k1', by rw [e0]; exact he'⟩, rfl, q ns' _ k2 k3' (I1.hok.fresh (Nat.le_refl _))⟩
  have hb : b < h'.objs.size := Heap.lt_size e
  rw [sortedHeap_old (Nat.ne_of_lt hb) (by rw [size_push']; exact Nat.lt_succ_of_lt hb)]
  exact Heap.get?_push_of_some _ e
/-- max(d, default=z) of a dict whose keys are ints -/
def rMaxDD : List V → List V → Hp → VK → Prop := fun xs zs H Q => ∃ (a : Addr) (kvs : List (Key × V)) (is : List Int) (z : V), xs = [.ref a] ∧ zs = [z] ∧ H a = some (.dK kvs) ∧ kvs.map (·.1) = is.map Sum.inl ∧ (is = [] → Q z H) ∧
  (is ≠ [] → ∀ m, m ∈ is → (∀ j ∈ is, j ≤ m) → Q (.int m) H)
theorem cr_maxDD (hc : X.calm = true) : CallRK X (.builtin "max") [Str.ofString "default"] rMaxDD := by
  intro pins s σ H xs zs us ws Q I r rz h
  obtain ⟨a, kvs, is, zv, rfl, rfl, ha, hv, q0, q1⟩ := h
  obtain rfl := Vals.ref1 r
  obtain ⟨w1, rfl, e1⟩ := vals1 rz
  obtain ⟨_, hsys, vs, rel, dof⟩ := dk_of I.hok ha
  obtain ⟨ep, dat⟩ := dof.dictAt
  obtain ⟨ob, es, ho, hex, hdat, hko, hpr, hnd⟩ := id dat
  have hlt : a < s.heap.objs.size := Heap.lt_size ho
  have hkeys : vs.map (·.1) = is.map Sum.inl := (KV.keys rel).symm.trans hv
  have hlv : vs.length = is.length := by rw [← List.length_map (f := (·.1)) (as := vs), hkeys, List.length_map]
  have hval : ∀ (i : Nat) (v : Value), (∃ k x, vs[i]? = some (k, x) ∧ (mixKind X.prog X.w).is k v = true) → ∃ t, v = Value.int (is.getD i 0) t := fun i v ⟨k, x, hk, hkey⟩ => by
    have e1 : (vs.map (·.1))[i]? = some k := by rw [List.getElem?_map, hk]; rfl
    rw [hkeys, List.getElem?_map] at e1
    obtain ⟨j, hj, e2⟩ := Option.map_eq_some_iff.mp e1
    subst e2
    obtain ⟨t, e3⟩ := Value.isInt_shape (k := j) (v := v) hkey
    refine ⟨t, ?_⟩
    rw [e3, List.getD_eq_getElem?_getD, hj]; rfl
  refine call_max_walkD (wpAny_pyIter_dict (knd := mixKind X.prog X.w) hsys dat ?_)
  refine ⟨_, _, _, _, _, _, _, s.heap, fun i j => decide (is.getD i 0 > is.getD j 0), rfl, (Walks.dictKeys (knd := mixKind X.prog X.w) (A := X.A.in1) (I.ok.hd hc) s.heap.objs.size a (Nat.ne_of_lt hlt) vs ep).toS,
    ⟨⟨_, Heap.get?_push_size _ rfl, rfl, rfl⟩, dat.keep fun b u e => Heap.get?_push_of_some _ e⟩, fun b hb => ?_, fun b o e hb => ?_, fun b o e => Heap.get?_push_of_some _ e, fun hn s' m => ?_, fun hn => ⟨fun i j vi vj s Q E _ hi hj h => CmpOf.ints_gt (fun i => is.getD i 0) hval i j vi vj s Q E hi hj h, fun v s' hP m => ?_⟩⟩
  · show b < (s.heap.push _).objs.size
    rw [Heap.size_push]
    rcases List.mem_cons.mp hb with e | hb
    · rw [e]
      exact Nat.lt_succ_self _
    · rw [List.mem_singleton.mp hb]
      exact Nat.lt_succ_of_lt hlt
  · exact absurd (Heap.lt_size e) ((List.mem_singleton.mp hb) ▸ Nat.lt_irrefl _)
  · obtain ⟨h', tk, rfl, keep⟩ := PySem.W.moved_old rfl rfl m
    have he : is = [] := List.length_eq_zero_iff.mp (hlv.symm.trans hn)
    exact ⟨zv, H, I.kept (t' := tk) keep, e1, q0 he⟩
  · obtain ⟨h', tk, rfl, keep⟩ := PySem.W.moved_old rfl rfl m
    obtain ⟨t, rfl⟩ := hval _ v hP
    obtain ⟨b1, b2⟩ := argBest_gt (fun i => is.getD i 0) (vs.length - 1)
    have hne : is ≠ [] := fun z => by
      rw [z] at hlv
      simp at hlv
      rw [hlv] at hn
      exact absurd hn (by decide)
    refine ⟨.int _, H, I.kept (t' := tk) keep, ⟨t, rfl⟩, q1 hne _ ?_ fun j hj => ?_⟩
    · have hb : argBest (fun i j => decide (is.getD i 0 > is.getD j 0)) (vs.length - 1) < is.length := by omega
      rw [List.getD_eq_getElem?_getD, List.getElem?_eq_getElem hb]
      exact List.getElem_mem hb
    · obtain ⟨i, hi, e⟩ := List.mem_iff_getElem.mp hj
      have e2 : is.getD i 0 = j := by rw [List.getD_eq_getElem?_getD, List.getElem?_eq_getElem hi, ← e]; rfl
      rw [← e2]
      exact b2 i (by omega)
end
end DL

/-! dicts that nothing else holds: get, item, store, max, sorted -/
namespace DL
open PySem L2 PySem.Spec PyProof.Rows GL
def keyD : D → Option Key
  | .int i => some (.inl i)
  | .str x => some (.inr x)
  | _ => none
theorem rep_key {K : PySem.W.Frag} {H : Hp} {v : V} {d : D} {k : Key} (r : Rep K H v d) (h : keyD d = some k) : v = kV k := by
  cases d with
  | int i => cases h; cases r; rfl
  | str x => cases h; cases r; rfl
  | _ => cases h
def dVal : List Key → List D → Key → Option D
  | k :: ks, x :: xs, j => if k = j then some x else dVal ks xs j
  | _, _, _ => none
def dSet : List Key → List D → Key → D → List D
  | k :: ks, x :: xs, j, d => (if k = j then d else x) :: dSet ks xs j d
  | _, _, _, _ => []
def dPut (ks : List Key) (xs : List D) (k : Key) (d : D) : List Key × List D := if (ks.any fun j => decide (j = k)) = true then (ks, dSet ks xs k d) else (ks ++ [k], xs ++ [d])
section
variable {K : PySem.W.Frag} {H : Hp}
theorem val_rep : ∀ {kvs : List (Key × V)} {ks : List Key} {xs : List D} (k : Key), kvs.map (·.1) = ks → RepAll K H (kvs.map (·.2)) xs →
    (valV kvs k = none ∧ dVal ks xs k = none) ∨ ∃ v d, valV kvs k = some v ∧ dVal ks xs k = some d ∧ Rep K H v d
  | [], _, _, k, e, r => by subst e; cases r; exact .inl ⟨rfl, rfl⟩
  | (j, v) :: kvs, _, _, k, e, r => by
    subst e
    cases r with
    | cons rv rr =>
      by_cases h : j = k
      · exact .inr ⟨v, _, valV_pos h, by simp [dVal, h], rv⟩
      · rw [valV_neg h]
        rcases val_rep k rfl rr with ⟨h1, h2⟩ | ⟨w, d, h1, h2, h3⟩
        · exact .inl ⟨h1, by simp only [List.map_cons, dVal, if_neg h, h2]⟩
        · exact .inr ⟨w, d, h1, by simp only [List.map_cons, dVal, if_neg h, h2], h3⟩
theorem set_rep {k : Key} {v : V} {d : D} (hv : Rep K H v d) : ∀ {kvs : List (Key × V)} {xs : List D}, RepAll K H (kvs.map (·.2)) xs → RepAll K H ((kvs.map fun kv => if kv.1 = k then (kv.1, v) else kv).map (·.2)) (dSet (kvs.map (·.1)) xs k d)
  | [], _, r => by cases r; exact .nil
  | (j, w) :: kvs, _, r => by
    cases r with
    | cons rv rr =>
      simp only [List.map_cons, dSet]
      by_cases h : j = k
      · rw [if_pos h, if_pos h]; exact .cons hv (set_rep hv rr)
      · rw [if_neg h, if_neg h]; exact .cons rv (set_rep hv rr)
theorem put_rep {kvs : List (Key × V)} {ks : List Key} {xs : List D} {k : Key} {v : V} {d : D} (e : kvs.map (·.1) = ks) (r : RepAll K H (kvs.map (·.2)) xs) (hv : Rep K H v d) :
    (putK kvs k v).map (·.1) = (dPut ks xs k d).1 ∧ RepAll K H ((putK kvs k v).map (·.2)) (dPut ks xs k d).2 := by
  subst e
  unfold putK dPut
  have ea : ((kvs.map (·.1)).any fun j => decide (j = k)) = (kvs.any fun kv => decide (kv.1 = k)) := by rw [List.any_map]; rfl
  rw [ea]
  split
  · refine ⟨?_, set_rep hv r⟩
    rw [List.map_map]
    refine List.map_congr_left fun kv _ => ?_
    show (if kv.1 = k then (kv.1, v) else kv).1 = kv.1
    split <;> rfl
  · refine ⟨by simp, ?_⟩
    rw [List.map_append]
    exact r.app (.cons hv .nil)
end
def eDGet2 (md mk mz : MD) : MD := fun Γ => (md Γ).bind fun d => match d with
  | .dic ks xs => (mk Γ).bind fun k => (mz Γ).bind fun z => match keyD k with
    | some j => .ok ((dVal ks xs j).getD z)
    | none => .stuck
  | _ => .stuck
def eDGet (md mk : MD) : MD := fun Γ => (md Γ).bind fun d => match d with
  | .dic ks xs => (mk Γ).bind fun k => match keyD k with
    | some j => (match dVal ks xs j with | some x => .ok x | none => .stuck)
    | none => .stuck
  | _ => .stuck
section
variable {X : Cx} {et : ET} {ce : Caught} {W : WX} {e a b c : Expr} {st : Stmt} {ma mb mc m : MD}
theorem d_dget2 (hp : ∀ t1 t2 t3, PE X a t1 → PE X b t2 → PE X c t3 → PE X e (tDGet2 t1 t2 t3)) (ha : DO X et ce W a ma) (hb : DE X et ce W b mb) (hc : DE X et ce W c mc) : DE X et ce W e (eDGet2 ma mb mc) := by
  obtain ⟨t1, p1, g1⟩ := ha
  obtain ⟨t2, p2, g2⟩ := hb
  obtain ⟨t3, p3, g3⟩ := hc
  refine ⟨_, hp _ _ _ p1 p2 p3, fun Hs H0s σ H H0 Γ Q cc q => g1 _ _ _ _ _ _ _ cc (Post.next q fun d v H1 H01 _ s r q => ?_)⟩
  cases d with
  | dic ks xs =>
    obtain ⟨p, kvs, rfl, hh, hk, hr⟩ := r
    have q : Post X.K et W (RD X.K) σ H1 H01 Q _ := q.step back_D s
    refine ⟨p, rfl, .inl ⟨kvs, .inl hh⟩, g2 _ _ _ _ _ _ _ (cc.step s) (Post.next q fun k vk H2 H02 _ s2 rk q => g3 _ _ _ _ _ _ _ (cc.step (s.trans s2)) (Post.next (q.step back_D s2) fun z vz H3 H03 _ s3 rz q => ?_))⟩
    have q := q.step back_D s3
    cases hj : keyD k with
    | none => rw [hj] at q; exact q.elim
    | some j =>
      rw [hj] at q
      have q : Post X.K et W (RD X.K) σ H3 H03 Q (.ok ((dVal ks xs j).getD z)) := q
      have ek := rep_key rk hj
      subst ek
      refine ⟨valV kvs j, DGet.k (s3.big _ _ (s2.big _ _ hh)), ?_⟩
      have st := s2.trans s3
      rcases val_rep (K := X.K) (H := H03) j hk (hr.same st.small) with ⟨h1, h2⟩ | ⟨w, d, h1, h2, h3⟩
      · rw [h1]
        rw [h2] at q
        exact q _ _ _ (Step.refl s3.sub) rz
      · rw [h1]
        rw [h2] at q
        exact q _ _ _ (Step.refl s3.sub) h3
  | _ => exact q.elim
theorem d_dget (hp : ∀ t1 t2, PE X a t1 → PE X b t2 → PE X e (tDGet t1 t2)) (ha : DO X et ce W a ma) (hb : DE X et ce W b mb) : DE X et ce W e (eDGet ma mb) := by
  obtain ⟨t1, p1, g1⟩ := ha
  obtain ⟨t2, p2, g2⟩ := hb
  refine ⟨_, hp _ _ p1 p2, fun Hs H0s σ H H0 Γ Q cc q => g1 _ _ _ _ _ _ _ cc (Post.next q fun d v H1 H01 _ s r q => ?_)⟩
  cases d with
  | dic ks xs =>
    obtain ⟨p, kvs, rfl, hh, hk, hr⟩ := r
    have q : Post X.K et W (RD X.K) σ H1 H01 Q _ := q.step back_D s
    refine g2 _ _ _ _ _ _ _ (cc.step s) (Post.next q fun k vk H2 H02 _ s2 rk q => ?_)
    have q := q.step back_D s2
    cases hj : keyD k with
    | none => rw [hj] at q; exact q.elim
    | some j =>
      rw [hj] at q
      have q : Post X.K et W (RD X.K) σ H2 H02 Q (match dVal ks xs j with | some x => .ok x | none => .stuck) := q
      have ek := rep_key rk hj
      subst ek
      rcases val_rep (K := X.K) (H := H02) j hk (hr.same s2.small) with ⟨h1, h2⟩ | ⟨w, d, h1, h2, h3⟩
      · rw [h2] at q; exact q.elim
      · rw [h2] at q
        refine ⟨p, w, rfl, ?_, q _ _ _ (Step.refl s2.sub) h3⟩
        rw [← h1]
        exact DGet.k (s2.big _ _ hh)
  | _ => exact q.elim
/-- d[k] = e, d a dict that nothing else holds -/
def mPutD (i : Nat) (mk m : MD) (Γ : En) : Out := match Γ[i]? with
  | some (.ownD ks xs) => mTo (m Γ) Γ fun d => mTo (mk Γ) Γ fun k => match keyD k with
    | some j => if ks.length < 1000000 then .nx (Γ.set i (.ownD (dPut ks xs j d).1 (dPut ks xs j d).2)) else .stuck
    | none => .stuck
  | _ => .stuck
theorem ds_putD {i : Nat} {mk : MD} {ek : Expr} (hp : ∀ te tk, PE X e te → PE X ek tk → PS X st (sDPut (tVar i) tk te)) (hk : DE X et ce W ek mk) (h : DE X et ce W e m) : DS X et ce W st (mPutD i mk m) := by
  obtain ⟨t, p, ge⟩ := h
  obtain ⟨tk, pk, gk⟩ := hk
  refine ⟨_, hp t tk p pk, fun Hs H0s σ H H0 Γ E c q => ?_⟩
  unfold mPutD at q
  split at q
  · rename_i ks xs e
    have z := c.at_ i _ e
    match hv : σ[i]?, z with
    | some (some v), ⟨p, kvs, ev, hs, hp', h0, ek, r⟩ =>
      subst ev
      refine ge _ _ _ _ _ _ _ c (PostS.to c q fun d v H' G _ s rv q => ⟨_, hv, gk _ _ _ _ _ _ _ (c.step s) (PostS.to (c.step s) (q.up s.small) fun k vk H2 G2 _ s2 rk q => ?_)⟩)
      have st := s.trans s2
      have c' := c.step st
      cases hj : keyD k with
      | none => rw [hj] at q; exact q.elim
      | some j =>
        rw [hj] at q
        dsimp only at q
        split at q
        · rename_i hl
          have ej := rep_key rk hj
          subst ej
          have hlen : kvs.length < sizeLine := by
            have := congrArg List.length ek
            rw [List.length_map] at this
            rw [sizeLine_eq]
            omega
          obtain ⟨n1, n2⟩ := put_rep (k := j) ek (r.same st.small) (rv.same s2.small)
          refine ⟨p, _, rfl, DPut.k (st.big _ _ hp') hlen, ?_⟩
          exact q _ _ G2 (c'.write e rfl hv hs ⟨p, putK kvs j v, rfl, hs, upd_same, st.apart _ _ hp' h0, n1, n2⟩) s2.small
        · exact q.elim
  · exact q.elim
end
/-! ### max and sorted -/
def intsK : List Key → Option (List Int)
  | [] => some []
  | .inl i :: r => (intsK r).map (i :: ·)
  | .inr _ :: _ => none
theorem intsK_eq : ∀ {ks : List Key} {is : List Int}, intsK ks = some is → ks = is.map Sum.inl
  | [], _, h => by cases h; rfl
  | .inl i :: r, is, h => by
    obtain ⟨js, h1, h2⟩ := Option.map_eq_some_iff.mp h
    subst h2
    rw [intsK_eq h1]; rfl
  | .inr _ :: _, _, h => by cases h
def topI : List Int → Int
  | [] => 0
  | [i] => i
  | i :: j :: r => if topI (j :: r) ≤ i then i else topI (j :: r)
theorem topI_mem : ∀ {is : List Int}, is ≠ [] → topI is ∈ is
  | [], h => absurd rfl h
  | [i], _ => List.mem_singleton.mpr rfl
  | i :: j :: r, _ => by
    have ih := topI_mem (is := j :: r) (List.cons_ne_nil _ _)
    unfold topI
    split
    · exact List.mem_cons_self
    · exact List.mem_cons_of_mem _ ih
theorem topI_le : ∀ {is : List Int}, ∀ j ∈ is, j ≤ topI is
  | [], j, h => by cases h
  | [i], j, h => by rw [List.mem_singleton.mp h]; exact Int.le_refl _
  | i :: k :: r, j, h => by
    have ih := topI_le (is := k :: r)
    have hd : topI (i :: k :: r) = if topI (k :: r) ≤ i then i else topI (k :: r) := rfl
    rw [hd]
    rcases List.mem_cons.mp h with rfl | h
    · split <;> omega
    · have := ih j h
      split <;> omega
def gMaxD : D → D → Option Giv
  | .dic ks _, z => match intsK ks with
    | some is => some (.val (if is = [] then z else .int (topI is)))
    | none => none
  | _, _ => none
def downI (is : List Int) : List Int := is.mergeSort fun a b => decide (b ≤ a)
theorem downI_eq {is ys : List Int} (h : ys.Perm is) (hp : ys.Pairwise (· ≥ ·)) : ys = downI is := by
  have h1 := List.pairwise_mergeSort (le := fun a b : Int => decide (b ≤ a)) (fun a b c x y => by simp at *; omega) (fun a b => by simp; omega) is
  refine List.Perm.eq_of_pairwise (le := fun a b : Int => b ≤ a) (fun a b _ _ x y => Int.le_antisymm y x) hp ?_ (h.trans (List.mergeSort_perm _ _).symm)
  exact h1.imp fun h => by simpa using h
def gSortD : D → Option Giv
  | .dic ks _ => match intsK ks with
    | some is => if is.length < 64 then some (.newL ((downI is).map .int)) else none
    | none => none
  | _ => none
section
variable {X : Cx} {et : ET} {ce : Caught} {W : WX} {e a z : Expr} {ma mz : MD} {k1 : Str} {kp : Pos}
theorem d_maxD (hp : ∀ t tk, PA X [a] t → PK X [⟨some k1, z, kp⟩] tk → PE X e (tCKw rMaxDD t tk)) (ha : DO X et ce W a ma) (hz : DE X et ce W z mz) (hst : starEach [a] X.env = (false, eval a X.env) :: starEach [] X.env := by rfl) :
    DE X et ce W e (fun Γ => (ma Γ).bind fun x => (mz Γ).bind fun y => toR (gMaxD x y)) := by
  obtain ⟨t1, p1, g1⟩ := ha
  obtain ⟨t2, p2, g2⟩ := hz
  refine ⟨_, hp _ _ (pa_cons p1 pa_nil hst) (pk_cons p2 pk_nil), fun Hs H0s σ H H0 Γ Q cc q => g1 _ _ _ _ _ _ _ cc (Post.next q fun d v H1 H01 _ s r q => ?_)⟩
  refine g2 _ _ _ _ _ _ _ (cc.step s) (Post.next (q.step back_D s) fun y vy H2 H02 _ s2 ry q => ?_)
  have q := asked (σ := σ) s2.sub (q.step back_D s2)
  cases d with
  | dic ks xs =>
    obtain ⟨p, kvs, rfl, hh, hk, hr⟩ := r
    unfold gMaxD at q
    dsimp only at q
    cases hi : intsK ks with
    | none => rw [hi] at q; exact q.elim
    | some is =>
      rw [hi] at q
      refine ⟨p, kvs, is, vy, rfl, rfl, s2.big _ _ hh, hk.trans (intsK_eq hi), fun h0 => ?_, fun h0 m h1 h2 => ?_⟩
      · dsimp only at q
        rw [if_pos h0] at q
        exact q _ ry
      · dsimp only at q
        rw [if_neg h0] at q
        have hm : m = topI is := Int.le_antisymm (topI_le m h1) (h2 _ (topI_mem h0))
        rw [hm]
        exact q _ (.int _)
  | _ => exact q.elim
theorem d_sortD (hp : ∀ t tk, PA X [a] t → PK X [⟨some k1, z, kp⟩] tk → PE X e (tCKw rSortedDR t tk)) (ha : DO X et ce W a ma) (hz : DE X et ce W z (fun _ => .ok (.bl true))) (hst : starEach [a] X.env = (false, eval a X.env) :: starEach [] X.env := by rfl) :
    DE X et ce W e (fun Γ => (ma Γ).bind fun x => toR (gSortD x)) := by
  obtain ⟨t1, p1, g1⟩ := ha
  obtain ⟨t2, p2, g2⟩ := hz
  refine ⟨_, hp _ _ (pa_cons p1 pa_nil hst) (pk_cons p2 pk_nil), fun Hs H0s σ H H0 Γ Q cc q => g1 _ _ _ _ _ _ _ cc (Post.next q fun d v H1 H01 _ s r q => ?_)⟩
  refine g2 _ _ _ _ _ _ _ (cc.step s) ?_
  intro vy H2 H02 s2 ry
  cases (show Rep X.K H02 vy (.bl true) from ry)
  have q := asked (σ := σ) s2.sub ((q.step back_D s).step back_D s2)
  cases d with
  | dic ks xs =>
    obtain ⟨p, kvs, rfl, hh, hk, hr⟩ := r
    unfold gSortD at q
    dsimp only at q
    cases hi : intsK ks with
    | none => rw [hi] at q; exact q.elim
    | some is =>
      rw [hi] at q
      dsimp only at q
      split at q
      · rename_i hl
        refine ⟨p, kvs, is, rfl, rfl, .inl (s2.big _ _ hh), hk.trans (intsK_eq hi), hl, fun ys l hp hw hn => ?_⟩
        rw [downI_eq hp hw]
        have rr : RepAll X.K H02 ((downI is).map V.int) ((downI is).map .int) := RepAll.ints _
        exact q l _ hn rr
      · exact q.elim
  | _ => exact q.elim
end
end DL

/-! [f, g][i](e, ..): a call of one of two defs -/
namespace DL
open PySem L2 PySem.Spec PyProof.Rows GL
section
variable {X : Cx} {et : ET} {ce : Caught} {W : WX}
def tDoorW (C : Addr → Sp → Prop) (W : WX) (te : TE) (t : TA) : TE := fun σ H Q => te σ H fun x H1 => ∃ f sp, x = .ref f ∧ C f sp ∧ t σ H1 fun vs H2 => sp vs H2 Q fun c d H => W c d σ H
def CallG (X : Cx) (f : Addr) (sp : Sp) : Prop := PySem.W.keepIn X.K (.ref f) = true ∧ ∃ (k : Nat) (fd : FuncData) (ps : List Str), FnG X.prog X.w X.K X.mg X.base (L2.CX X.prog X.w) k f fd ps sp ∧ Room k X.A ∧ Binds X.K fd ps []
theorem pe_doorG {C : Addr → Sp → Prop} {o i e : Expr} {es : List Expr} {te : TE} {t : TA} {p pos : Pos} (he : PE X (.Subscript o i p) te) (hc : ∀ f sp, C f sp → CallG X f sp) (quiet : Quiet X.A) (tk : Takes X W) (ha : PA X (e :: es) t)
    (hs : starEach (e :: es) X.env = (false, eval e X.env) :: starEach es X.env := by rfl) (hpl : (backTo pos (starEach es X.env)).any (·.1) = false := by rfl) : PE X (.Call (.Subscript o i p) (e :: es) [] pos) (tDoorW C W te t) := by
  refine ⟨fun pins s σ H Q I h => wpAny_Call_Sub (thn (he.run pins s σ H _ I h) ?_)⟩
  rintro v s0 ⟨x, H0, I0, r0, f, sp, rfl, c, q0⟩
  obtain rfl : v = Value.ref f := r0
  obtain ⟨hk, k, fd, ps, F, hr, hb⟩ := hc f sp c
  refine PySem.W.callWith_K (h₀ := X.base) I0.ok.mod.kin hk ?_ hs hpl
  refine thn (ha.run pos pins s0 σ H0 _ I0 q0) ?_
  rintro us s1 ⟨vs, H1, I1, r, q⟩
  exact ⟨I1.kIn, runGS F quiet hr hb tk I1 r q⟩
def eDoor (M1 M2 : List D → Res Slot) (mi : MD) (mas : ML) : MD := fun Γ => (mi Γ).bind fun d => match d with
  | .int 0 => (mas Γ).bind fun ds => (M1 ds).bind slotD
  | .int 1 => (mas Γ).bind fun ds => (M2 ds).bind slotD
  | _ => .stuck
/-- the two that stand in the list -/
def Two (f g : Addr) (s1 s2 : Sp) : Addr → Sp → Prop := fun fa sp => (fa = f ∧ sp = s1) ∨ (fa = g ∧ sp = s2)
theorem d_door {f g : Addr} {n : Nat} {M1 M2 : List D → Res Slot} {e i : Expr} {es : List Expr} {mi : MD} {mas : ML}
    (hp : ∀ ti t, PE X i ti → PA X es t → PE X e (tDoorW (Two f g (spD X.K et n M1) (spD X.K et n M2)) W (tOp (rIxL X.K) (tLst (tCons (tC (.ref f)) (tCons (tC (.ref g)) tNil))) ti) t)) (hi : DE X et ce W i mi) (ha : DAn X et ce W es n mas) :
    DE X et ce W e (eDoor M1 M2 mi mas) := by
  obtain ⟨ti, pi, gi⟩ := hi
  obtain ⟨⟨t, p, ga⟩, hn⟩ := ha
  refine ⟨_, hp ti t pi p, fun Hs H0s σ H H0 Γ Q c q => ?_⟩
  refine ⟨by rw [sizeLine_eq]; simp, fun p0 hp0 => ?_⟩
  have s0 : Step H H0 (upd H p0 (.lst [.ref f, .ref g])) H0 := Step.own c.sub hp0
  refine gi _ _ _ _ _ _ _ (c.step s0) (Post.next (q.step back_D s0) fun d v H1 H01 _ s1 r q => ?_)
  have hl : SqL X.K H1 p0 [.ref f, .ref g] := SqL.of (s1.big _ _ upd_same)
  match d, r, q with
  | .int 0, r, q =>
    cases (show Rep X.K H01 v (.int 0) from r)
    exact ⟨p0, _, 0, .ref f, rfl, rfl, hl, rfl, f, _, rfl, .inl ⟨rfl, rfl⟩, good_call (M := M1) ga hn _ _ _ _ _ _ _ (c.step (s0.trans s1)) (q.step back_D s1)⟩
  | .int 1, r, q =>
    cases (show Rep X.K H01 v (.int 1) from r)
    exact ⟨p0, _, 1, .ref g, rfl, rfl, hl, rfl, g, _, rfl, .inr ⟨rfl, rfl⟩, good_call (M := M2) ga hn _ _ _ _ _ _ _ (c.step (s0.trans s1)) (q.step back_D s1)⟩
  | .int (.ofNat (n + 2)), _, q => exact q.elim
  | .int (.negSucc n), _, q => exact q.elim
  | .non, _, q => exact q.elim
  | .bl _, _, q => exact q.elim
  | .str _, _, q => exact q.elim
  | .tup _, _, q => exact q.elim
  | .lst _, _, q => exact q.elim
  | .scr _, _, q => exact q.elim
  | .dic _ _, _, q => exact q.elim
  | .obj _ _ _, _, q => exact q.elim
end
end DL

/-! defs with *args -/
namespace DL
open PySem L2 PySem.Spec PyProof.Rows GL
/-- M's arguments: n of them, the others in a tuple -/
def starM (n : Nat) (M : List D → Res Slot) (ds : List D) : Res Slot := if n ≤ ds.length ∧ ds.length ≤ 1000 then M (ds.take n ++ [.tup (ds.drop n)]) else .stuck
def spS (K : PySem.W.Frag) (et : ET) (M : List D → Res Slot) : Sp := fun vs H Q E => ∃ H0 ds, Same H0 H ∧ RepAll K H0 vs ds ∧ match M ds with
  | .ok s => ∀ v H' G, Step H H0 H' G → Holds K et none H H' G (some (some v)) s → Q v H'
  | .exc x d => ∀ C fld dd w H' G, et x = some (C, fld) → Step H H0 H' G → G dd = some (.xd [(fld, w)]) → Rep K G w d → E (.ref C) (some dd) H'
  | .stuck => False
structure FnGS (P : Program) (w : World) (K : PySem.W.Frag) (mg : Str → Option Value) (base : Heap) (cx : CXT) (k : Nat) (f : Addr) (sp : Sp) : Prop where
  go : ∀ {A : Around} {outer : List PySem.Env} {s : Shared} {H : Hp} {us : List Value} {vs : List V} {Q : VK} {E : XK},
    Quiet A → Room k A → Env0 P w K mg base A outer s H → Vals vs us → sp vs H Q E → codeAny (model P w) A (.call (.ref f) ⟨us, []⟩) (CR cx outer P w H s Q E) s
structure DfS (K : PySem.W.Frag) (mg : Str → Option Value) (x : Str) (st : Stmt) (ps : List Str) (pv : Str) (f : Addr) (fd : FuncData) : Prop where
  F : Fun K x x st f fd
  g : mg x = some (.ref f)
  bs : ∀ us rest : List Value, us.length = ps.length → bindArgs fd ⟨us ++ rest, []⟩ = (newTuple rest >>= fun t => pure (ps.zip us ++ [(pv, t)]))
theorem bind_star0 {B : List Value → Sem (List (Str × Value))} {pv : Str} (h0 : B [] = (newTuple [] >>= fun t => pure [(pv, t)])) (h1 : ∀ r rs, B (r :: rs) = (newTuple (r :: rs) >>= fun t => pure [(pv, t)])) :
    ∀ us rest : List Value, us.length = ([] : List Str).length → B (us ++ rest) = (newTuple rest >>= fun t => pure (([] : List Str).zip us ++ [(pv, t)]))
  | [], [], _ => h0
  | [], r :: rs, _ => h1 r rs
theorem fn_dataS {P : Program} {w : World} {K : PySem.W.Frag} {mg : Str → Option Value} {base : Heap} {k : Nat} {f : Addr} {fd : FuncData} {ps N : List Str} {pv x qual : Str} {st : Stmt} {et : ET} {mb : En → Out}
    (F : Fun K x qual st f fd) (S : FnScope N (ps ++ [pv]) (defScope st))
    (bs : ∀ us rest : List Value, us.length = ps.length → bindArgs fd ⟨us ++ rest, []⟩ = (newTuple rest >>= fun t => pure (ps.zip us ++ [(pv, t)])))
    (body : ∀ (cdv : Value) (A : Around) (outer : List PySem.Env) (s : Shared) (H : Hp) (E : XK), Quiet A → Room k (A.deeper (envOfC qual (defScope st) s.heap.objs.size f cdv)) →
      DSs (cxOf (L2.CX P w) P w K mg base N qual (defScope st) f cdv A outer s H E) et none (fun c d _ H => E c d H) (defBody st) mb) :
    FnGS P w K mg base (L2.CX P w) (k + 1) f (spS K et (starM ps.length (mBody N.length mb))) := by
  obtain ⟨oc, od, kV, doc, pm, an, cdv, ct, osl, rfl, lk, hcd⟩ := F.ex
  constructor
  intro A outer s H us vs Q E quiet room env rv asked
  obtain ⟨H0, ds, sub, rep, q⟩ := asked
  unfold starM at q
  by_cases hlen : ps.length ≤ ds.length ∧ ds.length ≤ 1000
  · rw [if_pos hlen] at q
    have hvd := rep.len
    have hsplit : vs = vs.take ps.length ++ vs.drop ps.length := (List.take_append_drop _ _).symm
    rw [hsplit] at rv
    obtain ⟨ua, ub, rfl, ra, rb⟩ := StX.vals_split rv
    have free : H s.heap.objs.size = none := env.hok.fresh (Nat.le_refl _)
    have la : ua.length = ps.length := by rw [← ra.length, List.length_take]; omega
    have lb : ub.length ≤ sizeLine := by rw [← rb.length, List.length_drop, sizeLine_eq]; omega
    have lz : (vs.drop ps.length).length ≤ sizeLine := by rw [List.length_drop, sizeLine_eq]; omega
    refine StX.run_bnd lk hcd S room env (G := fun xs H2 => ∃ p, H p = none ∧ xs = vs.take ps.length ++ [V.ref p] ∧ H2 = upd H p (.tup (vs.drop ps.length))) (fun A' X' Q' go => ?_) fun s2 H2 xs ⟨p, hp, ex, eH⟩ room' => ?_
    · rw [bs ua ub la]
      refine wpAny_bind (wpAny_newTuple (wpAny_pure ?_) lb)
      have un := StX.un_laid (fs := frs outer) (s := s) (o := ({ cls := .type "tuple", data := .seq ub.toArray } : Obj)) (u := .tup (vs.drop ps.length)) free
      have laid := StX.env0_laid (o := ({ cls := .type "tuple", data := .seq ub.toArray } : Obj)) (u := .tup (vs.drop ps.length)) env ⟨lz, ub, rb, ⟨_, Heap.get?_push_size _ rfl, rfl, _, rfl⟩⟩
      have done := go _ _ (vs.take ps.length ++ [V.ref s.heap.objs.size]) (ua ++ [Value.ref s.heap.objs.size]) laid un rfl
        (fun e s' => StX.cxUp outer s H _ _ E e s' un (fun b o h => Heap.get?_push_of_some _ h) rfl) (ra.append (.cons rfl .nil)) (by rw [List.length_append, List.length_append, List.length_take]; simp only [List.length_cons, List.length_nil]; omega) ⟨_, free, rfl, rfl⟩
      rw [List.zip_append la.symm] at done
      exact done
    · subst ex eH
      obtain ⟨t, pt, g⟩ := body cdv A outer s2 (upd H p (.tup (vs.drop ps.length))) E quiet room'
      have p0 := none_sub sub hp
      have s0 : Same H0 (upd H0 p (.tup (vs.drop ps.length))) := same_upd p0
      have rep' : RepAll K (upd H0 p (.tup (vs.drop ps.length))) (vs.take ps.length ++ [V.ref p]) (ds.take ps.length ++ [.tup (ds.drop ps.length)]) :=
        ((rep.take ps.length).same s0).app (.cons (.tup (.inl (.inl upd_same)) ((rep.drop ps.length).same s0)) .nil)
      refine ⟨t, pt, g _ _ _ _ _ _ _ (start_stn (same_both sub) rep') ?_⟩
      have new := Step.new (o := .tup (vs.drop ps.length)) sub hp
      unfold mBody at q
      revert q
      cases mb (startD N.length (ds.take ps.length ++ [.tup (ds.drop ps.length)])) with
      | nx Γ => exact fun q σ' H' G c _ => q .non H' G (new.trans c.st) .non
      | rt s => exact fun q v H' G st hv => q v H' G (new.trans st) (by
          cases s with
          | un => trivial
          | sh d => exact hv
          | er x d => obtain ⟨_, _, _, _, _, h, _⟩ := hv; cases h
          | own ys =>
            obtain ⟨p', ws, e1, e2, e3⟩ := hv
            exact ⟨p', ws, e1, by
              by_cases hh : p' = p
              · subst hh; exact hp
              · rw [upd_ne hh] at e2; exact e2, e3⟩
          | ownD ks ys =>
            obtain ⟨p', ws, e1, e2, e3⟩ := hv
            exact ⟨p', ws, e1, by
              by_cases hh : p' = p
              · subst hh; exact hp
              · rw [upd_ne hh] at e2; exact e2, e3⟩)
      | exc x d Γ => exact fun q C fld dd w σ' H' G hx c _ hd r => q C fld dd w H' G hx (new.trans c.st) hd r
      | bk Γ => exact fun q => q.elim
      | ct Γ => exact fun q => q.elim
      | stuck => exact fun q => q.elim
  · rw [if_neg hlen] at q
    exact q.elim
section
variable {X : Cx} {et : ET} {ce : Caught} {W : WX} {e : Expr} {es : List Expr} {k : Nat} {f : Addr} {sp : Sp}
theorem runGSS {pins : List (Addr × Obj)} {σ : L2.St} {H : Hp} {s : Shared} {Q : VK} {us : List Value} {vs : List V} (F : FnGS X.prog X.w X.K X.mg X.base (L2.CX X.prog X.w) k f sp) (quiet : Quiet X.A) (hr : Room k X.A) (tk : Takes X W)
    (I : Inv X pins σ H s) (r : Vals vs us) (h : sp vs H Q fun c d H => W c d σ H) : wpAny (model X.prog X.w) X.A (call (.ref f) us) (EP X pins σ Q) X.xe s := by
  refine wpAny_call (codeAny_mono (F.go quiet hr I.env0 r h) fun res s' hq => ?_)
  cases res with
  | error e => exact passAt tk σ _ _ _ _ _ I hq
  | ok fl =>
    cases fl with
    | ret u => exact I.after hq
    | next => exact (hq : False).elim
    | brk => exact (hq : False).elim
    | cont => exact (hq : False).elim
theorem pe_callWS {x : Str} {p pos : Pos} {t : TA} (F : FnGS X.prog X.w X.K X.mg X.base (L2.CX X.prog X.w) k f sp)
    (quiet : Quiet X.A) (hr : Room k X.A) (hg : Gl X x) (hm : X.mg x = some (.ref f)) (hk : PySem.W.keepIn X.K (.ref f) = true) (tk : Takes X W) (ha : PA X (e :: es) t)
    (hdb : (x == ("__debug__" : Str)) = false := by decide)
    (he : starEach (e :: es) X.env = (false, eval e X.env) :: starEach es X.env := by rfl)
    (hpl : (backTo pos (starEach es X.env)).any (·.1) = false := by rfl) : PE X (.Call (.Name x p) (e :: es) [] pos) (tCallW sp W t) := by
  constructor
  intro pins s σ H Q I h
  apply wpAny_Call_Name_kw
  apply ld_glob I hg hm _ hdb
  refine PySem.W.callWith_K (h₀ := X.base) I.ok.mod.kin hk ?_ he hpl
  refine thn (ha.run pos pins s σ H _ I h) ?_
  rintro us s1 ⟨vs, H1, I1, r, q⟩
  exact ⟨I1.kIn, runGSS F quiet hr tk I1 r q⟩
theorem pe_callWS0 {x : Str} {p pos : Pos} (F : FnGS X.prog X.w X.K X.mg X.base (L2.CX X.prog X.w) k f sp)
    (quiet : Quiet X.A) (hr : Room k X.A) (hg : Gl X x) (hm : X.mg x = some (.ref f)) (hk : PySem.W.keepIn X.K (.ref f) = true) (tk : Takes X W)
    (hdb : (x == ("__debug__" : Str)) = false := by decide) : PE X (.Call (.Name x p) [] [] pos) (tCallW sp W tNil) := by
  constructor
  intro pins s σ H Q I h
  apply wpAny_Call_Name_kw
  apply ld_glob I hg hm _ hdb
  exact PySem.W.callWith_K0 I.kIn hk (runGSS (us := []) F quiet hr tk I .nil h)
theorem good_callS {M : List D → Res Slot} {t : TA} {mas : En → Res (List D)} (ga : Good X.K et ce W (RA X.K) t mas) :
    Good X.K et ce W (RD X.K) (tCallW (spS X.K et M) W t) (fun Γ => (mas Γ).bind fun ds => (M ds).bind slotD) := by
  intro Hs H0s σ H H0 Γ Q c q
  refine ga _ _ _ _ _ _ _ c (Post.next q fun ds vs H1 G1 he s r q => ?_)
  have r : RepAll X.K G1 vs ds := r
  refine ⟨G1, ds, s.sub, r, ?_⟩
  have q := q.step back_D s
  cases hM : M ds with
  | stuck => rw [hM] at q; exact q
  | exc x d => rw [hM] at q; exact q
  | ok sl =>
    rw [hM] at q
    intro v H' G st hv
    cases sl with
    | sh d => exact q v H' G st hv
    | own xs =>
      obtain ⟨p, ws, ev, hn, hp, h0, rr⟩ := hv
      exact q v H' _ (Step.share s.sub st hn hp h0) (by subst ev; exact .lst upd_same (rr.same (same_upd' (Same.refl _) h0)))
    | ownD ks xs =>
      obtain ⟨p, ws, ev, hn, hp, h0, hk, rr⟩ := hv
      exact q v H' _ (Step.share s.sub st hn hp h0) (by subst ev; exact .dic upd_same hk (rr.same (same_upd' (Same.refl _) h0)))
    | un => exact (q : False).elim
    | er x d => exact (q : False).elim
theorem d_callS {M : List D → Res Slot} {mas : En → Res (List D)} (hp : ∀ t, PA X es t → PE X e (tCallW (spS X.K et M) W t)) (ha : DA X et ce W es mas) : DE X et ce W e (fun Γ => (mas Γ).bind fun ds => (M ds).bind slotD) := by
  obtain ⟨t, p, g⟩ := ha
  exact ⟨_, hp t p, good_callS g⟩
theorem d_callS0 {M : List D → Res Slot} (hp : PE X e (tCallW (spS X.K et M) W tNil)) : DE X et ce W e (fun Γ => (M []).bind slotD) := by
  refine ⟨_, hp, fun Hs H0s σ H H0 Γ Q c q => ?_⟩
  exact good_callS (X := X) (ce := ce) (M := M) (t := tNil) (mas := fun _ => .ok []) (fun Hs H0s σ H H0 Γ Q c q => q [] H H0 (Step.refl c.sub) .nil) _ _ _ _ _ _ _ c q
end
end DL

/-! walking over a list or a tuple -/
namespace DL
open PySem L2 PySem.Spec PyProof.Rows GL
def asLT : D → Res (List D)
  | .lst xs => .ok xs
  | .tup xs => .ok xs
  | _ => .stuck
@[simp] theorem asLT_lst (xs : List D) : asLT (.lst xs) = .ok xs := rfl
@[simp] theorem asLT_tup (xs : List D) : asLT (.tup xs) = .ok xs := rfl
def iSeq (i : Nat) : ML := fun Γ => (getS Γ i).bind asLT
@[simp] theorem iSeq_def (i : Nat) (Γ : En) : iSeq i Γ = (getS Γ i).bind asLT := rfl
section
variable {X : Cx} {et : ET} {ce : Caught} {W : WX} {tg e : Expr} {w1 w2 : TI}
theorem pi_or (h1 : PI X tg e w1) (h2 : PI X tg e w2) : PI X tg e (fun σ H R => w1 σ H R ∨ w2 σ H R) := ⟨fun pins s σ H R I h => h.elim (h1.run pins s σ H R I) (h2.run pins s σ H R I)⟩
theorem di_seq {i : Nat} (p : PE X e (tVar i)) : DI X et ce W tg e (iSeq i) := by
  refine ⟨_, pi_or (pi_list p) (pi_tup p), fun Hs H0s σ H H0 Γ Q c q => ?_⟩
  unfold iSeq getS at q
  split at q
  · rename_i d hd
    have z := c.at_ i _ hd
    match hv : σ[i]?, z with
    | some (some v), r =>
      have r : Rep X.K H0 v d := r
      cases d with
      | lst xs => cases r with | lst ha ra => exact .inl ⟨_, hv, _, rfl, ⟨_, SqL.of (c.sub _ _ ha)⟩, q _ H H0 (Step.refl c.sub) (walks_lst ha ra)⟩
      | tup xs => cases r with | tup ha ra => exact .inr ⟨_, hv, _, rfl, ⟨_, seqT_same c.sub ha⟩, q _ H H0 (Step.refl c.sub) (walks_tup ha ra)⟩
      | _ => exact (q : False).elim
  · exact (q : False).elim
end
end DL

/-! a list taken apart -/
namespace DL
open PySem L2 PySem.Spec PyProof.Rows GL
def bOfLst (fs : List (D → En → Option En)) (d : D) (Γ : En) : Option En := match d with
  | .lst ds => bTup fs ds Γ
  | _ => none
@[simp] theorem bOfLst_eq (fs : List (D → En → Option En)) (xs : List D) (Γ : En) : bOfLst fs (.lst xs) Γ = bTup fs xs Γ := rfl
section
variable {et : ET} {ce : Caught}
theorem good_lst {K : PySem.W.Frag} {vs : List Nat} {g : TGs} {fs : List (D → En → Option En)} {n : Nat} (h : GoodGL K et ce vs g fs) (hn : n = fs.length) : GoodG K et ce vs (gLst K n g) (bOfLst fs) := by
  refine ⟨fun Hs H0s σ H H0 Γ x d Γ' Q c r e k => ?_⟩
  cases r with
  | lst hs ra =>
    have e : bTup fs _ Γ = some Γ' := e
    exact ⟨_, _, rfl, SqL.of (c.sub _ _ hs), by rw [ra.len, GoodGL.len (K := K) e, hn], h.go c ra e k⟩
  | _ => cases e
end
end DL
namespace DL
open PySem L2 PySem.Spec PyProof.Rows GL
def fIf (t : En → Res Bool) (a b : ML) : ML := fun Γ => (t Γ).bind fun k => if k = true then a Γ else b Γ
@[simp] theorem fIf_def (t : En → Res Bool) (a b : ML) (Γ : En) : fIf t a b Γ = (t Γ).bind fun k => if k = true then a Γ else b Γ := rfl
section
variable {X : Cx} {et : ET} {ce : Caught} {W : WX} {c a b : Expr} {mt : En → Res Bool} {ma mb : ML} {pos : Pos}
theorem d_ifF (hc : DT X et ce W c mt) (ha : DF X et ce W a ma) (hb : DF X et ce W b mb) : DF X et ce W (.IfExp c a b pos) (fIf mt ma mb) := by
  obtain ⟨t, p, g⟩ := hc
  obtain ⟨t1, p1, g1⟩ := ha
  obtain ⟨t2, p2, g2⟩ := hb
  refine ⟨_, pe_ifExp p p1 p2, fun Hs H0s σ H H0 Γ Q c q => ?_⟩
  unfold fIf at q
  refine g _ _ _ _ _ _ _ c (Post.next q fun k k' H1 G _ s r q => ?_)
  cases (r : k' = k)
  cases k with
  | true => rw [if_pos rfl] at q; exact iteT (g1 _ _ _ _ _ _ _ (c.step s) (q.step back_F s))
  | false => rw [if_neg Bool.false_ne_true] at q; exact iteF (g2 _ _ _ _ _ _ _ (c.step s) (q.step back_F s))
end
end DL

/-! sum, max, min, all of a list; tuple of a list -/
namespace DL
open PySem L2 PySem.Spec PyProof.Rows GL
def intsD : List D → Option (List Int)
  | [] => some []
  | .int i :: r => (intsD r).map (i :: ·)
  | _ => none
theorem intsD_eq : ∀ {xs : List D} {ns : List Int}, intsD xs = some ns → xs = ns.map .int
  | [], _, h => by cases h; rfl
  | .int i :: r, ns, h => by
    unfold intsD at h
    cases hr : intsD r with
    | none => rw [hr] at h; cases h
    | some ms => rw [hr] at h; cases h; rw [intsD_eq hr]; rfl
  | .non :: _, _, h | .bl _ :: _, _, h | .str _ :: _, _, h | .tup _ :: _, _, h | .lst _ :: _, _, h | .scr _ :: _, _, h | .dic _ _ :: _, _, h | .obj _ _ _ :: _, _, h => by cases h
@[simp] theorem intsD_map : ∀ (ns : List Int), intsD (ns.map .int) = some ns
  | [] => rfl
  | n :: ns => by simp [intsD, intsD_map ns]
def blsD : List D → Option (List Bool)
  | [] => some []
  | .bl i :: r => (blsD r).map (i :: ·)
  | _ => none
theorem blsD_eq : ∀ {xs : List D} {ns : List Bool}, blsD xs = some ns → xs = ns.map .bl
  | [], _, h => by cases h; rfl
  | .bl i :: r, ns, h => by
    unfold blsD at h
    cases hr : blsD r with
    | none => rw [hr] at h; cases h
    | some ms => rw [hr] at h; cases h; rw [blsD_eq hr]; rfl
  | .non :: _, _, h | .int _ :: _, _, h | .str _ :: _, _, h | .tup _ :: _, _, h | .lst _ :: _, _, h | .scr _ :: _, _, h | .dic _ _ :: _, _, h | .obj _ _ _ :: _, _, h => by cases h
@[simp] theorem blsD_map : ∀ (ns : List Bool), blsD (ns.map .bl) = some ns
  | [] => rfl
  | n :: ns => by simp [blsD, blsD_map ns]
theorem RepAll.ofBls {K : PySem.W.Frag} {H : Hp} : ∀ {vs : List V} {ns : List Bool}, RepAll K H vs (ns.map D.bl) → vs = ns.map V.bl
  | _, [], .nil => rfl
  | _, n :: ns, .cons r t => by cases r; rw [RepAll.ofBls t]; rfl
/-- f of a list of ints -/
def gInts (f : List Int → Option Giv) : D → Option Giv
  | .lst xs => (intsD xs).bind f
  | .scr ns => f ns
  | _ => none
theorem one_ints {K : PySem.W.Frag} {f : List Int → Option Giv} {x : V} {H : Hp} {Q : VK} (h : r1D K (gInts f) x H Q) : ∃ H0 a ns, x = .ref a ∧ SqL K H a (ns.map V.int) ∧ Asked K H H0 Q (f ns) := by
  obtain ⟨H0, d, sub, rd, q⟩ := h
  cases d with
  | lst xs =>
    obtain ⟨a, vs, ev, ha, ra⟩ := rd
    have q : Asked K H H0 Q ((intsD xs).bind f) := q
    cases hi : intsD xs with
    | none => rw [hi] at q; exact q.elim
    | some ns =>
      rw [hi] at q
      have q : Asked K H H0 Q (f ns) := q
      rw [intsD_eq hi] at ra
      rw [ra.ofInts] at ha
      exact ⟨H0, a, ns, ev, SqL.of ha, q⟩
  | scr ns => cases rd with | scr ha => exact ⟨H0, _, ns, rfl, sub.seq ha, q⟩
  | _ => exact q.elim
def maxL : List Int → Int
  | [] => 0
  | a :: r => r.foldl max a
def minL : List Int → Int
  | [] => 0
  | a :: r => r.foldl min a
def gSum : D → Option Giv := gInts fun ns => some (.val (.int ns.sum))
def gMax1 : D → Option Giv := gInts fun ns => giv (0 < ns.length) (.int (maxL ns))
def gMin1 : D → Option Giv := gInts fun ns => giv (0 < ns.length) (.int (minL ns))
theorem foldl_max : ∀ (r : List Int) (a : Int), (r.foldl max a = a ∨ r.foldl max a ∈ r) ∧ a ≤ r.foldl max a ∧ ∀ y ∈ r, y ≤ r.foldl max a
  | [], a => by simp
  | b :: r, a => by
    obtain ⟨h1, h2, h3⟩ := foldl_max r (max a b)
    refine ⟨?_, ?_, ?_⟩
    · rcases h1 with h1 | h1
      · have : max a b = a ∨ max a b = b := by omega
        rcases this with e | e
        · exact .inl (by rw [List.foldl_cons, h1, e])
        · exact .inr (by rw [List.foldl_cons, h1, e]; exact List.mem_cons_self)
      · exact .inr (List.mem_cons_of_mem _ h1)
    · rw [List.foldl_cons]; omega
    · intro y hy
      rw [List.foldl_cons]
      rcases List.mem_cons.mp hy with e | e
      · subst e; omega
      · exact h3 y e
theorem foldl_min : ∀ (r : List Int) (a : Int), (r.foldl min a = a ∨ r.foldl min a ∈ r) ∧ r.foldl min a ≤ a ∧ ∀ y ∈ r, r.foldl min a ≤ y
  | [], a => by simp
  | b :: r, a => by
    obtain ⟨h1, h2, h3⟩ := foldl_min r (min a b)
    refine ⟨?_, ?_, ?_⟩
    · rcases h1 with h1 | h1
      · have : min a b = a ∨ min a b = b := by omega
        rcases this with e | e
        · exact .inl (by rw [List.foldl_cons, h1, e])
        · exact .inr (by rw [List.foldl_cons, h1, e]; exact List.mem_cons_self)
      · exact .inr (List.mem_cons_of_mem _ h1)
    · rw [List.foldl_cons]; omega
    · intro y hy
      rw [List.foldl_cons]
      rcases List.mem_cons.mp hy with e | e
      · subst e; omega
      · exact h3 y e
theorem maxL_spec {ns : List Int} {m : Int} (hm : m ∈ ns) (h : ∀ y, y ∈ ns → y ≤ m) : m = maxL ns := by
  cases ns with
  | nil => cases hm
  | cons a r =>
    obtain ⟨h1, h2, h3⟩ := foldl_max r a
    have e1 : r.foldl max a ≤ m := by
      rcases h1 with e | e
      · rw [e]; exact h a List.mem_cons_self
      · exact h _ (List.mem_cons_of_mem _ e)
    have e2 : m ≤ r.foldl max a := by
      rcases List.mem_cons.mp hm with e | e
      · subst e; exact h2
      · exact h3 m e
    exact Int.le_antisymm e2 e1
theorem minL_spec {ns : List Int} {m : Int} (hm : m ∈ ns) (h : ∀ y, y ∈ ns → m ≤ y) : m = minL ns := by
  cases ns with
  | nil => cases hm
  | cons a r =>
    obtain ⟨h1, h2, h3⟩ := foldl_min r a
    have e1 : m ≤ r.foldl min a := by
      rcases h1 with e | e
      · rw [e]; exact h a List.mem_cons_self
      · exact h _ (List.mem_cons_of_mem _ e)
    have e2 : r.foldl min a ≤ m := by
      rcases List.mem_cons.mp hm with e | e
      · subst e; exact h2
      · exact h3 m e
    exact Int.le_antisymm e1 e2
section
variable {X : Cx}
theorem b_sum (hc : X.calm = true) : CallR X (.builtin "sum") (rc1 (r1D X.K gSum)) := callr_imp (cr_sum hc) fun vs H Q q => by
  obtain ⟨v, ev, q⟩ := q
  obtain ⟨H0, a, ns, e, ha, q2⟩ := one_ints q
  subst ev e
  exact ⟨a, ns, rfl, ha, q2 _ (.int _)⟩
theorem b_max1 (hc : X.calm = true) : CallR X (.builtin "max") (rc1 (r1D X.K gMax1)) := callr_imp (cr_max hc) fun vs H Q q => by
  obtain ⟨v, ev, q⟩ := q
  obtain ⟨H0, a, ns, e, ha, q2⟩ := one_ints q
  subst ev e
  obtain ⟨hn, q⟩ := asked_giv q2
  exact ⟨a, ns, rfl, ha, hn, fun m hm hl => by rw [maxL_spec hm hl]; exact q _ (.int _)⟩
theorem b_min1 (hc : X.calm = true) : CallR X (.builtin "min") (rc1 (r1D X.K gMin1)) := callr_imp (cr_min hc) fun vs H Q q => by
  obtain ⟨v, ev, q⟩ := q
  obtain ⟨H0, a, ns, e, ha, q2⟩ := one_ints q
  subst ev e
  obtain ⟨hn, q⟩ := asked_giv q2
  exact ⟨a, ns, rfl, ha, hn, fun m hm hl => by rw [minL_spec hm hl]; exact q _ (.int _)⟩
def gAll : D → Option Giv
  | .lst xs => (blsD xs).bind fun bs => some (.val (.bl (bs.all id)))
  | _ => none
theorem b_all (hc : X.calm = true) : CallR X (.builtin "all") (rc1 (r1D X.K gAll)) := callr_imp (cr_all hc) fun vs H Q q => by
  obtain ⟨v, ev, H0, d, sub, rd, q⟩ := q
  subst ev
  cases d with
  | lst xs =>
    obtain ⟨a, vs, ev, ha, ra⟩ := rd
    have q : Asked X.K H H0 Q ((blsD xs).bind fun bs => some (.val (.bl (bs.all id)))) := q
    cases hi : blsD xs with
    | none => rw [hi] at q; exact q.elim
    | some ns =>
      rw [hi] at q
      have q : Asked X.K H H0 Q (some (.val (.bl (ns.all id)))) := q
      rw [blsD_eq hi] at ra
      rw [RepAll.ofBls ra] at ha
      subst ev
      exact ⟨a, ns, rfl, SqL.of ha, q _ (.bl _)⟩
  | _ => exact q.elim
/-- tuple(xs) -/
def gTupl : D → Option Giv
  | .lst xs => some (.newT xs)
  | .tup xs => some (.val (.tup xs))
  | .scr ns => some (.newT (ns.map .int))
  | _ => none
theorem b_tuple : CallR X (.type "tuple") (rc1 (r1D X.K gTupl)) := callr_imp call_tuple_of fun vs H Q q => by
  obtain ⟨v, ev, H0, d, sub, rd, q⟩ := q
  subst ev
  cases d with
  | lst xs =>
    obtain ⟨a, vs, ev, ha, ra⟩ := rd
    subst ev
    exact ⟨a, vs, rfl, .inl ⟨SqL.of ha, fun l n => q l _ n ra⟩⟩
  | scr ns => cases rd with | scr ha => exact ⟨_, _, rfl, .inl ⟨sub.seq ha, fun l n => q l _ n (RepAll.ints ns)⟩⟩
  | tup xs => cases rd with | tup ha ra => exact ⟨_, _, rfl, .inr ⟨seqT_same sub ha, q _ (.tup ha ra)⟩⟩
  | _ => exact q.elim
end
end DL

/-! an expression with two readings, of which one isn't stuck: what is asked of a caught error whose class is one of several -/
namespace DL
open PySem L2 PySem.Spec PyProof.Rows GL
def tOr (t u : TE) : TE := fun σ H Q => t σ H Q ∨ u σ H Q
theorem pe_or {X : Cx} {e : Expr} {t u : TE} (h : PE X e t) (g : PE X e u) : PE X e (tOr t u) :=
  ⟨fun pins s σ H Q I q => q.elim (fun q => h.run pins s σ H Q I q) fun q => g.run pins s σ H Q I q⟩
def mEither (m n : MD) : MD := fun Γ => match m Γ with
  | .stuck => n Γ
  | r => r
theorem d_either {X : Cx} {et : ET} {ce : Caught} {W : WX} {e : Expr} {m n : MD} (h : DE X et ce W e m) (g : DE X et ce W e n) : DE X et ce W e (mEither m n) := by
  obtain ⟨t, p, gt⟩ := h
  obtain ⟨u, p2, gu⟩ := g
  refine ⟨tOr t u, pe_or p p2, fun Hs H0s σ H H0 Γ Q c q => ?_⟩
  unfold mEither at q
  cases hm : m Γ with
  | stuck => rw [hm] at q; exact .inr (gu _ _ _ _ _ _ _ c q)
  | ok d => rw [hm] at q; exact .inl (gt _ _ _ _ _ _ _ c (by rw [hm]; exact q))
  | exc x d => rw [hm] at q; exact .inl (gt _ _ _ _ _ _ _ c (by rw [hm]; exact q))
end DL

/-! the program's own constants (a tuple of texts, a dict with texts as keys), zip, isinstance of a caught error with several classes -/
namespace DL
open PySem L2 PySem.Spec PyProof.Rows GL
/-- a tuple of texts that stands in the written part -/
def KonT (K : PySem.W.Frag) (a : Addr) (ss : List Str) : Prop :=
  ∃ (od : Option Addr) (us : List Value) (n : Nat) (sl : Array (Option Value)), K.lookup a = some ⟨.type "tuple", od, .seq us.toArray n, sl⟩ ∧ us.length ≤ 1000 ∧ Vals (ss.map V.str) us
theorem rep_texts {K : PySem.W.Frag} {H : Hp} : ∀ ss : List Str, RepAll K H (ss.map V.str) (ss.map D.str)
  | [] => .nil
  | s :: r => .cons (.str s) (rep_texts r)
theorem rep_kon {K : PySem.W.Frag} {a : Addr} {ss : List Str} (h : KonT K a ss) (H : Hp) : Rep K H (.ref a) (.tup (ss.map D.str)) := by
  obtain ⟨od, us, n, sl, e, l, r⟩ := h
  refine .tup (.inr ⟨_, us.toArray, n, e, rfl, rfl, ?_, ?_⟩) (rep_texts ss)
  · rw [List.size_toArray]; exact line_of (by omega)
  · simpa using r
/-- a dict of the written part: its keys are texts -/
def KonD (K : PySem.W.Frag) (w : World) (a : Addr) (tbl : List (Str × D)) : Prop :=
  ∀ (z : Str) (d : D), tbl.lookup z = some d → ∃ v, KDct K w a z v ∧ ∀ H, Rep K H v d
theorem konD_nil {K : PySem.W.Frag} {w : World} {a : Addr} : KonD K w a [] := fun z d h => by cases h
theorem konD_cons {K : PySem.W.Frag} {w : World} {a : Addr} {z : Str} {d : D} {v : V} {u : Value} {ks : List Str} {r : List (Str × D)} (hd : He.dicW K a = some (He.keysIn w.params ks))
    (hn : PySem.W.nsIn K a z = some (some u)) (rv : RelV v u) (rd : ∀ H, Rep K H v d) (hr : KonD K w a r) : KonD K w a ((z, d) :: r) := fun y e h => by
  by_cases hy : y = z
  · subst hy
    rw [List.lookup_cons_self] at h
    cases h
    obtain ⟨es, n, k⟩ := He.dicW_ok hd
    exact ⟨v, ⟨es, n, u, k.1, k.2, hn, rv⟩, rd⟩
  · rw [List.lookup_cons, show (y == z) = false from beq_false_of_ne hy] at h
    exact hr y e h
/-- T[k] -/
def eKIx (tbl : List (Str × D)) (m : MD) : MD := fun Γ => (m Γ).bind fun d => match d with
  | .str z => (match tbl.lookup z with
    | some e => .ok e
    | none => .stuck)
  | _ => .stuck
section
variable {X : Cx} {et : ET} {ce : Caught} {W : WX} {a b e : Expr} {m : MD} {pos : Pos}
theorem d_kix {p : Addr} {tbl : List (Str × D)} (ha : PE X a (tC (.ref p))) (hk : KonD X.K X.w p tbl) (hb : DE X et ce W b m) (hs : PlainIx b) : DE X et ce W (.Subscript a b pos) (eKIx tbl m) := by
  obtain ⟨t, pb, g⟩ := hb
  refine ⟨_, pe_ix ix_kdict ha pb hs, fun Hs H0s σ H H0 Γ Q c q => ?_⟩
  show t σ H _
  refine g _ _ _ _ _ _ _ c (Post.next q fun d v H1 G _ s r q => ?_)
  cases d with
  | str z =>
    cases (show v = V.str z by cases r; rfl)
    dsimp only at q
    cases hl : tbl.lookup z with
    | none => rw [hl] at q; exact (q : False).elim
    | some x =>
      rw [hl] at q
      obtain ⟨u, k, ru⟩ := hk z x hl
      exact ⟨p, z, u, rfl, rfl, k, q u H1 G s (ru _)⟩
  | _ => exact (q : False).elim
/-! ### zip -/
def zipD : List D → List D → List D
  | x :: xs, y :: ys => .tup [x, y] :: zipD xs ys
  | _, _ => []
theorem zipD_len : ∀ xs ys : List D, (zipD xs ys).length = min xs.length ys.length
  | [], ys => by simp [zipD]
  | x :: xs, [] => by simp [zipD]
  | x :: xs, y :: ys => by simp only [zipD, List.length_cons, zipD_len xs ys]; omega
theorem zipD_get : ∀ {xs ys : List D} {i : Nat} {x y : D}, xs[i]? = some x → ys[i]? = some y → (zipD xs ys)[i]? = some (.tup [x, y])
  | [], _, i, _, _, h, _ => by simp at h
  | _ :: _, [], i, _, _, _, h => by simp at h
  | a :: xs, b :: ys, 0, x, y, h, g => by simp at h g; subst h; subst g; rfl
  | a :: xs, b :: ys, i + 1, x, y, h, g => by
    show (zipD xs ys)[i]? = _
    exact zipD_get (by simpa using h) (by simpa using g)
theorem walks_zip {K : PySem.W.Frag} {H0 : Hp} {p q : Addr} {vs ws : List V} {xs ys : List D} (h : H0 p = some (.lst vs)) (r : RepAll K H0 vs xs) (h' : H0 q = some (.lst ws)) (r' : RepAll K H0 ws ys) : Walks K (Itz K p q) H0 (zipD xs ys) := by
  constructor
  · intro i H G hi s1 s2
    rw [zipD_len] at hi
    have hp : SqL K H p vs := SqL.of (s2 _ _ (s1 _ _ h))
    have hq : SqL K H q ws := SqL.of (s2 _ _ (s1 _ _ h'))
    have hx : xs[i]? = some xs[i] := List.getElem?_eq_getElem (by omega)
    have hy : ys[i]? = some ys[i] := List.getElem?_eq_getElem (by omega)
    obtain ⟨v, hv, rv⟩ := r.get hx
    obtain ⟨w, hw, rw'⟩ := r'.get hy
    refine ⟨⟨vs, ws, v, w, hp, hq, hv, hw⟩, fun x H' o => ?_⟩
    obtain ⟨T, v', w', ex, hT, eH, o1, o2⟩ := o
    subst ex eH
    have k1 := o1 vs hp
    have k2 := o2 ws hq
    rw [hv] at k1; cases k1
    rw [hw] at k2; cases k2
    have fr := same_upd' (p := T) (o := .tup [v, w]) (Same.refl _) (none_sub s2 hT)
    exact ⟨upd G T _, _, zipD_get hx hy, Step.new s2 hT, .tup (SqT.of upd_same) (.cons ((rv.same s1).same fr) (.cons ((rw'.same s1).same fr) .nil))⟩
  · intro i H G hi s1 s2
    rw [zipD_len] at hi
    refine ⟨vs, ws, SqL.of (s2 _ _ (s1 _ _ h)), SqL.of (s2 _ _ (s1 _ _ h')), ?_⟩
    rw [r.len, r'.len]; omega
def zip2 : List D → Res (List D)
  | [.lst xs, .lst ys] => .ok (zipD xs ys)
  | _ => .stuck
def iZipr (ms : ML) : ML := fun Γ => (ms Γ).bind zip2
theorem di_zip {p tpos : Pos} {elts : List Expr} {kk : Nat} {ms : ML} (hg : Gl X "zip") (hm : X.mg "zip" = none) (h : DA X et ce W [a, b] ms)
    (hs : starEach [a, b] X.env = (false, eval a X.env) :: starEach [b] X.env := by rfl) (hpl : (backTo pos (starEach [b] X.env)).any (·.1) = false := by rfl) :
    DI X et ce W (.Tuple elts kk tpos) (.Call (.Name "zip" p) [a, b] [] pos) (iZipr ms) := by
  obtain ⟨t, pa, g⟩ := h
  refine ⟨_, pi_zip hg hm pa hs hpl, fun Hs H0s σ H H0 Γ Q c q => g _ _ _ _ _ _ _ c (Post.next q fun ds vs H1 G _ s r q => ?_)⟩
  match ds, (show RepAll X.K G vs ds from r), q with
  | [.lst xs, .lst ys], .cons r1 (.cons r2 .nil), q =>
    cases r1 with
    | lst ha ra =>
      cases r2 with
      | lst hb rb => exact ⟨_, _, _, _, rfl, SqL.of (s.sub _ _ ha), SqL.of (s.sub _ _ hb), q _ H1 G s (walks_zip ha ra hb rb)⟩
end
end DL
namespace GL
open PySem L2 PySem.W PySem.Spec PyProof.Rows
/-- isinstance(e, (c1, c2, ..)) of a caught error -/
def rErrIsT (K : Frag) (C a : Addr) (cls : Value) (d : Option Addr) : List V → Hp → VK → Prop := fun xs H Q => ∃ (tp : Addr) (cs : List V) (us : List Value) (b : Bool) (dd : Addr) (v : V) (fld : Str),
  xs = [.ref a, .ref tp] ∧ cls = .ref C ∧ d = some dd ∧ H dd = some (.xd [(fld, v)]) ∧ H tp = some (.tup cs) ∧ Paired ClsV cs us ∧ kitAny K (.ref C) us = some b ∧ Q (.bl b) H
section
variable {X : Cx} {C fI : Addr} {x fld : Str} {B newId : String} {bmB : List Value}
theorem call_errIsT {a : Addr} {oe : Obj} {cls : Value} {d : Option Addr} {pn : List (Addr × Obj)} (T : ErrTxt X.K X.mg C fI x fld B newId bmB)
    (hz : Zc cls d oe) (hf : ∃ vs, oe.data = .fields vs) : CallR (X.suite a ((a, oe) :: pn)) (.builtin "isinstance") (rErrIsT X.K C a cls d) := by
  intro pins s σ H xs us Q I rr g
  obtain ⟨tp, cs, ts, k, dd, v, fl, rfl, ec, ed, ea, et, kc, kk, q⟩ := g
  subst ec ed
  obtain ⟨u1, u2, rfl, ru1, ru2⟩ := vals2 rr
  cases (show u1 = Value.ref a from ru1)
  cases (show u2 = Value.ref tp from ru2)
  have tt := I.hok tp _ et
  obtain ⟨_, its, rv, ot, ht1, ht2, nt, ht3⟩ := tt
  have same := ClsV.all kc rv
  subst same
  obtain ⟨tc, td, tdt, tsl⟩ := ot
  dsimp only at ht2 ht3
  subst ht2 ht3
  have hin := (I.pin (a, oe) (List.mem_append_left _ List.mem_cons_self)).1
  obtain ⟨vs, hd⟩ := hf
  obtain ⟨_, hns, _⟩ := (show ObjOk X.prog X.w H s.heap dd (.xd [(fl, v)]) from I.hok dd _ ea)
  obtain ⟨od, ho, _⟩ := lookIn_ns hns
  have J : W.InstAt s.heap a oe C (some od) := ⟨hin, hz.1, by unfold notCls; rw [hd] <;> rfl, by rw [hz.2]; exact ho⟩
  have ic : (clsIn X.K C).isSome = true := by
    have h0 := T.hdC
    unfold hasDictIn at h0
    obtain ⟨_, hc, _⟩ := any_some h0
    simp [hc]
  exact kia_tup (kitx_exc ic T.ga T.gg T.exC T.cc T.cn T.ct T.cm) I.kIn J ht1 kk (fun z => nomatch z) fun tk => ⟨.bl k, H, I.tok tk, rfl, q⟩
end
end GL
namespace DL
open PySem L2 PySem.Spec PyProof.Rows GL
theorem d_errIsiT {X : Cx} {et : ET} {W : WX} {e a b : Expr} {i : Nat} {x : String} {C p : Addr} {fld : Str} {cls : Value} {dd : Option Addr} {c1 c2 : V} {u1 u2 : Value} {k1 k2 : Bool} (hx : et x = some (C, fld))
    (hp : ∀ t, PA X [a, b] t → PE X e (tCB (rErrIsT X.K C p cls dd) t)) (ha : PE X a (tVar i)) (hb : PE X b (tTup (tCons (tC c1) (tCons (tC c2) tNil))))
    (hc1 : ClsV c1 u1) (hc2 : ClsV c2 u2) (hk1 : PySem.W.kitOne X.K (.ref C) u1 = some k1) (hk2 : PySem.W.kitOne X.K (.ref C) u2 = some k2)
    (hst : starEach (a :: [b]) X.env = (false, eval a X.env) :: starEach [b] X.env := by rfl) (hst2 : starEach (b :: []) X.env = (false, eval b X.env) :: starEach [] X.env := by rfl) :
    DE X et (some (p, cls, dd)) W e (mErrIsi i x (k1 || k2)) := by
  refine ⟨_, hp _ (pa_cons ha (pa_cons hb pa_nil hst2) hst), fun Hs H0s σ H H0 Γ Q c q => ?_⟩
  have hk : PySem.W.kitAny X.K (.ref C) [u1, u2] = some (k1 || k2) := kitAny_cons hk1 (fun z => by subst z; exact kitAny_cons hk2 (fun z => by subst z; exact kitAny_nil) (fun z => by simp [z])) (fun z => by simp [z])
  generalize (k1 || k2) = k at hk q
  unfold mErrIsi at q
  split at q
  · rename_i y d ee
    split at q
    · rename_i hy
      subst hy
      have z := c.at_ i _ ee
      match hv : σ[i]?, z with
      | some (some v), ⟨a', C', fld', d', w, e1, e2, e3, e4, r⟩ =>
        rw [hx] at e2
        cases e2
        cases e1
        subst e3
        refine ⟨_, hv, (show 2 ≤ sizeLine by decide), fun tp hT => ?_⟩
        have ne : d' ≠ tp := fun z => by subst z; rw [c.sub _ _ e4] at hT; cases hT
        refine ⟨tp, [c1, c2], [u1, u2], k, d', w, fld, rfl, rfl, rfl, ?_, upd_same, .cons hc1 (.cons hc2 .nil), hk, ?_⟩
        · rw [upd_ne ne]; exact c.sub _ _ e4
        · exact q _ _ H0 (Step.own c.sub hT) (.bl _)
    · exact q.elim
  · exact q.elim
end DL

/-! comprehensions with two sources; xs[::-1] -/
namespace DL
open PySem L2 PySem.Spec PyProof.Rows GL
/-- nothing of its own -/
def calm : Slot → Slot
  | .sh d => .sh d
  | _ => .un
theorem calm_alone (s : Slot) : (calm s).alone = false := by cases s <;> rfl
section
variable {K : PySem.W.Frag} {et : ET} {ce : Caught} {Hs H0s H H0 : Hp} {σ : L2.St} {Γ : En}
theorem Stn.calm (c : Stn K et ce Hs H0s σ H H0 Γ) : Stn K et ce Hs H0s σ H H0 (Γ.map DL.calm) := by
  have of : ∀ {i : Nat} {s : Slot}, (Γ.map DL.calm)[i]? = some s → ∃ s', Γ[i]? = some s' ∧ s = DL.calm s' := fun {i s} e => by
    rw [List.getElem?_map] at e
    cases h : Γ[i]? with
    | none => rw [h] at e; cases e
    | some s' => rw [h] at e; cases e; exact ⟨s', rfl, rfl⟩
  refine ⟨c.z, c.st, by simpa using c.len, fun i s e => ?_, fun i j s t p ei ej ai aj => ?_⟩
  · obtain ⟨s', e', rfl⟩ := of e
    have h := c.at_ i s' e'
    cases s' with
    | sh d => exact h
    | _ =>
      show Holds K et ce Hs H H0 _ .un
      cases σ[i]? with
      | none => exact True.intro
      | some v => cases v <;> exact True.intro
  · obtain ⟨s', _, rfl⟩ := of ei
    rw [calm_alone] at ai; cases ai
/-- a list that no slot holds is rewritten -/
theorem Stn.relist {L : Addr} {o : HO} (c : Stn K et ce Hs H0s σ H H0 (Γ.map DL.calm)) (hs : Hs L = none) (hg : H0 L = none) : Stn K et ce Hs H0s σ (upd H L o) H0 (Γ.map DL.calm) := by
  refine ⟨c.z, ⟨same_upd' c.st.big hs, c.st.small, fun b u q => ?_, c.st.apart⟩, c.len, fun i s e => ?_, c.one⟩
  · rw [upd_ne (fun z => by rw [z, hg] at q; cases q)]
    exact c.st.sub b u q
  · have h := c.at_ i s e
    rw [List.getElem?_map] at e
    cases hh : Γ[i]? with
    | none => rw [hh] at e; cases e
    | some s' =>
      rw [hh] at e
      cases e
      cases s' with
      | sh d =>
        cases hv : σ[i]? with
        | none => rw [hv] at h; exact h
        | some v => rw [hv] at h; cases v <;> exact h
      | _ =>
        show Holds K et ce Hs _ H0 _ .un
        cases σ[i]? with
        | none => exact True.intro
        | some v => cases v <;> exact True.intro
end
theorem noX_eq {α : Type} {r : Res α} {a : α} (h : noX r = .ok a) : r = .ok a := by cases r <;> first | exact h | cases h
def compM2 (mg : D → En → Option En) (mi1 : ML) (mg1 : D → En → Option En) (m : MD) (vs1 : List Nat) (Γ : En) : List D → Res (List D)
  | [] => .ok []
  | x :: r => match mg x Γ with
    | none => .stuck
    | some Γ1 => (noX (mi1 (Γ1.map calm))).bind fun ys => (noX (compM mg1 bYes m (wipeE (Γ1.map calm) vs1) ys)).bind fun a => (compM2 mg mi1 mg1 m vs1 Γ r).bind fun b => .ok (a ++ b)
def mComp2 (vs vs1 : List Nat) (mi : ML) (mg : D → En → Option En) (mi1 : ML) (mg1 : D → En → Option En) (m : MD) (Γ : En) : Res (List D) :=
  (mi Γ).bind fun xs => (noX (compM2 mg mi1 mg1 m vs1 (wipeE Γ vs) xs)).bind fun out => need (out.length < 1000000) (.ok out)
section
variable {X : Cx} {et : ET} {ce : Caught} {W : WX} {e e1 el tg tg1 : Expr} {m : MD} {mi mi1 : ML} {mg mg1 : D → En → Option En} {vs vs1 : List Nat} {pos : Pos}
theorem DI.can (h : DI X et ce W tg e mi) : PI X tg e (tEM X.K et ce W (RI X.K) mi) := by
  obtain ⟨t, p, g⟩ := h
  exact ⟨fun pins s σ H Q I ⟨Hs, H0s, H0, Γ, c, q⟩ => p.run pins s σ H Q I (g _ _ _ _ _ _ _ c q)⟩
theorem good_comp2 {wi : TI} {g g1 : TG} (gi : Good X.K et ce W (RI X.K) wi mi) (hg : GoodG X.K et ce vs g mg) (hg1 : GoodG X.K et ce vs1 g1 mg1) :
    Good X.K et ce W (RF X.K) (tLc2 wi g (tEM X.K et ce W0 RB bYes) (tEM X.K et ce W0 (RI X.K) mi1) g1 (tEM X.K et ce W0 RB bYes) (tEM X.K et ce W0 (RD X.K) m) vs vs1) (mComp2 vs vs1 mi mg mi1 mg1 m) := by
  intro Hs H0s σ H H0 Γ Q c q
  refine gi _ _ _ _ _ _ _ c (Post.next q fun ds J H1 G1 _ s wk q => ?_)
  have wk : Walks X.K J G1 ds := wk
  intro L hL
  cases hc0 : noX (compM2 mg mi1 mg1 m vs1 (wipeE Γ vs) ds) with
  | exc x d => rw [hc0] at q; cases h : compM2 mg mi1 mg1 m vs1 (wipeE Γ vs) ds <;> rw [h] at hc0 <;> cases hc0
  | stuck => rw [hc0] at q; exact (q : False).elim
  | ok out =>
    rw [hc0] at q
    obtain ⟨hsz, q⟩ := need_if q
    have hc := noX_eq hc0
    have hL0 : G1 L = none := none_sub s.sub hL
    have c1 := c.step s
    have hsL : Hs L = none := none_sub c1.st.big hL
    refine ⟨fun i n H2 => i ≤ ds.length ∧ n = ds.length - i ∧ ∃ G acc accD rest, Step H1 G1 H2 G ∧ H2 L = some (.lst acc) ∧ G L = none ∧ RepAll X.K G acc accD ∧
      compM2 mg mi1 mg1 m vs1 (wipeE Γ vs) (ds.drop i) = .ok rest ∧ accD ++ rest = out,
      ⟨ds.length, Nat.zero_le _, rfl, G1, [], [], out, Step.own s.sub hL, upd_same, hL0, .nil, hc, rfl⟩, ?_⟩
    rintro i n H2 ⟨hi, rfl, G, acc, accD, rest, sg, hacc, hG, ra, hr, hout⟩
    by_cases hlt : i < ds.length
    · obtain ⟨go, yld⟩ := wk.go i H2 G hlt sg.small sg.sub
      refine .inr ⟨go, fun H3 => ∃ G acc accD rest, Step H1 G1 H3 G ∧ H3 L = some (.lst acc) ∧ G L = none ∧ RepAll X.K G acc accD ∧
        compM2 mg mi1 mg1 m vs1 (wipeE Γ vs) (ds.drop (i + 1)) = .ok rest ∧ accD ++ rest = out, fun H3 z => ⟨ds.length - (i + 1), by omega, hlt, rfl, z⟩, fun x H3 y => ?_⟩
      obtain ⟨G3, d, hd, s3, rx⟩ := yld x H3 y
      have he : ds.drop i = d :: ds.drop (i + 1) := by
        rw [List.drop_eq_getElem_cons hlt]
        congr 1
        rw [List.getElem?_eq_getElem hlt] at hd
        exact Option.some.inj hd
      rw [he] at hr
      unfold compM2 at hr
      split at hr
      · cases hr
      · rename_i Γ1 hm
        have cw : Stn X.K et ce Hs H0s (L2.wipe σ vs) H3 G3 (wipeE Γ vs) := ((c1.step sg).step s3).wipe vs
        refine hg.go _ _ _ _ _ _ _ _ _ _ cw rx hm fun σ3 o3 c3 => ⟨wipe_only o3, ?_⟩
        refine ⟨Hs, H0s, G3, Γ1, c3, fun b' H4 G4 s4 eb => ?_⟩
        cases (show b' = true from eb)
        have s34 := s3.trans s4
        refine iteT ?_
        cases h1 : noX (mi1 (Γ1.map calm)) with
        | exc x2 d2 => rw [h1] at hr; cases hr
        | stuck => rw [h1] at hr; cases hr
        | ok ys =>
          rw [h1] at hr
          have c4 := (c3.step s4).calm
          refine ⟨Hs, H0s, G4, Γ1.map calm, c4, post_noX h1 fun J1 H5 G5 s5 wk1 => ?_⟩
          have wk1 : Walks X.K J1 G5 ys := wk1
          have hr : ((noX (compM mg1 bYes m (wipeE (Γ1.map calm) vs1) ys)).bind fun a => (compM2 mg mi1 mg1 m vs1 (wipeE Γ vs) (ds.drop (i + 1))).bind fun b => .ok (a ++ b)) = .ok rest := hr
          cases h2 : noX (compM mg1 bYes m (wipeE (Γ1.map calm) vs1) ys) with
          | exc x2 d2 => rw [h2] at hr; cases hr
          | stuck => rw [h2] at hr; cases hr
          | ok ins =>
            rw [h2] at hr
            have h2 := noX_eq h2
            have hr : ((compM2 mg mi1 mg1 m vs1 (wipeE Γ vs) (ds.drop (i + 1))).bind fun b => .ok (ins ++ b)) = .ok rest := hr
            cases h3 : compM2 mg mi1 mg1 m vs1 (wipeE Γ vs) (ds.drop (i + 1)) with
            | exc x2 d2 => rw [h3] at hr; cases hr
            | stuck => rw [h3] at hr; cases hr
            | ok rest2 =>
              rw [h3] at hr
              cases hr
              have s345 := s34.trans s5
              have hacc5 := s345.big _ _ hacc
              have hG5 := s345.apart _ _ hacc hG
              refine ⟨fun j k H6 => j ≤ ys.length ∧ k = ys.length - j ∧ ∃ G6 acc6 accD6 rs, Step H1 G1 H6 G6 ∧ Same G5 G6 ∧ Stn X.K et ce Hs H0s σ3 H6 G6 (Γ1.map calm) ∧ H6 L = some (.lst acc6) ∧ G6 L = none ∧ RepAll X.K G6 acc6 accD6 ∧
                compM mg1 bYes m (wipeE (Γ1.map calm) vs1) (ys.drop j) = .ok rs ∧ accD6 ++ rs = accD ++ ins,
                ⟨ys.length, Nat.zero_le _, rfl, G5, acc, accD, ins, sg.trans s345, Same.refl _, c4.step s5, hacc5, hG5, ra.same s345.small, h2, rfl⟩, ?_⟩
              rintro j k H6 ⟨hj, rfl, G6, acc6, accD6, rs, sg6, s56, c6, hacc6, hG6, ra6, hr6, hout6⟩
              by_cases hlj : j < ys.length
              · obtain ⟨go1, yld1⟩ := wk1.go j H6 G6 hlj s56 c6.sub
                refine .inr ⟨go1, fun H7 => ∃ G6 acc6 accD6 rs, Step H1 G1 H7 G6 ∧ Same G5 G6 ∧ Stn X.K et ce Hs H0s σ3 H7 G6 (Γ1.map calm) ∧ H7 L = some (.lst acc6) ∧ G6 L = none ∧ RepAll X.K G6 acc6 accD6 ∧
                  compM mg1 bYes m (wipeE (Γ1.map calm) vs1) (ys.drop (j + 1)) = .ok rs ∧ accD6 ++ rs = accD ++ ins, fun H7 z => ⟨ys.length - (j + 1), by omega, hlj, rfl, z⟩, fun x7 H7 y7 => ?_⟩
                obtain ⟨G7, d7, hd7, s7, rx7⟩ := yld1 x7 H7 y7
                have he7 : ys.drop j = d7 :: ys.drop (j + 1) := by
                  rw [List.drop_eq_getElem_cons hlj]
                  congr 1
                  rw [List.getElem?_eq_getElem hlj] at hd7
                  exact Option.some.inj hd7
                rw [he7] at hr6
                unfold compM at hr6
                split at hr6
                · cases hr6
                · rename_i Γ2 hm2
                  have cw2 := (c6.step s7).wipe vs1
                  refine hg1.go _ _ _ _ _ _ _ _ _ _ cw2 rx7 hm2 fun σ8 o8 c8 => ⟨wipe_only o8, ?_⟩
                  refine ⟨Hs, H0s, G7, Γ2, c8, fun b8 H8 G8 s8 eb8 => ?_⟩
                  cases (show b8 = true from eb8)
                  refine iteT ?_
                  have hr6 : ((noX (m Γ2)).bind fun d => (compM mg1 bYes m (wipeE (Γ1.map calm) vs1) (ys.drop (j + 1))).bind fun ds => .ok (d :: ds)) = .ok rs := hr6
                  cases h4 : noX (m Γ2) with
                  | exc x2 d2 => rw [h4] at hr6; cases hr6
                  | stuck => rw [h4] at hr6; cases hr6
                  | ok dd =>
                    rw [h4] at hr6
                    have hr6 : ((compM mg1 bYes m (wipeE (Γ1.map calm) vs1) (ys.drop (j + 1))).bind fun ds => .ok (dd :: ds)) = .ok rs := hr6
                    cases h5 : compM mg1 bYes m (wipeE (Γ1.map calm) vs1) (ys.drop (j + 1)) with
                    | exc x2 d2 => rw [h5] at hr6; cases hr6
                    | stuck => rw [h5] at hr6; cases hr6
                    | ok rs2 =>
                      rw [h5] at hr6
                      cases hr6
                      refine ⟨Hs, H0s, G8, Γ2, c8.step s8, post_noX h4 fun v H9 G9 s9 rv => ?_⟩
                      have s79 := (s7.trans s8).trans s9
                      have hacc9 := s79.big _ _ hacc6
                      have hG9 := s79.apart _ _ hacc6 hG6
                      have al : acc6.length = accD6.length := ra6.len
                      have hsz2 : accD6.length < 1000000 := by
                        have l1 := congrArg List.length hout6
                        have l2 := congrArg List.length hout
                        simp only [List.length_append, List.length_cons] at l1 l2
                        omega
                      refine ⟨acc6, hacc9, by rw [sizeLine_eq]; omega, ?_⟩
                      have sg9 := sg6.trans s79
                      refine ⟨G9, acc6 ++ [v], accD6 ++ [dd], rs2, ⟨fun b o q => ?_, sg9.small, fun b o q => ?_, sg9.apart⟩, Same.trans s56 s79.small, (c6.step s79).relist hsL hG9, upd_same, hG9, (ra6.same s79.small).app (.cons rv .nil), rfl, by rw [← hout6]; simp⟩
                      · rw [upd_ne (fun z => by rw [z, hL] at q; cases q)]
                        exact sg9.big b o q
                      · rw [upd_ne (fun z => by rw [z, hG9] at q; cases q)]
                        exact sg9.sub b o q
              · have ej : j = ys.length := by omega
                subst ej
                rw [List.drop_length] at hr6
                cases hr6
                refine .inl ⟨wk1.stop _ H6 G6 (Nat.le_refl _) s56 c6.sub, ?_⟩
                rw [List.append_nil] at hout6
                exact ⟨G6, acc6, accD6, rest2, sg6, hacc6, hG6, ra6, rfl, by rw [hout6, ← hout]; simp⟩
    · have e : i = ds.length := by omega
      subst e
      rw [List.drop_length] at hr
      cases hr
      refine .inl ⟨wk.stop _ H2 G (Nat.le_refl _) sg.small sg.sub, ?_⟩
      rw [List.append_nil] at hout
      subst hout
      exact q _ H2 G (s.trans sg) ⟨L, acc, rfl, none_sub s.big hL, hacc, hG, ra⟩
theorem d_comp2 {g g1 : TG} (hp : ∀ wi, PI X tg e wi → PE X el (tLc2 wi g (tEM X.K et ce W0 RB bYes) (tEM X.K et ce W0 (RI X.K) mi1) g1 (tEM X.K et ce W0 RB bYes) (tEM X.K et ce W0 (RD X.K) m) vs vs1)) (hi : DI X et ce W tg e mi) (hg : GoodG X.K et ce vs g mg) (hg1 : GoodG X.K et ce vs1 g1 mg1) :
    DF X et ce W el (mComp2 vs vs1 mi mg mi1 mg1 m) := by
  obtain ⟨t, p, gi⟩ := hi
  exact ⟨_, hp t p, good_comp2 gi hg hg1⟩
/-! ### xs[::-1] -/
def fRev (m : MD) : ML := fun Γ => (m Γ).bind fun d => (asL d).bind fun xs => .ok xs.reverse
theorem d_rev {k : Nat} {p1 p2 p3 : Pos} (h : DE X et ce W e m) : DF X et ce W (.Subscript e (.Slice none none (some (.UnaryOp .USub (.Constant (.int 1) k p1) p2)) p3) pos) (fRev m) := by
  obtain ⟨t, p, g⟩ := h
  refine ⟨_, pe_revL p, fun Hs H0s σ H H0 Γ Q c q => g _ _ _ _ _ _ _ c (Post.next q fun d v H1 G _ s r q => ?_)⟩
  cases d with
  | lst xs =>
    cases r with
    | lst ha ra => exact ⟨_, _, rfl, SqL.of (s.sub _ _ ha), fun p n => q _ _ G (s.trans (Step.own s.sub n)) ⟨p, _, rfl, none_sub s.big n, upd_same, none_sub s.sub n, ra.rev⟩⟩
  | _ => exact (q : False).elim
end
end DL

/-! what the defs do to data: printed from the program and the laws' own helpers -/
namespace PM
open PySem L2 GL DL
def M_is_whole : List D → Res Slot := mBody 1
  (mRet (eAnd (eUn (gIsi .int) (eVar 0)) (eNot (eUn (gIsi .bool) (eVar 0)))))
def M_is_within : List D → Res Slot := mBody 3
  (mRet (eAnd (eCall M_is_whole (eCons (eVar 0) eNil)) (eChain gLe gLe (eVar 1) (eVar 0) (eVar 2))))
def M_is_place : List D → Res Slot := mBody 1
  (mRet (eCall M_is_within (eCons (eVar 0) (eCons (eUn gNeg (eC (.int 1000))) (eCons (eC (.int 1000)) eNil)))))
def B_power_of_1 : En → Out := (mSeq (mAug 2 gMulI (eVar 2))
  (mIf (bTruth (eOp gAnd (eOp gShr (eVar 1) (eVar 3)) (eC (.int 1))))
  (mAug 2 gMulI (eVar 0))
  sNx))
def M_power_of : List D → Res Slot := mBody 4
  (mSeq (mSet 2 (eC (.int 1)))
  (mSeq (mFor (iR3 (eCons (eOp gSub (eUn gBits (eVar 1)) (eC (.int 1))) (eCons (eUn gNeg (eC (.int 1))) (eCons (eUn gNeg (eC (.int 1))) eNil)))) (bName 3) B_power_of_1)
  (mRet (eVar 2))))
def M_has_few_digits : List D → Res Slot := mBody 1
  (mRet (eOp gLt (eUn gAbs (eVar 0)) (eCall M_power_of (eCons (eC (.int 10)) (eCons (eC (.int 300)) eNil)))))
def M_is_number : List D → Res Slot := mBody 4
  (mSeq (mIf (bOr (bNot (bB (eUn (gIsi .tuple) (eVar 1)))) (bB (eOp gNe (eUn gLen (eVar 1)) (eC (.int 2)))))
  (mRet (eC (.bl false)))
  sNx)
  (mSeq (mAsg (bOfTup [(bName 2), (bName 3)]) (eVar 1))
  (mSeq (mIf (bOr (bNot (bB (eCall M_is_whole (eCons (eVar 2) eNil)))) (bNot (bB (eCall M_is_place (eCons (eVar 3) eNil)))))
  (mRet (eC (.bl false)))
  sNx)
  (mSeq (mIf (bB (eOp gEq (eVar 2) (eC (.int 0))))
  (mRet (eOp gEq (eVar 3) (eC (.int 0))))
  sNx)
  (mRet (eAnd (eOp gNe (eOp gMod (eVar 2) (eVar 0)) (eC (.int 0))) (eCall M_has_few_digits (eCons (eVar 2) eNil))))))))
def M_is_pair : List D → Res Slot := mBody 4
  (mSeq (mIf (bOr (bNot (bB (eUn (gIsi .tuple) (eVar 1)))) (bB (eOp gNe (eUn gLen (eVar 1)) (eC (.int 2)))))
  (mRet (eC (.bl false)))
  sNx)
  (mSeq (mAsg (bOfTup [(bName 2), (bName 3)]) (eVar 1))
  (mRet (eAnd (eCall M_is_number (eCons (eVar 0) (eCons (eVar 2) eNil))) (eCall M_is_place (eCons (eVar 3) eNil))))))
def M_is_effect : List D → Res Slot := mBody 2
  (mRet (eCall M_is_pair (eCons (eVar 0) (eCons (eVar 1) eNil))))
def B_law_numbers_1 : En → Out := (mIf (bAnd (bB (eOp gGe (eVar 3) (eOp gPow (eC (.int 10)) (eC (.int 18))))) (bB (eOp gGt (eVar 4) (eC (.int 0)))))
  (mSeq (mApp 5 (eOp gMod (eVar 4) (eOp gIx (eVar 2) (eVar 6))))
  (mSet 4 (eOp gDiv (eVar 4) (eOp gIx (eVar 2) (eVar 6)))))
  (mSeq (mSet 7 (eOp gMod (eOp gPow (eOp gAdd (eOp gAdd (eOp gMod (eVar 3) (eC (.int 2147483629))) (eOp gMul (eC (.int 7919)) (eVar 1))) (eC (.int 1))) (eC (.int 3))) (eC (.int 2147483647))))
  (mSeq (mSet 7 (eOp gMod (eOp gMul (eOp gAdd (eVar 7) (eOp gMul (eC (.int 104729)) (eOp gAdd (eVar 6) (eC (.int 1))))) (eOp gAdd (eVar 6) (eC (.int 3)))) (eC (.int 2147483629))))
  (mSeq (mSet 7 (eOp gMod (eOp gMul (eOp gMod (eOp gPow (eVar 7) (eC (.int 5))) (eC (.int 2147483647))) (eC (.int 48271))) (eC (.int 2147483629))))
  (mApp 5 (eOp gMod (eOp gDiv (eVar 7) (eC (.int 16))) (eOp gIx (eVar 2) (eVar 6))))))))
def M_law_numbers : List D → Res Slot := mBody 8
  (mSeq (mSet 3 (eOp gMax (eVar 0) (eOp gSub (eUn gNeg (eC (.int 1))) (eVar 0))))
  (mSeq (mSet 4 (eVar 3))
  (mSeq (mSetF 5 (fLst eNil))
  (mSeq (mFor (iR1 (eCons (eUn gLen (eVar 2)) eNil)) (bName 6) B_law_numbers_1)
  (mRetO 5)))))
def T_law_reduced_1 : En → Res Bool := (bAnd (bB (eOp gNe (eVar 1) (eC (.int 0)))) (bB (eOp gEq (eOp gMod (eVar 1) (eVar 0)) (eC (.int 0)))))
def B_law_reduced_1 : En → Out := (mPar 1 2 (eCons (eOp gDiv (eVar 1) (eVar 0)) (eCons (eOp gAdd (eVar 2) (eC (.int 1))) eNil)))
def M_law_reduced : List D → Res Slot := mBody 3
  (mSeq (whileM T_law_reduced_1 B_law_reduced_1 1000000)
  (mRet (eIf (bB (eOp gNe (eVar 1) (eC (.int 0)))) (eTup (eCons (eVar 1) (eCons (eVar 2) eNil))) (eTup (eCons (eC (.int 0)) (eCons (eC (.int 0)) eNil))))))
def B_law_integer_1 : En → Out := (mSet 3 (eOp gAdd (eOp gMul (eVar 3) (eC (.int 420))) (eVar 4)))
def M_law_integer : List D → Res Slot := mBody 5
  (mSeq (mPar 1 2 (eCons (eOp gMod (eOp gIx (eVar 0) (eC (.int 0))) (eC (.int 5))) (eCons (eOp gIx (eAll (fLst (eCons (eC (.int 1)) (eCons (eUn gNeg (eC (.int 1))) eNil)))) (eOp gMod (eOp gIx (eVar 0) (eC (.int 1))) (eC (.int 2)))) eNil)))
  (mSeq (mIf (bB (eOp gLt (eVar 1) (eC (.int 3))))
  (mRet (eOp gMul (eVar 2) (eOp gIx (eAll (fLst (eCons (eC (.int 0)) (eCons (eOp gMod (eOp gIx (eVar 0) (eC (.int 2))) (eC (.int 40))) (eCons (eOp gAdd (eOp gMul (eOp gIx (eVar 0) (eC (.int 2))) (eC (.int 420))) (eOp gIx (eVar 0) (eC (.int 3)))) eNil))))) (eVar 1))))
  sNx)
  (mSeq (mSet 3 (eC (.int 0)))
  (mSeq (mFor (iLst (eSl (eVar 0) (pS (eC (.int 2))) (pS (eOp gAdd (eC (.int 2)) (eOp gIx (eAll (fLst (eCons (eC (.int 8)) (eCons (eC (.int 30)) eNil)))) (eOp gSub (eVar 1) (eC (.int 3)))))))) (bName 4) B_law_integer_1)
  (mRet (eOp gMul (eVar 2) (eVar 3)))))))
def M_law_integer_v2 : List D → Res Slot := mBody 4
  (mSeq (mSet 1 (eOp gIx (eAll (fLst (eCons (eC (.int 1)) (eCons (eC (.int 12)) (eCons (eC (.int 420)) (eCons (eOp gMul (eC (.int 420)) (eC (.int 420))) (eCons (eOp gPow (eC (.int 10)) (eC (.int 40))) (eCons (eOp gPow (eC (.int 10)) (eC (.int 60))) eNil)))))))) (eOp gMod (eOp gIx (eVar 0) (eC (.int 0))) (eC (.int 6)))))
  (mSeq (mSet 2 (eOp gAdd (eOp gMul (eOp gAdd (eOp gMul (eOp gIx (eVar 0) (eC (.int 1))) (eC (.int 420))) (eOp gIx (eVar 0) (eC (.int 2)))) (eC (.int 420))) (eOp gIx (eVar 0) (eC (.int 3)))))
  (mSeq (mSet 3 (eOp gAdd (eOp gDiv (eOp gMul (eVar 2) (eOp gAdd (eOp gDiv (eVar 1) (eC (.int 7))) (eC (.int 1)))) (eOp gAdd (eC (.int 1)) (eOp gIx (eVar 0) (eC (.int 4))))) (eOp gMod (eVar 2) (eC (.int 9)))))
  (mRet (eIf (bB (eOp gGt (eOp gMod (eOp gIx (eVar 0) (eC (.int 0))) (eC (.int 13))) (eC (.int 0)))) (eIf (bB (eOp gEq (eOp gMod (eOp gIx (eVar 0) (eC (.int 5))) (eC (.int 2))) (eC (.int 1)))) (eOp gSub (eC (.int 0)) (eVar 3)) (eVar 3)) (eC (.int 0)))))))
def M_law_number : List D → Res Slot := mBody 2
  (mRet (eCall M_law_reduced (eCons (eVar 0) (eCons (eCall M_law_integer (eCons (eSl (eVar 1) (pS (eC (.int 1))) pN) eNil)) (eCons (eOp gSub (eOp gMod (eOp gIx (eVar 1) (eC (.int 0))) (eC (.int 11))) (eC (.int 5))) eNil)))))
def T_law_form_1 : En → Res Bool := (bAnd (bB (eOp gNe (eVar 1) (eC (.int 0)))) (bB (eOp gEq (eOp gMod (eVar 1) (eVar 0)) (eC (.int 0)))))
def B_law_form_1 : En → Out := (mPar 1 2 (eCons (eOp gDiv (eVar 1) (eVar 0)) (eCons (eOp gAdd (eVar 2) (eC (.int 1))) eNil)))
def M_law_form : List D → Res Slot := mBody 3
  (mSeq (whileM T_law_form_1 B_law_form_1 1000000)
  (mRet (eIf (bB (eOp gNe (eVar 1) (eC (.int 0)))) (eTup (eCons (eVar 1) (eCons (eVar 2) eNil))) (eTup (eCons (eC (.int 0)) (eCons (eC (.int 0)) eNil))))))
def M_law_number_v2 : List D → Res Slot := mBody 2
  (mRet (eCall M_law_form (eCons (eVar 0) (eCons (eCall M_law_integer_v2 (eCons (eVar 1) eNil)) (eCons (eOp gSub (eOp gMod (eOp gIx (eVar 1) (eC (.int 6))) (eC (.int 9))) (eC (.int 4))) eNil)))))
def M_law_odd : List D → Res Slot := mBody 2
  (mSeq (mSet 1 (eAll (fLst (eCons (eC .non) (eCons (eC (.bl true)) (eCons (eC (.bl false)) (eCons (eC (.str "")) (eCons (eC (.str "a")) (eCons (eC (.int 5)) (eCons (eUn gNeg (eC (.int 1))) (eCons (eC (.int 1000)) (eCons (eC (.int 1001)) (eCons (eTup eNil) (eCons (eAll (fLst eNil)) (eCons (eAllD fDict0) (eCons (eTup (eCons (eC (.int 5)) eNil)) (eCons (eAll (fLst (eCons (eC (.int 5)) eNil))) (eCons (eTup (eCons (eC (.int 0)) (eCons (eC (.int 0)) eNil))) (eCons (eOp gPow (eC (.int 10)) (eC (.int 30))) (eCons (eTup (eCons (eTup (eCons (eC (.int 0)) (eCons (eC (.int 0)) eNil))) eNil)) eNil))))))))))))))))))))
  (mRet (eOp gIx (eOp gAdd (eVar 1) (eAll (fLst (eCons (eTup (eCons (eC (.int 1)) (eCons (eC (.int 0)) eNil))) (eCons (eTup (eCons (eC (.str "a")) (eCons (eC (.int 0)) eNil))) (eCons (eOp gMul (eOp gPow (eOp gPow (eC (.int 10)) (eC (.int 60))) (eC (.int 4))) (eOp gPow (eC (.int 10)) (eC (.int 59)))) eNil)))))) (eOp gMod (eVar 0) (eC (.int 20))))))
def M_law_odd_v2 : List D → Res Slot := mBody 3
  (mSeq (mSet 2 (eAll (fLst (eCons (eC .non) (eCons (eTup (eCons (eOp gIx (eVar 1) (eC (.int 0))) eNil)) (eCons (eOp gAdd (eVar 1) (eTup (eCons (eC (.int 1)) eNil))) (eCons (eUn gList (eVar 1)) (eCons (eTup (eCons (eOp gIx (eVar 1) (eC (.int 0))) (eCons (eC (.int 0)) eNil))) (eCons (eTup (eCons (eOp gIx (eVar 1) (eC (.int 0))) (eCons (eUn gNeg (eC (.int 1))) eNil))) (eCons (eTup (eCons (eOp gIx (eVar 1) (eC (.int 0))) (eCons (eC (.bl true)) eNil))) (eCons (eTup (eCons (eOp gIx (eVar 1) (eC (.int 0))) (eCons (eC (.str "1")) eNil))) eNil)))))))))))
  (mSeq (mSet 2 (eOp gAdd (eVar 2) (eAll (fLst (eCons (eTup (eCons (eC (.str "X")) (eCons (eC (.int 1)) eNil))) (eCons (eTup (eCons (eC (.str "r")) (eCons (eC (.int 1)) eNil))) (eCons (eTup (eCons (eC (.str "RR")) (eCons (eC (.int 1)) eNil))) (eCons (eTup (eCons (eC (.str "")) (eCons (eC (.int 1)) eNil))) (eCons (eTup (eCons (eC .non) (eCons (eC (.int 1)) eNil))) (eCons (eTup (eCons (eOp gIx (eVar 1) (eC (.int 1))) (eCons (eOp gIx (eVar 1) (eC (.int 0))) eNil))) (eCons (eC (.str "R")) (eCons (eC (.int 5)) (eCons (eTup eNil) (eCons (eTup (eCons (eAll (fLst (eCons (eC (.str "R")) eNil))) (eCons (eC (.int 1)) eNil))) eNil))))))))))))))
  (mRet (eOp gIx (eVar 2) (eOp gMod (eOp gIx (eVar 0) (eC (.int 0))) (eC (.int 18)))))))
def M_law_is_int : List D → Res Slot := mBody 3
  (mRet (eAnd (eUn (gIsi .int) (eVar 0)) (eAnd (eNot (eUn (gIsi .bool) (eVar 0))) (eChain gLe gLe (eVar 1) (eVar 0) (eVar 2)))))
def M_law_is_right : List D → Res Slot := mBody 3
  (mSeq (mIf (bOr (bNot (bB (eUn (gIsi .tuple) (eVar 1)))) (bOr (bB (eOp gNe (eUn gLen (eVar 1)) (eC (.int 2)))) (bNot (bB (eCall M_law_is_int (eCons (eOp gIx (eVar 1) (eC (.int 1))) (eCons (eUn gNeg (eC (.int 1000))) (eCons (eC (.int 1000)) eNil))))))))
  (mRet (eC (.bl false)))
  sNx)
  (mSeq (mSet 2 (eOp gIx (eVar 1) (eC (.int 0))))
  (mSeq (mIf (bOr (bNot (bB (eUn (gIsi .tuple) (eVar 2)))) (bOr (bB (eOp gNe (eUn gLen (eVar 2)) (eC (.int 2)))) (bNot (bB (eCall M_law_is_int (eCons (eOp gIx (eVar 2) (eC (.int 1))) (eCons (eUn gNeg (eC (.int 1000))) (eCons (eC (.int 1000)) eNil))))))))
  (mRet (eC (.bl false)))
  sNx)
  (mSeq (mIf (bNot (bB (eCall M_law_is_int (eCons (eOp gIx (eVar 2) (eC (.int 0))) (eCons (eOp gSub (eC (.int 1)) (eOp gPow (eOp gPow (eC (.int 10)) (eC (.int 60))) (eC (.int 5)))) (eCons (eOp gSub (eOp gPow (eOp gPow (eC (.int 10)) (eC (.int 60))) (eC (.int 5))) (eC (.int 1))) eNil))))))
  (mRet (eC (.bl false)))
  sNx)
  (mRet (eOr (eOp gNe (eOp gMod (eOp gIx (eVar 2) (eC (.int 0))) (eVar 0)) (eC (.int 0))) (eOp gEq (eUn gRepr (eVar 2)) (eC (.str "(0, 0)")))))))))
def B_law_K11_1 : En → Out := (mIf (bB (eOp gNe (eUn gRepr (eCall M_is_effect (eCons (eVar 4) (eCons (eVar 10) eNil)))) (eUn gRepr (eCall M_law_is_right (eCons (eVar 4) (eCons (eVar 10) eNil))))))
  (mRet (eC (.bl false)))
  sNx)
def B_law_K11_2 : En → Out := (mSeq (mSet 3 (eAll (fCall M_law_numbers (eCons (eVar 2) (eCons (eOp gAdd (eC (.int 1100)) (eVar 1)) (eCons (eOp gMul (eAll (fLst (eCons (eC (.int 420)) eNil))) (eC (.int 50))) eNil))))))
  (mSeq (mSet 4 (eOp gAdd (eC (.int 2)) (eOp gMod (eOp gIx (eVar 3) (eC (.int 0))) (eC (.int 35)))))
  (mSeq (mPar 5 6 (eCons (eCall M_law_number (eCons (eVar 4) (eCons (eSl (eVar 3) (pS (eC (.int 1))) pN) eNil))) (eCons (eOp gSub (eOp gMod (eOp gIx (eVar 3) (eC (.int 36))) (eC (.int 2003))) (eC (.int 1001))) eNil)))
  (mSeq (mSet 7 (eCall M_law_odd (eCons (eOp gIx (eVar 3) (eC (.int 37))) eNil)))
  (mSeq (mSet 8 (eAll (fLst (eCons (eTup (eCons (eVar 5) (eCons (eVar 6) eNil))) (eCons (eTup (eCons (eVar 5) (eCons (eC (.int 1000)) eNil))) (eCons (eTup (eCons (eVar 5) (eCons (eUn gNeg (eC (.int 1000))) eNil))) (eCons (eTup (eCons (eVar 5) (eCons (eC (.int 1001)) eNil))) (eCons (eTup (eCons (eVar 5) (eCons (eUn gNeg (eC (.int 1001))) eNil))) (eCons (eAll (fLst (eCons (eVar 5) (eCons (eVar 6) eNil)))) eNil)))))))))
  (mSeq (mSet 8 (eOp gAdd (eVar 8) (eAll (fLst (eCons (eTup (eCons (eUn gList (eVar 5)) (eCons (eVar 6) eNil))) (eCons (eTup (eCons (eVar 5) (eCons (eVar 7) eNil))) (eCons (eTup (eCons (eVar 7) (eCons (eVar 6) eNil))) (eCons (eVar 7) (eCons (eTup (eCons (eVar 5) (eCons (eVar 6) (eCons (eC (.int 0)) eNil)))) (eCons (eTup (eCons (eVar 5) eNil)) eNil))))))))))
  (mSeq (mSet 8 (eOp gAdd (eVar 8) (eAll (fLst (eCons (eTup (eCons (eTup (eCons (eOp gMul (eOp gIx (eVar 5) (eC (.int 0))) (eVar 4)) (eCons (eOp gIx (eVar 5) (eC (.int 1))) eNil))) (eCons (eC (.int 0)) eNil))) (eCons (eTup (eCons (eTup (eCons (eOp gIx (eVar 5) (eC (.int 0))) (eCons (eC (.int 1001)) eNil))) (eCons (eC (.int 0)) eNil))) (eCons (eTup (eCons (eTup (eCons (eOp gIx (eVar 5) (eC (.int 0))) (eCons (eUn gNeg (eC (.int 1000))) eNil))) (eCons (eC (.int 0)) eNil))) eNil)))))))
  (mSeq (mSet 8 (eOp gAdd (eVar 8) (eAll (fLst (eCons (eTup (eCons (eTup (eCons (eC (.int 0)) (eCons (eC (.int 1)) eNil))) (eCons (eC (.int 0)) eNil))) eNil)))))
  (mSeq (mSet 9 (eOp gPow (eOp gPow (eC (.int 10)) (eC (.int 60))) (eC (.int 5))))
  (mSeq (mSet 8 (eOp gAdd (eVar 8) (eAll (fLst (eCons (eTup (eCons (eTup (eCons (eVar 9) (eCons (eC (.int 0)) eNil))) (eCons (eC (.int 0)) eNil))) (eCons (eTup (eCons (eTup (eCons (eOp gSub (eVar 9) (eC (.int 1))) (eCons (eC (.int 0)) eNil))) (eCons (eC (.int 0)) eNil))) (eCons (eTup (eCons (eTup (eCons (eOp gSub (eC (.int 1)) (eVar 9)) (eCons (eC (.int 1000)) eNil))) (eCons (eC (.int 0)) eNil))) (eCons (eTup (eCons (eTup (eCons (eC (.bl true)) (eCons (eC (.int 0)) eNil))) (eCons (eC (.int 0)) eNil))) eNil))))))))
  (mFor (iLst (eOp gAdd (eVar 8) (eAll (fLst (eCons (eTup (eCons (eTup (eCons (eOp gIx (eVar 5) (eC (.int 0))) (eCons (eVar 7) eNil))) (eCons (eVar 6) eNil))) (eCons (eTup (eCons (eTup (eCons (eVar 7) (eCons (eC (.int 0)) eNil))) (eCons (eVar 6) eNil))) (eCons (eTup (eCons (eTup (eCons (eC (.int 0)) (eCons (eC (.bl false)) eNil))) (eCons (eC (.int 0)) eNil))) eNil))))))) (bName 10) B_law_K11_1)))))))))))
def M_law_K11 : List D → Res Slot := mBody 11
  (mSeq (mFor (iEnumr (eOp gAdd (eSl (eVar 0) pN (pS (eC (.int 8)))) (eOp gMul (eAll (fLst (eCons (eC (.int 7)) eNil))) (eUn gInt (eOp gEq (eVar 0) (eAll (fLst eNil))))))) (bOfTup [(bName 1), (bName 2)]) B_law_K11_2)
  (mRet (eC (.bl true))))
def M_within_limits : List D → Res Slot := mBody 3
  (mSeq (mAsg (bOfTup [(bName 1), (bName 2)]) (eVar 0))
  (mSeq (mIf (bNot (bB (eCall M_has_few_digits (eCons (eVar 1) eNil))))
  (mRaise "LimitExceeded" (eC (.int 300)))
  sNx)
  (mSeq (mIf (bNot (bB (eCall M_is_place (eCons (eVar 2) eNil))))
  (mRaise "LimitExceeded" (eC (.int 1000)))
  sNx)
  (mRet (eVar 0)))))
def T_without_factors_1 : En → Res Bool := (bB (eOp gEq (eOp gMod (eVar 1) (eOp gMul (eOp gIx (eVarO 2) (eUn gNeg (eC (.int 1)))) (eOp gIx (eVarO 2) (eUn gNeg (eC (.int 1)))))) (eC (.int 0))))
def B_without_factors_1 : En → Out := (mApp 2 (eOp gMul (eOp gIx (eVarO 2) (eUn gNeg (eC (.int 1)))) (eOp gIx (eVarO 2) (eUn gNeg (eC (.int 1))))))
def B_without_factors_2 : En → Out := (mSeq (mAug 3 gMulI (eC (.int 2)))
  (mIf (bB (eOp gEq (eOp gMod (eVar 1) (eVar 4)) (eC (.int 0))))
  (mSeq (mAug 1 gDiv (eVar 4))
  (mAug 3 gAddI (eC (.int 1))))
  sNx))
def M_without_factors : List D → Res Slot := mBody 5
  (mSeq (mSetF 2 (fLst (eCons (eVar 0) eNil)))
  (mSeq (whileM T_without_factors_1 B_without_factors_1 1000000)
  (mSeq (mSet 3 (eC (.int 0)))
  (mSeq (sFrz 2 (mFor (iRevr (eVar 2)) (bName 4) B_without_factors_2))
  (mRet (eTup (eCons (eVar 1) (eCons (eVar 3) eNil))))))))
def M_form_of : List D → Res Slot := mBody 5
  (mSeq (mIf (bB (eOp gEq (eVar 1) (eC (.int 0))))
  (mRet (eTup (eCons (eC (.int 0)) (eCons (eC (.int 0)) eNil))))
  sNx)
  (mSeq (mAsg (bOfTup [(bName 3), (bName 4)]) (eCall M_without_factors (eCons (eVar 0) (eCons (eVar 1) eNil))))
  (mRet (eTup (eCons (eVar 3) (eCons (eOp gAdd (eVar 2) (eVar 4)) eNil))))))
def M_make_number : List D → Res Slot := mBody 3
  (mRet (eCall M_within_limits (eCons (eCall M_form_of (eCons (eVar 0) (eCons (eVar 1) (eCons (eVar 2) eNil)))) eNil)))
def B_law_power_1 : En → Out := (mSet 2 (eOp gMul (eVar 2) (eVar 0)))
def M_law_power : List D → Res Slot := mBody 4
  (mSeq (mSet 2 (eC (.int 1)))
  (mSeq (mFor (iR1 (eCons (eVar 1) eNil)) (bName 3) B_law_power_1)
  (mRet (eVar 2))))
def T_law_power_v2_1 : En → Res Bool := (bB (eOp gGt (eVar 1) (eC (.int 0))))
def B_law_power_v2_1 : En → Out := (mSeq (mIf (bB (eOp gEq (eOp gMod (eVar 1) (eC (.int 2))) (eC (.int 1))))
  (mSet 2 (eOp gMul (eVar 2) (eVar 0)))
  sNx)
  (mPar 0 1 (eCons (eOp gMul (eVar 0) (eVar 0)) (eCons (eOp gDiv (eVar 1) (eC (.int 2))) eNil))))
def M_law_power_v2 : List D → Res Slot := mBody 3
  (mSeq (mSet 2 (eC (.int 1)))
  (mSeq (whileM T_law_power_v2_1 B_law_power_v2_1 1000000)
  (mRet (eVar 2))))
def M_law_base : List D → Res Slot := mBody 1
  (mRet (eOp gIx (eAll (fLst (eCons (eC (.int 2)) (eCons (eC (.int 10)) (eCons (eC (.int 3)) (eCons (eC (.int 7)) (eCons (eC (.int 16)) (eCons (eC (.int 36)) (eCons (eC (.int 5)) eNil))))))))) (eOp gMod (eVar 0) (eC (.int 7)))))
def M_law_is_integer : List D → Res Slot := mBody 1
  (mRet (eAnd (eUn (gIsi .int) (eVar 0)) (eNot (eUn (gIsi .bool) (eVar 0)))))
def M_law_long : List D → Res Slot := mBody 0
  (mRet (eOp gPow (eOp gPow (eC (.int 10)) (eC (.int 60))) (eC (.int 5))))
def M_law_is_number : List D → Res Slot := mBody 3
  (mSeq (mIf (bOr (bNot (bB (eUn (gIsi .tuple) (eVar 1)))) (bOr (bB (eOp gNe (eUn gLen (eVar 1)) (eC (.int 2)))) (bB (eOp gNe (eAll (mComp [2] (iTupl (eVar 1)) (bName 2) (bNot (bB (eCall M_law_is_integer (eCons (eVar 2) eNil)))) (eVar 2))) (eAll (fLst eNil))))))
  (mRet (eC (.bl false)))
  sNx)
  (mSeq (mIf (bB (eOp gEq (eOp gIx (eVar 1) (eC (.int 0))) (eC (.int 0))))
  (mRet (eOp gEq (eOp gIx (eVar 1) (eC (.int 1))) (eC (.int 0))))
  sNx)
  (mRet (eAnd (eOp gLt (eUn gAbs (eOp gIx (eVar 1) (eC (.int 0)))) (eCall0 M_law_long)) (eAnd (eChain gLe gLe (eUn gNeg (eC (.int 1000))) (eOp gIx (eVar 1) (eC (.int 1))) (eC (.int 1000))) (eOp gNe (eOp gMod (eOp gIx (eVar 1) (eC (.int 0))) (eVar 0)) (eC (.int 0))))))))
def M_law_altered : List D → Res Slot := mBody 8
  (mSeq (mAsg (bOfTup [(bName 3), (bName 4)]) (eVar 1))
  (mSeq (mSet 5 (eOp gIx (eAll (fLst (eCons (eC .non) (eCons (eC (.bl true)) (eCons (eC (.bl false)) (eCons (eC (.str "5")) (eCons (eC (.str "")) (eCons (eTup eNil) (eCons (eAll (fLst eNil)) (eCons (eAllD fDict0) (eCons (eOp gPow (eC (.int 10)) (eC (.int 20))) (eCons (eUn gNeg (eC (.int 1))) eNil)))))))))))) (eOp gMod (eOp gIx (eVar 2) (eC (.int 0))) (eC (.int 10)))))
  (mSeq (mSet 6 (eAll (fLst (eCons (eUn gList (eVar 1)) (eCons (eTup (eCons (eVar 3) eNil)) (eCons (eOp gAdd (eVar 1) (eTup (eCons (eC (.int 0)) eNil))) (eCons (eTup (eCons (eVar 5) (eCons (eVar 4) eNil))) (eCons (eTup (eCons (eVar 3) (eCons (eVar 5) eNil))) (eCons (eVar 5) (eCons (eTup (eCons (eVar 1) eNil)) eNil))))))))))
  (mSeq (mSet 6 (eOp gAdd (eVar 6) (eAll (fLst (eCons (eTup (eCons (eOp gMul (eVar 3) (eVar 0)) (eCons (eVar 4) eNil))) (eCons (eTup (eCons (eVar 3) (eCons (eC (.int 1000)) eNil))) (eCons (eTup (eCons (eVar 3) (eCons (eC (.int 1001)) eNil))) (eCons (eTup (eCons (eVar 3) (eCons (eUn gNeg (eC (.int 1000))) eNil))) eNil))))))))
  (mSeq (mSet 6 (eOp gAdd (eVar 6) (eAll (fLst (eCons (eTup (eCons (eVar 3) (eCons (eUn gNeg (eC (.int 1001))) eNil))) (eCons (eTup (eCons (eC (.int 0)) (eCons (eVar 4) eNil))) (eCons (eTup (eCons (eC (.int 0)) (eCons (eC (.int 1)) eNil))) (eCons (eTup (eCons (eC (.int 0)) (eCons (eC (.bl false)) eNil))) (eCons (eTup (eCons (eC (.int 1)) (eCons (eC (.int 0)) eNil))) (eCons (eTup (eCons (eC (.bl true)) (eCons (eC (.int 0)) eNil))) (eCons (eTup (eCons (eC (.int 1)) (eCons (eC (.bl false)) eNil))) (eCons (eTup (eCons (eUn gNeg (eC (.int 1))) (eCons (eC (.int 3)) eNil))) eNil))))))))))))
  (mSeq (mSet 7 (eOp gSub (eOp gSub (eCall0 M_law_long) (eC (.int 1))) (eOp gIx (eVar 2) (eC (.int 1)))))
  (mRet (eOp gAdd (eVar 6) (eAll (fLst (eCons (eTup (eCons (eVar 7) (eCons (eC (.int 0)) eNil))) (eCons (eTup (eCons (eOp gSub (eC (.int 0)) (eVar 7)) (eCons (eC (.int 5)) eNil))) (eCons (eTup (eCons (eOp gAdd (eOp gAdd (eCall0 M_law_long) (eC (.int 1))) (eOp gIx (eVar 2) (eC (.int 1)))) (eCons (eC (.int 0)) eNil))) (eCons (eTup (eCons (eVar 0) (eCons (eC (.int 0)) eNil))) (eCons (eTup (eCons (eOp gSub (eC (.int 0)) (eVar 0)) (eCons (eUn gNeg (eC (.int 2))) eNil))) eNil)))))))))))))))
def M_law_want : List D → Res Slot := mBody 4
  (mSeq (mSet 3 (eCall M_law_form (eCons (eVar 0) (eCons (eVar 1) (eCons (eVar 2) eNil)))))
  (mSeq (mIf (bB (eOp gGe (eUn gAbs (eOp gIx (eVar 3) (eC (.int 0)))) (eCall0 M_law_long)))
  (mRetF (fLst (eCons (eC (.str "limit")) (eCons (eC (.int 300)) (eCons (eC (.bl true)) (eCons (eC (.bl false)) eNil))))))
  sNx)
  (mRet (eIf (bB (eChain gLe gLe (eUn gNeg (eC (.int 1000))) (eOp gIx (eVar 3) (eC (.int 1))) (eC (.int 1000)))) (eVar 3) (eAll (fLst (eCons (eC (.str "limit")) (eCons (eC (.int 1000)) (eCons (eC (.bl true)) (eCons (eC (.bl false)) eNil))))))))))
def M_law_is_state : List D → Res Slot := mBody 7
  (mSeq (mIf (bOr (bNot (bB (eUn (gIsi .tuple) (eVar 2)))) (bOr (bB (eOp gNe (eUn gLen (eVar 2)) (eC (.int 2)))) (bOr (bNot (bB (eUn (gIsi .tuple) (eOp gIx (eVar 2) (eC (.int 0)))))) (bB (eOp gNe (eUn gLen (eOp gIx (eVar 2) (eC (.int 0)))) (eC (.int 2)))))))
  (mRet (eC (.bl false)))
  sNx)
  (mSeq (mSet 3 (eAll (fLst (eCons (eOp gIx (eOp gIx (eVar 2) (eC (.int 0))) (eC (.int 0))) (eCons (eOp gIx (eOp gIx (eVar 2) (eC (.int 0))) (eC (.int 1))) (eCons (eOp gIx (eVar 2) (eC (.int 1))) eNil))))))
  (mSeq (mIf (bB (eOp gNe (eAll (mComp [6] (iLst (eVar 3)) (bName 6) (bOr (bNot (bB (eUn (gIsi .int) (eVar 6)))) (bB (eUn (gIsi .bool) (eVar 6)))) (eVar 6))) (eAll (fLst eNil))))
  (mRet (eC (.bl false)))
  sNx)
  (mSeq (mAsg (bOfTup [(bName 4), (bName 5)]) (eOp gIx (eVar 2) (eC (.int 0))))
  (mSeq (mIf (bNot (bB (eChain gLe gLe (eOp gIx (eVar 1) (eC (.int 0))) (eOp gIx (eVar 2) (eC (.int 1))) (eOp gIx (eVar 1) (eC (.int 1))))))
  (mRet (eC (.bl false)))
  sNx)
  (mSeq (mIf (bB (eOp gEq (eVar 4) (eC (.int 0))))
  (mRet (eOp gEq (eVar 5) (eC (.int 0))))
  sNx)
  (mRet (eAnd (eOp gLt (eUn gAbs (eVar 4)) (eOp gPow (eOp gPow (eC (.int 10)) (eC (.int 60))) (eC (.int 5)))) (eAnd (eChain gLe gLe (eOp gIx (eVar 1) (eC (.int 0))) (eVar 5) (eC (.int 1000))) (eOp gNe (eOp gMod (eVar 4) (eVar 0)) (eC (.int 0))))))))))))
def M_law_want_v2 : List D → Res Slot := mBody 6
  (mSeq (mSet 4 (eCall M_law_form (eCons (eVar 0) (eCons (eVar 2) (eCons (eC (.int 0)) eNil)))))
  (mSeq (mIf (bB (eOp gGe (eUn gAbs (eOp gIx (eVar 4) (eC (.int 0)))) (eOp gPow (eOp gPow (eC (.int 10)) (eC (.int 60))) (eC (.int 5)))))
  (mRetF (fLst (eCons (eC (.str "limit")) (eCons (eC (.int 300)) eNil))))
  sNx)
  (mSeq (mIf (bB (eOp gGt (eOp gIx (eVar 4) (eC (.int 1))) (eC (.int 1000))))
  (mRetF (fLst (eCons (eC (.str "limit")) (eCons (eC (.int 1000)) eNil))))
  sNx)
  (mSeq (mSet 5 (eTup (eCons (eVar 4) (eCons (eVar 3) eNil))))
  (mRet (eIf (bB (eCall M_law_is_state (eCons (eVar 0) (eCons (eVar 1) (eCons (eVar 5) eNil))))) (eVar 5) (eAll (fLst (eCons (eC (.str "state")) (eCons (eUn gRepr (eVar 5)) (eCons (eC (.bl true)) (eCons (eC (.bl false)) eNil))))))))))))
def M_law_sum_v2 : List D → Res Slot := mBody 5
  (mSeq (mSet 3 (eOp gMin (eOp gIx (eVar 1) (eC (.int 1))) (eOp gIx (eVar 2) (eC (.int 1)))))
  (mSeq (mSet 4 (eOp gMul (eOp gIx (eVar 1) (eC (.int 0))) (eCall M_law_power_v2 (eCons (eVar 0) (eCons (eOp gSub (eOp gIx (eVar 1) (eC (.int 1))) (eVar 3)) eNil)))))
  (mRet (eCall M_law_reduced (eCons (eVar 0) (eCons (eOp gAdd (eVar 4) (eOp gMul (eOp gIx (eVar 2) (eC (.int 0))) (eCall M_law_power_v2 (eCons (eVar 0) (eCons (eOp gSub (eOp gIx (eVar 2) (eC (.int 1))) (eVar 3)) eNil))))) (eCons (eVar 3) eNil)))))))
def B_law_want_v3_1 : En → Out := (mSeq (mSet 7 (eTup (eCons (eUn gNeg (eOp gIx (eOp gIx (eVar 1) (eC (.int 0))) (eC (.int 0)))) (eCons (eOp gAdd (eOp gIx (eOp gIx (eVar 1) (eC (.int 0))) (eC (.int 1))) (eVar 3)) eNil))))
  (mIf (bB (eOp gEq (eOp gMod (eOp gIx (eCall M_law_sum_v2 (eCons (eVar 0) (eCons (eOp gIx (eVar 2) (eC (.int 0))) (eCons (eVar 7) eNil)))) (eC (.int 0))) (eVar 5)) (eC (.int 0))))
  (mApp 6 (eVar 3))
  sNx))
def M_law_want_v3 : List D → Res Slot := mBody 8
  (mSeq (mIf (bB (eOp gNe (eOp gIx (eVar 1) (eC (.int 1))) (eOp gIx (eVar 2) (eC (.int 1)))))
  (mRetF (fLst eNil))
  sNx)
  (mSeq (mIf (bB (eOp gEq (eOp gIx (eVar 1) (eC (.int 1))) (eC (.int 0))))
  (mSeq (mIf (bAnd (bB (eOp gEq (eOp gIx (eOp gIx (eVar 1) (eC (.int 0))) (eC (.int 0))) (eC (.int 0)))) (bB (eOp gEq (eOp gIx (eOp gIx (eVar 2) (eC (.int 0))) (eC (.int 0))) (eC (.int 0)))))
  (mRetF (fLst (eCons (eC (.int 0)) eNil)))
  sNx)
  (mSeq (mSet 3 (eOp gSub (eOp gIx (eOp gIx (eVar 2) (eC (.int 0))) (eC (.int 1))) (eOp gIx (eOp gIx (eVar 1) (eC (.int 0))) (eC (.int 1)))))
  (mRetF (fIf (bB (eOp gEq (eOp gIx (eOp gIx (eVar 1) (eC (.int 0))) (eC (.int 0))) (eOp gIx (eOp gIx (eVar 2) (eC (.int 0))) (eC (.int 0))))) (fLst (eCons (eVar 3) eNil)) (fLst eNil)))))
  sNx)
  (mSeq (mSet 4 (eOp gMax (eOp gIx (eVar 1) (eC (.int 1))) (eUn gNeg (eOp gIx (eVar 1) (eC (.int 1))))))
  (mSeq (mSet 5 (eOp gSub (eCall M_law_power_v2 (eCons (eVar 0) (eCons (eVar 4) eNil))) (eC (.int 1))))
  (mSeq (mSetF 6 (fLst eNil))
  (mSeq (mFor (iR1 (eCons (eVar 4) eNil)) (bName 3) B_law_want_v3_1)
  (mRetO 6)))))))
def M_law_got : List D → Res Slot := mBody 5
  (mSeq (mSet 3 (eC .non))
  (mSeq (mTry (mSet 3 (eCall M_make_number (eCons (eVar 0) (eCons (eVar 1) (eCons (eVar 2) eNil))))) [⟨fun x => x == "LimitExceeded", 4, (mSet 3 (eAll (fLst (eCons (eC (.str "limit")) (eCons (mErrFld 4 "LimitExceeded") (eCons (mErrIsi 4 "LimitExceeded" true) (eCons (mErrIsi 4 "LimitExceeded" false) eNil)))))))⟩])
  (mRet (eVar 3))))
def B_require_numbers_1 : En → Out := (mIf (bNot (bB (eCall M_is_number (eCons (eVar 0) (eCons (eVar 2) eNil)))))
  (mRaise "InvalidNumber" (eVar 2))
  sNx)
def M_require_numbers : List D → Res Slot := mBody 3
  (mFor (iLst (eVar 1)) (bName 2) B_require_numbers_1)
def B_sum_of_1 : En → Out := (mIf (bB (eOp gNe (eVar 3) (eC (.int 0))))
  (mPutD 2 (eVar 4) (eOp gAdd (eDGet2 (eVarO 2) (eVar 4) (eC (.int 0))) (eVar 3)))
  sNx)
def B_sum_of_2 : En → Out := (mSeq (mSet 6 (eOp gAdd (eOp gMul (eVar 6) (eCall M_power_of (eCons (eVar 0) (eCons (eOp gSub (eVar 5) (eVar 4)) eNil)))) (eDGet (eVarO 2) (eVar 4))))
  (mSet 5 (eVar 4)))
def M_sum_of : List D → Res Slot := mBody 7
  (mSeq (mSetFD 2 fDict0)
  (mSeq (mFor (iLst (eVar 1)) (bOfTup [(bName 3), (bName 4)]) B_sum_of_1)
  (mSeq (mSet 5 (eOp gMaxD (eVarO 2) (eC (.int 0))))
  (mSeq (mSet 6 (eC (.int 0)))
  (mSeq (mFor (iLst (eUn gSortD (eVarO 2))) (bName 4) B_sum_of_2)
  (mRet (eCall M_form_of (eCons (eVar 0) (eCons (eVar 6) (eCons (eVar 5) eNil))))))))))
def M_plus : List D → Res Slot := mBody 3
  (mSeq (mExpr (eCall M_require_numbers (eCons (eVar 0) (eCons (eAll (fLst (eCons (eVar 1) (eCons (eVar 2) eNil)))) eNil))))
  (mRet (eCall M_within_limits (eCons (eCall M_sum_of (eCons (eVar 0) (eCons (eAll (fLst (eCons (eVar 1) (eCons (eVar 2) eNil)))) eNil))) eNil))))
def M_negative : List D → Res Slot := mBody 3
  (mSeq (mAsg (bOfTup [(bName 1), (bName 2)]) (eVar 0))
  (mRet (eTup (eCons (eUn gNeg (eVar 1)) (eCons (eVar 2) eNil)))))
def M_minus : List D → Res Slot := mBody 3
  (mSeq (mExpr (eCall M_require_numbers (eCons (eVar 0) (eCons (eAll (fLst (eCons (eVar 1) (eCons (eVar 2) eNil)))) eNil))))
  (mRet (eCall M_within_limits (eCons (eCall M_sum_of (eCons (eVar 0) (eCons (eAll (fLst (eCons (eVar 1) (eCons (eCall M_negative (eCons (eVar 2) eNil)) eNil)))) eNil))) eNil))))
def M_scaled : List D → Res Slot := mBody 5
  (mSeq (mExpr (eCall M_require_numbers (eCons (eVar 0) (eCons (eAll (fLst (eCons (eVar 1) eNil))) eNil))))
  (mSeq (mAsg (bOfTup [(bName 3), (bName 4)]) (eVar 1))
  (mRet (eCall M_make_number (eCons (eVar 0) (eCons (eVar 3) (eCons (eOp gAdd (eVar 4) (eVar 2)) eNil)))))))
def M_units : List D → Res Slot := mBody 5
  (mSeq (mAsg (bOfTup [(bName 3), (bName 4)]) (eVar 1))
  (mSeq (mIf (bB (eOp gLt (eVar 4) (eVar 2)))
  (mRet (eOp gDiv (eVar 3) (eCall M_power_of (eCons (eVar 0) (eCons (eOp gSub (eVar 2) (eVar 4)) eNil)))))
  sNx)
  (mRet (eOp gMul (eVar 3) (eCall M_power_of (eCons (eVar 0) (eCons (eOp gSub (eVar 4) (eVar 2)) eNil)))))))
def M_floor_at : List D → Res Slot := mBody 3
  (mSeq (mExpr (eCall M_require_numbers (eCons (eVar 0) (eCons (eAll (fLst (eCons (eVar 1) eNil))) eNil))))
  (mRet (eCall M_units (eCons (eVar 0) (eCons (eVar 1) (eCons (eVar 2) eNil))))))
def M_law_got_v2 : List D → Res Slot := mBody 6
  (mSeq (mSet 4 (eC .non))
  (mSeq (mTry (mIf (bB (eOp gLt (eVar 0) (eC (.int 2))))
  (mSet 4 (eDoor M_plus M_minus (eVar 0) (eCons (eVar 1) (eCons (eVar 2) (eCons (eVar 3) eNil)))))
  (mIf (bB (eOp gEq (eVar 0) (eC (.int 2))))
  (mSet 4 (eCall M_scaled (eCons (eVar 1) (eCons (eVar 2) (eCons (eVar 3) eNil)))))
  (mSet 4 (eCall M_floor_at (eCons (eVar 1) (eCons (eVar 2) (eCons (eVar 3) eNil))))))) [⟨fun x => x == "InvalidNumber", 5, (mSet 4 (eAll (fLst (eCons (eC (.str "number")) (eCons (eUn gRepr (mErrFld 5 "InvalidNumber")) (eCons (mErrIsi 5 "InvalidNumber" true) (eCons (mErrIsi 5 "InvalidNumber" false) eNil)))))))⟩, ⟨fun x => x == "LimitExceeded", 5, (mSet 4 (eAll (fLst (eCons (eC (.str "limit")) (eCons (mErrFld 5 "LimitExceeded") eNil)))))⟩])
  (mRet (eVar 4))))
def M_is_state (CR : Addr) : List D → Res Slot := mBody 5
  (mSeq (mIf (bNot (bB (eCall M_is_pair (eCons (eProp CR 0 (eVar 0)) (eCons (eVar 1) eNil)))))
  (mRet (eC (.bl false)))
  sNx)
  (mSeq (mAsg (bOfTup [(bOfTup [(bName 2), (bName 3)]), (bName 4)]) (eVar 1))
  (mSeq (mIf (bNot (bB (eHas CR (eVar 0) (eVar 4))))
  (mRet (eC (.bl false)))
  sNx)
  (mRet (eOr (eOp gEq (eVar 2) (eC (.int 0))) (eOr (eOp gIsN (eProp CR 3 (eVar 0)) (eC .non)) (eOp gGe (eVar 3) (eProp CR 3 (eVar 0)))))))))
def M_require_state (CR : Addr) : List D → Res Slot := mBody 2
  (mIf (bNot (bB (eCall (M_is_state CR) (eCons (eVar 0) (eCons (eVar 1) eNil)))))
  (mRaise "InvalidState" (eVar 1))
  sNx)
def M_make_state (CR : Addr) : List D → Res Slot := mBody 4
  (mSeq (mSet 3 (eTup (eCons (eCall M_make_number (eCons (eProp CR 0 (eVar 0)) (eCons (eVar 1) (eCons (eC (.int 0)) eNil)))) (eCons (eVar 2) eNil))))
  (mSeq (mExpr (eCall (M_require_state CR) (eCons (eVar 0) (eCons (eVar 3) eNil))))
  (mRet (eVar 3))))
def M_law_got_v3 (CR : Addr) : List D → Res Slot := mBody 5
  (mSeq (mSet 3 (eC .non))
  (mSeq (mTry (mSet 3 (eCall (M_make_state CR) (eCons (eVar 0) (eCons (eVar 1) (eCons (eVar 2) eNil))))) [⟨fun x => x == "LimitExceeded", 4, (mSet 3 (eAll (fLst (eCons (eC (.str "limit")) (eCons (mErrFld 4 "LimitExceeded") eNil)))))⟩, ⟨fun x => x == "InvalidState", 4, (mSet 3 (eAll (fLst (eCons (eC (.str "state")) (eCons (eUn gRepr (mErrFld 4 "InvalidState")) (eCons (mErrIsi 4 "InvalidState" true) (eCons (mErrIsi 4 "InvalidState" false) eNil)))))))⟩])
  (mRet (eVar 3))))
def B_law_K02_1 : En → Out := (mSeq (mSet 7 (eUn gRepr (eVar 6)))
  (mIf (bOr (bB (eOp gNe (eUn gRepr (eCall M_is_number (eCons (eVar 4) (eCons (eVar 6) eNil)))) (eUn gRepr (eCall M_law_is_number (eCons (eVar 4) (eCons (eVar 6) eNil)))))) (bB (eOp gNe (eUn gRepr (eVar 6)) (eVar 7))))
  (mRet (eC (.bl false)))
  sNx))
def B_law_K02_2 : En → Out := (mIf (bB (eOp gNe (eUn gRepr (eCall M_law_got (eCons (eVar 4) (eCons (eVar 10) (eCons (eVar 11) eNil))))) (eUn gRepr (eCall M_law_want (eCons (eVar 4) (eCons (eVar 10) (eCons (eVar 11) eNil)))))))
  (mRet (eC (.bl false)))
  sNx)
def B_law_K02_3 : En → Out := (mFor (iLst (eAll (fLst (eCons (eOp gSub (eOp gMod (eOp gIx (eVar 3) (eC (.int 18))) (eC (.int 60))) (eC (.int 30))) (eCons (eOp gSub (eC (.int 1000)) (eOp gMod (eOp gIx (eVar 3) (eC (.int 19))) (eC (.int 40)))) (eCons (eOp gSub (eUn gNeg (eC (.int 1000))) (eOp gMod (eOp gIx (eVar 3) (eC (.int 20))) (eC (.int 40)))) (eCons (eC (.int 0)) (eCons (eOp gPow (eC (.int 10)) (eC (.int 30))) eNil)))))))) (bName 11) B_law_K02_2)
def B_law_K02_4 : En → Out := (mSeq (mSet 3 (eAll (fCall M_law_numbers (eCons (eVar 2) (eCons (eOp gAdd (eC (.int 200)) (eVar 1)) (eCons (eOp gMul (eAll (fLst (eCons (eC (.int 420)) eNil))) (eC (.int 24))) eNil))))))
  (mSeq (mSet 4 (eCall M_law_base (eCons (eOp gIx (eVar 3) (eC (.int 0))) eNil)))
  (mSeq (mSet 5 (eCall M_law_number_v2 (eCons (eVar 4) (eCons (eSl (eVar 3) (pS (eC (.int 1))) pN) eNil))))
  (mSeq (mFor (iLst (eOp gAdd (eAll (fLst (eCons (eVar 5) eNil))) (eCall M_law_altered (eCons (eVar 4) (eCons (eVar 5) (eCons (eSl (eVar 3) (pS (eC (.int 8))) pN) eNil)))))) (bName 6) B_law_K02_1)
  (mSeq (mSet 8 (eOp gMul (eCall M_law_integer_v2 (eCons (eSl (eVar 3) (pS (eC (.int 10))) pN) eNil)) (eCall M_law_power (eCons (eVar 4) (eCons (eOp gMod (eOp gIx (eVar 3) (eC (.int 16))) (eC (.int 40))) eNil)))))
  (mSeq (mSet 9 (eOp gAdd (eOp gSub (eCall0 M_law_long) (eC (.int 1))) (eOp gMod (eOp gIx (eVar 3) (eC (.int 17))) (eC (.int 3)))))
  (mFor (iLst (eAll (fLst (eCons (eVar 8) (eCons (eOp gSub (eC (.int 0)) (eVar 8)) (eCons (eOp gIx (eVar 5) (eC (.int 0))) (eCons (eC (.int 0)) (eCons (eVar 4) (eCons (eC (.int 1)) (eCons (eVar 9) (eCons (eOp gSub (eC (.int 0)) (eVar 9)) (eCons (eOp gMul (eVar 9) (eVar 4)) (eCons (eOp gMul (eOp gIx (eVar 5) (eC (.int 0))) (eCall0 M_law_long)) eNil))))))))))))) (bName 10) B_law_K02_3)))))))
def M_law_K02 : List D → Res Slot := mBody 12
  (mSeq (mFor (iEnumr (eOp gAdd (eSl (eVar 0) pN (pS (eC (.int 10)))) (eOp gMul (eAll (fLst (eCons (eC (.int 7)) eNil))) (eUn gInt (eOp gEq (eVar 0) (eAll (fLst eNil))))))) (bOfTup [(bName 1), (bName 2)]) B_law_K02_4)
  (mRet (eC (.bl true))))
def M_law_sum : List D → Res Slot := mBody 5
  (mSeq (mSet 3 (eOp gMin (eOp gIx (eVar 1) (eC (.int 1))) (eOp gIx (eVar 2) (eC (.int 1)))))
  (mSeq (mSet 4 (eOp gAdd (eOp gMul (eOp gIx (eVar 1) (eC (.int 0))) (eCall M_law_power (eCons (eVar 0) (eCons (eOp gSub (eOp gIx (eVar 1) (eC (.int 1))) (eVar 3)) eNil)))) (eOp gMul (eOp gIx (eVar 2) (eC (.int 0))) (eCall M_law_power (eCons (eVar 0) (eCons (eOp gSub (eOp gIx (eVar 2) (eC (.int 1))) (eVar 3)) eNil))))))
  (mRet (eCall M_law_form (eCons (eVar 0) (eCons (eVar 4) (eCons (eVar 3) eNil)))))))
def M_law_limited : List D → Res Slot := mBody 1
  (mSeq (mIf (bB (eOp gGe (eUn gAbs (eOp gIx (eVar 0) (eC (.int 0)))) (eOp gPow (eOp gPow (eC (.int 10)) (eC (.int 60))) (eC (.int 5)))))
  (mRetF (fLst (eCons (eC (.str "limit")) (eCons (eC (.int 300)) eNil))))
  sNx)
  (mRet (eIf (bB (eChain gLe gLe (eUn gNeg (eC (.int 1000))) (eOp gIx (eVar 0) (eC (.int 1))) (eC (.int 1000)))) (eVar 0) (eAll (fLst (eCons (eC (.str "limit")) (eCons (eC (.int 1000)) eNil)))))))
def M_law_floor : List D → Res Slot := mBody 3
  (mSeq (mIf (bB (eOp gGe (eOp gIx (eVar 1) (eC (.int 1))) (eVar 2)))
  (mRet (eOp gMul (eOp gIx (eVar 1) (eC (.int 0))) (eCall M_law_power (eCons (eVar 0) (eCons (eOp gSub (eOp gIx (eVar 1) (eC (.int 1))) (eVar 2)) eNil)))))
  sNx)
  (mRet (eOp gDiv (eOp gIx (eVar 1) (eC (.int 0))) (eCall M_law_power (eCons (eVar 0) (eCons (eOp gSub (eVar 2) (eOp gIx (eVar 1) (eC (.int 1)))) eNil))))))
def M_law_far : List D → Res Slot := mBody 3
  (mRet (eIf (bB (eOp gEq (eOp gIx (eVar 1) (eC (.int 0))) (eC (.int 0)))) (eVar 1) (eTup (eCons (eOp gIx (eVar 1) (eC (.int 0))) (eCons (eOp gIx (eAll (fLst (eCons (eC (.int 1000)) (eCons (eUn gNeg (eC (.int 1000))) (eCons (eC (.int 997)) (eCons (eUn gNeg (eC (.int 996))) eNil)))))) (eOp gMod (eVar 2) (eC (.int 4)))) eNil)))))
def B_law_floors_ok_1 : En → Out := (mIf (bB (eOp gNe (eUn gReprW (eCall M_law_got_v2 (eCons (eC (.int 3)) (eCons (eVar 0) (eCons (eVar 1) (eCons (eVar 4) eNil)))))) (eUn gReprW (eCall M_law_floor (eCons (eVar 0) (eCons (eVar 1) (eCons (eVar 4) eNil)))))))
  (mRet (eC (.bl false)))
  sNx)
def B_law_floors_ok_2 : En → Out := (mIf (bB (eOp gNe (eUn gReprW (eCall M_law_got_v2 (eCons (eC (.int 3)) (eCons (eVar 0) (eCons (eVar 2) (eCons (eVar 4) eNil)))))) (eUn gReprW (eCall M_law_floor (eCons (eVar 0) (eCons (eVar 2) (eCons (eVar 4) eNil)))))))
  (mRet (eC (.bl false)))
  sNx)
def M_law_floors_ok : List D → Res Slot := mBody 5
  (mSeq (mFor (iR2 (eCons (eUn gNeg (eC (.int 6))) (eCons (eC (.int 7)) eNil))) (bName 4) B_law_floors_ok_1)
  (mSeq (mFor (iLst (eAll (fLst (eCons (eC (.int 1000)) (eCons (eUn gNeg (eC (.int 1000))) (eCons (eOp gIx (eVar 2) (eC (.int 1))) (eCons (eOp gMax (eUn gNeg (eC (.int 1000))) (eOp gSub (eOp gIx (eVar 2) (eC (.int 1))) (eOp gMod (eVar 3) (eC (.int 9))))) eNil))))))) (bName 4) B_law_floors_ok_2)
  (mRet (eC (.bl true)))))
def C_law_K03_1 : MD := (eCall M_law_got_v2 (eCons (eVar 13) (eCons (eVar 4) (eCons (eVar 9) (eCons (eVar 10) eNil)))))
def B_law_K03_1 : En → Out := (mSeq (mSet 11 (eTup (eCons (eOp gSub (eC (.int 0)) (eOp gIx (eVar 10) (eC (.int 0)))) (eCons (eOp gIx (eVar 10) (eC (.int 1))) eNil))))
  (mSeq (mSet 12 (eAll (fLst (eCons (eCall M_law_limited (eCons (eCall M_law_sum (eCons (eVar 4) (eCons (eVar 9) (eCons (eVar 10) eNil)))) eNil)) (eCons (eCall M_law_limited (eCons (eCall M_law_sum (eCons (eVar 4) (eCons (eVar 9) (eCons (eVar 11) eNil)))) eNil)) eNil)))))
  (mIf (bB (eOp gNe (eUn gReprW (eAll (mComp [13] (iR1 (eCons (eC (.int 2)) eNil)) (bName 13) bYes C_law_K03_1))) (eUn gReprW (eVar 12))))
  (mRet (eC (.bl false)))
  sNx)))
def B_law_K03_2 : En → Out := (mSeq (mSet 12 (eIf (bB (eOp gNe (eOp gIx (eVar 14) (eC (.int 0))) (eC (.int 0)))) (eTup (eCons (eOp gIx (eVar 14) (eC (.int 0))) (eCons (eOp gAdd (eOp gIx (eVar 14) (eC (.int 1))) (eVar 15)) eNil))) (eTup (eCons (eC (.int 0)) (eCons (eC (.int 0)) eNil)))))
  (mIf (bB (eOp gNe (eUn gReprW (eCall M_law_got_v2 (eCons (eC (.int 2)) (eCons (eVar 4) (eCons (eVar 14) (eCons (eVar 15) eNil)))))) (eUn gReprW (eCall M_law_limited (eCons (eVar 12) eNil)))))
  (mRet (eC (.bl false)))
  sNx))
def B_law_K03_3 : En → Out := (mFor (iLst (eAll (fLst (eCons (eOp gSub (eOp gMod (eOp gIx (eVar 3) (eC (.int 16))) (eC (.int 9))) (eC (.int 4))) (eCons (eOp gSub (eOp gMod (eOp gIx (eVar 3) (eC (.int 17))) (eC (.int 60))) (eC (.int 30))) (eCons (eC (.int 0)) (eCons (eC (.int 2000)) (eCons (eUn gNeg (eC (.int 2001))) eNil)))))))) (bName 15) B_law_K03_2)
def B_law_K03_4 : En → Out := (mIf (bB (eOp gNe (eCall M_law_got_v2 (eCons (eVar 13) (eCons (eVar 4) (eCons (eVar 16) (eCons (eC (.int 3)) eNil))))) (eAll (fLst (eCons (eC (.str "number")) (eCons (eUn gReprW (eVar 16)) (eCons (eC (.bl true)) (eCons (eC (.bl false)) eNil))))))))
  (mRet (eC (.bl false)))
  sNx)
def C_law_K03_2 : MD := (eCall M_law_got_v2 (eCons (eVar 13) (eCons (eVar 4) (eCons (eVar 8) (eCons (eVar 16) eNil)))))
def B_law_K03_5 : En → Out := (mSeq (mSet 3 (eAll (fCall M_law_numbers (eCons (eVar 2) (eCons (eOp gAdd (eC (.int 300)) (eVar 1)) (eCons (eOp gMul (eAll (fLst (eCons (eC (.int 420)) eNil))) (eC (.int 30))) eNil))))))
  (mSeq (mSet 4 (eCall M_law_base (eCons (eOp gIx (eVar 3) (eC (.int 0))) eNil)))
  (mSeq (mPar 5 6 (eCons (eCall M_law_number_v2 (eCons (eVar 4) (eCons (eSl (eVar 3) (pS (eC (.int 1))) pN) eNil))) (eCons (eCall M_law_number_v2 (eCons (eVar 4) (eCons (eSl (eVar 3) (pS (eC (.int 8))) pN) eNil))) eNil)))
  (mSeq (mSetF 7 (fLst (eCons (eTup (eCons (eVar 5) (eCons (eVar 6) eNil))) (eCons (eTup (eCons (eVar 6) (eCons (eVar 5) eNil))) (eCons (eTup (eCons (eVar 5) (eCons (eVar 5) eNil))) (eCons (eTup (eCons (eVar 5) (eCons (eTup (eCons (eC (.int 0)) (eCons (eC (.int 0)) eNil))) eNil))) (eCons (eTup (eCons (eVar 5) (eCons (eTup (eCons (eOp gSub (eC (.int 0)) (eOp gIx (eVar 5) (eC (.int 0)))) (eCons (eOp gIx (eVar 5) (eC (.int 1))) eNil))) eNil))) eNil)))))))
  (mSeq (mSet 8 (eCall M_law_far (eCons (eVar 4) (eCons (eVar 5) (eCons (eOp gIx (eVar 3) (eC (.int 15))) eNil)))))
  (mSeq (mSetF 7 (fOp gAdd (eVarO 7) (eAll (fLst (eCons (eTup (eCons (eVar 8) (eCons (eVar 8) eNil))) (eCons (eTup (eCons (eVar 8) (eCons (eTup (eCons (eOp gSub (eC (.int 0)) (eOp gIx (eVar 8) (eC (.int 0)))) (eCons (eOp gIx (eVar 8) (eC (.int 1))) eNil))) eNil))) (eCons (eTup (eCons (eVar 8) (eCons (eCall M_law_far (eCons (eVar 4) (eCons (eVar 6) (eCons (eOp gIx (eVar 3) (eC (.int 15))) eNil)))) eNil))) eNil)))))))
  (mSeq (mIf (bB (eOp gGt (eOp gIx (eVar 8) (eC (.int 1))) (eC (.int 0))))
  (mApp 7 (eTup (eCons (eVar 8) (eCons (eVar 6) eNil))))
  sNx)
  (mSeq (sFrz 7 (mFor (iLst (eVar 7)) (bOfTup [(bName 9), (bName 10)]) B_law_K03_1))
  (mSeq (mFor (iLst (eAll (fLst (eCons (eVar 5) (eCons (eVar 6) (eCons (eVar 8) (eCons (eTup (eCons (eC (.int 0)) (eCons (eC (.int 0)) eNil))) eNil))))))) (bName 14) B_law_K03_3)
  (mSeq (mIf (bNot (bB (eCall M_law_floors_ok (eCons (eVar 4) (eCons (eVar 5) (eCons (eVar 8) (eCons (eOp gIx (eVar 3) (eC (.int 18))) eNil)))))))
  (mRet (eC (.bl false)))
  sNx)
  (mSeq (mSet 16 (eOp gIx (eAll (fLst (eCons (eC .non) (eCons (eTup (eCons (eVar 4) (eCons (eC (.int 0)) eNil))) (eCons (eTup (eCons (eC (.int 1)) (eCons (eC (.int 1001)) eNil))) (eCons (eTup (eCons (eC (.int 0)) (eCons (eC (.int 1)) eNil))) (eCons (eAll (fLst (eCons (eC (.int 1)) (eCons (eC (.int 0)) eNil)))) (eCons (eTup (eCons (eC (.bl true)) (eCons (eC (.int 0)) eNil))) (eCons (eC (.str "1")) (eCons (eTup (eCons (eC (.int 1)) eNil)) (eCons (eC (.int 5)) eNil))))))))))) (eOp gMod (eOp gIx (eVar 3) (eC (.int 19))) (eC (.int 9)))))
  (mSeq (mFor (iR1 (eCons (eC (.int 4)) eNil)) (bName 13) B_law_K03_4)
  (mIf (bB (eOp gNe (eAll (mComp [13] (iR1 (eCons (eC (.int 2)) eNil)) (bName 13) bYes C_law_K03_2)) (eOp gMul (eAll (fLst (eCons (eAll (fLst (eCons (eC (.str "number")) (eCons (eUn gReprW (eVar 16)) (eCons (eC (.bl true)) (eCons (eC (.bl false)) eNil)))))) eNil))) (eC (.int 2)))))
  (mRet (eC (.bl false)))
  sNx)))))))))))))
def M_law_K03 : List D → Res Slot := mBody 17
  (mSeq (mFor (iEnumr (eOp gAdd (eSl (eVar 0) pN (pS (eC (.int 8)))) (eOp gMul (eAll (fLst (eCons (eC (.int 7)) eNil))) (eUn gInt (eOp gEq (eVar 0) (eAll (fLst eNil))))))) (bOfTup [(bName 1), (bName 2)]) B_law_K03_5)
  (mRet (eC (.bl true))))
def T_wall_1 : En → Res Bool := (bTruth (eC (.bl true)))
def B_wall_1 : En → Out := sNx
def M_wall : List D → Res Slot := mBody 1
  (whileM T_wall_1 B_wall_1 1000000)
def M_is_cost : List D → Res Slot := mBody 1
  (mRet (eCall M_is_within (eCons (eVar 0) (eCons (eC (.int 1)) (eCons (eC (.int 1000000)) eNil)))))
def M_is_end : List D → Res Slot := mBody 1
  (mRet (eOr (eOp gIsN (eVar 0) (eC .non)) (eCall M_is_place (eCons (eVar 0) eNil))))
def M_Row_move_cost : List D → Res Slot := mBody 1
  (mExpr (eCall M_wall (eCons (eC (.int 0)) eNil)))
def M_Row_add_cost : List D → Res Slot := mBody 1
  (mExpr (eCall M_wall (eCons (eC (.int 1)) eNil)))
def M_Row_has_place (CR : Addr) : List D → Res Slot := mBody 2
  (mSeq (mIf (bNot (bB (eCall M_is_place (eCons (eVar 1) eNil))))
  (mRet (eC (.bl false)))
  sNx)
  (mSeq (mIf (bAnd (bB (eOp gNotN (eProp CR 3 (eVar 0)) (eC .non))) (bB (eOp gLt (eVar 1) (eProp CR 3 (eVar 0)))))
  (mRet (eC (.bl false)))
  sNx)
  (mRet (eOr (eOp gIsN (eProp CR 4 (eVar 0)) (eC .non)) (eOp gLe (eVar 1) (eProp CR 4 (eVar 0)))))))
def C_law_K04_1 (CR : Addr) : MD := (eTup (eCons (eVar 13) (eCons (eVar 19) eNil)))
def B_law_K04_1 (CR : Addr) : En → Out := (mSet 12 (eOp gAdd (eVar 12) (eAll (mComp [19] (iLst (eVar 11)) (bName 19) bYes (C_law_K04_1 CR)))))
def B_law_K04_2 (CR : Addr) : En → Out := (mIf (bB (eOp gNe (eUn gRepr (eCall (M_is_state CR) (eCons (eVar 7) (eCons (eVar 14) eNil)))) (eUn gRepr (eCall M_law_is_state (eCons (eVar 4) (eCons (eVar 8) (eCons (eVar 14) eNil)))))))
  (mRet (eC (.bl false)))
  sNx)
def B_law_K04_3 (CR : Addr) : En → Out := (mIf (bB (eOp gNe (eUn gRepr (eCall (M_law_got_v3 CR) (eCons (eVar 7) (eCons (eVar 16) (eCons (eVar 17) eNil))))) (eUn gRepr (eCall M_law_want_v2 (eCons (eVar 4) (eCons (eVar 8) (eCons (eVar 16) (eCons (eVar 17) eNil))))))))
  (mRet (eC (.bl false)))
  sNx)
def B_law_K04_4 (CR : Addr) : En → Out := (mFor (iLst (eVar 11)) (bName 17) (B_law_K04_3 CR))
def B_law_K04_5 (CR : Addr) : En → Out := (mSeq (mSet 3 (eAll (fCall M_law_numbers (eCons (eVar 2) (eCons (eOp gAdd (eC (.int 400)) (eVar 1)) (eCons (eOp gMul (eAll (fLst (eCons (eC (.int 420)) eNil))) (eC (.int 24))) eNil))))))
  (mSeq (mSet 4 (eCall M_law_base (eCons (eOp gIx (eVar 3) (eC (.int 0))) eNil)))
  (mSeq (mSet 5 (eOp gIx (eAll (fLst (eCons (eC .non) (eCons (eOp gSub (eOp gMod (eOp gIx (eVar 3) (eC (.int 1))) (eC (.int 9))) (eC (.int 4))) (eCons (eUn gNeg (eC (.int 1000))) (eCons (eC (.int 0)) eNil)))))) (eOp gMod (eOp gIx (eVar 3) (eC (.int 2))) (eC (.int 4)))))
  (mSeq (mSet 6 (eOp gIx (eAll (fLst (eCons (eC .non) (eCons (eOp gAdd (eIf (bB (eOp gIsN (eVar 5) (eC .non))) (eC (.int 0)) (eVar 5)) (eOp gMod (eOp gIx (eVar 3) (eC (.int 3))) (eC (.int 9)))) (eCons (eC (.int 1000)) eNil))))) (eOp gMod (eOp gIx (eVar 3) (eC (.int 4))) (eC (.int 3)))))
  (mSeq (mSet 7 (eNewRow CR 1 2 a_first_last (eCons (eVar 4) eNil) (eCons (eVar 5) (eCons (eVar 6) eNil))))
  (mSeq (mSet 8 (eAll (fLst (eCons (eIf (bB (eOp gIsN (eVar 5) (eC .non))) (eUn gNeg (eC (.int 1000))) (eVar 5)) (eCons (eIf (bB (eOp gIsN (eVar 6) (eC .non))) (eC (.int 1000)) (eVar 6)) eNil)))))
  (mSeq (mPar 9 10 (eCons (eCall M_law_number_v2 (eCons (eVar 4) (eCons (eSl (eVar 3) (pS (eC (.int 5))) pN) eNil))) (eCons (eCall M_law_number_v2 (eCons (eVar 4) (eCons (eSl (eVar 3) (pS (eC (.int 12))) pN) eNil))) eNil)))
  (mSeq (mSet 11 (eAll (fLst (eCons (eOp gIx (eVar 8) (eC (.int 0))) (eCons (eOp gSub (eOp gIx (eVar 8) (eC (.int 0))) (eC (.int 1))) (eCons (eOp gIx (eVar 8) (eC (.int 1))) (eCons (eOp gAdd (eOp gIx (eVar 8) (eC (.int 1))) (eC (.int 1))) (eCons (eC (.int 0)) (eCons (eOp gSub (eOp gMod (eOp gIx (eVar 3) (eC (.int 19))) (eC (.int 9))) (eC (.int 4))) (eCons (eC .non) (eCons (eC (.bl true)) (eCons (eC (.str "0")) (eCons (eTup (eCons (eC (.int 0)) eNil)) eNil)))))))))))))
  (mSeq (mSet 12 (eAll (fLst (eCons (eC .non) (eCons (eTup eNil) (eCons (eVar 9) (eCons (eAll (fLst (eCons (eVar 9) (eCons (eC (.int 0)) eNil)))) (eCons (eTup (eCons (eVar 9) (eCons (eC (.int 0)) (eCons (eC (.int 0)) eNil)))) (eCons (eTup (eCons (eUn gList (eVar 9)) (eCons (eC (.int 0)) eNil))) (eCons (eTup (eCons (eTup (eCons (eVar 4) (eCons (eC (.int 0)) eNil))) (eCons (eC (.int 0)) eNil))) (eCons (eC (.str "0@0")) (eCons (eC (.int 5)) eNil))))))))))))
  (mSeq (mFor (iLst (eAll (fLst (eCons (eVar 9) (eCons (eVar 10) (eCons (eTup (eCons (eC (.int 0)) (eCons (eC (.int 0)) eNil))) (eCons (eTup (eCons (eC (.int 1)) (eCons (eOp gIx (eVar 8) (eC (.int 0))) eNil))) (eCons (eTup (eCons (eC (.int 1)) (eCons (eOp gMax (eUn gNeg (eC (.int 1000))) (eOp gSub (eOp gIx (eVar 8) (eC (.int 0))) (eC (.int 1)))) eNil))) (eCons (eTup (eCons (eC (.int 0)) (eCons (eC (.int 1)) eNil))) (eCons (eTup (eCons (eC (.int 1)) (eCons (eC (.int 1001)) eNil))) (eCons (eTup (eCons (eC (.bl true)) (eCons (eC (.int 0)) eNil))) eNil))))))))))) (bName 13) (B_law_K04_1 CR))
  (mSeq (mFor (iLst (eVar 12)) (bName 14) (B_law_K04_2 CR))
  (mSeq (mSet 15 (eAll (fLst (eCons (eCall M_law_integer_v2 (eCons (eSl (eVar 3) (pS (eC (.int 12))) pN) eNil)) (eCons (eC (.int 0)) (eCons (eC (.int 1)) (eCons (eVar 4) (eCons (eOp gSub (eC (.int 0)) (eOp gMul (eVar 4) (eVar 4))) (eCons (eOp gAdd (eOp gPow (eOp gPow (eC (.int 10)) (eC (.int 60))) (eC (.int 5))) (eC (.int 1))) (eCons (eOp gPow (eOp gPow (eC (.int 10)) (eC (.int 60))) (eC (.int 6))) eNil))))))))))
  (mSeq (mFor (iLst (eVar 15)) (bName 16) (B_law_K04_4 CR))
  (mSeq (mSet 18 (eOp gMul (eCall M_law_power (eCons (eC (.int 2)) (eCons (eOp gAdd (eC (.int 1000)) (eOp gMod (eOp gIx (eVar 3) (eC (.int 20))) (eC (.int 3)))) eNil))) (eC (.int 3))))
  (mIf (bB (eOp gNe (eUn gRepr (eCall (M_law_got_v3 CR) (eCons (eNewRow CR 1 0 a_none (eCons (eC (.int 2)) eNil) eNil) (eCons (eVar 18) (eCons (eC (.int 0)) eNil))))) (eUn gRepr (eCall M_law_want_v2 (eCons (eC (.int 2)) (eCons (eAll (fLst (eCons (eUn gNeg (eC (.int 1000))) (eCons (eC (.int 1000)) eNil)))) (eCons (eVar 18) (eCons (eC (.int 0)) eNil))))))))
  (mRet (eC (.bl false)))
  sNx)))))))))))))))
def M_law_K04 (CR : Addr) : List D → Res Slot := mBody 20
  (mSeq (mFor (iEnumr (eOp gAdd (eSl (eVar 0) pN (pS (eC (.int 10)))) (eOp gMul (eAll (fLst (eCons (eC (.int 7)) eNil))) (eUn gInt (eOp gEq (eVar 0) (eAll (fLst eNil))))))) (bOfTup [(bName 1), (bName 2)]) (B_law_K04_5 CR))
  (mRet (eC (.bl true))))
def M_moved : List D → Res Slot := mBody 4
  (mSeq (mAsg (bOfTup [(bName 2), (bName 3)]) (eVar 0))
  (mRet (eTup (eCons (eVar 2) (eCons (eOp gAdd (eVar 3) (eVar 1)) eNil)))))
def B_require_effects_1 : En → Out := (mIf (bNot (bB (eCall M_is_effect (eCons (eVar 0) (eCons (eVar 2) eNil)))))
  (mRaise "InvalidEffect" (eVar 2))
  sNx)
def M_require_effects : List D → Res Slot := mBody 3
  (mFor (iSeq 1) (bName 2) B_require_effects_1)
def M_require_offset : List D → Res Slot := mBody 1
  (mIf (bNot (bB (eCall M_is_place (eCons (eVar 0) eNil))))
  (mRaise "LimitExceeded" (eC (.int 1000)))
  sNx)
def B_composed_1 : En → Out := (mSeq (mApp 2 (eCall M_moved (eCons (eVar 4) (eCons (eVar 3) eNil))))
  (mAug 3 gAddI (eVar 5)))
def M_composed : List D → Res Slot := mBody 6
  (mSeq (mExpr (eCall M_require_effects (eCons (eVar 0) (eCons (eVar 1) eNil))))
  (mSeq (mSetF 2 (fLst eNil))
  (mSeq (mSet 3 (eC (.int 0)))
  (mSeq (mFor (iSeq 1) (bOfTup [(bName 4), (bName 5)]) B_composed_1)
  (mSeq (mExpr (eCall M_require_offset (eCons (eVar 3) eNil)))
  (sFrz 2 (mRet (eTup (eCons (eCall M_within_limits (eCons (eCall M_sum_of (eCons (eVar 0) (eCons (eVar 2) eNil))) eNil)) (eCons (eVar 3) eNil))))))))))
def M_inverse : List D → Res Slot := mBody 5
  (mSeq (mExpr (eCall M_require_effects (eCons (eVar 0) (eCons (eAll (fLst (eCons (eVar 1) eNil))) eNil))))
  (mSeq (mAsg (bOfTup [(bOfTup [(bName 2), (bName 3)]), (bName 4)]) (eVar 1))
  (mRet (eTup (eCons (eCall M_make_number (eCons (eVar 0) (eCons (eUn gNeg (eVar 2)) (eCons (eOp gSub (eVar 3) (eVar 4)) eNil)))) (eCons (eUn gNeg (eVar 4)) eNil))))))
def B_copies_1 : En → Out := (mSet 4 (eOp gAdd (eOp gMul (eVar 4) (eVar 3)) (eC (.int 1))))
def M_copies : List D → Res Slot := mBody 6
  (mSeq (mIf (bB (eOp gEq (eVar 1) (eC (.int 0))))
  (mRet (eTup (eCons (eVar 2) (eCons (eC (.int 0)) eNil))))
  sNx)
  (mSeq (mSet 3 (eCall M_power_of (eCons (eVar 0) (eCons (eUn gAbs (eVar 1)) eNil))))
  (mSeq (mSet 4 (eC (.int 0)))
  (mSeq (mFor (iR1 (eCons (eVar 2) eNil)) (bName 5) B_copies_1)
  (mRet (eTup (eCons (eVar 4) (eCons (eOp gMin (eC (.int 0)) (eOp gMul (eVar 1) (eOp gSub (eVar 2) (eC (.int 1))))) eNil))))))))
def M_power : List D → Res Slot := mBody 9
  (mSeq (mExpr (eCall M_require_effects (eCons (eVar 0) (eCons (eAll (fLst (eCons (eVar 1) eNil))) eNil))))
  (mSeq (mIf (bNot (bB (eCall M_is_whole (eCons (eVar 2) eNil))))
  (mRaise "InvalidLimit" (eVar 2))
  sNx)
  (mSeq (mAsg (bOfTup [(bName 3), (bName 4)]) (eVar 1))
  (mSeq (mExpr (eCall M_require_offset (eCons (eOp gMul (eVar 4) (eVar 2)) eNil)))
  (mSeq (mIf (bB (eOp gLt (eVar 2) (eC (.int 0))))
  (mSeq (mAsg (bOfTup [(bName 5), (bName 6)]) (eCall M_copies (eCons (eVar 0) (eCons (eUn gNeg (eVar 4)) (eCons (eUn gNeg (eVar 2)) eNil)))))
  (mSet 3 (eCall M_moved (eCons (eCall M_negative (eCons (eVar 3) eNil)) (eCons (eUn gNeg (eVar 4)) eNil)))))
  (mAsg (bOfTup [(bName 5), (bName 6)]) (eCall M_copies (eCons (eVar 0) (eCons (eVar 4) (eCons (eVar 2) eNil))))))
  (mSeq (mAsg (bOfTup [(bName 7), (bName 8)]) (eVar 3))
  (mRet (eTup (eCons (eCall M_within_limits (eCons (eCall M_form_of (eCons (eVar 0) (eCons (eOp gMul (eVar 7) (eVar 5)) (eCons (eOp gAdd (eVar 8) (eVar 6)) eNil)))) eNil)) (eCons (eOp gMul (eVar 4) (eVar 2)) eNil))))))))))
def M_law_composed : List D → Res Slot := mBody 4
  (mSeq (mSet 3 (eCall M_law_reduced (eCons (eVar 0) (eCons (eOp gIx (eOp gIx (eVar 2) (eC (.int 0))) (eC (.int 0))) (eCons (eOp gAdd (eOp gIx (eOp gIx (eVar 2) (eC (.int 0))) (eC (.int 1))) (eOp gIx (eVar 1) (eC (.int 1)))) eNil)))))
  (mRet (eTup (eCons (eCall M_law_sum_v2 (eCons (eVar 0) (eCons (eOp gIx (eVar 1) (eC (.int 0))) (eCons (eVar 3) eNil)))) (eCons (eOp gAdd (eOp gIx (eVar 1) (eC (.int 1))) (eOp gIx (eVar 2) (eC (.int 1)))) eNil)))))
def M_law_inverse : List D → Res Slot := mBody 2
  (mRet (eTup (eCons (eCall M_law_reduced (eCons (eVar 0) (eCons (eUn gNeg (eOp gIx (eOp gIx (eVar 1) (eC (.int 0))) (eC (.int 0)))) (eCons (eOp gSub (eOp gIx (eOp gIx (eVar 1) (eC (.int 0))) (eC (.int 1))) (eOp gIx (eVar 1) (eC (.int 1)))) eNil)))) (eCons (eUn gNeg (eOp gIx (eVar 1) (eC (.int 1)))) eNil))))
def M_law_offset_effect : List D → Res Slot := mBody 3
  (mSeq (mSet 2 (eCall M_law_reduced (eCons (eVar 0) (eCons (eCall M_law_integer (eCons (eSl (eVar 1) (pS (eC (.int 2))) pN) eNil)) (eCons (eOp gSub (eOp gMod (eOp gIx (eVar 1) (eC (.int 0))) (eC (.int 9))) (eC (.int 4))) eNil)))))
  (mRet (eTup (eCons (eVar 2) (eCons (eOp gSub (eOp gMod (eOp gIx (eVar 1) (eC (.int 1))) (eC (.int 9))) (eC (.int 4))) eNil)))))
def B_law_K54_1 : En → Out := (mSeq (mIf (bOr (bB (eOp gNe (eCall M_power (eCons (eVar 4) (eCons (eVar 5) (eCons (eVar 8) eNil)))) (eVar 6))) (bB (eOp gNe (eCall M_power (eCons (eVar 4) (eCons (eVar 5) (eCons (eUn gNeg (eVar 8)) eNil)))) (eVar 7))))
  (mRet (eC (.bl false)))
  sNx)
  (mSeq (mSet 6 (eCall M_law_composed (eCons (eVar 4) (eCons (eVar 6) (eCons (eVar 5) eNil)))))
  (mSet 7 (eCall M_law_composed (eCons (eVar 4) (eCons (eVar 7) (eCons (eCall M_law_inverse (eCons (eVar 4) (eCons (eVar 5) eNil))) eNil)))))))
def B_law_K54_2 : En → Out := (mSet 6 (eCall M_law_composed (eCons (eVar 4) (eCons (eVar 6) (eCons (eVar 14) eNil)))))
def B_law_K54_3 : En → Out := (mSeq (mSet 3 (eAll (fCall M_law_numbers (eCons (eVar 2) (eCons (eOp gAdd (eC (.int 5400)) (eVar 1)) (eCons (eOp gMul (eAll (fLst (eCons (eC (.int 420)) eNil))) (eC (.int 50))) eNil))))))
  (mSeq (mSet 4 (eOp gAdd (eC (.int 2)) (eOp gMod (eOp gIx (eVar 3) (eC (.int 0))) (eC (.int 35)))))
  (mSeq (mSet 5 (eCall M_law_offset_effect (eCons (eVar 4) (eCons (eSl (eVar 3) (pS (eC (.int 1))) pN) eNil))))
  (mSeq (mAsg (bOfTup [(bName 6), (bName 7)]) (eTup (eCons (eTup (eCons (eTup (eCons (eC (.int 0)) (eCons (eC (.int 0)) eNil))) (eCons (eC (.int 0)) eNil))) (eCons (eTup (eCons (eTup (eCons (eC (.int 0)) (eCons (eC (.int 0)) eNil))) (eCons (eC (.int 0)) eNil))) eNil))))
  (mSeq (mFor (iR1 (eCons (eC (.int 8)) eNil)) (bName 8) B_law_K54_1)
  (mSeq (mPar 9 10 (eCons (eOp gSub (eOp gMod (eOp gIx (eVar 3) (eC (.int 40))) (eC (.int 13))) (eC (.int 6))) (eCons (eOp gSub (eOp gMod (eOp gIx (eVar 3) (eC (.int 41))) (eC (.int 13))) (eC (.int 6))) eNil)))
  (mSeq (mIf (bB (eOp gNe (eCall (starM 1 M_composed) (eCons (eVar 4) (eCons (eCall M_power (eCons (eVar 4) (eCons (eVar 5) (eCons (eVar 9) eNil)))) (eCons (eCall M_power (eCons (eVar 4) (eCons (eVar 5) (eCons (eVar 10) eNil)))) eNil)))) (eCall M_power (eCons (eVar 4) (eCons (eVar 5) (eCons (eOp gAdd (eVar 9) (eVar 10)) eNil))))))
  (mRet (eC (.bl false)))
  sNx)
  (mSeq (mIf (bB (eOp gNe (eCall M_power (eCons (eVar 4) (eCons (eCall M_power (eCons (eVar 4) (eCons (eVar 5) (eCons (eOp gMod (eVar 9) (eC (.int 4))) eNil)))) (eCons (eOp gMod (eVar 10) (eC (.int 4))) eNil)))) (eCall M_power (eCons (eVar 4) (eCons (eVar 5) (eCons (eOp gMul (eOp gMod (eVar 9) (eC (.int 4))) (eOp gMod (eVar 10) (eC (.int 4)))) eNil))))))
  (mRet (eC (.bl false)))
  sNx)
  (mSeq (mIf (bOr (bB (eOp gNe (eCall M_power (eCons (eVar 4) (eCons (eVar 5) (eCons (eUn gNeg (eC (.int 1))) eNil)))) (eCall M_inverse (eCons (eVar 4) (eCons (eVar 5) eNil))))) (bB (eOp gNe (eCall (starM 1 M_composed) (eCons (eVar 4) eNil)) (eTup (eCons (eTup (eCons (eC (.int 0)) (eCons (eC (.int 0)) eNil))) (eCons (eC (.int 0)) eNil))))))
  (mRet (eC (.bl false)))
  sNx)
  (mSeq (mPar 11 12 (eCons (eTup (eCons (eOp gIx (eVar 5) (eC (.int 0))) (eCons (eC (.int 0)) eNil))) (eCons (eOp gMul (eOp gAdd (eOp gPow (eC (.int 10)) (eC (.int 30))) (eOp gIx (eVar 3) (eC (.int 42)))) (eOp gIx (eAll (fLst (eCons (eC (.int 1)) (eCons (eUn gNeg (eC (.int 1))) eNil)))) (eOp gMod (eOp gIx (eVar 3) (eC (.int 43))) (eC (.int 2))))) eNil)))
  (mSeq (mIf (bB (eOp gNe (eCall M_power (eCons (eVar 4) (eCons (eVar 11) (eCons (eVar 12) eNil)))) (eTup (eCons (eCall M_law_reduced (eCons (eVar 4) (eCons (eOp gMul (eOp gIx (eOp gIx (eVar 5) (eC (.int 0))) (eC (.int 0))) (eVar 12)) (eCons (eOp gIx (eOp gIx (eVar 5) (eC (.int 0))) (eC (.int 1))) eNil)))) (eCons (eC (.int 0)) eNil)))))
  (mRet (eC (.bl false)))
  sNx)
  (mSeq (mIf (bB (eOp gNe (eCall (starM 1 M_composed) (eCons (eVar 4) (eCons (eVar 5) (eCons (eVar 5) (eCons (eVar 5) eNil))))) (eCall M_power (eCons (eVar 4) (eCons (eVar 5) (eCons (eC (.int 3)) eNil))))))
  (mRet (eC (.bl false)))
  sNx)
  (mSeq (mPar 13 8 (eCons (eOp gIx (eAll (fLst (eCons (eC (.int 1)) (eCons (eUn gNeg (eC (.int 1))) eNil)))) (eOp gMod (eOp gIx (eVar 3) (eC (.int 44))) (eC (.int 2)))) (eCons (eOp gAdd (eC (.int 10)) (eOp gMod (eOp gIx (eVar 3) (eC (.int 45))) (eC (.int 60)))) eNil)))
  (mSeq (mPar 14 6 (eCons (eTup (eCons (eTup (eCons (eOp gAdd (eC (.int 1)) (eOp gMod (eOp gIx (eVar 3) (eC (.int 46))) (eOp gSub (eVar 4) (eC (.int 1))))) (eCons (eC (.int 0)) eNil))) (eCons (eVar 13) eNil))) (eCons (eTup (eCons (eTup (eCons (eC (.int 0)) (eCons (eC (.int 0)) eNil))) (eCons (eC (.int 0)) eNil))) eNil)))
  (mSeq (mFor (iR1 (eCons (eVar 8) eNil)) (bName 15) B_law_K54_2)
  (mIf (bOr (bB (eOp gNe (eCall M_power (eCons (eVar 4) (eCons (eVar 14) (eCons (eVar 8) eNil)))) (eVar 6))) (bB (eOp gNe (eCall M_power (eCons (eVar 4) (eCons (eCall M_law_inverse (eCons (eVar 4) (eCons (eVar 14) eNil))) (eCons (eUn gNeg (eVar 8)) eNil)))) (eVar 6))))
  (mRet (eC (.bl false)))
  sNx))))))))))))))))
def M_law_K54 : List D → Res Slot := mBody 16
  (mSeq (mFor (iEnumr (eOp gAdd (eSl (eVar 0) pN (pS (eC (.int 6)))) (eOp gMul (eAll (fLst (eCons (eC (.int 7)) eNil))) (eUn gInt (eOp gEq (eVar 0) (eAll (fLst eNil))))))) (bOfTup [(bName 1), (bName 2)]) B_law_K54_3)
  (mRet (eC (.bl true))))
def M_quotient : List D → Res Slot := mBody 5
  (mSeq (mSet 3 (eUn gBits (eVar 2)))
  (mSeq (mSet 4 (eOp gMul (eOp gIx (eVar 1) (eC (.int 0))) (eCall M_power_of (eCons (eVar 0) (eCons (eVar 3) eNil)))))
  (mSeq (mIf (bB (eOp gNe (eOp gMod (eVar 4) (eVar 2)) (eC (.int 0))))
  (mRet (eC .non))
  sNx)
  (mRet (eCall M_form_of (eCons (eVar 0) (eCons (eOp gDiv (eVar 4) (eVar 2)) (eCons (eOp gSub (eOp gIx (eVar 1) (eC (.int 1))) (eVar 3)) eNil))))))))
def M_root : List D → Res Slot := mBody 8
  (mSeq (mExpr (eCall M_require_effects (eCons (eVar 0) (eCons (eAll (fLst (eCons (eVar 1) eNil))) eNil))))
  (mSeq (mIf (bOr (bNot (bB (eCall M_is_whole (eCons (eVar 2) eNil)))) (bB (eOp gLt (eVar 2) (eC (.int 1)))))
  (mRaise "InvalidLimit" (eVar 2))
  sNx)
  (mSeq (mAsg (bOfTup [(bName 3), (bName 4)]) (eVar 1))
  (mSeq (mIf (bB (eOp gNe (eOp gMod (eVar 4) (eVar 2)) (eC (.int 0))))
  (mRet (eC .non))
  sNx)
  (mSeq (mAsg (bOfTup [(bName 5), (bName 6)]) (eCall M_copies (eCons (eVar 0) (eCons (eOp gDiv (eVar 4) (eVar 2)) (eCons (eVar 2) eNil)))))
  (mSeq (mSet 7 (eCall M_quotient (eCons (eVar 0) (eCons (eCall M_moved (eCons (eVar 3) (eCons (eUn gNeg (eVar 6)) eNil))) (eCons (eVar 5) eNil)))))
  (mSeq (mIf (bB (eOp gIsN (eVar 7) (eC .non)))
  (mRet (eC .non))
  sNx)
  (mRet (eTup (eCons (eCall M_within_limits (eCons (eVar 7) eNil)) (eCons (eOp gDiv (eVar 4) (eVar 2)) eNil)))))))))))
def C_law_has_root_1 : MD := (eCall M_law_power_v2 (eCons (eVar 0) (eCons (eOp gMul (eVar 7) (eVar 10)) eNil)))
def B_law_has_root_1 : En → Out := (mSeq (mIf (bB (eOp gEq (eOp gMod (eVar 8) (eVar 6)) (eC (.int 0))))
  (mRet (eC (.bl true)))
  sNx)
  (mSet 8 (eOp gMul (eVar 8) (eVar 0))))
def M_law_has_root : List D → Res Slot := mBody 11
  (mSeq (mAsg (bOfTup [(bName 3), (bName 4)]) (eVar 1))
  (mSeq (mIf (bB (eOp gNe (eOp gMod (eVar 4) (eVar 2)) (eC (.int 0))))
  (mRet (eC (.bl false)))
  sNx)
  (mSeq (mPar 5 6 (eCons (eOp gDiv (eVar 4) (eVar 2)) (eCons (eVar 2) eNil)))
  (mSeq (mIf (bB (eOp gNe (eVar 5) (eC (.int 0))))
  (mSeq (mSet 7 (eOp gMax (eVar 5) (eUn gNeg (eVar 5))))
  (mSet 6 (eUn gSum (eAll (mComp [10] (iR1 (eCons (eVar 2) eNil)) (bName 10) bYes C_law_has_root_1)))))
  sNx)
  (mSeq (mSet 8 (eOp gIx (eVar 3) (eC (.int 0))))
  (mSeq (mFor (iR1 (eCons (eC (.int 40)) eNil)) (bName 9) B_law_has_root_1)
  (mRet (eC (.bl false)))))))))
def B_law_K55_1 : En → Out := (mSeq (mSet 14 (eCall M_root (eCons (eVar 4) (eCons (eVar 13) (eCons (eVar 10) eNil)))))
  (mSeq (mIf (bB (eOp gNe (eOp gNotN (eVar 14) (eC .non)) (eCall M_law_has_root (eCons (eVar 4) (eCons (eVar 13) (eCons (eVar 10) eNil))))))
  (mRet (eC (.bl false)))
  sNx)
  (mIf (bAnd (bB (eOp gNotN (eVar 14) (eC .non))) (bB (eOp gNe (eCall M_power (eCons (eVar 4) (eCons (eVar 14) (eCons (eVar 10) eNil)))) (eVar 13))))
  (mRet (eC (.bl false)))
  sNx)))
def B_law_K55_2 : En → Out := (mFor (iLst (eAll (fLst (eCons (eVar 5) (eCons (eC (.int 2)) (eCons (eC (.int 3)) (eCons (eC (.int 6)) eNil))))))) (bName 10) B_law_K55_1)
def B_law_K55_3 : En → Out := (mSeq (mSet 3 (eAll (fCall M_law_numbers (eCons (eVar 2) (eCons (eOp gAdd (eC (.int 5500)) (eVar 1)) (eCons (eOp gMul (eAll (fLst (eCons (eC (.int 420)) eNil))) (eC (.int 50))) eNil))))))
  (mSeq (mPar 4 5 (eCons (eOp gAdd (eC (.int 2)) (eOp gMod (eOp gIx (eVar 3) (eC (.int 0))) (eC (.int 35)))) (eCons (eOp gAdd (eC (.int 1)) (eOp gMod (eOp gIx (eVar 3) (eC (.int 1))) (eC (.int 9)))) eNil)))
  (mSeq (mSet 6 (eCall M_law_offset_effect (eCons (eVar 4) (eCons (eSl (eVar 3) (pS (eC (.int 2))) pN) eNil))))
  (mSeq (mIf (bOr (bB (eOp gNe (eCall M_root (eCons (eVar 4) (eCons (eCall M_power (eCons (eVar 4) (eCons (eVar 6) (eCons (eVar 5) eNil)))) (eCons (eVar 5) eNil)))) (eVar 6))) (bB (eOp gNe (eCall M_root (eCons (eVar 4) (eCons (eVar 6) (eCons (eC (.int 1)) eNil)))) (eVar 6))))
  (mRet (eC (.bl false)))
  sNx)
  (mSeq (mPar 7 8 (eCons (eCall M_law_power_v2 (eCons (eVar 4) (eCons (eOp gAdd (eC (.int 1)) (eOp gMod (eOp gIx (eVar 3) (eC (.int 44))) (eC (.int 90)))) eNil))) (eCons (eTup (eCons (eTup (eCons (eC (.int 1)) (eCons (eC (.int 0)) eNil))) (eCons (eC (.int 0)) eNil))) eNil)))
  (mSeq (mIf (bOr (bB (eOp gNe (eCall M_root (eCons (eVar 4) (eCons (eVar 8) (eCons (eVar 7) eNil)))) (eTup (eCons (eTup (eCons (eC (.int 1)) (eCons (eOp gSub (eUn gNeg (eC (.int 1))) (eOp gMod (eOp gIx (eVar 3) (eC (.int 44))) (eC (.int 90)))) eNil))) (eCons (eC (.int 0)) eNil))))) (bB (eOp gNotN (eCall M_root (eCons (eVar 4) (eCons (eVar 8) (eCons (eOp gMul (eVar 7) (eOp gAdd (eVar 4) (eC (.int 1)))) eNil)))) (eC .non))))
  (mRet (eC (.bl false)))
  sNx)
  (mSeq (mIf (bB (eOp gIsN (eCall M_root (eCons (eVar 4) (eCons (eTup (eCons (eCall M_law_reduced (eCons (eVar 4) (eCons (eOp gMul (eOp gIx (eOp gIx (eVar 6) (eC (.int 0))) (eC (.int 0))) (eOp gAdd (eVar 4) (eC (.int 1)))) (eCons (eC (.int 3)) eNil)))) (eCons (eC (.int 0)) eNil))) (eCons (eOp gMul (eVar 7) (eOp gAdd (eVar 4) (eC (.int 1)))) eNil)))) (eC .non)))
  (mRet (eC (.bl false)))
  sNx)
  (mSeq (mIf (bOr (bB (eOp gNe (eOp gIx (eOp gIx (eCall M_root (eCons (eC (.int 6)) (eCons (eVar 8) (eCons (eOp gPow (eC (.int 3)) (eC (.int 30))) eNil)))) (eC (.int 0))) (eC (.int 1))) (eUn gNeg (eC (.int 30))))) (bB (eOp gNotN (eCall M_root (eCons (eC (.int 10)) (eCons (eVar 8) (eCons (eOp gAdd (eOp gPow (eC (.int 10)) (eC (.int 40))) (eC (.int 1))) eNil)))) (eC .non))))
  (mRet (eC (.bl false)))
  sNx)
  (mSeq (mPar 9 10 (eCons (eOp gIx (eAll (fLst (eCons (eC (.int 1)) (eCons (eUn gNeg (eC (.int 1))) eNil)))) (eOp gMod (eOp gIx (eVar 3) (eC (.int 45))) (eC (.int 2)))) (eCons (eOp gAdd (eC (.int 10)) (eOp gMod (eOp gIx (eVar 3) (eC (.int 46))) (eC (.int 60)))) eNil)))
  (mSeq (mSet 11 (eTup (eCons (eTup (eCons (eOp gAdd (eC (.int 1)) (eOp gMod (eOp gIx (eVar 3) (eC (.int 47))) (eOp gSub (eVar 4) (eC (.int 1))))) (eCons (eC (.int 0)) eNil))) (eCons (eVar 9) eNil))))
  (mSeq (mIf (bB (eOp gNe (eCall M_root (eCons (eVar 4) (eCons (eCall M_power (eCons (eVar 4) (eCons (eVar 11) (eCons (eVar 10) eNil)))) (eCons (eVar 10) eNil)))) (eVar 11)))
  (mRet (eC (.bl false)))
  sNx)
  (mSeq (mSet 12 (eCall M_law_reduced (eCons (eVar 4) (eCons (eOp gMul (eOp gIx (eOp gIx (eVar 6) (eC (.int 0))) (eC (.int 0))) (eOp gIx (eAll (fLst (eCons (eC (.int 1)) (eCons (eC (.int 2)) (eCons (eC (.int 6)) (eCons (eC (.int 30)) eNil)))))) (eOp gMod (eOp gIx (eVar 3) (eC (.int 42))) (eC (.int 4))))) (eCons (eOp gIx (eOp gIx (eVar 6) (eC (.int 0))) (eC (.int 1))) eNil)))))
  (mFor (iLst (eAll (fLst (eCons (eVar 6) (eCons (eTup (eCons (eVar 12) (eCons (eOp gIx (eVar 6) (eC (.int 1))) eNil))) (eCons (eTup (eCons (eVar 12) (eCons (eC (.int 0)) eNil))) (eCons (eTup (eCons (eOp gIx (eVar 6) (eC (.int 0))) (eCons (eOp gMul (eOp gIx (eVar 6) (eC (.int 1))) (eVar 5)) eNil))) (eCons (eTup (eCons (eVar 12) (eCons (eOp gMul (eOp gMod (eOp gIx (eVar 3) (eC (.int 43))) (eC (.int 7))) (eVar 5)) eNil))) eNil)))))))) (bName 13) B_law_K55_2)))))))))))))
def M_law_K55 : List D → Res Slot := mBody 15
  (mSeq (mFor (iEnumr (eOp gAdd (eSl (eVar 0) pN (pS (eC (.int 6)))) (eOp gMul (eAll (fLst (eCons (eC (.int 7)) eNil))) (eUn gInt (eOp gEq (eVar 0) (eAll (fLst eNil))))))) (bOfTup [(bName 1), (bName 2)]) B_law_K55_3)
  (mRet (eC (.bl true))))
def M_commutes : List D → Res Slot := mBody 5
  (mSeq (mExpr (eCall M_require_effects (eCons (eVar 0) (eCons (eAll (fLst (eCons (eVar 1) (eCons (eVar 2) eNil)))) eNil))))
  (mSeq (mSet 3 (eCall M_sum_of (eCons (eVar 0) (eCons (eAll (fLst (eCons (eOp gIx (eVar 1) (eC (.int 0))) (eCons (eCall M_moved (eCons (eOp gIx (eVar 2) (eC (.int 0))) (eCons (eOp gIx (eVar 1) (eC (.int 1))) eNil))) eNil)))) eNil))))
  (mSeq (mSet 4 (eCall M_sum_of (eCons (eVar 0) (eCons (eAll (fLst (eCons (eOp gIx (eVar 2) (eC (.int 0))) (eCons (eCall M_moved (eCons (eOp gIx (eVar 1) (eC (.int 0))) (eCons (eOp gIx (eVar 2) (eC (.int 1))) eNil))) eNil)))) eNil))))
  (mRet (eOp gEq (eVar 3) (eVar 4))))))
def M_conjugate : List D → Res Slot := mBody 6
  (mSeq (mExpr (eCall M_require_effects (eCons (eVar 0) (eCons (eAll (fLst (eCons (eVar 1) (eCons (eVar 2) eNil)))) eNil))))
  (mSeq (mAsg (bOfTup [(bName 3), (bName 4)]) (eVar 1))
  (mSeq (mSet 5 (eAll (fLst (eCons (eOp gIx (eVar 2) (eC (.int 0))) (eCons (eCall M_moved (eCons (eVar 3) (eCons (eOp gIx (eVar 2) (eC (.int 1))) eNil))) (eCons (eCall M_moved (eCons (eCall M_negative (eCons (eOp gIx (eVar 2) (eC (.int 0))) eNil)) (eCons (eVar 4) eNil))) eNil))))))
  (mRet (eTup (eCons (eCall M_within_limits (eCons (eCall M_sum_of (eCons (eVar 0) (eCons (eVar 5) eNil))) eNil)) (eCons (eVar 4) eNil)))))))
def C_law_K56_1 : MD := (eCall M_law_offset_effect (eCons (eVar 4) (eCons (eSl (eVar 3) (pS (eOp gAdd (eC (.int 1)) (eOp gMul (eC (.int 36)) (eVar 15)))) pN) eNil)))
def B_law_K56_1 : En → Out := (mSeq (mSet 10 (eOp gEq (eCall M_law_composed (eCons (eVar 4) (eCons (eVar 8) (eCons (eVar 9) eNil)))) (eCall M_law_composed (eCons (eVar 4) (eCons (eVar 9) (eCons (eVar 8) eNil))))))
  (mSeq (mIf (bB (eOp gNe (eUn gRepr (eCall M_commutes (eCons (eVar 4) (eCons (eVar 8) (eCons (eVar 9) eNil))))) (eUn gRepr (eVar 10))))
  (mRet (eC (.bl false)))
  sNx)
  (mSeq (mSet 11 (eCall M_law_composed (eCons (eVar 4) (eCons (eCall M_law_composed (eCons (eVar 4) (eCons (eVar 9) (eCons (eVar 8) eNil)))) (eCons (eCall M_law_inverse (eCons (eVar 4) (eCons (eVar 9) eNil))) eNil)))))
  (mSeq (mIf (bOr (bB (eOp gNe (eCall M_conjugate (eCons (eVar 4) (eCons (eVar 8) (eCons (eVar 9) eNil)))) (eVar 11))) (bB (eOp gNe (eCall M_conjugate (eCons (eVar 4) (eCons (eVar 11) (eCons (eCall M_inverse (eCons (eVar 4) (eCons (eVar 9) eNil))) eNil)))) (eVar 8))))
  (mRet (eC (.bl false)))
  sNx)
  (mIf (bB (eOp gNe (eOp gEq (eVar 11) (eVar 8)) (eVar 10)))
  (mRet (eC (.bl false)))
  sNx)))))
def B_law_K56_2 : En → Out := (mSeq (mSet 3 (eAll (fCall M_law_numbers (eCons (eVar 2) (eCons (eOp gAdd (eC (.int 5600)) (eVar 1)) (eCons (eOp gMul (eAll (fLst (eCons (eC (.int 420)) eNil))) (eC (.int 120))) eNil))))))
  (mSeq (mSet 4 (eOp gAdd (eC (.int 2)) (eOp gMod (eOp gIx (eVar 3) (eC (.int 0))) (eC (.int 35)))))
  (mSeq (mAsg (bOfLst [(bName 5), (bName 6), (bName 7)]) (eAll (mComp [15] (iR1 (eCons (eC (.int 3)) eNil)) (bName 15) bYes C_law_K56_1)))
  (mSeq (mSet 6 (eOp gIx (eAll (fLst (eCons (eVar 6) (eCons (eCall M_power (eCons (eVar 4) (eCons (eVar 5) (eCons (eOp gSub (eOp gMod (eOp gIx (eVar 3) (eC (.int 110))) (eC (.int 7))) (eC (.int 3))) eNil)))) (eCons (eTup (eCons (eOp gIx (eVar 6) (eC (.int 0))) (eCons (eC (.int 0)) eNil))) (eCons (eTup (eCons (eOp gIx (eVar 6) (eC (.int 0))) (eCons (eOp gIx (eVar 5) (eC (.int 1))) eNil))) eNil)))))) (eOp gMod (eOp gIx (eVar 3) (eC (.int 111))) (eC (.int 4)))))
  (mSeq (mFor (iLst (eAll (fLst (eCons (eTup (eCons (eVar 5) (eCons (eVar 6) eNil))) (eCons (eTup (eCons (eVar 6) (eCons (eVar 5) eNil))) (eCons (eTup (eCons (eVar 5) (eCons (eTup (eCons (eOp gIx (eVar 7) (eC (.int 0))) (eCons (eC (.int 0)) eNil))) eNil))) (eCons (eTup (eCons (eVar 5) (eCons (eVar 5) eNil))) (eCons (eTup (eCons (eVar 6) (eCons (eTup (eCons (eTup (eCons (eC (.int 0)) (eCons (eC (.int 0)) eNil))) (eCons (eC (.int 0)) eNil))) eNil))) eNil)))))))) (bOfTup [(bName 8), (bName 9)]) B_law_K56_1)
  (mSeq (mPar 12 13 (eCons (eCall M_power (eCons (eVar 4) (eCons (eVar 5) (eCons (eUn gNeg (eC (.int 2))) eNil)))) (eCons (eCall M_power (eCons (eVar 4) (eCons (eVar 5) (eCons (eC (.int 3)) eNil)))) eNil)))
  (mSeq (mIf (bOr (bNot (bB (eCall M_commutes (eCons (eVar 4) (eCons (eVar 5) (eCons (eCall M_power (eCons (eVar 4) (eCons (eVar 5) (eCons (eC (.int 2)) eNil)))) eNil)))))) (bNot (bB (eCall M_commutes (eCons (eVar 4) (eCons (eVar 12) (eCons (eVar 13) eNil)))))))
  (mRet (eC (.bl false)))
  sNx)
  (mSeq (mSet 14 (eCall M_conjugate (eCons (eVar 4) (eCons (eCall (starM 1 M_composed) (eCons (eVar 4) (eCons (eVar 5) (eCons (eVar 6) eNil)))) (eCons (eVar 7) eNil)))))
  (mIf (bB (eOp gNe (eVar 14) (eCall (starM 1 M_composed) (eCons (eVar 4) (eCons (eCall M_conjugate (eCons (eVar 4) (eCons (eVar 5) (eCons (eVar 7) eNil)))) (eCons (eCall M_conjugate (eCons (eVar 4) (eCons (eVar 6) (eCons (eVar 7) eNil)))) eNil))))))
  (mRet (eC (.bl false)))
  sNx)))))))))
def M_law_K56 : List D → Res Slot := mBody 16
  (mSeq (mFor (iEnumr (eOp gAdd (eSl (eVar 0) pN (pS (eC (.int 6)))) (eOp gMul (eAll (fLst (eCons (eC (.int 7)) eNil))) (eUn gInt (eOp gEq (eVar 0) (eAll (fLst eNil))))))) (bOfTup [(bName 1), (bName 2)]) B_law_K56_2)
  (mRet (eC (.bl true))))
def M_remainder : List D → Res Slot := mBody 6
  (mSeq (mAsg (bOfTup [(bName 4), (bName 5)]) (eVar 1))
  (mRet (eOp gMod (eOp gMul (eVar 4) (eCall M_power_of (eCons (eVar 0) (eCons (eOp gMod (eVar 5) (eVar 2)) eNil)))) (eVar 3))))
def B_turns_between_1 : En → Out := (mSeq (mIf (bB (eOp gEq (eVar 5) (eVar 6)))
  (mApp 7 (eVar 8))
  sNx)
  (mSet 5 (eOp gMod (eOp gMul (eVar 5) (eVar 0)) (eVar 4))))
def M_turns_between : List D → Res Slot := mBody 9
  (mSeq (mSet 4 (eOp gSub (eCall M_power_of (eCons (eVar 0) (eCons (eVar 3) eNil))) (eC (.int 1))))
  (mSeq (mSet 5 (eCall M_remainder (eCons (eVar 0) (eCons (eVar 1) (eCons (eVar 3) (eCons (eVar 4) eNil))))))
  (mSeq (mSet 6 (eCall M_remainder (eCons (eVar 0) (eCons (eVar 2) (eCons (eVar 3) (eCons (eVar 4) eNil))))))
  (mSeq (mSetF 7 (fLst eNil))
  (mSeq (mFor (iR1 (eCons (eVar 3) eNil)) (bName 8) B_turns_between_1)
  (mRetO 7))))))
def M_shifts_between : List D → Res Slot := mBody 3
  (mSeq (mIf (bB (eOp gNe (eOp gIx (eVar 0) (eC (.int 0))) (eOp gIx (eVar 1) (eC (.int 0)))))
  (mRetF (fLst eNil))
  sNx)
  (mSeq (mSet 2 (eOp gSub (eOp gIx (eVar 1) (eC (.int 1))) (eOp gIx (eVar 0) (eC (.int 1)))))
  (mRetF (fIf (bB (eCall M_is_place (eCons (eVar 2) eNil))) (fLst (eCons (eVar 2) eNil)) (fLst eNil)))))
def M_conjugators : List D → Res Slot := mBody 3
  (mSeq (mExpr (eCall M_require_effects (eCons (eVar 0) (eCons (eAll (fLst (eCons (eVar 1) (eCons (eVar 2) eNil)))) eNil))))
  (mSeq (mIf (bB (eOp gNe (eOp gIx (eVar 1) (eC (.int 1))) (eOp gIx (eVar 2) (eC (.int 1)))))
  (mRetF (fLst eNil))
  sNx)
  (mSeq (mIf (bB (eOp gEq (eOp gIx (eVar 1) (eC (.int 1))) (eC (.int 0))))
  (mRetF (fCall M_shifts_between (eCons (eOp gIx (eVar 1) (eC (.int 0))) (eCons (eOp gIx (eVar 2) (eC (.int 0))) eNil))))
  sNx)
  (mRetF (fCall M_turns_between (eCons (eVar 0) (eCons (eOp gIx (eVar 1) (eC (.int 0))) (eCons (eOp gIx (eVar 2) (eC (.int 0))) (eCons (eUn gAbs (eOp gIx (eVar 1) (eC (.int 1)))) eNil)))))))))
def C_law_K57_1 : MD := (eAll (fCall M_conjugators (eCons (eVar 4) (eCons (eOp gIx (eVar 9) (eC (.int 0))) (eCons (eVar 15) eNil)))))
def C_law_K57_2 : MD := (eAll (fCall M_conjugators (eCons (eVar 4) (eCons (eVar 15) (eCons (eOp gIx (eVar 9) (eC (.int 0))) eNil)))))
def B_law_K57_1 : En → Out := (mSeq (mSetF 14 (fCall M_conjugators (eCons (eVar 4) (eCons (eVar 5) (eCons (eVar 12) eNil)))))
  (mSeq (mIf (bOr (bB (eOp gNe (eVarO 14) (eAll (fCall M_law_want_v3 (eCons (eVar 4) (eCons (eVar 5) (eCons (eVar 12) eNil))))))) (bB (eOp gNe (eAll (fCall M_conjugators (eCons (eVar 4) (eCons (eVar 12) (eCons (eVar 5) eNil))))) (eAll (fCall M_law_want_v3 (eCons (eVar 4) (eCons (eVar 12) (eCons (eVar 5) eNil))))))))
  (mRet (eC (.bl false)))
  sNx)
  (mApp 14 (eC .non))))
def B_law_K57_2 : En → Out := (mFor (iR1 (eCons (eC (.int 2)) eNil)) (bName 13) B_law_K57_1)
def B_law_K57_3 : En → Out := (mSeq (mSet 3 (eAll (fCall M_law_numbers (eCons (eVar 2) (eCons (eOp gAdd (eC (.int 5700)) (eVar 1)) (eCons (eOp gMul (eAll (fLst (eCons (eC (.int 420)) eNil))) (eC (.int 90))) eNil))))))
  (mSeq (mSet 4 (eOp gAdd (eC (.int 2)) (eOp gMod (eOp gIx (eVar 3) (eC (.int 0))) (eC (.int 35)))))
  (mSeq (mPar 5 6 (eCons (eCall M_law_offset_effect (eCons (eVar 4) (eCons (eSl (eVar 3) (pS (eC (.int 1))) pN) eNil))) (eCons (eCall M_law_offset_effect (eCons (eVar 4) (eCons (eSl (eVar 3) (pS (eC (.int 40))) pN) eNil))) eNil)))
  (mSeq (mSet 7 (eCall M_conjugate (eCons (eVar 4) (eCons (eVar 5) (eCons (eVar 6) eNil)))))
  (mSeq (mSet 8 (eIf (bB (eOp gNe (eOp gIx (eVar 5) (eC (.int 1))) (eC (.int 0)))) (eOp gMod (eOp gIx (eVar 6) (eC (.int 1))) (eOp gMax (eOp gIx (eVar 5) (eC (.int 1))) (eUn gNeg (eOp gIx (eVar 5) (eC (.int 1)))))) (eOp gIx (eVar 6) (eC (.int 1)))))
  (mSeq (mIf (bAnd (bB (eOp gNe (eOp gIx (eVar 5) (eC (.int 1))) (eC (.int 0)))) (bB (eOp (gIn true) (eVar 8) (eAll (fCall M_conjugators (eCons (eVar 4) (eCons (eVar 5) (eCons (eVar 7) eNil))))))))
  (mRet (eC (.bl false)))
  sNx)
  (mSeq (mIf (bAnd (bB (eOp gEq (eOp gIx (eVar 5) (eC (.int 1))) (eC (.int 0)))) (bAnd (bB (eOp gNe (eOp gIx (eOp gIx (eVar 5) (eC (.int 0))) (eC (.int 0))) (eC (.int 0)))) (bB (eOp gNe (eAll (fCall M_conjugators (eCons (eVar 4) (eCons (eVar 5) (eCons (eVar 7) eNil))))) (eAll (fLst (eCons (eVar 8) eNil)))))))
  (mRet (eC (.bl false)))
  sNx)
  (mSeq (mSet 9 (eAll (fLst (eCons (eTup (eCons (eTup (eCons (eC (.int 1)) (eCons (eC (.int 1000)) eNil))) (eCons (eC (.int 0)) eNil))) (eCons (eTup (eCons (eTup (eCons (eC (.int 1)) (eCons (eC (.int 0)) eNil))) (eCons (eC (.int 0)) eNil))) (eCons (eTup (eCons (eTup (eCons (eC (.int 1)) (eCons (eUn gNeg (eC (.int 1000))) eNil))) (eCons (eC (.int 0)) eNil))) (eCons (eTup (eCons (eTup (eCons (eC (.int 1)) (eCons (eUn gNeg (eC (.int 1))) eNil))) (eCons (eC (.int 0)) eNil))) eNil)))))))
  (mSeq (mIf (bB (eOp gNe (eAll (mComp [15] (iLst (eSl (eVar 9) (pS (eC (.int 1))) pN)) (bName 15) bYes C_law_K57_1)) (eAll (fLst (eCons (eAll (fLst (eCons (eUn gNeg (eC (.int 1000))) eNil))) (eCons (eAll (fLst eNil)) (eCons (eAll (fLst eNil)) eNil)))))))
  (mRet (eC (.bl false)))
  sNx)
  (mSeq (mIf (bB (eOp gNe (eAll (mComp [15] (iLst (eSl (eVar 9) (pS (eC (.int 1))) pN)) (bName 15) bYes C_law_K57_2)) (eAll (fLst (eCons (eAll (fLst (eCons (eC (.int 1000)) eNil))) (eCons (eAll (fLst eNil)) (eCons (eAll (fLst eNil)) eNil)))))))
  (mRet (eC (.bl false)))
  sNx)
  (mSeq (mSet 10 (eCall M_law_reduced (eCons (eVar 4) (eCons (eOp gIx (eOp gIx (eVar 6) (eC (.int 0))) (eC (.int 0))) (eCons (eOp gSub (eOp gMod (eOp gIx (eVar 3) (eC (.int 80))) (eC (.int 9))) (eC (.int 4))) eNil)))))
  (mSeq (mSet 11 (eAll (fLst (eCons (eVar 7) (eCons (eVar 5) (eCons (eTup (eCons (eVar 10) (eCons (eOp gIx (eVar 5) (eC (.int 1))) eNil))) (eCons (eTup (eCons (eOp gIx (eVar 5) (eC (.int 0))) (eCons (eOp gAdd (eOp gIx (eVar 5) (eC (.int 1))) (eC (.int 1))) eNil))) (eCons (eTup (eCons (eTup (eCons (eC (.int 0)) (eCons (eC (.int 0)) eNil))) (eCons (eOp gIx (eVar 5) (eC (.int 1))) eNil))) (eCons (eTup (eCons (eOp gIx (eVar 5) (eC (.int 0))) (eCons (eUn gNeg (eOp gIx (eVar 5) (eC (.int 1)))) eNil))) eNil)))))))))
  (mFor (iLst (eVar 11)) (bName 12) B_law_K57_2)))))))))))))
def M_law_K57 : List D → Res Slot := mBody 16
  (mSeq (mFor (iEnumr (eOp gAdd (eSl (eVar 0) pN (pS (eC (.int 6)))) (eOp gMul (eAll (fLst (eCons (eC (.int 7)) eNil))) (eUn gInt (eOp gEq (eVar 0) (eAll (fLst eNil))))))) (bOfTup [(bName 1), (bName 2)]) B_law_K57_3)
  (mRet (eC (.bl true))))
def M_law_call : List D → Res Slot := mBody 4
  (mSeq (mIf (bB (eOp gEq (eVar 0) (eC (.int 0))))
  (mRet (eCall M_power (eCons (eVar 1) (eCons (eVar 2) (eCons (eVar 3) eNil)))))
  sNx)
  (mSeq (mIf (bB (eOp gEq (eVar 0) (eC (.int 1))))
  (mRet (eCall M_root (eCons (eVar 1) (eCons (eVar 2) (eCons (eVar 3) eNil)))))
  sNx)
  (mSeq (mIf (bB (eOp gEq (eVar 0) (eC (.int 2))))
  (mRet (eCall M_commutes (eCons (eVar 1) (eCons (eVar 2) (eCons (eVar 3) eNil)))))
  sNx)
  (mRet (eIf (bB (eOp gEq (eVar 0) (eC (.int 3)))) (eCall M_conjugate (eCons (eVar 1) (eCons (eVar 2) (eCons (eVar 3) eNil)))) (eAll (fCall M_conjugators (eCons (eVar 1) (eCons (eVar 2) (eCons (eVar 3) eNil))))))))))
def M_changed : List D → Res Slot := mBody 8
  (mSeq (mIf (bNot (bB (eCall M_is_pair (eCons (eVar 0) (eCons (eVar 1) eNil)))))
  (mRaise "InvalidState" (eVar 1))
  sNx)
  (mSeq (mExpr (eCall M_require_effects (eCons (eVar 0) (eCons (eAll (fLst (eCons (eVar 2) eNil))) eNil))))
  (mSeq (mAsg (bOfTup [(bName 3), (bName 4)]) (eVar 1))
  (mSeq (mAsg (bOfTup [(bName 5), (bName 6)]) (eVar 2))
  (mSeq (mExpr (eCall M_require_offset (eCons (eOp gAdd (eVar 4) (eVar 6)) eNil)))
  (mSeq (mSet 7 (eCall M_sum_of (eCons (eVar 0) (eCons (eAll (fLst (eCons (eVar 3) (eCons (eCall M_moved (eCons (eVar 5) (eCons (eVar 4) eNil))) eNil)))) eNil))))
  (mRet (eTup (eCons (eCall M_within_limits (eCons (eVar 7) eNil)) (eCons (eOp gAdd (eVar 4) (eVar 6)) eNil))))))))))
def M_is_run : List D → Res Slot := mBody 3
  (mSeq (mIf (bOr (bNot (bB (eUn (gIsi .tuple) (eVar 0)))) (bB (eOp gNe (eUn gLen (eVar 0)) (eC (.int 2)))))
  (mRet (eC (.bl false)))
  sNx)
  (mSeq (mAsg (bOfTup [(bName 1), (bName 2)]) (eVar 0))
  (mSeq (mIf (bOr (bNot (bB (eCall M_is_whole (eCons (eVar 2) eNil)))) (bB (eOp gLt (eVar 2) (eC (.int 1)))))
  (mRet (eC (.bl false)))
  sNx)
  (mRet (eAnd (eUn (gIsi .str) (eVar 1)) (eOp (gIn false) (eVar 1) (eC (.tup [.str "R", .str "L", .str "A", .str "S"]))))))))
def B_wrong_run_1 : En → Out := (mSeq (mIf (bOr (bNot (bB (eCall M_is_run (eCons (eVar 3) eNil)))) (bB (eOp gEq (eOp gIx (eVar 3) (eC (.int 0))) (eVar 1))))
  (mRet (eVar 2))
  sNx)
  (mSet 1 (eOp gIx (eVar 3) (eC (.int 0)))))
def M_wrong_run : List D → Res Slot := mBody 4
  (mSeq (mSet 1 (eC .non))
  (mSeq (mFor (iEnumr (eVar 0)) (bOfTup [(bName 2), (bName 3)]) B_wrong_run_1)
  (mRet (eC .non))))
def M_require_sequence : List D → Res Slot := mBody 2
  (mSeq (mIf (bNot (bB (eUn (gIsi .list) (eVar 0))))
  (mRaise "InvalidSequence" (eC .non))
  sNx)
  (mSeq (mSet 1 (eCall M_wrong_run (eCons (eVar 0) eNil)))
  (mIf (bB (eOp gNotN (eVar 1) (eC .non)))
  (mRaise "InvalidSequence" (eVar 1))
  sNx)))
def B_positions_after_1 : En → Out := (mSeq (mAug 0 gAddI (eOp gMul (eKIx [("R", .int (1)), ("L", .int (-1)), ("A", .int (0)), ("S", .int (0))] (eVar 3)) (eVar 4)))
  (mApp 2 (eVar 0)))
def M_positions_after : List D → Res Slot := mBody 5
  (mSeq (mSetF 2 (fLst eNil))
  (mSeq (mFor (iLst (eVar 1)) (bOfTup [(bName 3), (bName 4)]) B_positions_after_1)
  (mRetO 2)))
def C_additions_1 : MD := (eTup (eCons (eOp gMul (eKIx [("R", .int (0)), ("L", .int (0)), ("A", .int (1)), ("S", .int (-1))] (eVar 3)) (eVar 4)) (eCons (eVar 2) eNil)))
def M_additions : List D → Res Slot := mBody 5
  (mRetF (mComp [3, 4, 2] (iZipr (eCons (eVar 0) (eCons (eVar 1) eNil))) (bOfTup [(bOfTup [(bName 3), (bName 4)]), (bName 2)]) bYes C_additions_1))
def B_effect_of_1 : En → Out := (mExpr (eCall M_require_offset (eCons (eVar 3) eNil)))
def M_effect_of : List D → Res Slot := mBody 5
  (mSeq (mExpr (eCall M_require_sequence (eCons (eVar 1) eNil)))
  (mSeq (mSet 2 (eAll (fCall M_positions_after (eCons (eC (.int 0)) (eCons (eVar 1) eNil)))))
  (mSeq (mFor (iLst (eVar 2)) (bName 3) B_effect_of_1)
  (mSeq (mSet 4 (eCall M_within_limits (eCons (eCall M_sum_of (eCons (eVar 0) (eCons (eAll (fCall M_additions (eCons (eVar 1) (eCons (eVar 2) eNil)))) eNil))) eNil)))
  (mRet (eTup (eCons (eVar 4) (eCons (eIf (bTruth (eVar 2)) (eOp gIx (eVar 2) (eUn gNeg (eC (.int 1)))) (eC (.int 0))) eNil))))))))
def M_law_call_v2 : List D → Res Slot := mBody 4
  (mSeq (mIf (bB (eOp gEq (eVar 0) (eC (.int 0))))
  (mRet (eCall (starM 1 M_composed) (eCons (eVar 1) (eCons (eVar 2) (eCons (eVar 3) eNil)))))
  sNx)
  (mSeq (mIf (bB (eOp gEq (eVar 0) (eC (.int 1))))
  (mRet (eCall M_inverse (eCons (eVar 1) (eCons (eVar 2) eNil))))
  sNx)
  (mSeq (mIf (bB (eOp gEq (eVar 0) (eC (.int 4))))
  (mRet (eCall (starM 1 M_composed) (eCons (eVar 1) (eCons (eOp gIx (eVar 2) (eC (.int 0))) (eCons (eOp gIx (eVar 2) (eC (.int 1))) (eCons (eOp gIx (eVar 2) (eC (.int 2))) (eCons (eOp gIx (eVar 2) (eC (.int 3))) eNil)))))))
  sNx)
  (mRet (eIf (bB (eOp gEq (eVar 0) (eC (.int 2)))) (eCall M_changed (eCons (eVar 1) (eCons (eVar 2) (eCons (eVar 3) eNil)))) (eCall M_effect_of (eCons (eVar 1) (eCons (eVar 2) eNil))))))))
def M_law_error : List D → Res Slot := mBody 5
  (mSeq (mTry (mExpr (eCall M_law_call (eCons (eVar 0) (eCons (eVar 1) (eCons (eVar 2) (eCons (eVar 3) eNil)))))) [⟨fun x => x == "InvalidLimit", 4, (mRetF (fLst (eCons (eC (.str "value")) (eCons (eUn gRepr (mErrFld 4 "InvalidLimit")) (eCons (mErrIsi 4 "InvalidLimit" false) eNil)))))⟩, ⟨fun x => x == "LimitExceeded", 4, (mRetF (fLst (eCons (eC (.str "limit")) (eCons (mErrFld 4 "LimitExceeded") eNil))))⟩, ⟨fun x => x == "InvalidEffect", 4, (mRet (eIf (bB (mErrIsi 4 "InvalidEffect" true)) (eAll (fLst (eCons (eC (.str "effect")) (eCons (eUn gRepr (mErrFld 4 "InvalidEffect")) eNil)))) (eC (.str "other"))))⟩])
  (mRet (eC .non)))
def M_law_error_v2 : List D → Res Slot := mBody 6
  (mSeq (mTry (mExpr (eCall M_law_call_v2 (eCons (eVar 0) (eCons (eVar 1) (eCons (eVar 2) (eCons (eVar 3) eNil)))))) [⟨fun x => x == "LimitExceeded", 4, (mRetF (fLst (eCons (eC (.str "limit")) (eCons (mErrFld 4 "LimitExceeded") (eCons (mErrIsi 4 "LimitExceeded" false) eNil)))))⟩, ⟨fun x => x == "InvalidState" || x == "InvalidSequence" || x == "InvalidEffect", 4, (mSeq (mIf (bB (mEither (mErrIsi 4 "InvalidState" false) (mEither (mErrIsi 4 "InvalidSequence" true) (mErrIsi 4 "InvalidEffect" false))))
  (mRetF (fLst (eCons (eC (.str "sequence")) (eCons (mErrFld 4 "InvalidSequence") eNil))))
  sNx)
  (mSeq (mSet 5 (eOp gIx (eAll (fLst (eCons (eC (.str "effect")) (eCons (eC (.str "state")) eNil)))) (eUn gInt (mEither (mErrIsi 4 "InvalidState" true) (mEither (mErrIsi 4 "InvalidSequence" false) (mErrIsi 4 "InvalidEffect" false))))))
  (mRet (eIf (bB (mEither (mErrIsi 4 "InvalidState" (false || true)) (mEither (mErrIsi 4 "InvalidSequence" (false || false)) (mErrIsi 4 "InvalidEffect" (true || false))))) (eAll (fLst (eCons (eVar 5) (eCons (eUn gRepr (mEither (mErrFld 4 "InvalidState") (mErrFld 4 "InvalidEffect"))) eNil)))) (eC (.str "other"))))))⟩])
  (mRet (eC .non)))
def B_law_limits_right_1 : En → Out := (mIf (bB (eOp gNe (eCall M_law_error (eCons (eVar 3) (eCons (eVar 0) (eCons (eVar 4) (eCons (eVar 5) eNil))))) (eAll (fLst (eCons (eC (.str "limit")) (eCons (eVar 6) eNil))))))
  (mRet (eC (.bl false)))
  sNx)
def B_law_limits_right_2 : En → Out := (mIf (bB (eOp gNotN (eCall M_law_error (eCons (eVar 3) (eCons (eVar 0) (eCons (eTup (eCons (eTup (eCons (eC (.int 1)) (eCons (eC (.int 1000)) eNil))) (eCons (eOp gMod (eVar 1) (eC (.int 9))) eNil))) (eCons (eTup (eCons (eTup (eCons (eC (.int 1)) (eCons (eUn gNeg (eC (.int 1000))) eNil))) (eCons (eOp gMod (eVar 1) (eC (.int 9))) eNil))) eNil))))) (eC .non)))
  (mRet (eC (.bl false)))
  sNx)
def M_law_limits_right : List D → Res Slot := mBody 7
  (mSeq (mSetF 2 (fLst (eCons (eTup (eCons (eC (.int 0)) (eCons (eTup (eCons (eTup (eCons (eC (.int 1)) (eCons (eC (.int 0)) eNil))) (eCons (eC (.int 4)) eNil))) (eCons (eC (.int 251)) (eCons (eC (.int 1000)) eNil))))) (eCons (eTup (eCons (eC (.int 0)) (eCons (eTup (eCons (eTup (eCons (eC (.int 1)) (eCons (eC (.int 0)) eNil))) (eCons (eUn gNeg (eC (.int 4))) eNil))) (eCons (eC (.int 251)) (eCons (eC (.int 1000)) eNil))))) (eCons (eTup (eCons (eC (.int 0)) (eCons (eTup (eCons (eTup (eCons (eC (.int 1)) (eCons (eC (.int 0)) eNil))) (eCons (eC (.int 1)) eNil))) (eCons (eUn gNeg (eC (.int 1001))) (eCons (eC (.int 1000)) eNil))))) eNil)))))
  (mSeq (mSetF 2 (fOp gAdd (eVarO 2) (eAll (fLst (eCons (eTup (eCons (eC (.int 0)) (eCons (eTup (eCons (eTup (eCons (eC (.int 0)) (eCons (eC (.int 0)) eNil))) (eCons (eC (.int 3)) eNil))) (eCons (eOp gPow (eC (.int 10)) (eC (.int 40))) (eCons (eC (.int 1000)) eNil))))) (eCons (eTup (eCons (eC (.int 3)) (eCons (eTup (eCons (eTup (eCons (eC (.int 1)) (eCons (eC (.int 1000)) eNil))) (eCons (eC (.int 0)) eNil))) (eCons (eTup (eCons (eTup (eCons (eC (.int 1)) (eCons (eC (.int 0)) eNil))) (eCons (eC (.int 1)) eNil))) (eCons (eC (.int 1000)) eNil))))) eNil))))))
  (mSeq (mSetF 2 (fOp gAdd (eVarO 2) (eAll (fLst (eCons (eTup (eCons (eC (.int 0)) (eCons (eTup (eCons (eTup (eCons (eC (.int 1)) (eCons (eC (.int 1)) eNil))) (eCons (eC (.int 0)) eNil))) (eCons (eOp gAdd (eOp gMul (eOp gPow (eOp gPow (eC (.int 10)) (eC (.int 60))) (eC (.int 5))) (eOp gPow (eC (.int 10)) (eC (.int 40)))) (eC (.int 1))) (eCons (eC (.int 300)) eNil))))) eNil)))))
  (mSeq (mApp 2 (eTup (eCons (eC (.int 3)) (eCons (eTup (eCons (eTup (eCons (eC (.int 1)) (eCons (eUn gNeg (eC (.int 1000))) eNil))) (eCons (eC (.int 0)) eNil))) (eCons (eTup (eCons (eTup (eCons (eC (.int 0)) (eCons (eC (.int 0)) eNil))) (eCons (eUn gNeg (eC (.int 1))) eNil))) (eCons (eC (.int 1000)) eNil))))))
  (mSeq (sFrz 2 (mFor (iLst (eVar 2)) (bOfTup [(bName 3), (bName 4), (bName 5), (bName 6)]) B_law_limits_right_1))
  (mSeq (mIf (bOr (bB (eOp gNe (eCall M_law_error (eCons (eC (.int 1)) (eCons (eC (.int 10)) (eCons (eTup (eCons (eTup (eCons (eC (.int 1)) (eCons (eUn gNeg (eC (.int 1000))) eNil))) (eCons (eC (.int 0)) eNil))) (eCons (eC (.int 2)) eNil))))) (eAll (fLst (eCons (eC (.str "limit")) (eCons (eC (.int 1000)) eNil)))))) (bB (eOp gNotN (eCall M_law_error (eCons (eC (.int 1)) (eCons (eC (.int 10)) (eCons (eTup (eCons (eTup (eCons (eC (.int 1)) (eCons (eC (.int 0)) eNil))) (eCons (eC (.int 0)) eNil))) (eCons (eC (.int 2)) eNil))))) (eC .non))))
  (mRet (eC (.bl false)))
  sNx)
  (mSeq (mIf (bB (eOp gNe (eCall M_law_error (eCons (eC (.int 1)) (eCons (eC (.int 10)) (eCons (eTup (eCons (eTup (eCons (eOp gSub (eOp gPow (eOp gPow (eC (.int 10)) (eC (.int 60))) (eC (.int 5))) (eC (.int 1))) (eCons (eC (.int 0)) eNil))) (eCons (eC (.int 0)) eNil))) (eCons (eC (.int 2)) eNil))))) (eAll (fLst (eCons (eC (.str "limit")) (eCons (eC (.int 300)) eNil))))))
  (mRet (eC (.bl false)))
  sNx)
  (mSeq (mFor (iLst (eAll (fLst (eCons (eC (.int 2)) (eCons (eC (.int 4)) eNil))))) (bName 3) B_law_limits_right_2)
  (mRet (eOp gEq (eCall M_law_error (eCons (eC (.int 0)) (eCons (eVar 0) (eCons (eTup (eCons (eTup (eCons (eC (.int 1)) (eCons (eC (.int 0)) eNil))) (eCons (eC (.int 4)) eNil))) (eCons (eC (.int 250)) eNil))))) (eOp gIx (eAll (fLst (eCons (eC .non) (eCons (eAll (fLst (eCons (eC (.str "limit")) (eCons (eC (.int 300)) eNil)))) eNil)))) (eUn gInt (eOp gGt (eVar 0) (eC (.int 2)))))))))))))))
def B_law_limits_right_v2_1 : En → Out := (mIf (bB (eOp gNe (eCall M_law_error_v2 (eCons (eC (.int 0)) (eCons (eVar 0) (eCons (eVar 5) (eCons (eVar 6) eNil))))) (eAll (fLst (eCons (eC (.str "limit")) (eCons (eVar 7) (eCons (eC (.bl false)) eNil)))))))
  (mRet (eC (.bl false)))
  sNx)
def B_law_limits_right_v2_2 : En → Out := (mIf (bB (eOp gNe (eCall M_law_error_v2 (eCons (eC (.int 2)) (eCons (eVar 0) (eCons (eVar 5) (eCons (eVar 6) eNil))))) (eAll (fLst (eCons (eC (.str "limit")) (eCons (eVar 7) (eCons (eC (.bl false)) eNil)))))))
  (mRet (eC (.bl false)))
  sNx)
def M_law_limits_right_v2 : List D → Res Slot := mBody 10
  (mSeq (mPar 2 3 (eCons (eTup (eCons (eC (.int 1)) (eCons (eOp gMod (eVar 1) (eC (.int 5))) eNil))) (eCons (eOp gMul (eOp gMul (eOp gPow (eOp gPow (eC (.int 10)) (eC (.int 60))) (eC (.int 4))) (eOp gPow (eC (.int 10)) (eC (.int 59)))) (eC (.int 9))) eNil)))
  (mSeq (mSetF 4 (fLst (eCons (eTup (eCons (eTup (eCons (eVar 2) (eCons (eC (.int 1000)) eNil))) (eCons (eTup (eCons (eVar 2) (eCons (eC (.int 1)) eNil))) (eCons (eC (.int 1000)) eNil)))) (eCons (eTup (eCons (eTup (eCons (eVar 2) (eCons (eOp gSub (eUn gNeg (eVar 1)) (eC (.int 1))) eNil))) (eCons (eTup (eCons (eVar 2) (eCons (eUn gNeg (eC (.int 1000))) eNil))) (eCons (eC (.int 1000)) eNil)))) eNil))))
  (mSeq (mApp 4 (eTup (eCons (eTup (eCons (eTup (eCons (eC (.int 0)) (eCons (eC (.int 0)) eNil))) (eCons (eC (.int 600)) eNil))) (eCons (eTup (eCons (eTup (eCons (eC (.int 1)) (eCons (eC (.int 500)) eNil))) (eCons (eUn gNeg (eC (.int 600))) eNil))) (eCons (eC (.int 1000)) eNil)))))
  (mSeq (sFrz 4 (mFor (iLst (eVar 4)) (bOfTup [(bName 5), (bName 6), (bName 7)]) B_law_limits_right_v2_1))
  (mSeq (mSet 8 (eAll (fLst (eCons (eTup (eCons (eTup (eCons (eOp gAdd (eVar 3) (eC (.int 1))) (eCons (eC (.int 0)) eNil))) (eCons (eC (.int 0)) eNil))) (eCons (eTup (eCons (eTup (eCons (eOp gAdd (eVar 3) (eC (.int 2))) (eCons (eC (.int 0)) eNil))) (eCons (eC (.int 0)) eNil))) eNil)))))
  (mSeq (mIf (bAnd (bB (eOp gEq (eVar 0) (eC (.int 10)))) (bB (eOp gNe (eCall M_law_error_v2 (eCons (eC (.int 0)) (eCons (eVar 0) (eCons (eOp gIx (eVar 8) (eC (.int 0))) (eCons (eOp gIx (eVar 8) (eC (.int 1))) eNil))))) (eAll (fLst (eCons (eC (.str "limit")) (eCons (eC (.int 300)) (eCons (eC (.bl false)) eNil))))))))
  (mRet (eC (.bl false)))
  sNx)
  (mSeq (mIf (bB (eOp gNe (eCall M_law_error_v2 (eCons (eC (.int 0)) (eCons (eVar 0) (eCons (eTup (eCons (eTup (eCons (eC (.int 1)) (eCons (eC (.int 1000)) eNil))) (eCons (eC (.int 0)) eNil))) (eCons (eTup (eCons (eTup (eCons (eC (.int 1)) (eCons (eUn gNeg (eC (.int 1000))) eNil))) (eCons (eC (.int 0)) eNil))) eNil))))) (eAll (fLst (eCons (eC (.str "limit")) (eCons (eC (.int 300)) (eCons (eC (.bl false)) eNil)))))))
  (mRet (eC (.bl false)))
  sNx)
  (mSeq (mIf (bB (eOp gNe (eCall M_law_error_v2 (eCons (eC (.int 1)) (eCons (eVar 0) (eCons (eTup (eCons (eTup (eCons (eC (.int 1)) (eCons (eUn gNeg (eC (.int 900))) eNil))) (eCons (eC (.int 101)) eNil))) (eCons (eC .non) eNil))))) (eAll (fLst (eCons (eC (.str "limit")) (eCons (eC (.int 1000)) (eCons (eC (.bl false)) eNil)))))))
  (mRet (eC (.bl false)))
  sNx)
  (mSeq (mIf (bB (eOp gNe (eCall M_law_error_v2 (eCons (eC (.int 1)) (eCons (eVar 0) (eCons (eTup (eCons (eTup (eCons (eC (.int 1)) (eCons (eC (.int 900)) eNil))) (eCons (eUn gNeg (eC (.int 101))) eNil))) (eCons (eC .non) eNil))))) (eAll (fLst (eCons (eC (.str "limit")) (eCons (eC (.int 1000)) (eCons (eC (.bl false)) eNil)))))))
  (mRet (eC (.bl false)))
  sNx)
  (mSeq (mSetF 9 (fLst (eCons (eTup (eCons (eTup (eCons (eTup (eCons (eC (.int 0)) (eCons (eC (.int 0)) eNil))) (eCons (eC (.int 1000)) eNil))) (eCons (eTup (eCons (eTup (eCons (eC (.int 0)) (eCons (eC (.int 0)) eNil))) (eCons (eC (.int 1)) eNil))) (eCons (eC (.int 1000)) eNil)))) (eCons (eTup (eCons (eTup (eCons (eTup (eCons (eC (.int 0)) (eCons (eC (.int 0)) eNil))) (eCons (eC (.int 1000)) eNil))) (eCons (eTup (eCons (eTup (eCons (eC (.int 1)) (eCons (eC (.int 1)) eNil))) (eCons (eC (.int 0)) eNil))) (eCons (eC (.int 1000)) eNil)))) eNil))))
  (mSeq (mApp 9 (eTup (eCons (eTup (eCons (eTup (eCons (eC (.int 0)) (eCons (eC (.int 0)) eNil))) (eCons (eUn gNeg (eC (.int 1000))) eNil))) (eCons (eTup (eCons (eTup (eCons (eC (.int 1)) (eCons (eC (.int 0)) eNil))) (eCons (eUn gNeg (eC (.int 1))) eNil))) (eCons (eC (.int 1000)) eNil)))))
  (mSeq (mApp 9 (eTup (eCons (eTup (eCons (eTup (eCons (eC (.int 1)) (eCons (eC (.int 1000)) eNil))) (eCons (eC (.int 0)) eNil))) (eCons (eTup (eCons (eTup (eCons (eC (.int 1)) (eCons (eUn gNeg (eC (.int 1000))) eNil))) (eCons (eC (.int 0)) eNil))) (eCons (eC (.int 300)) eNil)))))
  (mSeq (sFrz 9 (mFor (iLst (eVar 9)) (bOfTup [(bName 5), (bName 6), (bName 7)]) B_law_limits_right_v2_2))
  (mRet (eOp gIsN (eCall M_law_error_v2 (eCons (eC (.int 1)) (eCons (eVar 0) (eCons (eTup (eCons (eTup (eCons (eC (.int 1)) (eCons (eUn gNeg (eC (.int 899))) eNil))) (eCons (eC (.int 101)) eNil))) (eCons (eC .non) eNil))))) (eC .non))))))))))))))))
def B_law_K58_1 : En → Out := (mSeq (mIf (bB (eOp gNe (eCall M_law_error (eCons (eVar 8) (eCons (eVar 4) (eCons (eVar 7) (eCons (eC .non) eNil))))) (eAll (fLst (eCons (eC (.str "effect")) (eCons (eUn gRepr (eVar 7)) eNil))))))
  (mRet (eC (.bl false)))
  sNx)
  (mIf (bAnd (bB (eOp gGt (eVar 8) (eC (.int 1)))) (bB (eOp gNe (eCall M_law_error (eCons (eVar 8) (eCons (eVar 4) (eCons (eVar 5) (eCons (eVar 7) eNil))))) (eAll (fLst (eCons (eC (.str "effect")) (eCons (eUn gRepr (eVar 7)) eNil)))))))
  (mRet (eC (.bl false)))
  sNx))
def B_law_K58_2 : En → Out := (mFor (iR1 (eCons (eC (.int 5)) eNil)) (bName 8) B_law_K58_1)
def B_law_K58_3 : En → Out := (mIf (bB (eOp gNe (eCall M_law_error (eCons (eVar 8) (eCons (eVar 4) (eCons (eVar 5) (eCons (eVar 9) eNil))))) (eAll (fLst (eCons (eC (.str "value")) (eCons (eUn gRepr (eVar 9)) (eCons (eC (.bl false)) eNil)))))))
  (mRet (eC (.bl false)))
  sNx)
def B_law_K58_4 : En → Out := (mFor (iLst (eOp gAdd (eAll (fLst (eCons (eC .non) (eCons (eC (.bl true)) (eCons (eC (.str "2")) (eCons (eOp gMul (eC (.int 2)) (eAll (fLst (eCons (eC (.int 1)) eNil)))) (eCons (eTup (eCons (eC (.int 1)) eNil)) eNil))))))) (eOp gMul (eAll (fLst (eCons (eC (.int 0)) (eCons (eUn gNeg (eC (.int 1))) eNil)))) (eUn gInt (eOp gEq (eVar 8) (eC (.int 1))))))) (bName 9) B_law_K58_3)
def B_law_K58_5 : En → Out := (mSeq (mSet 3 (eAll (fCall M_law_numbers (eCons (eVar 2) (eCons (eOp gAdd (eC (.int 5800)) (eVar 1)) (eCons (eOp gMul (eAll (fLst (eCons (eC (.int 420)) eNil))) (eC (.int 4))) eNil))))))
  (mSeq (mSet 4 (eOp gAdd (eC (.int 2)) (eOp gMod (eOp gIx (eVar 3) (eC (.int 0))) (eC (.int 35)))))
  (mSeq (mSet 5 (eTup (eCons (eTup (eCons (eC (.int 1)) (eCons (eOp gSub (eOp gMod (eOp gIx (eVar 3) (eC (.int 1))) (eC (.int 7))) (eC (.int 3))) eNil))) (eCons (eOp gSub (eOp gMod (eOp gIx (eVar 3) (eC (.int 2))) (eC (.int 9))) (eC (.int 4))) eNil))))
  (mSeq (mSet 6 (eAll (fLst (eCons (eC .non) (eCons (eTup (eCons (eTup (eCons (eVar 4) (eCons (eC (.int 0)) eNil))) (eCons (eC (.int 0)) eNil))) (eCons (eTup (eCons (eTup (eCons (eC (.int 1)) (eCons (eC (.int 0)) eNil))) (eCons (eC (.int 1001)) eNil))) (eCons (eAll (fLst (eCons (eTup (eCons (eC (.int 1)) (eCons (eC (.int 0)) eNil))) (eCons (eC (.int 0)) eNil)))) (eCons (eTup (eCons (eTup (eCons (eC (.int 1)) (eCons (eC (.int 0)) eNil))) (eCons (eC (.bl true)) eNil))) (eCons (eC (.int 5)) (eCons (eTup (eCons (eTup (eCons (eC (.int 1)) (eCons (eC (.int 0)) eNil))) eNil)) (eCons (eTup (eCons (eTup (eCons (eC (.int 0)) (eCons (eC (.int 1)) eNil))) (eCons (eC (.int 0)) eNil))) eNil)))))))))))
  (mSeq (mFor (iLst (eVar 6)) (bName 7) B_law_K58_2)
  (mSeq (mFor (iR1 (eCons (eC (.int 2)) eNil)) (bName 8) B_law_K58_4)
  (mIf (bNot (bB (eCall M_law_limits_right (eCons (eVar 4) (eCons (eOp gIx (eVar 3) (eC (.int 3))) eNil)))))
  (mRet (eC (.bl false)))
  sNx)))))))
def M_law_K58 : List D → Res Slot := mBody 10
  (mSeq (mFor (iEnumr (eOp gAdd (eSl (eVar 0) pN (pS (eC (.int 6)))) (eOp gMul (eAll (fLst (eCons (eC (.int 7)) eNil))) (eUn gInt (eOp gEq (eVar 0) (eAll (fLst eNil))))))) (bOfTup [(bName 1), (bName 2)]) B_law_K58_5)
  (mRet (eC (.bl true))))
def C_law_on_the_way_right_1 : MD := (eCall M_law_error_v2 (eCons (eC (.int 3)) (eCons (eVar 0) (eCons (eVar 8) (eCons (eC .non) eNil)))))
def M_law_on_the_way_right : List D → Res Slot := mBody 9
  (mSeq (mAsg (bOfTup [(bName 2), (bName 3)]) (eTup (eCons (eTup (eCons (eTup (eCons (eC (.int 0)) (eCons (eC (.int 0)) eNil))) (eCons (eC (.int 1000)) eNil))) (eCons (eTup (eCons (eTup (eCons (eC (.int 0)) (eCons (eC (.int 0)) eNil))) (eCons (eUn gNeg (eC (.int 1000))) eNil))) eNil))))
  (mSeq (mIf (bOr (bB (eOp gNe (eCall (starM 1 M_composed) (eCons (eVar 0) (eCons (eVar 2) (eCons (eVar 2) (eCons (eVar 3) eNil))))) (eVar 2))) (bB (eOp gNe (eCall (starM 1 M_composed) (eCons (eVar 0) (eCons (eVar 2) (eCons (eVar 2) (eCons (eVar 3) (eCons (eVar 3) eNil)))))) (eTup (eCons (eTup (eCons (eC (.int 0)) (eCons (eC (.int 0)) eNil))) (eCons (eC (.int 0)) eNil))))))
  (mRet (eC (.bl false)))
  sNx)
  (mSeq (mIf (bB (eOp gNe (eCall (starM 1 M_composed) (eCons (eVar 0) (eCons (eTup (eCons (eTup (eCons (eC (.int 1)) (eCons (eC (.int 0)) eNil))) (eCons (eC (.int 1000)) eNil))) (eCons (eTup (eCons (eTup (eCons (eC (.int 1)) (eCons (eC (.int 0)) eNil))) (eCons (eC (.int 0)) eNil))) (eCons (eTup (eCons (eTup (eCons (eUn gNeg (eC (.int 1))) (eCons (eC (.int 0)) eNil))) (eCons (eC (.int 0)) eNil))) (eCons (eVar 3) eNil)))))) (eTup (eCons (eTup (eCons (eC (.int 1)) (eCons (eC (.int 0)) eNil))) (eCons (eC (.int 0)) eNil)))))
  (mRet (eC (.bl false)))
  sNx)
  (mSeq (mSet 4 (eTup (eCons (eTup (eCons (eC (.int 1)) (eCons (eOp gSub (eOp gMod (eVar 1) (eC (.int 7))) (eC (.int 3))) eNil))) (eCons (eOp gSub (eOp gMod (eVar 1) (eC (.int 21))) (eC (.int 10))) eNil))))
  (mSeq (mIf (bB (eOp gNe (eCall M_law_error_v2 (eCons (eC (.int 4)) (eCons (eVar 0) (eCons (eAll (fLst (eCons (eVar 4) (eCons (eVar 4) (eCons (eVar 4) (eCons (eC .non) eNil)))))) (eCons (eC .non) eNil))))) (eAll (fLst (eCons (eC (.str "effect")) (eCons (eC (.str "None")) eNil))))))
  (mRet (eC (.bl false)))
  sNx)
  (mSeq (mSet 5 (eOp gAdd (eOp gMul (eOp gPow (eOp gPow (eC (.int 10)) (eC (.int 60))) (eC (.int 6))) (eOp gPow (eC (.int 10)) (eC (.int 30)))) (eC (.int 1))))
  (mSeq (mSet 6 (eAll (fLst (eCons (eTup (eCons (eC (.str "A")) (eCons (eVar 5) eNil))) (eCons (eTup (eCons (eC (.str "R")) (eCons (eC (.int 1)) eNil))) (eCons (eTup (eCons (eC (.str "L")) (eCons (eC (.int 1)) eNil))) (eCons (eTup (eCons (eC (.str "S")) (eCons (eVar 5) eNil))) eNil)))))))
  (mSeq (mIf (bOr (bB (eOp gNe (eCall M_effect_of (eCons (eVar 0) (eCons (eVar 6) eNil))) (eTup (eCons (eTup (eCons (eC (.int 0)) (eCons (eC (.int 0)) eNil))) (eCons (eC (.int 0)) eNil))))) (bB (eOp gNe (eCall M_effect_of (eCons (eVar 0) (eCons (eAll (fLst eNil)) eNil))) (eTup (eCons (eTup (eCons (eC (.int 0)) (eCons (eC (.int 0)) eNil))) (eCons (eC (.int 0)) eNil))))))
  (mRet (eC (.bl false)))
  sNx)
  (mSeq (mSet 7 (eAll (fLst (eCons (eAll (fLst (eCons (eTup (eCons (eC (.str "A")) (eCons (eVar 5) eNil))) (eCons (eTup (eCons (eC (.str "R")) (eCons (eC (.int 1001)) eNil))) eNil)))) (eCons (eAll (fLst (eCons (eTup (eCons (eC (.str "R")) (eCons (eC (.int 1000)) eNil))) (eCons (eTup (eCons (eC (.str "A")) (eCons (eVar 0) eNil))) eNil)))) (eCons (eAll (fLst (eCons (eTup (eCons (eC (.str "L")) (eCons (eC (.int 1001)) eNil))) (eCons (eTup (eCons (eC (.str "A")) (eCons (eVar 5) eNil))) eNil)))) eNil))))))
  (mRet (eOp gEq (eAll (mComp [8] (iLst (eVar 7)) (bName 8) bYes C_law_on_the_way_right_1)) (eOp gMul (eAll (fLst (eCons (eAll (fLst (eCons (eC (.str "limit")) (eCons (eC (.int 1000)) (eCons (eC (.bl false)) eNil))))) eNil))) (eC (.int 3))))))))))))))
def B_law_K12_1 : En → Out := (mSeq (mSet 9 (eAll (fLst (eCons (eIf (bB (eOp gEq (eVar 8) (eC (.int 2)))) (eC (.str "state")) (eC (.str "effect"))) (eCons (eUn gRepr (eVar 6)) eNil)))))
  (mIf (bOr (bB (eOp gNe (eCall M_law_error_v2 (eCons (eVar 8) (eCons (eVar 4) (eCons (eVar 6) (eCons (eC .non) eNil))))) (eVar 9))) (bB (eOp gNotN (eCall M_law_error_v2 (eCons (eVar 8) (eCons (eVar 4) (eCons (eVar 7) (eCons (eVar 7) eNil))))) (eC .non))))
  (mRet (eC (.bl false)))
  sNx))
def B_law_K12_2 : En → Out := (mIf (bB (eOp gNe (eCall M_law_error_v2 (eCons (eVar 8) (eCons (eVar 4) (eCons (eVar 7) (eCons (eVar 6) eNil))))) (eAll (fLst (eCons (eC (.str "effect")) (eCons (eUn gRepr (eVar 6)) eNil))))))
  (mRet (eC (.bl false)))
  sNx)
def B_law_K12_3 : En → Out := (mIf (bB (eOp gNe (eCall M_law_error_v2 (eCons (eC (.int 3)) (eCons (eVar 4) (eCons (eVar 12) (eCons (eC .non) eNil))))) (eAll (fLst (eCons (eC (.str "sequence")) (eCons (eVar 9) eNil))))))
  (mRet (eC (.bl false)))
  sNx)
def B_law_K12_4 : En → Out := (mSeq (mSet 3 (eAll (fCall M_law_numbers (eCons (eVar 2) (eCons (eOp gAdd (eC (.int 1200)) (eVar 1)) (eCons (eOp gMul (eAll (fLst (eCons (eC (.int 420)) eNil))) (eC (.int 6))) eNil))))))
  (mSeq (mPar 4 5 (eCons (eOp gAdd (eC (.int 2)) (eOp gMod (eOp gIx (eVar 3) (eC (.int 0))) (eC (.int 35)))) (eCons (eOp gIx (eVar 3) (eC (.int 1))) eNil)))
  (mSeq (mIf (bOr (bNot (bB (eCall M_law_limits_right_v2 (eCons (eOp gIx (eAll (fLst (eCons (eVar 4) (eCons (eC (.int 10)) eNil)))) (eOp gMod (eOp gIx (eVar 3) (eC (.int 3))) (eC (.int 2)))) (eCons (eVar 5) eNil))))) (bNot (bB (eCall M_law_on_the_way_right (eCons (eVar 4) (eCons (eVar 5) eNil))))))
  (mRet (eC (.bl false)))
  sNx)
  (mSeq (mSet 6 (eOp gIx (eAll (fLst (eCons (eC .non) (eCons (eTup (eCons (eTup (eCons (eVar 4) (eCons (eC (.int 0)) eNil))) (eCons (eC (.int 0)) eNil))) (eCons (eTup (eCons (eTup (eCons (eC (.int 1)) (eCons (eC (.int 0)) eNil))) (eCons (eC (.int 1001)) eNil))) (eCons (eAll (fLst (eCons (eTup (eCons (eC (.int 1)) (eCons (eC (.int 0)) eNil))) (eCons (eC (.int 0)) eNil)))) (eCons (eTup (eCons (eTup (eCons (eC (.int 1)) (eCons (eC (.int 0)) eNil))) (eCons (eC (.bl true)) eNil))) (eCons (eC (.int 5)) (eCons (eTup (eCons (eTup (eCons (eC (.int 1)) (eCons (eC (.int 0)) eNil))) eNil)) eNil))))))))) (eOp gMod (eOp gIx (eVar 3) (eC (.int 2))) (eC (.int 7)))))
  (mSeq (mSet 7 (eTup (eCons (eTup (eCons (eC (.int 1)) (eCons (eOp gSub (eOp gMod (eVar 5) (eC (.int 7))) (eC (.int 3))) eNil))) (eCons (eOp gSub (eOp gMod (eVar 5) (eC (.int 21))) (eC (.int 10))) eNil))))
  (mSeq (mFor (iR1 (eCons (eC (.int 3)) eNil)) (bName 8) B_law_K12_1)
  (mSeq (mFor (iLst (eAll (fLst (eCons (eC (.int 0)) (eCons (eC (.int 2)) eNil))))) (bName 8) B_law_K12_2)
  (mSeq (mSet 10 (eAll (fLst (eCons (eTup (eCons (eC (.str "R")) (eCons (eOp gAdd (eVar 5) (eC (.int 1))) eNil))) (eCons (eTup (eCons (eC (.str "A")) (eCons (eC (.int 2)) eNil))) eNil)))))
  (mSeq (mSet 11 (eAll (fLst (eCons (eTup (eCons (eC .non) (eCons (eC .non) eNil))) (eCons (eTup (eCons (eOp gAdd (eVar 10) (eAll (fLst (eCons (eTup (eCons (eC (.str "A")) (eCons (eC (.int 1)) eNil))) eNil)))) (eCons (eC (.int 2)) eNil))) (eCons (eTup (eCons (eOp gAdd (eVar 10) (eAll (fLst (eCons (eTup (eCons (eC (.str "X")) (eCons (eC (.int 1)) eNil))) eNil)))) (eCons (eC (.int 2)) eNil))) (eCons (eTup (eCons (eAll (fLst (eCons (eTup (eCons (eC (.str "R")) (eCons (eC (.int 0)) eNil))) eNil))) (eCons (eC (.int 0)) eNil))) (eCons (eTup (eCons (eUn gTupl (eVar 10)) (eCons (eC .non) eNil))) eNil))))))))
  (mSeq (mFor (iLst (eVar 11)) (bOfTup [(bName 12), (bName 9)]) B_law_K12_3)
  (mSeq (mSet 13 (eAll (fLst (eCons (eTup (eCons (eC (.str "R")) (eCons (eC (.int 1000)) eNil))) (eCons (eTup (eCons (eC (.str "A")) (eCons (eC (.int 1)) eNil))) (eCons (eTup (eCons (eC (.str "R")) (eCons (eC (.int 1)) eNil))) (eCons (eTup (eCons (eC (.str "L")) (eCons (eC (.int 500)) eNil))) eNil)))))))
  (mSeq (mIf (bOr (bB (eOp gNe (eCall M_law_error_v2 (eCons (eC (.int 3)) (eCons (eVar 4) (eCons (eVar 13) (eCons (eC .non) eNil))))) (eAll (fLst (eCons (eC (.str "limit")) (eCons (eC (.int 1000)) (eCons (eC (.bl false)) eNil))))))) (bB (eOp gNotN (eCall M_law_error_v2 (eCons (eC (.int 3)) (eCons (eVar 4) (eCons (eSl (eVar 13) pN (pS (eC (.int 2)))) (eCons (eC .non) eNil))))) (eC .non))))
  (mRet (eC (.bl false)))
  sNx)
  (mIf (bB (eOp gNe (eCall M_law_error_v2 (eCons (eC (.int 3)) (eCons (eVar 4) (eCons (eAll (fLst (eCons (eTup (eCons (eC (.str "A")) (eCons (eOp gAdd (eOp gMul (eOp gPow (eOp gPow (eC (.int 10)) (eC (.int 60))) (eC (.int 6))) (eOp gPow (eC (.int 10)) (eC (.int 30)))) (eC (.int 1))) eNil))) eNil))) (eCons (eC .non) eNil))))) (eAll (fLst (eCons (eC (.str "limit")) (eCons (eC (.int 300)) (eCons (eC (.bl false)) eNil)))))))
  (mRet (eC (.bl false)))
  sNx)))))))))))))
def M_law_K12 : List D → Res Slot := mBody 14
  (mSeq (mFor (iEnumr (eOp gAdd (eSl (eVar 0) pN (pS (eC (.int 6)))) (eOp gMul (eAll (fLst (eCons (eC (.int 7)) eNil))) (eUn gInt (eOp gEq (eVar 0) (eAll (fLst eNil))))))) (bOfTup [(bName 1), (bName 2)]) B_law_K12_4)
  (mRet (eC (.bl true))))
def B_merged_1 : En → Out := (mIf (bAnd (bTruth (eVarO 1)) (bB (eOp gEq (eOp gIx (eOp gIx (eVarO 1) (eUn gNeg (eC (.int 1)))) (eC (.int 0))) (eVar 2))))
  (mSetIx 1 (eUn gNeg (eC (.int 1))) (eTup (eCons (eVar 2) (eCons (eOp gAdd (eOp gIx (eOp gIx (eVarO 1) (eUn gNeg (eC (.int 1)))) (eC (.int 1))) (eVar 3)) eNil))))
  (mIf (bB (eOp gGt (eVar 3) (eC (.int 0))))
  (mApp 1 (eTup (eCons (eVar 2) (eCons (eVar 3) eNil))))
  sNx))
def M_merged : List D → Res Slot := mBody 4
  (mSeq (mSetF 1 (fLst eNil))
  (mSeq (mFor (iLst (eVar 0)) (bOfTup [(bName 2), (bName 3)]) B_merged_1)
  (mRetO 1)))
def B_joined_1 : En → Out := (mExpr (eCall M_require_sequence (eCons (eVar 1) eNil)))
def M_joined : List D → Res Slot := mBody 4
  (mSeq (mFor (iSeq 0) (bName 1) B_joined_1)
  (mRetF (fCall M_merged (eCons (eAll (mComp2 [2, 3] [3] (iSeq 0) (bName 2) (iLst (eVar 2)) (bName 3) (eVar 3))) eNil))))
def C_reversed_of_1 : MD := (eTup (eCons (eKIx [("R", .str "L"), ("L", .str "R"), ("A", .str "S"), ("S", .str "A")] (eVar 1)) (eCons (eVar 2) eNil)))
def M_reversed_of : List D → Res Slot := mBody 3
  (mSeq (mExpr (eCall M_require_sequence (eCons (eVar 0) eNil)))
  (mRetF (mComp [1, 2] (iLst (eAll (fRev (eVar 0)))) (bOfTup [(bName 1), (bName 2)]) bYes C_reversed_of_1)))
def B_end_of_1 (CR : Addr) : En → Out := (mIf (bNot (bB (eHas CR (eVar 0) (eVar 7))))
  (mRaise "OutOfRow" (eVar 6))
  sNx)
def M_end_of (CR : Addr) : List D → Res Slot := mBody 9
  (mSeq (mAsg (bOfTup [(bName 3), (bName 4)]) (eVar 1))
  (mSeq (mSet 5 (eAll (fCall M_positions_after (eCons (eVar 4) (eCons (eVar 2) eNil)))))
  (mSeq (mFor (iEnumr (eVar 5)) (bOfTup [(bName 6), (bName 7)]) (B_end_of_1 CR))
  (mSeq (mSet 8 (eCall M_sum_of (eCons (eProp CR 0 (eVar 0)) (eCons (eOp gAdd (eAll (fLst (eCons (eVar 3) eNil))) (eAll (fCall M_additions (eCons (eVar 2) (eCons (eVar 5) eNil))))) eNil))))
  (mRet (eTup (eCons (eVar 8) (eCons (eIf (bTruth (eVar 5)) (eOp gIx (eVar 5) (eUn gNeg (eC (.int 1)))) (eVar 4)) eNil))))))))
def M_run (CR : Addr) : List D → Res Slot := mBody 5
  (mSeq (mExpr (eCall (M_require_state CR) (eCons (eVar 0) (eCons (eVar 1) eNil))))
  (mSeq (mExpr (eCall M_require_sequence (eCons (eVar 2) eNil)))
  (mSeq (mAsg (bOfTup [(bName 3), (bName 4)]) (eCall (M_end_of CR) (eCons (eVar 0) (eCons (eVar 1) (eCons (eVar 2) eNil)))))
  (mRet (eTup (eCons (eCall M_within_limits (eCons (eVar 3) eNil)) (eCons (eVar 4) eNil)))))))
def B_law_sequence_1 : En → Out := (mSeq (mSet 3 (eOp gIx (eC (.str "RLAS")) (eOp gMod (eOp gIx (eVar 0) (eOp gAdd (eC (.int 1)) (eOp gMul (eC (.int 2)) (eVar 2)))) (eC (.int 4)))))
  (mSeq (mSet 4 (eOp gAdd (eC (.int 1)) (eOp gIx (eAll (fLst (eCons (eOp gMod (eOp gIx (eVar 0) (eOp gAdd (eC (.int 2)) (eOp gMul (eC (.int 2)) (eVar 2)))) (eC (.int 4))) (eCons (eOp gMod (eOp gIx (eVar 0) (eOp gAdd (eC (.int 2)) (eOp gMul (eC (.int 2)) (eVar 2)))) (eC (.int 20))) eNil)))) (eOp gMod (eOp gDiv (eOp gIx (eVar 0) (eOp gAdd (eC (.int 1)) (eOp gMul (eC (.int 2)) (eVar 2)))) (eC (.int 4))) (eC (.int 2))))))
  (mIf (bOr (bB (eOp gEq (eVarO 1) (eAll (fLst eNil)))) (bB (eOp gNe (eOp gIx (eOp gIx (eVarO 1) (eUn gNeg (eC (.int 1)))) (eC (.int 0))) (eVar 3))))
  (mApp 1 (eTup (eCons (eVar 3) (eCons (eVar 4) eNil))))
  sNx)))
def M_law_sequence : List D → Res Slot := mBody 5
  (mSeq (mSetF 1 (fLst eNil))
  (mSeq (mFor (iR1 (eCons (eOp gMod (eOp gIx (eVar 0) (eC (.int 0))) (eC (.int 9))) eNil)) (bName 2) B_law_sequence_1)
  (mRetO 1)))
def B_law_effect_1 : En → Out := (mIf (bB (eOp (gIn false) (eVar 4) (eC (.str "RL"))))
  (mSet 3 (eOp gAdd (eVar 3) (eOp gIx (eAll (fLst (eCons (eVar 5) (eCons (eUn gNeg (eVar 5)) eNil)))) (eUn gInt (eOp gEq (eVar 4) (eC (.str "L")))))))
  (mSeq (mSet 6 (eCall M_law_reduced (eCons (eVar 0) (eCons (eOp gIx (eAll (fLst (eCons (eVar 5) (eCons (eUn gNeg (eVar 5)) eNil)))) (eUn gInt (eOp gEq (eVar 4) (eC (.str "S"))))) (eCons (eVar 3) eNil)))))
  (mSet 2 (eCall M_law_sum_v2 (eCons (eVar 0) (eCons (eVar 2) (eCons (eVar 6) eNil)))))))
def M_law_effect : List D → Res Slot := mBody 7
  (mSeq (mAsg (bOfTup [(bName 2), (bName 3)]) (eTup (eCons (eTup (eCons (eC (.int 0)) (eCons (eC (.int 0)) eNil))) (eCons (eC (.int 0)) eNil))))
  (mSeq (mFor (iLst (eVar 1)) (bOfTup [(bName 4), (bName 5)]) B_law_effect_1)
  (mRet (eTup (eCons (eVar 2) (eCons (eVar 3) eNil))))))
def B_law_K10_1 (CR : Addr) : En → Out := (mSeq (mSet 12 (eCall M_law_composed (eCons (eVar 4) (eCons (eVar 11) (eCons (eVar 8) eNil)))))
  (mIf (bOr (bB (eOp gNe (eCall M_changed (eCons (eVar 4) (eCons (eVar 11) (eCons (eVar 8) eNil)))) (eVar 12))) (bB (eOp gNe (eCall (M_run CR) (eCons (eNewRow CR 1 0 a_none (eCons (eVar 4) eNil) eNil) (eCons (eVar 11) (eCons (eVar 5) eNil)))) (eVar 12))))
  (mRet (eC (.bl false)))
  sNx))
def B_law_K10_2 (CR : Addr) : En → Out := (mSeq (mSet 3 (eAll (fCall M_law_numbers (eCons (eVar 2) (eCons (eOp gAdd (eC (.int 1000)) (eVar 1)) (eCons (eOp gMul (eAll (fLst (eCons (eC (.int 420)) eNil))) (eC (.int 80))) eNil))))))
  (mSeq (mSet 4 (eOp gAdd (eC (.int 2)) (eOp gMod (eOp gIx (eVar 3) (eC (.int 0))) (eC (.int 35)))))
  (mSeq (mPar 5 6 (eCons (eAll (fCall M_law_sequence (eCons (eSl (eVar 3) (pS (eC (.int 1))) pN) eNil))) (eCons (eAll (fCall M_law_sequence (eCons (eSl (eVar 3) (pS (eC (.int 20))) pN) eNil))) eNil)))
  (mSeq (mSet 7 (eUn gRepr (eAll (fLst (eCons (eVar 5) (eCons (eVar 6) eNil))))))
  (mSeq (mPar 8 9 (eCons (eCall M_law_effect (eCons (eVar 4) (eCons (eVar 5) eNil))) (eCons (eCall M_law_effect (eCons (eVar 4) (eCons (eVar 6) eNil))) eNil)))
  (mSeq (mIf (bOr (bB (eOp gNe (eCall M_effect_of (eCons (eVar 4) (eCons (eVar 5) eNil))) (eVar 8))) (bB (eOp gNe (eCall M_effect_of (eCons (eVar 4) (eCons (eVar 6) eNil))) (eVar 9))))
  (mRet (eC (.bl false)))
  sNx)
  (mSeq (mIf (bB (eOp gNe (eCall M_effect_of (eCons (eVar 4) (eCons (eCall (starM 0 M_joined) (eCons (eVar 5) (eCons (eVar 6) eNil))) eNil))) (eCall M_law_composed (eCons (eVar 4) (eCons (eVar 8) (eCons (eVar 9) eNil))))))
  (mRet (eC (.bl false)))
  sNx)
  (mSeq (mIf (bB (eOp gNe (eCall (starM 1 M_composed) (eCons (eVar 4) (eCons (eVar 8) (eCons (eVar 9) eNil)))) (eCall M_law_composed (eCons (eVar 4) (eCons (eVar 8) (eCons (eVar 9) eNil))))))
  (mRet (eC (.bl false)))
  sNx)
  (mSeq (mSet 10 (eCall M_law_inverse (eCons (eVar 4) (eCons (eVar 8) eNil))))
  (mSeq (mIf (bOr (bB (eOp gNe (eCall M_effect_of (eCons (eVar 4) (eCons (eAll (fCall M_reversed_of (eCons (eVar 5) eNil))) eNil))) (eVar 10))) (bB (eOp gNe (eCall M_inverse (eCons (eVar 4) (eCons (eVar 8) eNil))) (eVar 10))))
  (mRet (eC (.bl false)))
  sNx)
  (mSeq (mIf (bB (eOp gNe (eUn gRepr (eAll (fLst (eCons (eVar 5) (eCons (eVar 6) eNil))))) (eVar 7)))
  (mRet (eC (.bl false)))
  sNx)
  (mFor (iLst (eAll (fLst (eCons (eTup (eCons (eTup (eCons (eC (.int 0)) (eCons (eC (.int 0)) eNil))) (eCons (eC (.int 0)) eNil))) (eCons (eTup (eCons (eCall M_law_number (eCons (eVar 4) (eCons (eSl (eVar 3) (pS (eC (.int 40))) pN) eNil))) (eCons (eOp gSub (eOp gMod (eOp gIx (eVar 3) (eC (.int 75))) (eC (.int 41))) (eC (.int 20))) eNil))) eNil))))) (bName 11) (B_law_K10_1 CR)))))))))))))
def M_law_K10 (CR : Addr) : List D → Res Slot := mBody 13
  (mSeq (mFor (iEnumr (eOp gAdd (eSl (eVar 0) pN (pS (eC (.int 8)))) (eOp gMul (eAll (fLst (eCons (eC (.int 7)) eNil))) (eUn gInt (eOp gEq (eVar 0) (eAll (fLst eNil))))))) (bOfTup [(bName 1), (bName 2)]) (B_law_K10_2 CR))
  (mRet (eC (.bl true))))
def B_law_runs_1 : En → Out := (mSeq (mSet 4 (eOp gIx (eC (.str "RLAS")) (eOp gMod (eOp gIx (eVar 0) (eOp gMul (eC (.int 2)) (eVar 3))) (eC (.int 4)))))
  (mSeq (mSet 5 (eOp gIx (eAll (fLst (eCons (eC (.int 1)) (eCons (eC (.int 1)) (eCons (eC (.int 2)) (eCons (eC (.int 3)) (eCons (eOp gAdd (eC (.int 1)) (eOp gMod (eOp gIx (eVar 0) (eOp gAdd (eOp gMul (eC (.int 2)) (eVar 3)) (eC (.int 1)))) (eC (.int 12)))) (eCons (eOp gAdd (eOp gMul (eC (.int 420)) (eOp gIx (eVar 0) (eOp gAdd (eOp gMul (eC (.int 2)) (eVar 3)) (eC (.int 1))))) (eC (.int 5))) eNil)))))))) (eOp gMod (eOp gIx (eVar 0) (eOp gAdd (eOp gMul (eC (.int 2)) (eVar 3)) (eC (.int 1)))) (eC (.int 6)))))
  (mSeq (mIf (bB (eOp (gIn false) (eVar 4) (eC (.str "RL"))))
  (mSet 5 (eOp gAdd (eC (.int 1)) (eOp gMod (eVar 5) (eC (.int 4)))))
  sNx)
  (mIf (bOr (bB (eOp gEq (eVarO 2) (eAll (fLst eNil)))) (bB (eOp gNe (eOp gIx (eOp gIx (eVarO 2) (eUn gNeg (eC (.int 1)))) (eC (.int 0))) (eVar 4))))
  (mApp 2 (eTup (eCons (eVar 4) (eCons (eVar 5) eNil))))
  sNx))))
def M_law_runs : List D → Res Slot := mBody 6
  (mSeq (mSetF 2 (fLst eNil))
  (mSeq (mFor (iR1 (eCons (eVar 1) eNil)) (bName 3) B_law_runs_1)
  (mRetO 2)))
def M_law_heard (CR : Addr) : List D → Res Slot := mBody 5
  (mSeq (mSet 3 (eC .non))
  (mSeq (mTry (mSet 3 (eCall (M_run CR) (eCons (eVar 0) (eCons (eVar 1) (eCons (eVar 2) eNil))))) [⟨fun x => x == "InvalidState", 4, (mSet 3 (eAll (fLst (eCons (eC (.str "state")) (eCons (eUn gRepr (mErrFld 4 "InvalidState")) eNil)))))⟩, ⟨fun x => x == "InvalidSequence", 4, (mSet 3 (eAll (fLst (eCons (eC (.str "sequence")) (eCons (mErrFld 4 "InvalidSequence") eNil)))))⟩, ⟨fun x => x == "OutOfRow", 4, (mSet 3 (eAll (fLst (eCons (eC (.str "out")) (eCons (mErrFld 4 "OutOfRow") (eCons (mErrIsi 4 "OutOfRow" true) (eCons (mErrIsi 4 "OutOfRow" false) eNil)))))))⟩, ⟨fun x => x == "LimitExceeded", 4, (mSet 3 (eAll (fLst (eCons (eC (.str "limit")) (eCons (mErrFld 4 "LimitExceeded") eNil)))))⟩])
  (mRet (eVar 3))))
def B_law_walk_1 : En → Out := (mSeq (mIf (bB (eOp (gIn false) (eVar 4) (eC (.str "RL"))))
  (mSet 1 (eOp gAdd (eVar 1) (eOp gIx (eAll (fLst (eCons (eVar 5) (eCons (eOp gSub (eC (.int 0)) (eVar 5)) eNil)))) (eUn gInt (eOp gEq (eVar 4) (eC (.str "L")))))))
  sNx)
  (mIf (bNot (bB (eChain gLe gLe (eOp gIx (eVar 0) (eC (.int 0))) (eVar 1) (eOp gIx (eVar 0) (eC (.int 1))))))
  (mRetF (fLst (eCons (eC (.str "out")) (eCons (eVar 3) (eCons (eC (.bl true)) (eCons (eC (.bl false)) eNil))))))
  sNx))
def M_law_walk : List D → Res Slot := mBody 6
  (mSeq (mFor (iEnumr (eVar 2)) (bOfTup [(bName 3), (bOfTup [(bName 4), (bName 5)])]) B_law_walk_1)
  (mRet (eVar 1)))
def B_law_walk_v2_1 : En → Out := (mIf (bB (eOp (gIn false) (eVar 6) (eC (.str "RL"))))
  (mSeq (mSet 4 (eOp gAdd (eVar 4) (eOp gIx (eAll (fLst (eCons (eVar 7) (eCons (eOp gSub (eC (.int 0)) (eVar 7)) eNil)))) (eUn gInt (eOp gEq (eVar 6) (eC (.str "L")))))))
  (mApp 5 (eVar 4)))
  (mSet 3 (eCall M_law_sum (eCons (eVar 0) (eCons (eVar 3) (eCons (eTup (eCons (eIf (bB (eOp gEq (eVar 6) (eC (.str "A")))) (eVar 7) (eOp gSub (eC (.int 0)) (eVar 7))) (eCons (eVar 4) eNil))) eNil))))))
def M_law_walk_v2 : List D → Res Slot := mBody 8
  (mSeq (mAsg (bOfTup [(bName 3), (bName 4)]) (eVar 1))
  (mSeq (mSetF 5 (fLst (eCons (eVar 4) eNil)))
  (mSeq (mFor (iLst (eVar 2)) (bOfTup [(bName 6), (bName 7)]) B_law_walk_v2_1)
  (sFrz 5 (mRetF (fLst (eCons (eTup (eCons (eVar 3) (eCons (eVar 4) eNil))) (eCons (eTup (eCons (eUn gMin1 (eVarO 5)) (eCons (eUn gMax1 (eVarO 5)) eNil))) eNil))))))))
def B_law_touch_ok_1 (CR : Addr) : En → Out := (mSeq (mSet 5 (eAll (mComp [7] (iLst (eVar 4)) (bName 7) (bB (eOp gGt (eOp gIx (eVar 7) (eC (.int 1))) (eC (.int 0)))) (eVar 7))))
  (mSeq (mSet 6 (eCall (M_law_heard CR) (eCons (eVar 0) (eCons (eVar 1) (eCons (eVar 5) eNil)))))
  (mIf (bOr (bB (eOp gEq (eOp gIx (eVar 6) (eC (.int 0))) (eC (.str "out")))) (bB (eOp (gIn true) (eOp gIx (eVar 6) (eC (.int 1))) (eVar 2))))
  (mRet (eC (.bl false)))
  sNx)))
def M_law_touch_ok (CR : Addr) : List D → Res Slot := mBody 8
  (mSeq (mSet 3 (eOp gIx (eVar 1) (eC (.int 1))))
  (mSeq (mFor (iLst (eAll (fLst (eCons (eAll (fLst (eCons (eTup (eCons (eC (.str "R")) (eCons (eOp gSub (eOp gIx (eVar 2) (eC (.int 1))) (eVar 3)) eNil))) (eCons (eTup (eCons (eC (.str "A")) (eCons (eC (.int 4)) eNil))) eNil)))) (eCons (eAll (fLst (eCons (eTup (eCons (eC (.str "L")) (eCons (eOp gSub (eVar 3) (eOp gIx (eVar 2) (eC (.int 0)))) eNil))) (eCons (eTup (eCons (eC (.str "S")) (eCons (eC (.int 2)) eNil))) eNil)))) eNil))))) (bName 4) (B_law_touch_ok_1 CR))
  (mRet (eC (.bl true)))))
def M_operation_cost (CR : Addr) : List D → Res Slot := mBody 2
  (mSeq (mIf (bB (eOp gNe (eKIx [("R", .int (1)), ("L", .int (-1)), ("A", .int (0)), ("S", .int (0))] (eVar 1)) (eC (.int 0))))
  (mRet (eProp CR 1 (eVar 0)))
  sNx)
  (mRet (eProp CR 2 (eVar 0))))
def C_cost_of_1 (CR : Addr) : MD := (eOp gMul (eVar 3) (eCall (M_operation_cost CR) (eCons (eVar 0) (eCons (eVar 2) eNil))))
def M_cost_of (CR : Addr) : List D → Res Slot := mBody 4
  (mSeq (mExpr (eCall M_require_sequence (eCons (eVar 1) eNil)))
  (mRet (eUn gSum (eAll (mComp [2, 3] (iLst (eVar 1)) (bOfTup [(bName 2), (bName 3)]) bYes (C_cost_of_1 CR))))))
def M_visited : List D → Res Slot := mBody 3
  (mSeq (mExpr (eCall M_require_sequence (eCons (eVar 1) eNil)))
  (mSeq (mSet 2 (eOp gAdd (eAll (fLst (eCons (eOp gIx (eVar 0) (eC (.int 1))) eNil))) (eAll (fCall M_positions_after (eCons (eOp gIx (eVar 0) (eC (.int 1))) (eCons (eVar 1) eNil))))))
  (mRet (eTup (eCons (eUn gMin1 (eVar 2)) (eCons (eUn gMax1 (eVar 2)) eNil))))))
def M_is_sequence : List D → Res Slot := mBody 1
  (mRet (eAnd (eUn (gIsi .list) (eVar 0)) (eOp gIsN (eCall M_wrong_run (eCons (eVar 0) eNil)) (eC .non))))
def B_packed_1 : En → Out := (mIf (bB (eOp (gIn true) (eVar 2) (eC (.tup [.str "R", .str "L", .str "A", .str "S"]))))
  (mRaise "InvalidSequence" (eVar 1))
  sNx)
def C_packed_1 : MD := (eTup (eCons (eVar 2) (eCons (eC (.int 1)) eNil)))
def M_packed : List D → Res Slot := mBody 3
  (mSeq (mIf (bNot (bB (eUn (gIsi .str) (eVar 0))))
  (mRaise "InvalidSequence" (eC .non))
  sNx)
  (mSeq (mFor (iEnumr (eVar 0)) (bOfTup [(bName 1), (bName 2)]) B_packed_1)
  (mRetF (fCall M_merged (eCons (eAll (mComp [2] (iLst (eVar 0)) (bName 2) bYes C_packed_1)) eNil)))))
def M_law_is_run : List D → Res Slot := mBody 1
  (mSeq (mIf (bOr (bNot (bB (eUn (gIsi .tuple) (eVar 0)))) (bOr (bB (eOp gNe (eUn gLen (eVar 0)) (eC (.int 2)))) (bNot (bB (eUn (gIsi .str) (eOp gIx (eVar 0) (eC (.int 0))))))))
  (mRet (eC (.bl false)))
  sNx)
  (mSeq (mIf (bOr (bB (eOp (gIn true) (eOp gIx (eVar 0) (eC (.int 0))) (eAll (fLst (eCons (eC (.str "R")) (eCons (eC (.str "L")) (eCons (eC (.str "A")) (eCons (eC (.str "S")) eNil)))))))) (bOr (bNot (bB (eUn (gIsi .int) (eOp gIx (eVar 0) (eC (.int 1)))))) (bB (eUn (gIsi .bool) (eOp gIx (eVar 0) (eC (.int 1)))))))
  (mRet (eC (.bl false)))
  sNx)
  (mRet (eOp gGt (eOp gIx (eVar 0) (eC (.int 1))) (eC (.int 0))))))
def B_law_first_1 : En → Out := (mIf (bOr (bNot (bB (eCall M_law_is_run (eCons (eVar 2) eNil)))) (bAnd (bB (eOp gGt (eVar 1) (eC (.int 0)))) (bB (eOp gEq (eOp gIx (eVar 2) (eC (.int 0))) (eOp gIx (eOp gIx (eVar 0) (eOp gSub (eVar 1) (eC (.int 1)))) (eC (.int 0)))))))
  (mRet (eVar 1))
  sNx)
def M_law_first : List D → Res Slot := mBody 3
  (mSeq (mIf (bNot (bB (eUn (gIsi .list) (eVar 0))))
  (mRet (eC .non))
  sNx)
  (mSeq (mFor (iEnumr (eVar 0)) (bOfTup [(bName 1), (bName 2)]) B_law_first_1)
  (mRet (eC (.str "none")))))
def M_law_text_error : List D → Res Slot := mBody 3
  (mSeq (mSet 1 (eC (.str "none")))
  (mSeq (mTry (mExpr (eAll (fCall M_packed (eCons (eVar 0) eNil)))) [⟨fun x => x == "InvalidSequence", 2, (mSet 1 (eAll (fLst (eCons (mErrFld 2 "InvalidSequence") eNil))))⟩])
  (mRet (eVar 1))))
def M_law_joined : List D → Res Slot := mBody 2
  (mSeq (mIf (bAnd (bB (eOp gNe (eVar 0) (eAll (fLst eNil)))) (bAnd (bB (eOp gNe (eVar 1) (eAll (fLst eNil)))) (bB (eOp gEq (eOp gIx (eOp gIx (eVar 0) (eUn gNeg (eC (.int 1)))) (eC (.int 0))) (eOp gIx (eOp gIx (eVar 1) (eC (.int 0))) (eC (.int 0)))))))
  (mRet (eOp gAdd (eOp gAdd (eSl (eVar 0) pN (pS (eUn gNeg (eC (.int 1))))) (eAll (fLst (eCons (eTup (eCons (eOp gIx (eOp gIx (eVar 0) (eUn gNeg (eC (.int 1)))) (eC (.int 0))) (eCons (eOp gAdd (eOp gIx (eOp gIx (eVar 0) (eUn gNeg (eC (.int 1)))) (eC (.int 1))) (eOp gIx (eOp gIx (eVar 1) (eC (.int 0))) (eC (.int 1)))) eNil))) eNil)))) (eSl (eVar 1) (pS (eC (.int 1))) pN)))
  sNx)
  (mRet (eOp gAdd (eVar 0) (eVar 1))))
def B_law_packed_1 : En → Out := (mIf (bAnd (bB (eOp gNe (eVarO 1) (eAll (fLst eNil)))) (bB (eOp gEq (eOp gIx (eOp gIx (eVarO 1) (eUn gNeg (eC (.int 1)))) (eC (.int 0))) (eVar 2))))
  (mSetIx 1 (eUn gNeg (eC (.int 1))) (eTup (eCons (eVar 2) (eCons (eOp gAdd (eOp gIx (eOp gIx (eVarO 1) (eUn gNeg (eC (.int 1)))) (eC (.int 1))) (eC (.int 1))) eNil))))
  (mApp 1 (eTup (eCons (eVar 2) (eCons (eC (.int 1)) eNil)))))
def M_law_packed : List D → Res Slot := mBody 3
  (mSeq (mSetF 1 (fLst eNil))
  (mSeq (mFor (iLst (eVar 0)) (bName 2) B_law_packed_1)
  (mRetO 1)))
end PM

/-! what the program's and the laws' small defs give -/
namespace PM
open PySem L2 GL DL

/-! ### integers.py -/
def isWhole : D → Bool
  | .int _ => true
  | _ => false
theorem is_whole_eq {d : D} (h : noObj d = true) : M_is_whole [d] = .ok (.sh (.bl (isWhole d))) := by
  cases d <;> first | rfl | cases h
def within (lo hi : Int) : D → Bool
  | .int i => decide (lo ≤ i) && decide (i ≤ hi)
  | _ => false
theorem is_within_eq {d : D} (h : noObj d = true) (lo hi : Int) : M_is_within [d, .int lo, .int hi] = .ok (.sh (.bl (within lo hi d))) := by
  have e := is_whole_eq h
  unfold M_is_within
  rw [body_eq]
  cases d <;> simp [e, isWhole, within]
  rename_i i
  by_cases h1 : lo ≤ i <;> simp [h1]
theorem is_place_eq {d : D} (h : noObj d = true) : M_is_place [d] = .ok (.sh (.bl (within (-1000) 1000 d))) := by
  have e := is_within_eq h (-1000) 1000
  unfold M_is_place
  rw [body_eq]
  simp [e]

/-! ### digits -/
/-- n digits, each below its size -/
def Digs (z : Int) (n : Nat) (ds : List Int) : Prop := ds.length = n ∧ ∀ d ∈ ds, 0 ≤ d ∧ d < z
theorem Digs.get {z : Int} {n : Nat} {ds : List Int} (h : Digs z n ds) {i : Nat} (hi : i < n) : ∃ d, ds[i]? = some d ∧ 0 ≤ d ∧ d < z := by
  have hl : i < ds.length := by rw [h.1]; exact hi
  exact ⟨ds[i], List.getElem?_eq_getElem hl, h.2 _ (List.getElem_mem hl)⟩
theorem numbers_turn {c salt : D} {sa : Int} (hsa : salt = .int sa) (hs0 : 0 ≤ sa) (hs1 : sa ≤ 100000) {z : Int} (hz0 : 0 < z) (hz1 : z < 2 ^ 30) {sizes : List D} {N L : Int} (hN : 0 ≤ N) (hL : 0 ≤ L) {acc : List D} (hacc : acc.length < 1000) {i : Nat} (hi : i < 1000)
    (ix : gIx (.lst sizes) (.int (i : Int)) = some (.val (.int z))) (x7 : DL.Slot) :
    ∃ L' d x7', 0 ≤ L' ∧ 0 ≤ d ∧ d < z ∧ B_law_numbers_1 [.sh c, .sh salt, .sh (.lst sizes), .sh (.int N), .sh (.int L), .own acc, .sh (.int (i : Int)), x7] =
      .nx [.sh c, .sh salt, .sh (.lst sizes), .sh (.int N), .sh (.int L'), .own (acc ++ [.int d]), .sh (.int (i : Int)), x7'] := by
  subst hsa
  have p18 : gPow (.int 10) (.int 18) = some (.val (.int (10 ^ 18))) := pow_ok (j := 18) (a := 4) (by decide) (by decide)
  have big : acc.length < 1000000 := by omega
  unfold B_law_numbers_1
  by_cases h1 : (1000000000000000000 : Int) ≤ N ∧ 0 < L
  · refine ⟨L / z, L % z, x7, Int.ediv_nonneg hL (by omega), Int.emod_nonneg _ (by omega), Int.emod_lt_of_pos _ hz0, ?_⟩
    have dv : gDiv (.int L) (.int z) = some (.val (.int (L / z))) := div_ok hz0 (lt_pow (by omega) hz1) (by decide) (by decide)
    simp [p18, h1, ix, hz0, big, dv]
  · have m1 : gMul (.int 7919) (.int sa) = some (.val (.int (7919 * sa))) := mul_ok (a := 13) (b := 17) (by decide) (lt_pow hs0 (by omega)) (by decide) (by decide) (by decide)
    generalize hA : N % 2147483629 + 7919 * sa + 1 = A
    have hA0 : 0 ≤ A ∧ A < 2 ^ 32 := by have := Int.emod_nonneg N (show (2147483629 : Int) ≠ 0 by decide); have := Int.emod_lt_of_pos N (show (0 : Int) < 2147483629 by decide); omega
    have p3 : gPow (.int A) (.int 3) = some (.val (.int (A ^ 3))) := pow_ok (j := 3) (a := 32) (lt_pow hA0.1 hA0.2) (by decide)
    have m2 : gMul (.int 104729) (.int ((i : Int) + 1)) = some (.val (.int (104729 * ((i : Int) + 1)))) := mul_ok (a := 17) (b := 11) (by decide) (lt_pow (by omega) (by omega)) (by decide) (by decide) (by decide)
    generalize hB : A ^ 3 % 2147483647 = B
    have hB0 : 0 ≤ B ∧ B < 2147483647 := by rw [← hB]; exact ⟨Int.emod_nonneg _ (by decide), Int.emod_lt_of_pos _ (by decide)⟩
    have m3 : gMul (.int (B + 104729 * ((i : Int) + 1))) (.int ((i : Int) + 3)) = some (.val (.int ((B + 104729 * ((i : Int) + 1)) * ((i : Int) + 3)))) := mul_ok (a := 33) (b := 11) (lt_pow (by omega) (by omega)) (lt_pow (by omega) (by omega)) (by decide) (by decide) (by decide)
    generalize hC : (B + 104729 * ((i : Int) + 1)) * ((i : Int) + 3) % 2147483629 = C
    have hC0 : 0 ≤ C ∧ C < 2147483629 := by rw [← hC]; exact ⟨Int.emod_nonneg _ (by decide), Int.emod_lt_of_pos _ (by decide)⟩
    have p5 : gPow (.int C) (.int 5) = some (.val (.int (C ^ 5))) := pow_ok (j := 5) (a := 31) (lt_pow hC0.1 (by omega)) (by decide)
    generalize hE : C ^ 5 % 2147483647 = E
    have hE0 : 0 ≤ E ∧ E < 2147483647 := by rw [← hE]; exact ⟨Int.emod_nonneg _ (by decide), Int.emod_lt_of_pos _ (by decide)⟩
    have m4 : gMul (.int E) (.int 48271) = some (.val (.int (E * 48271))) := mul_ok (a := 31) (b := 16) (lt_pow (by omega) (by omega)) (by decide) (by decide) (by decide) (by decide)
    generalize hF : E * 48271 % 2147483629 = F
    have hF0 : 0 ≤ F ∧ F < 2147483629 := by rw [← hF]; exact ⟨Int.emod_nonneg _ (by decide), Int.emod_lt_of_pos _ (by decide)⟩
    have d16 : gDiv (.int F) (.int 16) = some (.val (.int (F / 16))) := div_ok (a := 5) (by decide) (by decide) (by decide) (by decide)
    refine ⟨L, F / 16 % z, .sh (.int F), hL, Int.emod_nonneg _ (by omega), Int.emod_lt_of_pos _ hz0, ?_⟩
    have run : ∀ t : Bool, (if t = true then .ok false else .ok false : Res Bool) = .ok false := fun t => by cases t <;> rfl
    by_cases h2 : (1000000000000000000 : Int) ≤ N
    · have h3 : ¬ 0 < L := fun h => h1 ⟨h2, h⟩
      simp [p18, h2, h3, m1, hA, p3, m2, hB, m3, hC, p5, hE, m4, hF, d16, ix, hz0, big]
    · simp [p18, h2, m1, hA, p3, m2, hB, m3, hC, p5, hE, m4, hF, d16, ix, hz0, big]
theorem numbers_ok (cell salt : Int) (hs0 : 0 ≤ salt) (hs1 : salt ≤ 100000) (z : Int) (hz0 : 0 < z) (hz1 : z < 2 ^ 30) (n : Nat) (hn : n ≤ 999) :
    ∃ ds, Digs z n ds ∧ M_law_numbers [.int cell, .int salt, .lst (List.replicate n (.int z))] = .ok (.own (ds.map .int)) := by
  unfold M_law_numbers
  rw [body_eq]
  generalize hN : (if -1 - cell > cell then -1 - cell else cell) = N
  have hN0 : 0 ≤ N := by rw [← hN]; split <;> omega
  obtain ⟨Γ', e1, L, ds, x6, x7, rfl, hL, hd, hp⟩ := forM_inv (g := bName 6) (b := B_law_numbers_1) (fun k Γ => ∃ L ds x6 x7, Γ = [.sh (.int cell), .sh (.int salt), .sh (.lst (List.replicate n (.int z))), .sh (.int N), .sh (.int L), .own (ds.map .int), x6, x7] ∧ 0 ≤ L ∧ ds.length = k ∧ ∀ d ∈ ds, 0 ≤ d ∧ d < z)
    (rangeD 0 n) 0 [.sh (.int cell), .sh (.int salt), .sh (.lst (List.replicate n (.int z))), .sh (.int N), .sh (.int N), .own [], .un, .un] ⟨N, [], .un, .un, rfl, hN0, rfl, fun _ h => nomatch h⟩ (by
      rintro i x Γ hx ⟨L, ds, x6, x7, rfl, hL, hd, hp⟩
      have hi : i < n := by
        have := (List.getElem?_eq_some_iff.mp hx).1
        rwa [rangeD_len] at this
      rw [rangeD_get 0 hi] at hx
      cases hx
      rw [Int.zero_add]
      have ix : gIx (.lst (List.replicate n (.int z))) (.int (i : Int)) = some (.val (.int z)) := by
        rw [gIx_lst, atI_nat (j := i) (v := D.int z) (by simp [hi])]
        rfl
      obtain ⟨L', d, x7', h1, h2, h3, h4⟩ := numbers_turn (c := .int cell) rfl hs0 hs1 hz0 hz1 hN0 hL (acc := ds.map .int) (by simp; omega) (i := i) (by omega) ix x7
      refine ⟨_, _, rfl, .inl h4, L', ds ++ [d], .sh (.int (i : Int)), x7', by simp, h1, by simp; omega, fun y hy => ?_⟩
      rcases List.mem_append.mp hy with hy | hy
      · exact hp y hy
      · rw [List.mem_singleton.mp hy]; exact ⟨h2, h3⟩)
  rw [rangeD_len] at hd
  refine ⟨ds, ⟨by omega, hp⟩, ?_⟩
  have nn : (-1000000 : Int) ≤ n ∧ (n : Int) ≤ 1000000 := by omega
  simp [hN, nn, e1]
end PM

namespace PM
open PySem L2 GL DL
/-! ### powers -/
theorem power_turn {b : Int} (hb0 : 0 ≤ b) (hb : b ≤ 36) {c k : Nat} (hc : c < 2 ^ 14) (x3 : DL.Slot) :
    B_power_of_1 [.sh (.int b), .sh (.int c), .sh (.int (b ^ (c / 2 ^ (k + 1)))), .sh (.int (k : Int))] = .nx [.sh (.int b), .sh (.int c), .sh (.int (b ^ (c / 2 ^ k))), .sh (.int (k : Int))] := by
  unfold B_power_of_1
  have st := NM.shift_step c k
  have q1 : c / 2 ^ (k + 1) < 2 ^ 14 := Nat.lt_of_le_of_lt (Nat.div_le_self _ _) hc
  have q2 : 2 * (c / 2 ^ (k + 1)) < 2 ^ 15 := by omega
  have s1 := NM.pow_small hb0 hb (c / 2 ^ (k + 1))
  have s2 := NM.pow_small hb0 hb (2 * (c / 2 ^ (k + 1)))
  have m1 : gMulI (.int (b ^ (c / 2 ^ (k + 1)))) (.int (b ^ (c / 2 ^ (k + 1)))) = some (.val (.int (b ^ (2 * (c / 2 ^ (k + 1)))))) := by
    rw [mulI_ok s1 s1 (by omega) (by omega) (by omega), NM.pow_two_mul]
  have m2 : gMulI (.int (b ^ (2 * (c / 2 ^ (k + 1))))) (.int b) = some (.val (.int (b ^ (2 * (c / 2 ^ (k + 1)) + 1)))) := by
    rw [mulI_ok (b := 6) s2 (lt_pow hb0 (by omega)) (by omega) (by omega) (by omega), Int.pow_succ]
  have sh : gShr (.int (c : Int)) (.int (k : Int)) = some (.val (.int ((c / 2 ^ k : Nat) : Int))) := by
    rw [gShr_int, giv_pos (by omega)]
    rw [Int.natCast_ediv]
    simp
  have an : gAnd (.int ((c / 2 ^ k : Nat) : Int)) (.int 1) = some (.val (.int ((c / 2 ^ k % 2 : Nat) : Int))) := by rw [gAnd_int, PyProof.Rows.bitAnd_m1]; simp
  generalize b ^ (c / 2 ^ (k + 1)) = p1 at m1 ⊢
  rcases Nat.mod_two_eq_zero_or_one (c / 2 ^ k) with ev | odd
  · rw [ev] at an
    rw [st, ev, Nat.add_zero]
    generalize b ^ (2 * (c / 2 ^ (k + 1))) = p2 at m1 ⊢
    generalize ((c / 2 ^ k : Nat) : Int) = s at sh an
    simp [m1, sh, an]
  · rw [odd] at an
    rw [st, odd]
    generalize b ^ (2 * (c / 2 ^ (k + 1)) + 1) = p3 at m2 ⊢
    generalize b ^ (2 * (c / 2 ^ (k + 1))) = p2 at m1 m2 ⊢
    generalize ((c / 2 ^ k : Nat) : Int) = s at sh an
    simp [m1, sh, an, m2]
theorem power_of_eq {b : Int} (hb0 : 0 ≤ b) (hb : b ≤ 36) {c : Nat} (hc : c < 2 ^ 14) : M_power_of [.int b, .int c] = .ok (.sh (.int (b ^ c))) := by
  unfold M_power_of
  rw [body_eq]
  have hbits := NM.lt_bits c
  have hle := NM.bits_le hc
  generalize hn : Builtin.Int.intBits (c : Int) = n at hbits hle
  obtain ⟨Γ', e1, x3, rfl⟩ := forM_inv (g := bName 3) (b := B_power_of_1) (fun i Γ => ∃ x3, Γ = [.sh (.int b), .sh (.int c), .sh (.int (b ^ (c / 2 ^ (n - i)))), x3]) (downD ((n : Int) - 1) n) 0 [.sh (.int b), .sh (.int c), .sh (.int 1), .un]
    ⟨.un, by rw [Nat.sub_zero, Nat.div_eq_of_lt hbits, Int.pow_zero]⟩ (by
      rintro i x Γ hx ⟨x3, rfl⟩
      have hi : i < n := by
        have := (List.getElem?_eq_some_iff.mp hx).1
        rwa [downD_len] at this
      rw [downD_get _ hi] at hx
      cases hx
      have e : (n : Int) - 1 - (i : Int) = ((n - 1 - i : Nat) : Int) := by omega
      rw [e, Nat.zero_add, show n - i = n - 1 - i + 1 by omega, show n - (i + 1) = n - 1 - i by omega]
      exact ⟨_, _, rfl, .inl (power_turn hb0 hb hc x3), _, rfl⟩)
  rw [downD_len, Nat.zero_add, Nat.sub_self] at e1
  have r : rng3 [.int ((n : Int) - 1), .int (-1), .int (-1)] = .ok (downD ((n : Int) - 1) n) := by
    rw [rng3_int, need_pos ⟨rfl, by omega, by omega, by omega, by omega⟩]
    congr 2
    omega
  simp [hn, r, e1]

/-! ### numbers -/
/-- fewer than three hundred and one digits -/
def few (n : Int) : Bool := decide ((if n < 0 then -n else n) < (10 : Int) ^ 300)
theorem few_eq (n : Int) : M_has_few_digits [.int n] = .ok (.sh (.bl (few n))) := by
  have p : M_power_of [.int 10, .int 300] = .ok (.sh (.int (10 ^ 300))) := power_of_eq (c := 300) (by decide) (by decide) (by decide)
  unfold M_has_few_digits few
  rw [body_eq]
  generalize (10 : Int) ^ 300 = L at p ⊢
  simp [p]
/-- no instance within, and no argument of a law -/
def fair : D → Bool
  | .tup xs => xs.all noObj
  | d => noObj d
def isNum (b : Int) : D → Bool
  | .tup [.int n, .int e] => decide (-1000 ≤ e ∧ e ≤ 1000) && (if n = 0 then decide (e = 0) else decide (n % b ≠ 0) && few n)
  | _ => false
theorem is_number_eq {b : Int} (hb : 0 < b) {d : D} (h : fair d = true) : M_is_number [.int b, d] = .ok (.sh (.bl (isNum b d))) := by
  unfold M_is_number
  rw [body_eq]
  cases d with
  | tup xs =>
    match xs, h with
    | [], _ => simp [isNum]
    | [_], _ => simp [isNum]
    | x :: y :: z :: r, _ =>
      have : ¬ ((r.length : Int) + 1 + 1 + 1 = 2) := by omega
      simp [isNum, this]
    | [x, y], h =>
      have hx : noObj x = true := by unfold fair at h; simp at h; exact h.1
      have hy : noObj y = true := by unfold fair at h; simp at h; exact h.2
      have e1 := is_whole_eq hx
      have e2 := is_place_eq hy
      cases x with
      | int n =>
        cases y with
        | int e =>
          have e3 := few_eq n
          by_cases h0 : n = 0
          · subst h0
            by_cases h1 : -1000 ≤ e <;> by_cases h2 : e ≤ 1000 <;> simp [isNum, e1, e2, isWhole, within, h1, h2]
            rw [Bool.eq_iff_iff]; simp
          · by_cases h3 : n % b = 0 <;> by_cases h1 : -1000 ≤ e <;> by_cases h2 : e ≤ 1000 <;> simp [isNum, e1, e2, isWhole, within, h1, h2, h0, hb, e3, h3]
        | _ => simp [isNum, e1, e2, isWhole, within]
      | _ => simp [isNum, e1, isWhole]
  | obj C ns xs => cases h
  | _ => simp [isNum]
theorem isNum_pair {b : Int} {d : D} (h : isNum b d = true) : ∃ n e, d = .tup [.int n, .int e] ∧ -1000 ≤ e ∧ e ≤ 1000 ∧ few n = true := by
  unfold isNum at h
  split at h
  · rename_i n e
    rw [Bool.and_eq_true] at h
    obtain ⟨h1, h2⟩ := h
    have h1 := of_decide_eq_true h1
    refine ⟨n, e, rfl, h1.1, h1.2, ?_⟩
    split at h2
    · rename_i h0; subst h0; unfold few; exact decide_eq_true (by decide +kernel)
    · rw [Bool.and_eq_true] at h2; exact h2.2
  · cases h

/-! ### states.py, effects.py -/
/-- a tuple of a number and a place -/
def isPair (b : Int) : D → Bool
  | .tup [x, y] => isNum b x && within (-1000) 1000 y
  | _ => false
/-- fair, and its items fair -/
def fair2 : D → Bool
  | .tup xs => xs.all fair
  | d => noObj d
theorem fair_noObj {d : D} (h : fair d = true) : noObj d = true := by cases d <;> first | rfl | exact h
theorem is_pair_eq {b : Int} (hb : 0 < b) {d : D} (h : fair2 d = true) : M_is_pair [.int b, d] = .ok (.sh (.bl (isPair b d))) := by
  unfold M_is_pair
  rw [body_eq]
  cases d with
  | tup xs =>
    match xs, h with
    | [], _ => simp [isPair]
    | [_], _ => simp [isPair]
    | x :: y :: z :: r, _ =>
      have : ¬ ((r.length : Int) + 1 + 1 + 1 = 2) := by omega
      simp [isPair, this]
    | [x, y], h =>
      have hx : fair x = true := by unfold fair2 at h; simp at h; exact h.1
      have hy : fair y = true := by unfold fair2 at h; simp at h; exact h.2
      have e1 := is_number_eq hb hx
      have e2 := is_place_eq (fair_noObj hy)
      cases h1 : isNum b x <;> simp [isPair, e1, e2, h1]
  | obj C ns xs => cases h
  | _ => simp [isPair]
theorem is_effect_eq {b : Int} (hb : 0 < b) {d : D} (h : fair2 d = true) : M_is_effect [.int b, d] = .ok (.sh (.bl (isPair b d))) := by
  unfold M_is_effect
  rw [body_eq]
  simp [is_pair_eq hb h]
end PM

namespace PM
open PySem L2 GL DL
/-! ### lists -/
theorem sIx_nat (n k d : Nat) (h : k ≤ n) : HT.sIx n d (some (k : Int)) = k := by
  rw [HT.sIx_nat]
  omega
theorem sl_from (xs : List D) (k : Nat) (h : k ≤ xs.length) : gSl (some (k : Int)) none (.lst xs) = some (.newL (xs.drop k)) := by
  show some (Giv.newL (cutL xs (some (k : Int)) none)) = _
  unfold cutL
  rw [sIx_nat _ _ _ h]
  rw [show HT.sIx xs.length xs.length none = xs.length from rfl, List.take_of_length_le (by simp)]
theorem sl_mid (xs : List D) (i j : Nat) (h : i ≤ j) (h2 : j ≤ xs.length) : gSl (some (i : Int)) (some (j : Int)) (.lst xs) = some (.newL ((xs.drop i).take (j - i))) := by
  show some (Giv.newL (cutL xs (some (i : Int)) (some (j : Int)))) = _
  unfold cutL
  rw [sIx_nat xs.length i 0 (by omega), sIx_nat xs.length j xs.length h2]
theorem rep_one (x : D) : ∀ n, repD n [x] = List.replicate n x
  | 0 => rfl
  | n + 1 => by
    show [x] ++ repD n [x] = _
    rw [rep_one x n]; rfl
theorem mul_rep (x : D) (n : Nat) (h : n ≤ 1000000) : gMul (.lst [x]) (.int (n : Int)) = some (.newL (List.replicate n x)) := by
  show (if -1000000 ≤ (n : Int) ∧ (n : Int) ≤ 1000000 ∧ [x].length * (n : Int).toNat ≤ 1000000 then some (Giv.newL (repD (n : Int).toNat [x])) else none) = _
  rw [if_pos ⟨by omega, by omega, by simp; omega⟩, Int.toNat_natCast, rep_one]
theorem Digs.drop {z : Int} {n : Nat} {ds : List Int} (h : Digs z n ds) (k : Nat) : Digs z (n - k) (ds.drop k) := ⟨by rw [List.length_drop, h.1], fun d hd => h.2 d (List.mem_of_mem_drop hd)⟩
theorem Digs.take {z : Int} {n : Nat} {ds : List Int} (h : Digs z n ds) {k : Nat} (hk : k ≤ n) : Digs z k (ds.take k) := ⟨by rw [List.length_take, h.1]; omega, fun d hd => h.2 d (List.mem_of_mem_take hd)⟩
theorem Digs.ix {z : Int} {n : Nat} {ds : List Int} (h : Digs z n ds) {i : Nat} (hi : i < n) : ∃ d, gIx (.lst (ds.map .int)) (.int (i : Int)) = some (.val (.int d)) ∧ 0 ≤ d ∧ d < z := by
  obtain ⟨d, e, h0, h1⟩ := h.get hi
  refine ⟨d, ?_, h0, h1⟩
  rw [gIx_lst, atI_nat (j := i) (v := D.int d) (by rw [List.getElem?_map, e]; rfl)]
  rfl
theorem cat_lst {xs ys : List D} (h : xs.length + ys.length ≤ 1000000) : gAdd (.lst xs) (.lst ys) = some (.newL (xs ++ ys)) := if_pos h
/-! ### numbers as the laws write them -/
theorem reduced_eq {b : Int} (hb : 2 ≤ b) (hb2 : b ≤ 36) {n e : Int} {m : Nat} (hm : n.natAbs < 2 ^ m) (hm2 : m ≤ 9000) :
    ∃ n' e', M_law_reduced [.int b, .int n, .int e] = .ok (.sh (.tup [.int n', .int e'])) ∧ n'.natAbs < 2 ^ m := by
  unfold M_law_reduced
  rw [body_eq]
  obtain ⟨Γ', m', h1, ⟨n', e', rfl, hn'⟩, h3⟩ := whileM_inv (t := T_law_reduced_1) (b := B_law_reduced_1) (fun m' Γ => ∃ n' e', Γ = [.sh (.int b), .sh (.int n'), .sh (.int e')] ∧ n'.natAbs < 2 ^ m' ∧ m' ≤ m) (by
    rintro k Γ ⟨n', e', rfl, hk, hkm⟩
    by_cases h0 : n' = 0
    · left; unfold T_law_reduced_1; simp [h0]
    · by_cases hd : n' % b = 0
      · right
        have dv : gDiv (.int n') (.int b) = some (.val (.int (n' / b))) := div_ok (a := 6) (by omega) (lt_pow (by omega) (by omega)) (by decide) (by decide)
        have e1 : b * (n' / b) = n' := by have := Int.mul_ediv_add_emod n' b; omega
        have e2 : b.natAbs * (n' / b).natAbs = n'.natAbs := by rw [← Int.natAbs_mul, e1]
        have e3 : 2 * (n' / b).natAbs ≤ n'.natAbs := by rw [← e2]; exact Nat.mul_le_mul_right _ (by omega)
        have hk0 : 0 < k := Nat.pos_of_ne_zero fun hk0 => by subst hk0; simp at hk; exact h0 hk
        obtain ⟨j, rfl⟩ : ∃ j, k = j + 1 := ⟨k - 1, by omega⟩
        rw [Nat.pow_succ] at hk
        refine ⟨by unfold T_law_reduced_1; simp [h0, hd, show 0 < b by omega], _, j, .inl ?_, by omega, n' / b, e' + 1, rfl, by omega, by omega⟩
        unfold B_law_reduced_1
        simp [dv]
      · left; unfold T_law_reduced_1; simp [h0, hd, show 0 < b by omega])
    1000000 m [.sh (.int b), .sh (.int n), .sh (.int e)] ⟨n, e, rfl, hm, Nat.le_refl _⟩ (by omega)
  by_cases h0 : n' = 0
  · refine ⟨0, 0, ?_, Nat.pos_of_ne_zero (by simp)⟩
    simp [h1, h0]
  · refine ⟨n', e', ?_, Nat.lt_of_lt_of_le hn'.1 (Nat.pow_le_pow_right (by decide) hn'.2)⟩
    simp [h1, h0]

theorem integer_turn (ds : List D) (a1 a2 : DL.Slot) {v d : Int} {k : Nat} (h0 : 0 ≤ v) (h1 : v < 2 ^ (9 * k)) (hk : k ≤ 100) (d0 : 0 ≤ d) (d1 : d < 420) :
    0 ≤ v * 420 + d ∧ v * 420 + d < 2 ^ (9 * (k + 1)) ∧ B_law_integer_1 [.sh (.lst ds), a1, a2, .sh (.int v), .sh (.int d)] = .nx [.sh (.lst ds), a1, a2, .sh (.int (v * 420 + d)), .sh (.int d)] := by
  have e : (2 : Int) ^ (9 * (k + 1)) = 2 ^ (9 * k) * 512 := by rw [show 9 * (k + 1) = 9 * k + 9 by omega, Int.pow_add]; rfl
  have m : gMul (.int v) (.int 420) = some (.val (.int (v * 420))) := mul_ok (a := 9 * k + 1) (b := 9) (Nat.lt_of_lt_of_le (lt_pow h0 h1) (Nat.pow_le_pow_right (by decide) (by omega))) (by decide) (by omega) (by decide) (by omega)
  refine ⟨by omega, by rw [e]; omega, ?_⟩
  unfold B_law_integer_1
  simp [m]
theorem integer_eq {ds : List Int} {n : Nat} (hd : Digs 420 n ds) (hn : 33 ≤ n) : ∃ i, M_law_integer [.lst (ds.map .int)] = .ok (.sh (.int i)) ∧ i.natAbs < 2 ^ 280 := by
  unfold M_law_integer
  rw [body_eq]
  obtain ⟨x0, g0, p0, q0⟩ := hd.ix (i := 0) (by omega)
  obtain ⟨x1, g1, p1, q1⟩ := hd.ix (i := 1) (by omega)
  obtain ⟨x2, g2, p2, q2⟩ := hd.ix (i := 2) (by omega)
  obtain ⟨x3, g3, p3, q3⟩ := hd.ix (i := 3) (by omega)
  have g0 : gIx (.lst (ds.map .int)) (.int 0) = some (.val (.int x0)) := g0
  have g1 : gIx (.lst (ds.map .int)) (.int 1) = some (.val (.int x1)) := g1
  have g2 : gIx (.lst (ds.map .int)) (.int 2) = some (.val (.int x2)) := g2
  have g3 : gIx (.lst (ds.map .int)) (.int 3) = some (.val (.int x3)) := g3
  have hm := Int.emod_nonneg x0 (show (5 : Int) ≠ 0 by decide)
  have hm2 := Int.emod_lt_of_pos x0 (show (0 : Int) < 5 by decide)
  have hs := Int.emod_nonneg x1 (show (2 : Int) ≠ 0 by decide)
  have hs2 := Int.emod_lt_of_pos x1 (show (0 : Int) < 2 by decide)
  have sg : ∃ s : Int, gIx (.lst [.int 1, .int (-1)]) (.int (x1 % 2)) = some (.val (.int s)) ∧ s.natAbs < 2 ^ 1 := by
    have : x1 % 2 = 0 ∨ x1 % 2 = 1 := by omega
    rcases this with h | h <;> rw [h]
    · exact ⟨1, rfl, by decide⟩
    · exact ⟨-1, rfl, by decide⟩
  obtain ⟨s, hs3, hs4⟩ := sg
  generalize hA : x0 % 5 = A at hm hm2
  generalize hB : x1 % 2 = B at hs hs2 hs3
  by_cases h3 : A < 3
  · have m1 : gMul (.int x2) (.int 420) = some (.val (.int (x2 * 420))) := mul_ok (a := 9) (b := 9) (lt_pow p2 (by omega)) (by decide) (by decide) (by decide) (by decide)
    obtain ⟨v, hv, hv2⟩ : ∃ v : Int, gIx (.lst [.int 0, .int (x2 % 40), .int (x2 * 420 + x3)]) (.int A) = some (.val (.int v)) ∧ v.natAbs < 2 ^ 20 := by
      have : A = 0 ∨ A = 1 ∨ A = 2 := by omega
      rcases this with h | h | h <;> subst h
      · exact ⟨0, rfl, by decide⟩
      · exact ⟨x2 % 40, rfl, by omega⟩
      · exact ⟨x2 * 420 + x3, rfl, by omega⟩
    have m2 : gMul (.int s) (.int v) = some (.val (.int (s * v))) := mul_ok hs4 hv2 (by decide) (by decide) (by decide)
    refine ⟨s * v, ?_, ?_⟩
    · simp [g0, g1, g2, g3, hA, hB, hs3, h3, m1, hv, m2]
    · rw [Int.natAbs_mul]
      have : s.natAbs * v.natAbs ≤ 1 * v.natAbs := Nat.mul_le_mul_right _ (by omega)
      have : (2 : Nat) ^ 20 ≤ 2 ^ 280 := Nat.pow_le_pow_right (by decide) (by decide)
      omega
  · obtain ⟨c, hc, hc2⟩ : ∃ c : Nat, gIx (.lst [.int 8, .int 30]) (.int (A - 3)) = some (.val (.int (c : Int))) ∧ c ≤ 30 := by
      have : A = 3 ∨ A = 4 := by omega
      rcases this with h | h <;> subst h
      · exact ⟨8, rfl, by decide⟩
      · exact ⟨30, rfl, by decide⟩
    have dg : Digs 420 c ((ds.drop 2).take c) := (hd.drop 2).take (by omega)
    have sl : gSl (some 2) (some (2 + (c : Int))) (.lst (ds.map .int)) = some (.newL (((ds.drop 2).take c).map .int)) := by
      have e := sl_mid (ds.map .int) 2 (2 + c) (by omega) (by rw [List.length_map, hd.1]; omega)
      rw [List.map_take, List.map_drop]
      rw [show 2 + c - 2 = c by omega] at e
      rw [← e]
      simp
    generalize (ds.drop 2).take c = zs at dg sl
    obtain ⟨Γ', e1, v, x4, rfl, v0, v1⟩ := forM_inv (g := bName 4) (b := B_law_integer_1) (fun k Γ => ∃ v x4, Γ = [.sh (.lst (ds.map .int)), .sh (.int A), .sh (.int s), .sh (.int v), x4] ∧ 0 ≤ v ∧ v < 2 ^ (9 * k))
      (zs.map .int) 0 [.sh (.lst (ds.map .int)), .sh (.int A), .sh (.int s), .sh (.int 0), .un] ⟨0, .un, rfl, by decide, by decide⟩ (by
        rintro i x Γ hx ⟨v, x4, rfl, v0, v1⟩
        have hi : i < zs.length := by
          have := (List.getElem?_eq_some_iff.mp hx).1
          rwa [List.length_map] at this
        obtain ⟨d, hd1, hd2, hd3⟩ := dg.get (by rw [← dg.1]; exact hi)
        rw [List.getElem?_map, hd1] at hx
        cases hx
        rw [Nat.zero_add] at v1 ⊢
        obtain ⟨t1, t2, t3⟩ := integer_turn (ds.map .int) (.sh (.int A)) (.sh (.int s)) v0 v1 (by have := dg.1; omega) hd2 hd3
        exact ⟨_, _, rfl, .inl t3, _, _, rfl, t1, t2⟩)
    rw [Nat.zero_add, List.length_map, dg.1] at v1
    have v2 : v.natAbs < 2 ^ 271 := Nat.lt_of_lt_of_le (lt_pow v0 v1) (Nat.pow_le_pow_right (by decide) (by omega))
    have m2 : gMul (.int s) (.int v) = some (.val (.int (s * v))) := mul_ok hs4 v2 (by decide) (by decide) (by decide)
    refine ⟨s * v, ?_, ?_⟩
    · simp [g0, g1, hA, hB, hs3, h3, hc, sl, e1, m2]
    · rw [Int.natAbs_mul]
      have : s.natAbs * v.natAbs ≤ 1 * v.natAbs := Nat.mul_le_mul_right _ (by omega)
      have : (2 : Nat) ^ 271 ≤ 2 ^ 280 := Nat.pow_le_pow_right (by decide) (by decide)
      omega
theorem number_eq {b : Int} (hb : 2 ≤ b) (hb2 : b ≤ 36) {ds : List Int} {n : Nat} (hd : Digs 420 n ds) (hn : 34 ≤ n) :
    ∃ i e, M_law_number [.int b, .lst (ds.map .int)] = .ok (.sh (.tup [.int i, .int e])) ∧ i.natAbs < 2 ^ 280 := by
  unfold M_law_number
  rw [body_eq]
  obtain ⟨x0, g0, p0, q0⟩ := hd.ix (i := 0) (by omega)
  have g0 : gIx (.lst (ds.map .int)) (.int 0) = some (.val (.int x0)) := g0
  have sl : gSl (some 1) none (.lst (ds.map .int)) = some (.newL ((ds.drop 1).map .int)) := by
    have e := sl_from (ds.map .int) 1 (by rw [List.length_map, hd.1]; omega)
    rw [List.map_drop]
    exact e
  obtain ⟨i, e1, e2⟩ := integer_eq (hd.drop 1) (by omega)
  obtain ⟨i', e', r1, r2⟩ := reduced_eq hb hb2 (e := x0 % 11 - 5) e2 (by decide)
  generalize ds.drop 1 = zs at sl e1
  refine ⟨i', e', ?_, r2⟩
  simp [g0, sl, e1, r1]
/-! ### scripts -/
theorem lay_ints : ∀ ns : List Int, PyData.canLayAll0 (ns.map .int) = true
  | [] => by simp only [List.map_nil, PyData.canLayAll0]
  | n :: r => by simp only [List.map_cons, PyData.canLayAll0, PyData.canLay0, lay_ints r, Bool.and_self]
theorem depth_ints : ∀ ns : List Int, PyData.depthAll (ns.map .int) ≤ 1
  | [] => by simp only [List.map_nil, PyData.depthAll]; omega
  | n :: r => by
    have h := depth_ints r
    simp only [List.map_cons, PyData.depthAll, PyData.depth]
    omega
theorem eqOk_scr (ns : List Int) : eqOk (.scr ns) = true := by
  unfold eqOk
  have e1 : DL.plain (.scr ns) = true := by unfold DL.plain; rfl
  have e2 : py (.scr ns) = .list (ns.map .int) := by unfold py; rfl
  rw [e1, e2]
  unfold SeqAt.shaped
  have h1 := lay_ints ns
  have h2 := depth_ints ns
  have e3 : (PyData.list (ns.map .int)).canLay0 = true := by simpa only [PyData.canLay0] using h1
  have e4 : (PyData.list (ns.map .int)).depth ≤ 64 := by simp only [PyData.depth]; omega
  rw [e3, decide_eq_true e4]
  rfl
theorem eqOk_nil : eqOk (.lst []) = true := by decide +kernel
theorem scr_nil (ns : List Int) : gEq (.scr ns) (.lst []) = some (.val (.bl ns.isEmpty)) := by
  show gEqD (.scr ns) (.lst []) = _
  unfold gEqD
  rw [giv_pos ⟨eqOk_scr ns, eqOk_nil⟩]
  have e2 : py (.scr ns) = .list (ns.map .int) := by unfold py; rfl
  have e3 : py (.lst []) = .list [] := by unfold py pyAll; rfl
  rw [e2, e3]
  cases ns with
  | nil => simp only [List.map_nil, PyData.eqv, PyData.eqvAll, List.isEmpty]
  | cons a r => simp only [List.map_cons, PyData.eqv, PyData.eqvAll, List.isEmpty]
/-- the cells that a law walks -/
theorem cells_eq (ns : List Int) (hn : ns.length ≤ 63) (c : Nat) : ∃ cs : List Int, cs.length ≤ 1000 ∧ ∃ xs, gSl none (some (c : Int)) (.scr ns) = some (.newL xs) ∧ ∃ k : Int, gInt (.bl ns.isEmpty) = some (.val (.int k)) ∧ ∃ ys, gMul (.lst [.int 7]) (.int k) = some (.newL ys) ∧ gAdd (.lst xs) (.lst ys) = some (.newL (cs.map .int)) := by
  refine ⟨cutL ns none (some (c : Int)) ++ List.replicate (if ns.isEmpty then 1 else 0) 7, ?_, (cutL ns none (some (c : Int))).map .int, ?_, (if ns.isEmpty then 1 else 0 : Nat), ?_, _, mul_rep (.int 7) _ (by split <;> decide), ?_⟩
  · have : (cutL ns none (some (c : Int))).length ≤ ns.length := by
      unfold cutL
      rw [List.length_take, List.length_drop]
      omega
    rw [List.length_append, List.length_replicate]
    split <;> omega
  · show some (Giv.newL (cutL (ns.map .int) none (some (c : Int)))) = _
    unfold cutL
    rw [List.length_map, List.map_take, List.map_drop]
  · cases ns <;> rfl
  · rw [cat_lst, List.map_append, List.map_replicate]
    have : (cutL ns none (some (c : Int))).length ≤ ns.length := by
      unfold cutL
      rw [List.length_take, List.length_drop]
      omega
    rw [List.length_map, List.length_replicate]
    split <;> omega
end PM

namespace PM
open PySem L2 GL DL
/-! ### the form of a number -/
/-- n' and e' are the form of n * b ^ e -/
def IsForm (b n e n' e' : Int) : Prop := (n = 0 ∧ n' = 0 ∧ e' = 0) ∨ (n ≠ 0 ∧ ∃ f : Nat, n = n' * b ^ f ∧ n' % b ≠ 0 ∧ e' = e + f)
theorem IsForm.one {b n e n1 e1 n2 e2 : Int} (hb : 2 ≤ b) (h : IsForm b n e n1 e1) (g : IsForm b n e n2 e2) : n1 = n2 ∧ e1 = e2 := by
  rcases h with ⟨h0, rfl, rfl⟩ | ⟨h0, f, h1, h2, rfl⟩
  · rcases g with ⟨_, rfl, rfl⟩ | ⟨g0, _⟩
    · exact ⟨rfl, rfl⟩
    · exact absurd h0 g0
  · rcases g with ⟨g0, _⟩ | ⟨_, f2, g1, g2, rfl⟩
    · exact absurd g0 h0
    · obtain ⟨e1, e2⟩ := NM.one_form hb h1 h2 g1 g2
      subst e2
      exact ⟨e1, rfl⟩
theorem IsForm.small {b n e n' e' : Int} (hb : 2 ≤ b) (h : IsForm b n e n' e') : n'.natAbs ≤ n.natAbs := by
  rcases h with ⟨_, rfl, _⟩ | ⟨_, f, h1, _, _⟩
  · simp
  · rw [h1, Int.natAbs_mul]
    exact Nat.le_mul_of_pos_right _ (by have := NM.pow_pos hb f; omega)
theorem form_eq {b : Int} (hb : 2 ≤ b) (hb2 : b ≤ 36) {n e : Int} {m : Nat} (hm : n.natAbs < 2 ^ m) (hm2 : m ≤ 900000) :
    ∃ n' e', IsForm b n e n' e' ∧ M_law_form [.int b, .int n, .int e] = .ok (.sh (.tup [.int n', .int e'])) := by
  unfold M_law_form
  rw [body_eq]
  obtain ⟨Γ', m', h1, ⟨n', e', f, rfl, hn, he, hn', hm'⟩, h3⟩ := whileM_inv (t := T_law_form_1) (b := B_law_form_1) (fun m' Γ => ∃ n' e', ∃ f : Nat, Γ = [.sh (.int b), .sh (.int n'), .sh (.int e')] ∧ n = n' * b ^ f ∧ e' = e + f ∧ n'.natAbs < 2 ^ m' ∧ m' ≤ m) (by
    rintro k Γ ⟨n', e', f, rfl, hn, he, hk, hkm⟩
    by_cases h0 : n' = 0
    · left; unfold T_law_form_1; simp [h0]
    · by_cases hd : n' % b = 0
      · right
        have dv : gDiv (.int n') (.int b) = some (.val (.int (n' / b))) := div_ok (a := 6) (by omega) (lt_pow (by omega) (by omega)) (by decide) (by decide)
        have e1 : b * (n' / b) = n' := by have := Int.mul_ediv_add_emod n' b; omega
        have e2 : b.natAbs * (n' / b).natAbs = n'.natAbs := by rw [← Int.natAbs_mul, e1]
        have e3 : 2 * (n' / b).natAbs ≤ n'.natAbs := by rw [← e2]; exact Nat.mul_le_mul_right _ (by omega)
        have hk0 : 0 < k := Nat.pos_of_ne_zero fun hk0 => by subst hk0; simp at hk; exact h0 hk
        obtain ⟨j, rfl⟩ : ∃ j, k = j + 1 := ⟨k - 1, by omega⟩
        rw [Nat.pow_succ] at hk
        have hz : n = n' / b * b ^ (f + 1) := by rw [hn, Int.pow_succ, Int.mul_comm (b ^ f) b, ← Int.mul_assoc, Int.mul_comm (n' / b) b, e1]
        refine ⟨by unfold T_law_form_1; simp [h0, hd, show 0 < b by omega], _, j, .inl ?_, by omega, n' / b, e' + 1, f + 1, rfl, hz, by omega, by omega, by omega⟩
        unfold B_law_form_1
        simp [dv]
      · left; unfold T_law_form_1; simp [h0, hd, show 0 < b by omega])
    1000000 m [.sh (.int b), .sh (.int n), .sh (.int e)] ⟨n, e, 0, rfl, by simp, by simp, hm, Nat.le_refl _⟩ (by omega)
  by_cases h0 : n' = 0
  · refine ⟨0, 0, .inl ⟨by rw [hn, h0]; simp, rfl, rfl⟩, ?_⟩
    simp [h1, h0]
  · have hnb : n' % b ≠ 0 := by
      intro hz
      unfold T_law_form_1 at h3
      simp [h0, hz, show 0 < b by omega] at h3
    refine ⟨n', e', .inr ⟨fun z => ?_, f, hn, hnb, he⟩, ?_⟩
    · rw [z] at hn
      have := NM.pow_pos hb f
      rcases Int.mul_eq_zero.mp hn.symm with h | h
      · exact h0 h
      · omega
    · simp [h1, h0]
/-! ### without_factors -/
def pws (b : Int) (J : Nat) : List D := (List.range (J + 1)).map fun i => .int (b ^ 2 ^ i)
theorem pws_len (b : Int) (J : Nat) : (pws b J).length = J + 1 := by simp [pws]
theorem pws_last (b : Int) (J : Nat) : gIx (.lst (pws b J)) (.int (-1)) = some (.val (.int (b ^ 2 ^ J))) := by
  rw [gIx_lst]
  unfold atI ixN
  rw [pws_len, if_neg (by decide), if_pos (by omega)]
  have : (-1 + ((J + 1 : Nat) : Int)).toNat = J := by omega
  rw [this]
  simp [pws]
theorem pws_succ (b : Int) (J : Nat) : pws b (J + 1) = pws b J ++ [.int (b ^ 2 ^ (J + 1))] := by
  unfold pws
  rw [List.range_succ, List.map_append]
  rfl
theorem pws_rev_get (b : Int) {J i : Nat} (h : i < J + 1) : (pws b J).reverse[i]? = some (.int (b ^ 2 ^ (J - i))) := by
  rw [List.getElem?_reverse (by rw [pws_len]; exact h), pws_len, show J + 1 - 1 - i = J - i by omega]
  unfold pws
  rw [List.getElem?_map, List.getElem?_range (by omega)]
  rfl
theorem sq_mul {b : Int} (h0 : 0 ≤ b) (hb : b ≤ 36) {J : Nat} (hJ : J ≤ 13) : gMul (.int (b ^ 2 ^ J)) (.int (b ^ 2 ^ J)) = some (.val (.int (b ^ 2 ^ (J + 1)))) := by
  have h1 : 2 ^ J ≤ 2 ^ 13 := Nat.pow_le_pow_right (by decide) hJ
  have h2 := NM.pow_small h0 hb (2 ^ J)
  rw [mul_ok h2 h2 (by omega) (by omega) (by omega), NM.sq_succ]
/-- what divides n is small -/
def Few (b n : Int) : Prop := ∀ k : Nat, n % b ^ k = 0 → (b ^ k).natAbs < 2 ^ 8900
theorem few_of {b n : Int} (h0 : n ≠ 0) (hn : n.natAbs < 2 ^ 8900) : Few b n := fun k hd =>
  Nat.lt_of_le_of_lt (Nat.le_of_dvd (by omega) (Int.natAbs_dvd_natAbs.mpr (Int.dvd_of_emod_eq_zero hd))) hn
theorem Few.exp {b n : Int} (hb : 2 ≤ b) (h : Few b n) {k : Nat} (hd : n % b ^ k = 0) : k < 8900 :=
  (Nat.pow_lt_pow_iff_right (a := 2) (by decide)).mp (Nat.lt_of_le_of_lt (NM.two_pow_le hb k) (h k hd))
theorem factors_turn {b : Int} (hb : 2 ≤ b) (hb2 : b ≤ 36) {n : Int} (hn : Few b n) (h0 : n ≠ 0) (ps : List D) {s : Int} {f j : Nat} (L : NM.Left b n s f (j + 1)) :
    ∃ s' f', NM.Left b n s' f' j ∧ B_without_factors_2 [.sh (.int b), .sh (.int s), .sh (.lst ps), .sh (.int (f : Int)), .sh (.int (b ^ 2 ^ j))] = .nx [.sh (.int b), .sh (.int s'), .sh (.lst ps), .sh (.int ((f' : Nat) : Int)), .sh (.int (b ^ 2 ^ j))] := by
  have q3 := NM.pow_pos hb (2 ^ j)
  have hs0 : s ≠ 0 := L.ne
  have hf : f < 8900 := by
    by_cases hf0 : f = 0
    · omega
    · have e : n % b ^ (f * 2 ^ (j + 1)) = 0 := by rw [L.eq]; exact Int.mul_emod_left _ _
      have := hn.exp hb e
      have h1 : f * 1 ≤ f * 2 ^ (j + 1) := Nat.mul_le_mul_left _ Nat.one_le_two_pow
      omega
  have m1 : gMulI (.int (f : Int)) (.int 2) = some (.val (.int ((f : Int) * 2))) := mulI_ok (a := 14) (b := 2) (lt_pow (by omega) (by omega)) (by decide) (by decide) (by decide) (by decide)
  unfold B_without_factors_2
  by_cases hd : s % b ^ 2 ^ j = 0
  · have hle : (b ^ 2 ^ j).natAbs < 2 ^ 8900 := by
      refine hn (2 ^ j) (Int.emod_eq_zero_of_dvd ?_)
      rw [L.eq]
      exact Int.dvd_trans (Int.dvd_of_emod_eq_zero hd) (Int.dvd_mul_right _ _)
    have dv : gDiv (.int s) (.int (b ^ 2 ^ j)) = some (.val (.int (s / b ^ 2 ^ j))) := div_ok q3 hle (by decide) (by decide)
    refine ⟨s / b ^ 2 ^ j, f * 2 + 1, L.take hb hd, ?_⟩
    generalize b ^ 2 ^ j = B at q3 hd dv
    simp [m1, q3, hd, dv]
  · refine ⟨s, f * 2, L.keep hd, ?_⟩
    generalize b ^ 2 ^ j = B at q3 hd
    simp [m1, q3, hd]
theorem factors_eq {b : Int} (hb : 2 ≤ b) (hb2 : b ≤ 36) {n : Int} (h0 : n ≠ 0) (hn : Few b n) :
    ∃ (s : Int) (f : Nat), n = s * b ^ f ∧ s % b ≠ 0 ∧ M_without_factors [.int b, .int n] = .ok (.sh (.tup [.int s, .int (f : Int)])) := by
  unfold M_without_factors
  rw [body_eq]
  obtain ⟨Γ', m', w1, ⟨J, rfl, hJ⟩, w3⟩ := whileM_inv (t := T_without_factors_1) (b := B_without_factors_1) (fun m Γ => ∃ J, Γ = [.sh (.int b), .sh (.int n), .own (pws b J), .un, .un] ∧ m + J = 13) (by
    rintro m Γ ⟨J, rfl, hm⟩
    have q1 := pws_last b J
    have q2 := sq_mul (by omega) hb2 (J := J) (by omega)
    have q3 := NM.pow_pos hb (2 ^ (J + 1))
    generalize hB : b ^ 2 ^ (J + 1) = B at q2 q3
    generalize b ^ 2 ^ J = A at q1 q2
    have ps := pws_succ b J
    rw [hB] at ps
    have pl := pws_len b J
    generalize pws b J = ps0 at q1 ps pl
    by_cases hd : n % B = 0
    · right
      have hx : 2 ^ (J + 1) < 8900 := hn.exp hb (by rw [hB]; exact hd)
      have hJ : J + 1 ≤ 13 := NM.lt_two_pow_13 hx
      have big : ps0.length < 1000000 := by omega
      refine ⟨by unfold T_without_factors_1; simp [q1, q2, q3, hd], _, m - 1, .inl ?_, by omega, J + 1, rfl, by omega⟩
      unfold B_without_factors_1
      simp [q1, q2, big, ps]
    · left
      unfold T_without_factors_1
      simp [q1, q2, q3, hd])
    1000000 13 [.sh (.int b), .sh (.int n), .own (pws b 0), .un, .un] ⟨0, rfl, rfl⟩ (by decide)
  have L0 : NM.Left b n n 0 (J + 1) := by
    refine ⟨by simp, fun hz => ?_⟩
    have q1 := pws_last b J
    have q2 := sq_mul (by omega) hb2 (J := J) (by omega)
    have q3 := NM.pow_pos hb (2 ^ (J + 1))
    unfold T_without_factors_1 at w3
    generalize b ^ 2 ^ (J + 1) = B at q2 q3 hz
    generalize b ^ 2 ^ J = A at q1 q2
    generalize pws b J = ps0 at q1 w3
    simp [q1, q2, q3, hz] at w3
  obtain ⟨Γ', e1, s, f, x4, rfl, L⟩ := forM_inv (g := bName 4) (b := B_without_factors_2) (fun k Γ => ∃ s, ∃ f : Nat, ∃ x4, Γ = [.sh (.int b), .sh (.int s), .sh (.lst (pws b J)), .sh (.int (f : Int)), x4] ∧ NM.Left b n s f (J + 1 - k))
    (pws b J).reverse 0 [.sh (.int b), .sh (.int n), .sh (.lst (pws b J)), .sh (.int 0), .un] ⟨n, 0, .un, rfl, L0⟩ (by
      rintro i x Γ hx ⟨s, f, x4, rfl, L⟩
      have hi : i < J + 1 := by
        have := (List.getElem?_eq_some_iff.mp hx).1
        rwa [List.length_reverse, pws_len] at this
      rw [pws_rev_get b hi] at hx
      cases hx
      rw [Nat.zero_add] at L ⊢
      rw [show J + 1 - i = J - i + 1 by omega] at L
      obtain ⟨s', f', L', e⟩ := factors_turn hb hb2 hn h0 (pws b J) L
      exact ⟨_, _, rfl, .inl e, s', f', .sh (.int (b ^ 2 ^ (J - i))), rfl, by rw [show J + 1 - (i + 1) = J - i by omega]; exact L'⟩)
  rw [Nat.zero_add, List.length_reverse, pws_len, Nat.sub_self] at L
  have b1 : b ^ 1 = b := by rw [Int.pow_succ, Int.pow_zero, Int.one_mul]
  refine ⟨s, f, by have := L.eq; simpa using this, by have := L.no; rw [Nat.pow_zero, b1] at this; exact this, ?_⟩
  have w1 : whileM T_without_factors_1 B_without_factors_1 1000000 [.sh (.int b), .sh (.int n), .own [.int b], .un, .un] = .nx [.sh (.int b), .sh (.int n), .own (pws b J), .un, .un] := by
    rw [← w1]; simp [pws, b1]
  generalize pws b J = ps at w1 e1
  simp [w1, e1, frz]
theorem form_of_few {b : Int} (hb : 2 ≤ b) (hb2 : b ≤ 36) {n : Int} (e : Int) (hn : n ≠ 0 → Few b n) :
    ∃ n' e', IsForm b n e n' e' ∧ M_form_of [.int b, .int n, .int e] = .ok (.sh (.tup [.int n', .int e'])) := by
  unfold M_form_of
  rw [body_eq]
  by_cases h0 : n = 0
  · exact ⟨0, 0, .inl ⟨h0, rfl, rfl⟩, by simp [h0]⟩
  · obtain ⟨s, f, h1, h2, h3⟩ := factors_eq hb hb2 h0 (hn h0)
    exact ⟨s, e + f, .inr ⟨h0, f, h1, h2, rfl⟩, by simp [h0, h3]⟩
theorem form_of_eq {b : Int} (hb : 2 ≤ b) (hb2 : b ≤ 36) {n : Int} (e : Int) (hn : n.natAbs < 2 ^ 8900) :
    ∃ n' e', IsForm b n e n' e' ∧ M_form_of [.int b, .int n, .int e] = .ok (.sh (.tup [.int n', .int e'])) := form_of_few hb hb2 e fun h => few_of h hn
def limited (n e : Int) : Res DL.Slot := if few n = true then (if -1000 ≤ e ∧ e ≤ 1000 then .ok (.sh (.tup [.int n, .int e])) else .exc "LimitExceeded" (.int 1000)) else .exc "LimitExceeded" (.int 300)
theorem limits_eq (n e : Int) : M_within_limits [.tup [.int n, .int e]] = limited n e := by
  unfold M_within_limits limited
  rw [body_eq]
  have e1 := few_eq n
  have e2 := is_place_eq (noObj_int e)
  cases h1 : few n with
  | false => simp [e1, h1]
  | true =>
    by_cases h2 : -1000 ≤ e ∧ e ≤ 1000
    · have : within (-1000) 1000 (.int e) = true := by simp [within, h2]
      simp [e1, h1, e2, this, h2]
    · have : within (-1000) 1000 (.int e) = false := by
        unfold within
        rw [Bool.and_eq_false_iff, decide_eq_false_iff_not, decide_eq_false_iff_not]
        omega
      simp [e1, h1, e2, this, h2]
theorem make_eq {b : Int} (hb : 2 ≤ b) (hb2 : b ≤ 36) {n e n' e' : Int} (hn : n.natAbs < 2 ^ 8900) (h : IsForm b n e n' e') : M_make_number [.int b, .int n, .int e] = limited n' e' := by
  obtain ⟨n2, e2, g, e3⟩ := form_of_eq hb hb2 e hn
  obtain ⟨rfl, rfl⟩ := h.one hb g
  unfold M_make_number
  rw [body_eq]
  have e4 := limits_eq n' e'
  simp [e3]
  rw [e4]
  unfold limited
  split
  · split <;> rfl
  · rfl
end PM

namespace PM
open PySem L2 GL DL
def LL : Int := (10 ^ 60) ^ 5
theorem LL_eq : LL = 10 ^ 300 := by unfold LL; rw [← Int.pow_mul]
theorem LL_1 : gPow (.int 10) (.int 60) = some (.val (.int (10 ^ 60))) := pow_ok (j := 60) (a := 4) (by decide) (by decide)
theorem LL_2 : gPow (.int (10 ^ 60)) (.int 5) = some (.val (.int LL)) := pow_ok (j := 5) (a := 200) (by decide +kernel) (by decide)
theorem LL_small : LL.natAbs < 2 ^ 1000 := by decide +kernel
theorem few_iff (n : Int) : few n = (decide (1 - LL ≤ n) && decide (n ≤ LL - 1)) := by
  unfold few
  rw [← LL_eq]
  generalize LL = L
  rw [Bool.eq_iff_iff, Bool.and_eq_true, decide_eq_true_iff, decide_eq_true_iff, decide_eq_true_iff]
  split <;> omega
/-! ### rows on data -/
section
variable (C : Addr) (b m a f l : D)
theorem rowParts_row : rowParts C (rowD C b m a f l) = some [b, m, a, f, l] := by
  unfold rowParts rowD
  simp
@[simp] theorem gRow_0 : gRow C 0 (rowD C b m a f l) = some (.val b) := by unfold gRow; rw [rowParts_row]; rfl
@[simp] theorem gRow_1 : gRow C 1 (rowD C b m a f l) = some (.val m) := by unfold gRow; rw [rowParts_row]; rfl
@[simp] theorem gRow_2 : gRow C 2 (rowD C b m a f l) = some (.val a) := by unfold gRow; rw [rowParts_row]; rfl
@[simp] theorem gRow_3 : gRow C 3 (rowD C b m a f l) = some (.val f) := by unfold gRow; rw [rowParts_row]; rfl
@[simp] theorem gRow_4 : gRow C 4 (rowD C b m a f l) = some (.val l) := by unfold gRow; rw [rowParts_row]; rfl
end
@[simp] theorem eProp_def (C : Addr) (i : Nat) (m : MD) (Γ : En) : eProp C i m Γ = (m Γ).bind fun d => toR (gRow C i d) := rfl
theorem eHas_eq {C : Addr} {b m a f l v : D} {mr mv : MD} {Γ : En} (h : mr Γ = .ok (rowD C b m a f l)) (hv : mv Γ = .ok v) (hf : isEnd f = true) (hl : isEnd l = true) (hn : noObj v = true) : eHas C mr mv Γ = .ok (.bl (hasP (kdI f) (kdI l) (kdI v))) := by
  unfold eHas
  rw [h]
  simp only [bind_ok, rowParts_row]
  unfold hasR
  rw [need_pos ⟨hf, hl⟩, hv]
  simp only [bind_ok]
  rw [need_pos hn]
@[simp] theorem gIsN_non (d : D) : gIsN d .non = some (.val (.bl (DL.isNon d))) := rfl
@[simp] theorem gNotN_non (d : D) : gNotN d .non = some (.val (.bl (!DL.isNon d))) := rfl
@[simp] theorem isNon_non : DL.isNon .non = true := rfl
@[simp] theorem isNon_int (i : Int) : DL.isNon (.int i) = false := rfl
theorem comp_eq (vs : List Nat) (mi : ML) (g : D → En → Option En) (t : En → Res Bool) (m : MD) (Γ : En) : mComp vs mi g t m Γ = (mi Γ).bind fun xs => need (xs.length < 1000000) (compM g t m (wipeE Γ vs) xs) := rfl
/-! ### values that == can ask and repr can show -/
structure Smp (d : D) : Prop where
  pl : DL.plain d = true
  cl : (py d).canLay0 = true
  dp : (py d).depth ≤ 10
  no : noObj d = true
theorem Smp.int (i : Int) : Smp (.int i) := ⟨by unfold DL.plain; rfl, by unfold py; rfl, by unfold py; simp [PyData.depth], rfl⟩
theorem Smp.bl (b : Bool) : Smp (.bl b) := ⟨by unfold DL.plain; rfl, by unfold py; rfl, by unfold py; simp [PyData.depth], rfl⟩
theorem Smp.str {x : Str} (h : (PyData.str x).canLay0 = true) : Smp (.str x) := ⟨by unfold DL.plain; rfl, by unfold py; exact h, by unfold py; simp [PyData.depth], rfl⟩
theorem Smp.non : Smp .non := ⟨by unfold DL.plain; rfl, by unfold py; rfl, by unfold py; simp [PyData.depth], rfl⟩
theorem smp_all : ∀ {xs : List D}, (∀ x ∈ xs, Smp x) → plainAll xs = true ∧ PyData.canLayAll0 (pyAll xs) = true ∧ PyData.depthAll (pyAll xs) ≤ 11
  | [], _ => by unfold plainAll pyAll; exact ⟨rfl, by simp only [PyData.canLayAll0], by simp only [PyData.depthAll]; omega⟩
  | x :: r, h => by
    obtain ⟨h1, h2, h3⟩ := smp_all fun y hy => h y (List.mem_cons_of_mem _ hy)
    have hx := h x List.mem_cons_self
    unfold plainAll pyAll
    refine ⟨by rw [hx.pl, h1]; rfl, by simp only [PyData.canLayAll0, hx.cl, h2, Bool.and_self], ?_⟩
    have := hx.dp
    simp only [PyData.depthAll]
    omega
theorem eqOk_lst {xs : List D} (h : ∀ x ∈ xs, Smp x) : eqOk (.lst xs) = true := by
  obtain ⟨h1, h2, h3⟩ := smp_all h
  unfold eqOk SeqAt.shaped
  have e1 : DL.plain (.lst xs) = true := by unfold DL.plain; exact h1
  have e2 : py (.lst xs) = .list (pyAll xs) := by unfold py; rfl
  rw [e1, e2]
  have e3 : (PyData.list (pyAll xs)).canLay0 = true := by simpa only [PyData.canLay0] using h2
  have e4 : (PyData.list (pyAll xs)).depth ≤ 64 := by simp only [PyData.depth]; omega
  rw [e3, decide_eq_true e4]
  rfl
theorem ne_nil {xs : List D} : gNe (.lst xs) (.lst []) = some (.val (.bl (!xs.isEmpty))) := rfl
/-! ### states -/
def stB (b lo hi n e p : Int) : Bool := decide (lo ≤ p ∧ p ≤ hi) && (if n = 0 then decide (e = 0) else few n && (decide (lo ≤ e ∧ e ≤ 1000) && decide (n % b ≠ 0)))
def isSt (b lo hi : Int) : D → Bool
  | .tup [.tup [.int n, .int e], .int p] => stB b lo hi n e p
  | _ => false
/-- an argument of a law's own test -/
structure Fine (d : D) : Prop where
  f2 : fair2 d = true
  it : ∀ x y z, d = .tup [.tup [x, y], z] → Smp x ∧ Smp y ∧ Smp z
theorem whole3 {x y z : D} (hx : Smp x) (hy : Smp y) (hz : Smp z) (Γ : List DL.Slot) (hΓ : 7 ≤ Γ.length) :
    compM (bName 6) (bOr (bNot (bB (eUn (gIsi .int) (eVar 6)))) (bB (eUn (gIsi .bool) (eVar 6)))) (eVar 6) Γ [x, y, z] = .ok ([x, y, z].filter fun d => !isWhole d) := by
  have one : ∀ d, Smp d → ∃ Γ1, bName 6 d Γ = some Γ1 ∧ (bOr (bNot (bB (eUn (gIsi .int) (eVar 6)))) (bB (eUn (gIsi .bool) (eVar 6)))) Γ1 = .ok (!isWhole d) ∧ ((!isWhole d) = true → eVar 6 Γ1 = .ok (id d)) := by
    intro d hd
    have hg : getS (Γ.set 6 (.sh d)) 6 = .ok d := by
      unfold getS
      rw [List.getElem?_set_self (by omega)]
    refine ⟨_, rfl, ?_, fun _ => hg⟩
    have hn := hd.no
    cases d <;> first | (simp [hg, isWhole]; done) | cases hn
  rw [compM_filter (fun d => !isWhole d) id [x, y, z] (by
    intro d hd
    rcases List.mem_cons.mp hd with rfl | hd
    · exact one _ hx
    · rcases List.mem_cons.mp hd with rfl | hd
      · exact one _ hy
      · rw [List.mem_singleton.mp hd]; exact one _ hz)]
  rw [List.map_id]
theorem st_le {b lo hi n e p : Int} (h : stB b lo hi n e p = true) : lo ≤ p ∧ p ≤ hi := by
  unfold stB at h
  rw [Bool.and_eq_true] at h
  exact of_decide_eq_true h.1
theorem law_is_state_eq {b : Int} (hb : 0 < b) (lo hi : Int) {d : D} (h : Fine d) : M_law_is_state [.int b, .lst [.int lo, .int hi], d] = .ok (.sh (.bl (isSt b lo hi d))) := by
  unfold M_law_is_state
  rw [body_eq]
  have hf := h.f2
  have p1 := LL_1
  have p2 := LL_2
  generalize hT : (10 : Int) ^ 60 = T at p1 p2
  cases d with
  | tup xs =>
    match xs, hf, h with
    | [], _, _ => simp [isSt]
    | [_], _, _ => simp [isSt]
    | x :: y :: z :: r, _, _ =>
      have : ¬ ((r.length : Int) + 1 + 1 + 1 = 2) := by omega
      simp [isSt, this]
    | [w, z], hf, h =>
      have hw : fair w = true := by unfold fair2 at hf; simp at hf; exact hf.1
      have i0 : gIx (.tup [w, z]) (.int 0) = some (.val w) := rfl
      have i1 : gIx (.tup [w, z]) (.int 1) = some (.val z) := rfl
      cases w with
      | tup ys =>
        match ys, hw, h with
        | [], _, _ => simp [isSt, i0]
        | [_], _, _ => simp [isSt, i0]
        | x :: y :: z :: r, _, _ =>
          have : ¬ ((r.length : Int) + 1 + 1 + 1 = 2) := by omega
          simp [isSt, i0, this]
        | [x, y], hw, h =>
          obtain ⟨sx, sy, sz⟩ := h.it x y z rfl
          have j0 : gIx (.tup [x, y]) (.int 0) = some (.val x) := rfl
          have j1 : gIx (.tup [x, y]) (.int 1) = some (.val y) := rfl
          have l0 : gIx (.lst [.int lo, .int hi]) (.int 0) = some (.val (.int lo)) := rfl
          have l1 : gIx (.lst [.int lo, .int hi]) (.int 1) = some (.val (.int hi)) := rfl
          have hwh := whole3 sx sy sz
          have hfs : ∀ d ∈ [x, y, z].filter (fun d => !isWhole d), Smp d := fun d hd => by
            have hd := (List.mem_filter.mp hd).1
            rcases List.mem_cons.mp hd with rfl | hd
            · exact sx
            · rcases List.mem_cons.mp hd with rfl | hd
              · exact sy
              · rw [List.mem_singleton.mp hd]; exact sz
          have hne := ne_nil (xs := [x, y, z].filter (fun d => !isWhole d))
          have hem : ([x, y, z].filter (fun d => !isWhole d)).isEmpty = (isWhole x && (isWhole y && isWhole z)) := by
            cases h1 : isWhole x <;> cases h2 : isWhole y <;> cases h3 : isWhole z <;> simp [h1, h2, h3]
          rw [hem] at hne
          generalize [x, y, z].filter (fun d => !isWhole d) = fs at hwh hne
          cases hall : (isWhole x && (isWhole y && isWhole z)) with
          | false =>
            rw [hall] at hne
            have : isSt b lo hi (.tup [.tup [x, y], z]) = false := by
              unfold isSt
              split
              · rename_i n e p heq
                cases heq
                cases hall
              · rfl
            simp [this, i0, i1, j0, j1, comp_eq, wipeE, hwh, hne]
          | true =>
            rw [hall] at hne
            rw [Bool.and_eq_true, Bool.and_eq_true] at hall
            obtain ⟨w1, w2, w3⟩ := hall
            cases x with
            | int n => cases y with
              | int e => cases z with
                | int p =>
                  have hfew : decide ((if n < 0 then -n else n) < LL) = few n := by unfold few; rw [LL_eq]
                  unfold isSt stB
                  by_cases c1 : lo ≤ p
                  · by_cases c2 : p ≤ hi
                    · by_cases c0 : n = 0
                      · subst c0
                        simp [i0, i1, j0, j1, l0, l1, comp_eq, wipeE, hwh, hne, c1, c2]
                        rw [Bool.eq_iff_iff]; simp
                      · cases hfew2 : few n with
                        | false =>
                          rw [hfew2] at hfew
                          simp [i0, i1, j0, j1, l0, l1, comp_eq, wipeE, hwh, hne, c1, c2, c0, p1, p2, hfew, hfew2]
                        | true =>
                          rw [hfew2] at hfew
                          by_cases c3 : lo ≤ e
                          · by_cases c4 : e ≤ 1000 <;> by_cases c5 : n % b = 0 <;> simp [i0, i1, j0, j1, l0, l1, comp_eq, wipeE, hwh, hne, c1, c2, c0, p1, p2, hfew, hfew2, c3, c4, c5, hb]
                          · simp [i0, i1, j0, j1, l0, l1, comp_eq, wipeE, hwh, hne, c1, c2, c0, p1, p2, hfew, hfew2, c3]
                    · simp [i0, i1, j0, j1, l0, l1, comp_eq, wipeE, hwh, hne, c1, c2]
                  · simp [i0, i1, j0, j1, l0, l1, comp_eq, wipeE, hwh, hne, c1]
                | _ => cases w3
              | _ => cases w2
            | _ => cases w1
      | obj C ns xs => cases hw
      | _ => simp [isSt, i0]
  | obj C ns xs => cases hf
  | _ => simp [isSt]
/-- how a row's ends stand for limits -/
structure Ends (f l : D) (lo hi : Int) : Prop where
  lo_ : (f = .non ∧ lo = -1000) ∨ (f = .int lo ∧ -1000 ≤ lo)
  hi_ : (l = .non ∧ hi = 1000) ∨ (l = .int hi ∧ hi ≤ 1000)
theorem Ends.isf {f l : D} {lo hi : Int} (h : Ends f l lo hi) : isEnd f = true := by rcases h.lo_ with ⟨rfl, _⟩ | ⟨rfl, _⟩ <;> rfl
theorem Ends.isl {f l : D} {lo hi : Int} (h : Ends f l lo hi) : isEnd l = true := by rcases h.hi_ with ⟨rfl, _⟩ | ⟨rfl, _⟩ <;> rfl
theorem Ends.has {f l : D} {lo hi : Int} (h : Ends f l lo hi) (p : Int) : hasP (kdI f) (kdI l) (kdI (.int p)) = decide (lo ≤ p ∧ p ≤ hi) := by
  rcases h.lo_ with ⟨rfl, rfl⟩ | ⟨rfl, h1⟩ <;> rcases h.hi_ with ⟨rfl, rfl⟩ | ⟨rfl, h2⟩ <;> simp only [kdI, hasP, loGood, hiGood, Bool.and_true] <;> rw [Bool.eq_iff_iff] <;> simp only [Bool.and_eq_true, decide_eq_true_iff] <;> omega
theorem is_state_eq {CR : Addr} {b lo hi : Int} (hb : 0 < b) {m a f l d : D} (he : Ends f l lo hi) (h : fair2 d = true) : M_is_state CR [rowD CR (.int b) m a f l, d] = .ok (.sh (.bl (isSt b lo hi d))) := by
  unfold M_is_state
  rw [body_eq]
  have e1 := is_pair_eq hb h
  cases hp : isPair b d with
  | false =>
    have : isSt b lo hi d = false := by
      unfold isSt
      split
      · rename_i n e p
        cases hs : stB b lo hi n e p with
        | false => rfl
        | true =>
          exfalso
          have hpl := he.has p
          have h1 := st_le hs
          rw [decide_eq_true h1] at hpl
          have h2 : -1000 ≤ p ∧ p ≤ 1000 := by
            rcases he.lo_ with ⟨_, rfl⟩ | ⟨_, h3⟩ <;> rcases he.hi_ with ⟨_, rfl⟩ | ⟨_, h4⟩ <;> omega
          have h5 : -1000 ≤ lo := by rcases he.lo_ with ⟨_, rfl⟩ | ⟨_, h3⟩ <;> omega
          unfold stB at hs
          rw [Bool.and_eq_true] at hs
          have hs := hs.2
          unfold isPair isNum within at hp
          by_cases c0 : n = 0
          · rw [if_pos c0] at hs
            have := of_decide_eq_true hs
            subst c0 this
            simp [h2] at hp
          · rw [if_neg c0] at hs
            simp only [Bool.and_eq_true, decide_eq_true_iff] at hs
            simp [c0, h2, hs] at hp
            omega
      · rfl
    simp [e1, hp, this]
  | true =>
    obtain ⟨x, y, rfl, hx, hy⟩ : ∃ x y, d = .tup [x, y] ∧ isNum b x = true ∧ within (-1000) 1000 y = true := by
      unfold isPair at hp
      split at hp
      · rw [Bool.and_eq_true] at hp
        exact ⟨_, _, rfl, hp.1, hp.2⟩
      · cases hp
    obtain ⟨n, e, rfl, e1l, e1h, hfew⟩ := isNum_pair hx
    obtain ⟨p, rfl⟩ : ∃ p, y = .int p := by
      cases y with
      | int p => exact ⟨p, rfl⟩
      | _ => cases hy
    have eh : eHas CR (eVar 0) (eVar 4) [.sh (rowD CR (.int b) m a f l), .sh (.tup [.tup [.int n, .int e], .int p]), .sh (.int n), .sh (.int e), .sh (.int p)] = .ok (.bl (decide (lo ≤ p ∧ p ≤ hi))) := by
      rw [eHas_eq (b := .int b) (m := m) (a := a) (f := f) (l := l) (v := .int p) rfl rfl he.isf he.isl rfl, he.has]
    have g0 := gRow_0 CR (.int b) m a f l
    have g3 := gRow_3 CR (.int b) m a f l
    unfold isSt stB
    have hz : n ≠ 0 → n % b ≠ 0 := fun c0 => by
      have hx : (decide (-1000 ≤ e ∧ e ≤ 1000) && (if n = 0 then decide (e = 0) else decide (n % b ≠ 0) && few n)) = true := hx
      rw [if_neg c0] at hx
      simp only [Bool.and_eq_true, decide_eq_true_iff] at hx
      exact hx.2.1
    have hz0 : n = 0 → e = 0 := fun c0 => by
      have hx : (decide (-1000 ≤ e ∧ e ≤ 1000) && (if n = 0 then decide (e = 0) else decide (n % b ≠ 0) && few n)) = true := hx
      rw [if_pos c0] at hx
      simp only [Bool.and_eq_true, decide_eq_true_iff] at hx
      exact hx.2
    generalize rowD CR (.int b) m a f l = rw_ at eh g0 g3 ⊢
    by_cases c1 : lo ≤ p ∧ p ≤ hi
    · rw [decide_eq_true c1] at eh
      by_cases c0 : n = 0
      · have := hz0 c0
        subst c0 this
        simp [g0, e1, hp, eh, c1]
      · have hz := hz c0
        rcases he.lo_ with ⟨rfl, rfl⟩ | ⟨rfl, h3⟩
        · simp [g0, g3, e1, hp, eh, c1, c0, hfew, hz, e1l, e1h]
        · by_cases c3 : lo ≤ e <;> simp [g0, g3, e1, hp, eh, c1, c0, hfew, hz, e1h, c3]
    · rw [decide_eq_false c1] at eh
      simp [g0, e1, hp, eh, c1]
end PM

/-! numbers by their values -/
namespace NR
/-- the worth of a place -/
def W (b e : Int) : Rat := (b : Rat) ^ e
section
variable {b : Int} (hb : 2 ≤ b)
include hb
theorem cast_ne : (b : Rat) ≠ 0 := fun h => by
  have : b = 0 := by exact_mod_cast h
  omega
theorem W_add (i j : Int) : W b (i + j) = W b i * W b j := Rat.zpow_add (cast_ne hb) i j
theorem W_pos (e : Int) : 0 < W b e := Rat.zpow_pos (by exact_mod_cast (show (0 : Int) < b by omega))
theorem W_ne (e : Int) : W b e ≠ 0 := Rat.ne_of_gt (W_pos hb e)
end
theorem W_zero (b : Int) : W b 0 = 1 := Rat.zpow_zero _
theorem W_nat (b : Int) (n : Nat) : W b n = ((b ^ n : Int) : Rat) := by
  unfold W
  rw [Rat.zpow_natCast]
  simp
theorem W_one (b : Int) : W b 1 = b := by
  have := W_nat b 1
  simpa using this
theorem W_toNat (b : Int) {e : Int} (h : 0 ≤ e) : W b e = ((b ^ e.toNat : Int) : Rat) := by
  rw [← W_nat, Int.toNat_of_nonneg h]
/-- n and e are the form of the value v -/
def Is (b : Int) (v : Rat) (n e : Int) : Prop := v = n * W b e ∧ (n % b ≠ 0 ∨ (n = 0 ∧ e = 0))
theorem mul_W_eq {b : Int} (hb : 2 ≤ b) {n m e f : Int} (h : (n : Rat) * W b e = m * W b f) (hf : f ≤ e) : m = n * b ^ (e - f).toNat := by
  have h1 : W b e = W b (e - f) * W b f := by rw [← W_add hb]; congr 1; omega
  rw [h1, W_toNat b (by omega), ← Rat.mul_assoc] at h
  have h3 := W_ne hb f
  have h2 : (n : Rat) * ((b ^ (e - f).toNat : Int) : Rat) = m := by
    generalize (n : Rat) * ((b ^ (e - f).toNat : Int) : Rat) = x at h ⊢
    generalize W b f = w at h h3
    grind
  exact_mod_cast h2.symm
theorem Is.one {b : Int} (hb : 2 ≤ b) {v : Rat} {n e m f : Int} (h : Is b v n e) (g : Is b v m f) : n = m ∧ e = f := by
  obtain ⟨h1, h2⟩ := h
  obtain ⟨g1, g2⟩ := g
  have key : ∀ {n e m f : Int}, (n : Rat) * W b e = m * W b f → f ≤ e → (n % b ≠ 0 ∨ (n = 0 ∧ e = 0)) → (m % b ≠ 0 ∨ (m = 0 ∧ f = 0)) → n = m ∧ e = f := by
    intro n e m f q hf hn hm
    have e1 := mul_W_eq hb q hf
    by_cases hz : n = 0
    · subst hz
      rw [Int.zero_mul] at e1
      subst e1
      rcases hn with hn | hn
      · simp at hn
      · rcases hm with hm | hm
        · simp at hm
        · exact ⟨rfl, by omega⟩
    · by_cases hd : e = f
      · subst hd
        rw [Int.sub_self] at e1
        simp at e1
        exact ⟨e1.symm, rfl⟩
      · exfalso
        obtain ⟨k, hk⟩ : ∃ k, (e - f).toNat = k + 1 := ⟨(e - f).toNat - 1, by omega⟩
        rw [hk, Int.pow_succ, ← Int.mul_assoc] at e1
        rcases hm with hm | ⟨hm, _⟩
        · exact hm (by rw [e1]; exact Int.mul_emod_left _ _)
        · rw [hm] at e1
          have hp : 0 < b ^ k := Int.pow_pos (by omega)
          rcases Int.mul_eq_zero.mp e1.symm with h | h
          · rcases Int.mul_eq_zero.mp h with h | h
            · exact hz h
            · omega
          · omega
  have q := h1.symm.trans g1
  rcases Int.le_total f e with l | l
  · exact key q l h2 g2
  · obtain ⟨a, c⟩ := key q.symm l g2 h2
    exact ⟨a.symm, c.symm⟩
open Classical in
noncomputable def pick (b : Int) (v : Rat) : Int × Int := if h : ∃ p : Int × Int, Is b v p.1 p.2 then choose h else (0, 0)
/-- the numerator and the exponent of a value -/
noncomputable def nm (b : Int) (v : Rat) : Int := (pick b v).1
noncomputable def ex (b : Int) (v : Rat) : Int := (pick b v).2
theorem pick_of {b : Int} {v : Rat} {n e : Int} (h : Is b v n e) : Is b v (nm b v) (ex b v) := by
  unfold nm ex pick
  rw [dif_pos ⟨(n, e), h⟩]
  exact Classical.choose_spec (p := fun p : Int × Int => Is b v p.1 p.2) ⟨(n, e), h⟩
theorem Is.eq {b : Int} (hb : 2 ≤ b) {v : Rat} {n e : Int} (h : Is b v n e) : n = nm b v ∧ e = ex b v := h.one hb (pick_of h)
/-- a value that has a form -/
def Dy (b : Int) (v : Rat) : Prop := ∃ n e : Int, v = n * W b e
theorem has_form {b : Int} (hb : 2 ≤ b) : ∀ (k : Nat) (n e : Int), n.natAbs ≤ k → ∃ m f, Is b (n * W b e) m f ∧ m.natAbs ≤ n.natAbs ∧ (n ≠ 0 → e ≤ f)
  | 0, n, e, h => by
    obtain rfl : n = 0 := by omega
    exact ⟨0, 0, ⟨by rw [show ((0 : Int) : Rat) = 0 from rfl, Rat.zero_mul, Rat.zero_mul], .inr ⟨rfl, rfl⟩⟩, Nat.le_refl _, fun h => absurd rfl h⟩
  | k + 1, n, e, h => by
    by_cases h0 : n = 0
    · subst h0
      exact ⟨0, 0, ⟨by rw [show ((0 : Int) : Rat) = 0 from rfl, Rat.zero_mul, Rat.zero_mul], .inr ⟨rfl, rfl⟩⟩, Nat.le_refl _, fun h => absurd rfl h⟩
    by_cases hd : n % b = 0
    · have e1 : b * (n / b) = n := by have := Int.mul_ediv_add_emod n b; omega
      have e2 : b.natAbs * (n / b).natAbs = n.natAbs := by rw [← Int.natAbs_mul, e1]
      have e3 : 2 * (n / b).natAbs ≤ n.natAbs := by rw [← e2]; exact Nat.mul_le_mul_right _ (by omega)
      obtain ⟨m, f, h1, h2, h3⟩ := has_form hb k (n / b) (e + 1) (by omega)
      refine ⟨m, f, ?_, by omega, fun _ => ?_⟩
      · have : (n : Rat) * W b e = ((n / b : Int) : Rat) * W b (e + 1) := by
          rw [W_add hb, W_one]
          have e4 : (n : Rat) = (b : Rat) * ((n / b : Int) : Rat) := by exact_mod_cast e1.symm
          rw [e4]
          generalize ((n / b : Int) : Rat) = q
          generalize W b e = w
          grind
        rw [this]; exact h1
      · have : n / b ≠ 0 := fun z => by rw [z] at e1; omega
        have := h3 this
        omega
    · exact ⟨n, e, ⟨rfl, .inl hd⟩, Nat.le_refl _, fun _ => Int.le_refl _⟩
section
variable {b : Int} (hb : 2 ≤ b)
include hb
theorem Dy.is {v : Rat} (h : Dy b v) : Is b v (nm b v) (ex b v) := by
  obtain ⟨n, e, rfl⟩ := h
  obtain ⟨m, f, h1, _⟩ := has_form hb n.natAbs n e (Nat.le_refl _)
  exact pick_of h1
theorem Dy.eq {v : Rat} (h : Dy b v) : (nm b v : Rat) * W b (ex b v) = v := ((h.is hb).1).symm
theorem nm_le {n e : Int} : (nm b (n * W b e)).natAbs ≤ n.natAbs := by
  obtain ⟨m, f, h1, h2, _⟩ := has_form hb n.natAbs n e (Nat.le_refl _)
  rw [← (h1.eq hb).1]; exact h2
theorem ex_ge {n e : Int} (h0 : n ≠ 0) : e ≤ ex b (n * W b e) := by
  obtain ⟨m, f, h1, _, h3⟩ := has_form hb n.natAbs n e (Nat.le_refl _)
  rw [← (h1.eq hb).2]; exact h3 h0
theorem nm_zero : nm b 0 = 0 := by
  have h : Is b 0 0 0 := ⟨by rw [show ((0 : Int) : Rat) = 0 from rfl, Rat.zero_mul], .inr ⟨rfl, rfl⟩⟩
  exact (h.eq hb).1.symm
theorem ex_zero : ex b 0 = 0 := by
  have h : Is b 0 0 0 := ⟨by rw [show ((0 : Int) : Rat) = 0 from rfl, Rat.zero_mul], .inr ⟨rfl, rfl⟩⟩
  exact (h.eq hb).2.symm
theorem Dy.add {v w : Rat} (h : Dy b v) (g : Dy b w) : Dy b (v + w) := by
  obtain ⟨n, e, rfl⟩ := h
  obtain ⟨m, f, rfl⟩ := g
  have key : ∀ lo, lo ≤ e → lo ≤ f → (n : Rat) * W b e + m * W b f = ((n * b ^ (e - lo).toNat + m * b ^ (f - lo).toNat : Int) : Rat) * W b lo := by
    intro lo h1 h2
    rw [show W b e = W b (e - lo) * W b lo by rw [← W_add hb]; congr 1; omega, show W b f = W b (f - lo) * W b lo by rw [← W_add hb]; congr 1; omega, W_toNat b (show 0 ≤ e - lo by omega), W_toNat b (show 0 ≤ f - lo by omega)]
    rw [Rat.intCast_add, Rat.intCast_mul, Rat.intCast_mul]
    grind
  exact ⟨_, _, key (min e f) (Int.min_le_left _ _) (Int.min_le_right _ _)⟩
theorem Dy.mul {v w : Rat} (h : Dy b v) (g : Dy b w) : Dy b (v * w) := by
  obtain ⟨n, e, rfl⟩ := h
  obtain ⟨m, f, rfl⟩ := g
  refine ⟨n * m, e + f, ?_⟩
  rw [W_add hb, Rat.intCast_mul]
  grind
theorem Dy.mk (n e : Int) : Dy b (n * W b e) := ⟨n, e, rfl⟩
theorem Dy.int (n : Int) : Dy b n := ⟨n, 0, by rw [W_zero, Rat.mul_one]⟩
theorem Dy.w (e : Int) : Dy b (W b e) := ⟨1, e, by rw [show ((1 : Int) : Rat) = 1 from rfl, Rat.one_mul]⟩
theorem Dy.neg {v : Rat} (h : Dy b v) : Dy b (-v) := by
  obtain ⟨n, e, rfl⟩ := h
  exact ⟨-n, e, by rw [Rat.intCast_neg]; grind⟩
theorem Dy.sub {v w : Rat} (h : Dy b v) (g : Dy b w) : Dy b (v - w) := by
  rw [Rat.sub_eq_add_neg]; exact h.add hb (g.neg hb)
end
end NR

/-! residues of values modulo b ^ s - 1 -/
namespace NR
def Cg (M x y : Int) : Prop := M ∣ x - y
section
variable {M x y z w : Int}
theorem Cg.refl (x : Int) : Cg M x x := by unfold Cg; rw [Int.sub_self]; exact Int.dvd_zero _
theorem Cg.symm (h : Cg M x y) : Cg M y x := by
  unfold Cg at *
  have := (Int.dvd_neg (a := M) (b := x - y)).mpr h
  rwa [Int.neg_sub] at this
theorem Cg.trans (h : Cg M x y) (g : Cg M y z) : Cg M x z := by
  unfold Cg at *
  have := Int.dvd_add h g
  rwa [show x - y + (y - z) = x - z by omega] at this
theorem Cg.add (h : Cg M x y) (g : Cg M z w) : Cg M (x + z) (y + w) := by
  unfold Cg at *
  have := Int.dvd_add h g
  rwa [show x - y + (z - w) = x + z - (y + w) by omega] at this
theorem Cg.neg (h : Cg M x y) : Cg M (-x) (-y) := by
  unfold Cg at *
  have := (Int.dvd_neg (a := M) (b := x - y)).mpr h
  rwa [show -(x - y) = -x - -y by omega] at this
theorem Cg.mulr (h : Cg M x y) (z : Int) : Cg M (x * z) (y * z) := by
  unfold Cg at *
  have := Int.dvd_trans h (Int.dvd_mul_right (x - y) z)
  rwa [Int.sub_mul] at this
theorem Cg.mull (h : Cg M x y) (z : Int) : Cg M (z * x) (z * y) := by
  rw [Int.mul_comm z, Int.mul_comm z]; exact h.mulr z
theorem Cg.mul (h : Cg M x y) (g : Cg M z w) : Cg M (x * z) (y * w) := (h.mulr z).trans (g.mull y)
theorem Cg.dvd (h : Cg M x y) : M ∣ x ↔ M ∣ y := by
  unfold Cg at h
  constructor
  · intro g
    have := Int.dvd_sub g h
    rwa [show x - (x - y) = y by omega] at this
  · intro g
    have := Int.dvd_add h g
    rwa [show x - y + y = x by omega] at this
theorem Cg.of_emod (x : Int) : Cg M (x % M) x := by
  unfold Cg
  have := Int.emod_add_mul_ediv x M
  exact ⟨-(x / M), by rw [Int.mul_neg]; omega⟩
theorem Cg.iff_emod : Cg M x y ↔ x % M = y % M := by
  unfold Cg
  rw [Int.emod_eq_emod_iff_emod_sub_eq_zero]
  exact ⟨Int.emod_eq_zero_of_dvd, Int.dvd_of_emod_eq_zero⟩
end
section
variable {b : Int} {s : Nat}
theorem pow_one_cg (k : Nat) : Cg (b ^ s - 1) ((b ^ s) ^ k) 1 := by
  induction k with
  | zero => rw [Int.pow_zero]; exact Cg.refl 1
  | succ k ih =>
    rw [Int.pow_succ]
    have h : Cg (b ^ s - 1) (b ^ s) 1 := Int.dvd_refl _
    have := ih.mul h
    rwa [Int.mul_one] at this
theorem pow_mod_cg (i : Nat) : Cg (b ^ s - 1) (b ^ i) (b ^ (i % s)) := by
  have h : b ^ i = (b ^ s) ^ (i / s) * b ^ (i % s) := by
    rw [← Int.pow_mul, ← Int.pow_add, Nat.div_add_mod]
  rw [h]
  have := (pow_one_cg (b := b) (s := s) (i / s)).mulr (b ^ (i % s))
  rwa [Int.one_mul] at this
theorem pow_cg {i j : Nat} (h : i % s = j % s) : Cg (b ^ s - 1) (b ^ i) (b ^ j) := by
  have h1 := pow_mod_cg (b := b) (s := s) i
  rw [h] at h1
  exact h1.trans (pow_mod_cg j).symm
/-- the exponent of a place, modulo s -/
def rs (s : Nat) (e : Int) : Nat := (e % (s : Int)).toNat
theorem rs_lt (h : 0 < s) (e : Int) : rs s e < s := by
  have h1 := Int.emod_nonneg e (show (s : Int) ≠ 0 by omega)
  have h2 := Int.emod_lt_of_pos e (show (0 : Int) < s by omega)
  unfold rs; omega
theorem rs_cast (h : 0 < s) (e : Int) : ((rs s e : Nat) : Int) = e % (s : Int) := Int.toNat_of_nonneg (Int.emod_nonneg e (by omega))
theorem rs_add (h : 0 < s) (e : Int) (q : Int) : (rs s e + rs s q) % s = rs s (e + q) % s := by
  have : (((rs s e + rs s q) % s : Nat) : Int) = ((rs s (e + q) % s : Nat) : Int) := by
    rw [Int.natCast_emod, Int.natCast_emod, Int.natCast_add, rs_cast h, rs_cast h, rs_cast h, Int.emod_emod]
    exact (Int.add_emod e q s).symm
  exact_mod_cast this
theorem rs_nat (k : Nat) : rs s (k : Int) = k % s := by
  unfold rs
  rw [← Int.natCast_emod, Int.toNat_natCast]
theorem W_cg (h : 0 < s) (e q : Int) : Cg (b ^ s - 1) (b ^ rs s (e + q)) (b ^ rs s e * b ^ rs s q) := by
  rw [← Int.pow_add]
  exact pow_cg (rs_add h e q).symm
/-- the residue of a value -/
noncomputable def phi (b : Int) (s : Nat) (y : Rat) : Int := nm b y * b ^ rs s (ex b y)
theorem rep_up (h : 0 < s) {n e lo : Int} (hl : lo ≤ e) : Cg (b ^ s - 1) (n * b ^ (e - lo).toNat * b ^ rs s lo) (n * b ^ rs s e) := by
  rw [Int.mul_assoc, ← Int.pow_add]
  refine (pow_cg ?_).mull n
  have h1 := rs_add (s := s) h (e - lo) lo
  rw [show e - lo + lo = e by omega] at h1
  rw [← h1]
  have h2 : rs s (e - lo) % s = (e - lo).toNat % s := by
    have : ((e - lo).toNat : Int) = e - lo := Int.toNat_of_nonneg (by omega)
    have h3 := rs_nat (s := s) (e - lo).toNat
    rw [this] at h3
    rw [h3, Nat.mod_mod]
  rw [Nat.add_mod, ← h2, ← Nat.add_mod]
variable (hb : 2 ≤ b) (hs : 0 < s)
include hb hs
theorem phi_rep {n e : Int} : Cg (b ^ s - 1) (phi b s (n * W b e)) (n * b ^ rs s e) := by
  have hv := (Dy.mk hb n e).eq hb
  unfold phi
  generalize nm b (n * W b e) = m at *
  generalize ex b (n * W b e) = f at *
  rcases Int.le_total e f with h | h
  · have e1 := mul_W_eq hb hv h
    rw [e1]
    exact (rep_up hs h).symm
  · have e1 := mul_W_eq hb hv.symm h
    rw [e1]
    exact rep_up hs h
theorem phi_add {y z : Rat} (hy : Dy b y) (hz : Dy b z) : Cg (b ^ s - 1) (phi b s (y + z)) (phi b s y + phi b s z) := by
  obtain ⟨n, e, rfl⟩ := hy
  obtain ⟨m, f, rfl⟩ := hz
  have key : ∀ lo, lo ≤ e → lo ≤ f → (n : Rat) * W b e = ((n * b ^ (e - lo).toNat : Int) : Rat) * W b lo ∧ (m : Rat) * W b f = ((m * b ^ (f - lo).toNat : Int) : Rat) * W b lo := fun lo h1 h2 => by
    rw [show W b e = W b (e - lo) * W b lo by rw [← W_add hb]; congr 1; omega, show W b f = W b (f - lo) * W b lo by rw [← W_add hb]; congr 1; omega, W_toNat b (show 0 ≤ e - lo by omega), W_toNat b (show 0 ≤ f - lo by omega), Rat.intCast_mul, Rat.intCast_mul]
    constructor <;> grind
  obtain ⟨k1, k2⟩ := key (min e f) (Int.min_le_left _ _) (Int.min_le_right _ _)
  generalize min e f = lo at k1 k2
  rw [k1, k2]
  generalize n * b ^ (e - lo).toNat = n'
  generalize m * b ^ (f - lo).toNat = m'
  have e1 : (n' : Rat) * W b lo + (m' : Rat) * W b lo = ((n' + m' : Int) : Rat) * W b lo := by rw [Rat.intCast_add]; grind
  rw [e1]
  refine (phi_rep hb hs).trans ?_
  rw [Int.add_mul]
  exact (phi_rep hb hs).symm.add (phi_rep hb hs).symm
theorem phi_neg {y : Rat} (hy : Dy b y) : Cg (b ^ s - 1) (phi b s (-y)) (-phi b s y) := by
  obtain ⟨n, e, rfl⟩ := hy
  have e1 : -((n : Rat) * W b e) = ((-n : Int) : Rat) * W b e := by rw [Rat.intCast_neg]; grind
  rw [e1]
  refine (phi_rep hb hs).trans ?_
  rw [Int.neg_mul]
  exact (phi_rep hb hs).neg.symm
theorem phi_mulW {y : Rat} (hy : Dy b y) (q : Int) : Cg (b ^ s - 1) (phi b s (y * W b q)) (phi b s y * b ^ rs s q) := by
  obtain ⟨n, e, rfl⟩ := hy
  have e1 : (n : Rat) * W b e * W b q = (n : Rat) * W b (e + q) := by rw [W_add hb]; grind
  rw [e1]
  refine (phi_rep hb hs).trans ?_
  have h1 := (W_cg (b := b) hs e q).mull n
  rw [← Int.mul_assoc] at h1
  exact h1.trans ((phi_rep hb hs).mulr _).symm
theorem phi_dvd (y : Rat) : (b ^ s - 1) ∣ phi b s y ↔ (b ^ s - 1) ∣ nm b y := by
  unfold phi
  constructor
  · intro h
    have hl := rs_lt hs (ex b y)
    generalize rs s (ex b y) = j at *
    have h1 := Int.dvd_trans h (Int.dvd_mul_right _ (b ^ (s - j)))
    rw [Int.mul_assoc, ← Int.pow_add, show j + (s - j) = s by omega] at h1
    have h2 : Cg (b ^ s - 1) (nm b y * b ^ s) (nm b y * 1) := Cg.mull (show Cg (b ^ s - 1) (b ^ s) 1 from Int.dvd_refl _) _
    rw [Int.mul_one] at h2
    exact h2.dvd.mp h1
  · intro h
    exact Int.dvd_trans h (Int.dvd_mul_right _ _)
end
end NR

/-! sizes by instances -/
namespace DL
open PySem L2 PySem.Spec PyProof.Rows GL
/-- i has at most a bits -/
class Bd (i : Int) (a : outParam Nat) : Prop where
  lt : i.natAbs < 2 ^ a
theorem Bd.of_le {i : Int} {a c : Nat} (h : i.natAbs < 2 ^ a) (l : a ≤ c) : Bd i c := ⟨Nat.lt_of_lt_of_le h (Nat.pow_le_pow_right (by decide) l)⟩
theorem two_add {a b : Nat} : 2 ^ a + 2 ^ b ≤ 2 ^ (a + b + 1) := by
  have h1 : 2 ^ a ≤ 2 ^ (a + b) := Nat.pow_le_pow_right (by decide) (by omega)
  have h2 : 2 ^ b ≤ 2 ^ (a + b) := Nat.pow_le_pow_right (by decide) (by omega)
  rw [Nat.pow_succ]; omega
section
variable {i j : Int} {a b : Nat}
instance Bd.mul [h : Bd i a] [g : Bd j b] : Bd (i * j) (a + b) := ⟨by rw [Int.natAbs_mul, Nat.pow_add]; exact Nat.mul_lt_mul'' h.lt g.lt⟩
instance Bd.add [h : Bd i a] [g : Bd j b] : Bd (i + j) (a + b + 1) := ⟨by have := two_add (a := a) (b := b); have := h.lt; have := g.lt; have := Int.natAbs_add_le i j; omega⟩
instance Bd.sub [h : Bd i a] [g : Bd j b] : Bd (i - j) (a + b + 1) := ⟨by have := two_add (a := a) (b := b); have := h.lt; have := g.lt; have := Int.natAbs_sub_le i j; omega⟩
instance Bd.neg [h : Bd i a] : Bd (-i) a := ⟨by rw [Int.natAbs_neg]; exact h.lt⟩
instance Bd.lit {n : Nat} : Bd (OfNat.ofNat n : Int) (n.log2 + 1) := ⟨by
  show (n : Int).natAbs < _
  rw [Int.natAbs_natCast]
  exact Nat.lt_log2_self⟩
instance Bd.modLit {n : Nat} [NeZero n] : Bd (i % (OfNat.ofNat n : Int)) (n.log2 + 1) := ⟨by
  have h0 : n ≠ 0 := NeZero.ne n
  have h1 := Int.emod_nonneg i (show (n : Int) ≠ 0 by omega)
  have h2 := Int.emod_lt_of_pos i (show (0 : Int) < n by omega)
  have h3 : n < 2 ^ (n.log2 + 1) := Nat.lt_log2_self
  show (i % (n : Int)).natAbs < _
  omega⟩
instance (priority := low) Bd.mod [h : Bd i a] [g : Bd j b] : Bd (i % j) (a + b) := ⟨by
  by_cases h0 : j = 0
  · subst h0
    rw [Int.emod_zero]
    exact Nat.lt_of_lt_of_le h.lt (Nat.pow_le_pow_right (by decide) (by omega))
  · have h1 := Int.emod_nonneg i h0
    have h2 := Int.emod_lt i h0
    have h3 : 2 ^ b ≤ 2 ^ (a + b) := Nat.pow_le_pow_right (by decide) (by omega)
    have := g.lt
    omega⟩
instance Bd.div [h : Bd i a] : Bd (i / j) a := ⟨Nat.lt_of_le_of_lt (Int.natAbs_ediv_le_natAbs i j) h.lt⟩
instance Bd.pow {n : Nat} [h : Bd i a] : Bd (i ^ n) (a * n + 1) := ⟨by
  rw [NM.natAbs_pow]
  have h1 : i.natAbs ^ n ≤ (2 ^ a) ^ n := Nat.pow_le_pow_left (Nat.le_of_lt h.lt) n
  rw [← Nat.pow_mul] at h1
  exact Nat.lt_of_le_of_lt h1 (Nat.pow_lt_pow_right (by decide) (by omega))⟩
instance Bd.ite {c : Prop} [Decidable c] [h : Bd i a] [g : Bd j b] : Bd (if c then i else j) (a + b) := ⟨by
  have h1 : 2 ^ a ≤ 2 ^ (a + b) := Nat.pow_le_pow_right (by decide) (by omega)
  have h2 : 2 ^ b ≤ 2 ^ (a + b) := Nat.pow_le_pow_right (by decide) (by omega)
  have := h.lt
  have := g.lt
  split <;> omega⟩
theorem Bd.log [h : Bd i a] : i.natAbs.log2 ≤ a := by
  by_cases h0 : i.natAbs = 0
  · rw [h0]; simp
  · exact Nat.le_of_lt ((Nat.log2_lt h0).mpr h.lt)
theorem gMul_bd [Bd i a] [Bd j b] (h : a + b < 1000000) : gMul (.int i) (.int j) = some (.val (.int (i * j))) := by
  have h1 := Bd.log (i := i) (a := a)
  have h2 := Bd.log (i := j) (a := b)
  exact giv_pos (by omega)
theorem gMulI_bd [Bd i a] [Bd j b] (h : a + b < 1000000) : gMulI (.int i) (.int j) = some (.val (.int (i * j))) := by
  have h1 := Bd.log (i := i) (a := a)
  have h2 := Bd.log (i := j) (a := b)
  exact giv_pos (by omega)
theorem gDiv_bd [Bd j b] (h0 : 0 < j) (h : b < 9000) : gDiv (.int i) (.int j) = some (.val (.int (i / j))) := by
  have h2 := Bd.log (i := j) (a := b)
  exact giv_pos ⟨h0, .inl (by omega)⟩
theorem gMod_bd (h0 : 0 < j) : gMod (.int i) (.int j) = some (.val (.int (i % j))) := giv_pos h0
theorem gPow_bd {n : Nat} [h : Bd i a] (hn : a * n < 2 ^ 27) : gPow (.int i) (.int (OfNat.ofNat n : Int)) = some (.val (.int (i ^ n))) := by
  have := pow_ok (j := n) h.lt (by omega)
  exact this
end
end DL

/-! numbers by value: form_of, sum_of -/
namespace PM
open PySem L2 GL DL NR
/-- the data of a value -/
noncomputable def numD (b : Int) (v : Rat) : D := .tup [.int (nm b v), .int (ex b v)]
theorem IsForm.is {b n e n' e' : Int} (hb : 2 ≤ b) (h : IsForm b n e n' e') : Is b (n * W b e) n' e' := by
  rcases h with ⟨rfl, rfl, rfl⟩ | ⟨h0, f, h1, h2, rfl⟩
  · exact ⟨by rw [show ((0 : Int) : Rat) = 0 from rfl, Rat.zero_mul, Rat.zero_mul], .inr ⟨rfl, rfl⟩⟩
  · refine ⟨?_, .inl h2⟩
    rw [W_add hb, W_nat, h1, Rat.intCast_mul]
    grind
theorem IsForm.num {b n e n' e' : Int} (hb : 2 ≤ b) (h : IsForm b n e n' e') : n' = nm b (n * W b e) ∧ e' = ex b (n * W b e) := (h.is hb).eq hb
theorem law_form_val {b : Int} (hb : 2 ≤ b) (hb2 : b ≤ 36) {n : Int} (e : Int) {m : Nat} (hm : n.natAbs < 2 ^ m) (hm2 : m ≤ 900000) : M_law_form [.int b, .int n, .int e] = .ok (.sh (numD b (n * W b e))) := by
  obtain ⟨n', e', h1, h2⟩ := form_eq hb hb2 (e := e) hm hm2
  obtain ⟨rfl, rfl⟩ := h1.num hb
  exact h2
theorem form_of_val {b : Int} (hb : 2 ≤ b) (hb2 : b ≤ 36) {n : Int} (e : Int) (hn : n ≠ 0 → Few b n) : M_form_of [.int b, .int n, .int e] = .ok (.sh (numD b (n * W b e))) := by
  obtain ⟨n', e', h1, h2⟩ := form_of_few hb hb2 e hn
  obtain ⟨rfl, rfl⟩ := h1.num hb
  exact h2
/-! ### a dict of amounts -/
abbrev Am := List (Int × Int)
def kA (am : Am) : List Key := am.map fun p => .inl p.1
def xA (am : Am) : List D := am.map fun p => .int p.2
def getA : Am → Int → Option Int
  | [], _ => none
  | (k, a) :: r, e => if k = e then some a else getA r e
def putA : Am → Int → Int → Am
  | [], e, n => [(e, n)]
  | (k, a) :: r, e, n => if k = e then (k, a + n) :: r else (k, a) :: putA r e n
abbrev hasA (am : Am) (e : Int) : Prop := e ∈ am.map (·.1)
def soleA (am : Am) : Prop := (am.map (·.1)).Nodup
def valA (b : Int) (am : Am) : Rat := (am.map fun p => (p.2 : Rat) * W b p.1).sum
def absA (am : Am) : Nat := (am.map fun p => p.2.natAbs).sum
theorem dVal_am (e : Int) : ∀ am : Am, dVal (kA am) (xA am) (.inl e) = (getA am e).map .int
  | [] => rfl
  | (k, a) :: r => by
    have ih := dVal_am e r
    show dVal (Sum.inl k :: kA r) (.int a :: xA r) (.inl e) = _
    by_cases h : k = e
    · simp [dVal, getA, h]
    · have h2 : ¬ ((Sum.inl k : Key) = Sum.inl e) := fun z => h (Sum.inl.inj z)
      simp only [dVal, getA, if_neg h, if_neg h2, ih]
theorem getA_none {e : Int} : ∀ {am : Am}, ¬ hasA am e → getA am e = none
  | [], _ => rfl
  | (k, a) :: r, h => by
    unfold hasA at h
    simp only [List.map_cons, List.mem_cons, not_or] at h
    rw [getA, if_neg (fun z => h.1 z.symm)]
    exact getA_none h.2
theorem dSet_not {e : Int} {d : D} : ∀ {am : Am}, ¬ hasA am e → dSet (kA am) (xA am) (.inl e) d = xA am
  | [], _ => rfl
  | (k, a) :: r, h => by
    unfold hasA at h
    simp only [List.map_cons, List.mem_cons, not_or] at h
    have h2 : ¬ ((Sum.inl k : Key) = Sum.inl e) := fun z => h.1 (Sum.inl.inj z).symm
    show (if (Sum.inl k : Key) = Sum.inl e then d else .int a) :: dSet (kA r) (xA r) (.inl e) d = _
    rw [if_neg h2, dSet_not h.2]; rfl
theorem dSet_am {e n : Int} : ∀ {am : Am}, soleA am → hasA am e → dSet (kA am) (xA am) (.inl e) (.int ((getA am e).getD 0 + n)) = xA (putA am e n) ∧ kA (putA am e n) = kA am
  | [], _, h => by cases h
  | (k, a) :: r, s, h => by
    unfold soleA at s
    simp only [List.map_cons, List.nodup_cons] at s
    by_cases hk : k = e
    · subst hk
      have := dSet_not (am := r) (e := k) (d := .int (a + n)) s.1
      rw [getA, putA, if_pos rfl, if_pos rfl]
      refine ⟨?_, rfl⟩
      show (if (Sum.inl k : Key) = Sum.inl k then D.int ((some a).getD 0 + n) else .int a) :: dSet (kA r) (xA r) (.inl k) (D.int ((some a).getD 0 + n)) = _
      rw [if_pos rfl]
      show D.int (a + n) :: dSet (kA r) (xA r) (.inl k) (.int (a + n)) = _
      rw [this]; rfl
    · have h2 : ¬ ((Sum.inl k : Key) = Sum.inl e) := fun z => hk (Sum.inl.inj z)
      have hr : hasA r e := by
        rcases List.mem_cons.mp h with z | z
        · exact absurd z.symm hk
        · exact z
      obtain ⟨i1, i2⟩ := dSet_am (n := n) (am := r) s.2 hr
      rw [getA, putA, if_neg hk, if_neg hk]
      refine ⟨?_, ?_⟩
      · show (if (Sum.inl k : Key) = Sum.inl e then D.int ((getA r e).getD 0 + n) else .int a) :: dSet (kA r) (xA r) (.inl e) (D.int ((getA r e).getD 0 + n)) = _
        rw [if_neg h2, i1]; rfl
      · show Sum.inl k :: kA (putA r e n) = _
        rw [i2]; rfl
theorem putA_not {e n : Int} : ∀ {am : Am}, ¬ hasA am e → putA am e n = am ++ [(e, n)]
  | [], _ => rfl
  | (k, a) :: r, h => by
    unfold hasA at h
    simp only [List.map_cons, List.mem_cons, not_or] at h
    rw [putA, if_neg (fun z => h.1 z.symm), putA_not h.2]; rfl
theorem dPut_am {am : Am} (s : soleA am) (e n : Int) : dPut (kA am) (xA am) (.inl e) (.int ((getA am e).getD 0 + n)) = (kA (putA am e n), xA (putA am e n)) := by
  unfold dPut
  have ha : ((kA am).any fun j => decide (j = .inl e)) = decide (hasA am e) := by
    rw [Bool.eq_iff_iff, List.any_eq_true, decide_eq_true_iff]
    unfold kA hasA
    simp only [List.mem_map, decide_eq_true_iff]
    constructor
    · rintro ⟨x, ⟨p, hp, rfl⟩, h⟩
      exact ⟨p, hp, Sum.inl.inj h⟩
    · rintro ⟨p, hp, h⟩
      exact ⟨_, ⟨p, hp, rfl⟩, by rw [h]⟩
  rw [ha]
  by_cases h : hasA am e
  · obtain ⟨h1, h2⟩ := dSet_am (n := n) s h
    rw [if_pos (decide_eq_true h), h1, h2]
  · rw [if_neg (by simpa using h), putA_not h, getA_none h]
    show (kA am ++ [.inl e], xA am ++ [.int (0 + n)]) = _
    rw [Int.zero_add]
    simp [kA, xA]
theorem putA_keys {e n x : Int} : ∀ {am : Am}, hasA (putA am e n) x → x = e ∨ hasA am x
  | [], h => by
    unfold hasA putA at h
    simp at h
    exact .inl h
  | (k, a) :: r, h => by
    rw [putA] at h
    split at h
    · exact .inr h
    · rcases List.mem_cons.mp h with h | h
      · exact .inr (List.mem_cons.mpr (.inl h))
      · rcases putA_keys (am := r) h with h | h
        · exact .inl h
        · exact .inr (List.mem_cons_of_mem _ h)
theorem putA_sole {e n : Int} : ∀ {am : Am}, soleA am → soleA (putA am e n)
  | [], _ => by simp [putA, soleA]
  | (k, a) :: r, s => by
    unfold soleA at s
    simp only [List.map_cons, List.nodup_cons] at s
    rw [putA]
    split
    · exact List.nodup_cons.mpr s
    · rename_i h
      refine List.nodup_cons.mpr ⟨fun z => ?_, putA_sole (am := r) s.2⟩
      rcases putA_keys z with z | z
      · exact h z
      · exact s.1 z
theorem putA_val {b e n : Int} : ∀ (am : Am), valA b (putA am e n) = valA b am + n * W b e
  | [] => by simp [putA, valA, Rat.add_comm]
  | (k, a) :: r => by
    have ih := putA_val (b := b) (e := e) (n := n) r
    unfold valA at ih ⊢
    rw [putA]
    split
    · rename_i h
      subst h
      simp only [List.map_cons, List.sum_cons, Rat.intCast_add]
      grind
    · simp only [List.map_cons, List.sum_cons, ih]
      grind
theorem putA_abs {e n : Int} : ∀ (am : Am), absA (putA am e n) ≤ absA am + n.natAbs
  | [] => by simp [putA, absA]
  | (k, a) :: r => by
    have ih := putA_abs (e := e) (n := n) r
    unfold absA at ih ⊢
    rw [putA]
    split
    · simp only [List.map_cons, List.sum_cons]
      omega
    · simp only [List.map_cons, List.sum_cons]
      omega
theorem putA_len {e n : Int} : ∀ (am : Am), (putA am e n).length ≤ am.length + 1
  | [] => by simp [putA]
  | (k, a) :: r => by
    have ih := putA_len (e := e) (n := n) r
    rw [putA]
    split
    · simp
    · simp only [List.length_cons]; omega
/-- parts: (numerator, exponent) -/
abbrev Pt := Int × Int
def ptD (p : Pt) : D := .tup [.int p.1, .int p.2]
def accA (am : Am) (p : Pt) : Am := if p.1 = 0 then am else putA am p.2 p.1
def valP (b : Int) (ps : List Pt) : Rat := (ps.map fun p => (p.1 : Rat) * W b p.2).sum
def absP (ps : List Pt) : Nat := (ps.map fun p => p.1.natAbs).sum
theorem sum_loop1 (B P : D) : ∀ (ps : List Pt) (am : Am) (x3 x4 : DL.Slot), soleA am → am.length + ps.length < 1000000 →
    ∃ y3 y4, DL.forM (bOfTup [(bName 3), (bName 4)]) B_sum_of_1 (ps.map ptD) [.sh B, .sh P, .ownD (kA am) (xA am), x3, x4, .un, .un] = .nx [.sh B, .sh P, .ownD (kA (ps.foldl accA am)) (xA (ps.foldl accA am)), y3, y4, .un, .un]
  | [], am, x3, x4, s, h => ⟨x3, x4, rfl⟩
  | (n, e) :: ps, am, x3, x4, s, h => by
    simp only [List.length_cons] at h
    have hl : (kA am).length = am.length := by simp [kA]
    have hlt : (kA am).length < 1000000 := by omega
    have e2 := dVal_am e am
    have e3 := dPut_am s e n
    have fc := forM_cons (bOfTup [(bName 3), (bName 4)]) B_sum_of_1 (ptD (n, e)) (ps.map ptD) [.sh B, .sh P, .ownD (kA am) (xA am), x3, x4, .un, .un] [.sh B, .sh P, .ownD (kA am) (xA am), .sh (.int n), .sh (.int e), .un, .un] rfl
    rw [List.foldl_cons]
    by_cases h0 : n = 0
    · subst h0
      have e1 : accA am (0, e) = am := rfl
      rw [e1]
      obtain ⟨y3, y4, q⟩ := sum_loop1 B P ps am (.sh (.int 0)) (.sh (.int e)) s (by omega)
      have hb : B_sum_of_1 [.sh B, .sh P, .ownD (kA am) (xA am), .sh (.int 0), .sh (.int e), .un, .un] = .nx [.sh B, .sh P, .ownD (kA am) (xA am), .sh (.int 0), .sh (.int e), .un, .un] := by
        unfold B_sum_of_1; simp
      rw [hb] at fc
      exact ⟨y3, y4, fc.trans q⟩
    · have e1 : accA am (n, e) = putA am e n := by simp [accA, h0]
      rw [e1]
      have hp := putA_len (e := e) (n := n) am
      obtain ⟨y3, y4, q⟩ := sum_loop1 B P ps (putA am e n) (.sh (.int n)) (.sh (.int e)) (putA_sole s) (by omega)
      have hb : B_sum_of_1 [.sh B, .sh P, .ownD (kA am) (xA am), .sh (.int n), .sh (.int e), .un, .un] = .nx [.sh B, .sh P, .ownD (kA (putA am e n)) (xA (putA am e n)), .sh (.int n), .sh (.int e), .un, .un] := by
        clear fc q
        generalize kA am = ks at *
        generalize xA am = xs at *
        generalize kA (putA am e n) = ks2 at *
        generalize xA (putA am e n) = xs2 at *
        unfold B_sum_of_1
        cases hg : getA am e with
        | none =>
          rw [hg] at e2 e3
          simp at e3
          simp [mPutD, eDGet2, keyD, e2, e3, h0, hlt]
        | some a =>
          rw [hg] at e2 e3
          simp at e3
          simp [mPutD, eDGet2, keyD, e2, e3, h0, hlt]
      rw [hb] at fc
      exact ⟨y3, y4, fc.trans q⟩
end PM

namespace PM
open PySem L2 GL DL NR
theorem pow36 {b : Int} (hb0 : 0 ≤ b) (hb : b ≤ 36) (c : Nat) : (b ^ c).natAbs ≤ 36 ^ c := by
  rw [NM.natAbs_pow]
  exact Nat.pow_le_pow_left (by omega) c
theorem pow36_lt (c : Nat) : 36 ^ c ≤ 2 ^ (6 * c) := by
  rw [show 2 ^ (6 * c) = (2 ^ 6) ^ c from Nat.pow_mul 2 6 c]
  exact Nat.pow_le_pow_left (by decide) c
/-- what the sum has so far -/
theorem sum_loop2 {b : Int} (hb : 2 ≤ b) (hb2 : b ≤ 36) (P : D) (am : Am) {S D : Nat} {top : Int} (hS : S * 36 ^ D < 2 ^ 80000) (hD : D < 10000) : ∀ (ys : List Int) (place total : Int) (s : Nat) (x3 x4 : DL.Slot),
    (∀ y ∈ ys, hasA am y ∧ y ≤ place ∧ top - y ≤ D) → place ≤ top → ys.Pairwise (· ≥ ·) → total.natAbs ≤ s * 36 ^ (top - place).toNat → s + (ys.map fun y => ((getA am y).getD 0).natAbs).sum ≤ S → top - place ≤ D →
    ∃ place' total' x4', DL.forM (bName 4) B_sum_of_2 (ys.map .int) [.sh (.int b), .sh P, .ownD (kA am) (xA am), x3, x4, .sh (.int place), .sh (.int total)] = .nx [.sh (.int b), .sh P, .ownD (kA am) (xA am), x3, x4', .sh (.int place'), .sh (.int total')] ∧
      (total' : Rat) * W b place' = total * W b place + (ys.map fun y => (((getA am y).getD 0 : Int) : Rat) * W b y).sum ∧ (place' = place ∨ place' ∈ ys)
  | [], place, total, s, x3, x4, _, _, _, ht, hs, hd => by
    exact ⟨place, total, x4, rfl, by simp [Rat.add_zero], .inl rfl⟩
  | y :: ys, place, total, s, x3, x4, hy, hp, hw, ht, hs, hd => by
    obtain ⟨h1, h2, h3⟩ := hy y List.mem_cons_self
    rw [List.pairwise_cons] at hw
    have hg := dVal_am y am
    obtain ⟨a, ha⟩ : ∃ a, getA am y = some a := by
      clear hg hs ht hy
      induction am with
      | nil => cases h1
      | cons p r ih =>
        obtain ⟨k, a⟩ := p
        rw [getA]
        split
        · exact ⟨a, rfl⟩
        · rename_i hk
          rcases List.mem_cons.mp h1 with z | z
          · exact absurd z.symm hk
          · exact ih z
    rw [ha] at hg
    obtain ⟨c, hc, hc2⟩ : ∃ c : Nat, place - y = (c : Int) ∧ c ≤ D := ⟨(place - y).toNat, by omega, by omega⟩
    have pw := power_of_eq (b := b) (by omega) hb2 (c := c) (by omega)
    have htS : total.natAbs < 2 ^ 80000 := Nat.lt_of_le_of_lt ht (Nat.lt_of_le_of_lt (Nat.mul_le_mul (show s ≤ S by simp only [List.map_cons, List.sum_cons] at hs; omega) (Nat.pow_le_pow_right (by decide) (by omega))) hS)
    have m1 : gMul (.int total) (.int (b ^ c)) = some (.val (.int (total * b ^ c))) := mul_ok htS (NM.pow_small (by omega) hb2 c) (by decide) (by omega) (by omega)
    simp only [List.map_cons, List.sum_cons, ha, Option.getD_some] at hs ⊢
    have hb3 : (total * b ^ c + a).natAbs ≤ (s + a.natAbs) * 36 ^ (top - y).toNat := by
      have e1 : (top - y).toNat = (top - place).toNat + c := by omega
      have e2 : (total * b ^ c).natAbs ≤ s * 36 ^ (top - y).toNat := by
        rw [Int.natAbs_mul, e1, Nat.pow_add, ← Nat.mul_assoc]
        exact Nat.mul_le_mul ht (pow36 (by omega) hb2 c)
      have e3 : a.natAbs ≤ a.natAbs * 36 ^ (top - y).toNat := Nat.le_mul_of_pos_right _ (Nat.pow_pos (by decide))
      rw [Nat.add_mul]
      omega
    obtain ⟨p', t', x', q1, q2, q3⟩ := sum_loop2 hb hb2 P am hS hD ys y (total * b ^ c + a) (s + a.natAbs) x3 (.sh (.int y)) (fun z hz => ⟨(hy z (List.mem_cons_of_mem _ hz)).1, hw.1 z hz, (hy z (List.mem_cons_of_mem _ hz)).2.2⟩) (by omega) hw.2 hb3 (by omega) h3
    refine ⟨p', t', x', ?_, ?_, .inr (by rcases q3 with q3 | q3; · rw [q3]; exact List.mem_cons_self
                                         · exact List.mem_cons_of_mem _ q3)⟩
    · have fc := forM_cons (bName 4) B_sum_of_2 (.int y) (ys.map .int) [.sh (.int b), .sh P, .ownD (kA am) (xA am), x3, x4, .sh (.int place), .sh (.int total)] [.sh (.int b), .sh P, .ownD (kA am) (xA am), x3, .sh (.int y), .sh (.int place), .sh (.int total)] rfl
      have hb : B_sum_of_2 [.sh (.int b), .sh P, .ownD (kA am) (xA am), x3, .sh (.int y), .sh (.int place), .sh (.int total)] = .nx [.sh (.int b), .sh P, .ownD (kA am) (xA am), x3, .sh (.int y), .sh (.int y), .sh (.int (total * b ^ c + a))] := by
        clear fc q1
        generalize kA am = ks at *
        generalize xA am = xs at *
        unfold B_sum_of_2
        simp [hc, pw, m1, eDGet, keyD, hg]
      rw [hb] at fc
      exact fc.trans q1
    · rw [q2]
      have e1 : W b place = W b c * W b y := by rw [← W_add hb]; congr 1; omega
      rw [e1, W_nat, Rat.intCast_add, Rat.intCast_mul]
      grind
theorem acc_sole : ∀ (ps : List Pt) (am : Am), soleA am → soleA (ps.foldl accA am)
  | [], am, s => s
  | p :: ps, am, s => acc_sole ps _ (by unfold accA; split; exact s; exact putA_sole s)
theorem acc_val {b : Int} : ∀ (ps : List Pt) (am : Am), valA b (ps.foldl accA am) = valA b am + valP b ps
  | [], am => by simp [valP, Rat.add_zero]
  | p :: ps, am => by
    rw [List.foldl_cons, acc_val ps]
    unfold accA
    split
    · rename_i h
      simp [valP, h, Rat.zero_add]
    · rw [putA_val]
      simp only [valP, List.map_cons, List.sum_cons]
      grind
theorem acc_abs : ∀ (ps : List Pt) (am : Am), absA (ps.foldl accA am) ≤ absA am + absP ps
  | [], am => by simp [absP]
  | p :: ps, am => by
    rw [List.foldl_cons]
    have h1 := acc_abs ps (accA am p)
    have h2 : absA (accA am p) ≤ absA am + p.1.natAbs := by
      unfold accA; split
      · omega
      · exact putA_abs _
    simp only [absP, List.map_cons, List.sum_cons] at h1 ⊢
    omega
theorem acc_len : ∀ (ps : List Pt) (am : Am), (ps.foldl accA am).length ≤ am.length + ps.length
  | [], am => by simp
  | p :: ps, am => by
    rw [List.foldl_cons]
    have h1 := acc_len ps (accA am p)
    have h2 : (accA am p).length ≤ am.length + 1 := by
      unfold accA; split
      · omega
      · exact putA_len _
    simp only [List.length_cons]
    omega
theorem acc_keys {x : Int} : ∀ (ps : List Pt) (am : Am), hasA (ps.foldl accA am) x → hasA am x ∨ ∃ p ∈ ps, p.1 ≠ 0 ∧ p.2 = x
  | [], am, h => .inl h
  | p :: ps, am, h => by
    rcases acc_keys ps _ h with h | ⟨q, h1, h2⟩
    · unfold accA at h
      split at h
      · exact .inl h
      · rename_i h0
        rcases putA_keys h with h | h
        · exact .inr ⟨p, List.mem_cons_self, h0, h.symm⟩
        · exact .inl h
    · exact .inr ⟨q, List.mem_cons_of_mem _ h1, h2⟩
theorem sum_perm_rat {α : Type} (f : α → Rat) {xs ys : List α} (h : xs.Perm ys) : (xs.map f).sum = (ys.map f).sum := by
  induction h with
  | nil => rfl
  | cons x _ ih => simp only [List.map_cons, List.sum_cons, ih]
  | swap x y l => simp only [List.map_cons, List.sum_cons]; grind
  | trans _ _ h1 h2 => exact h1.trans h2
theorem sum_perm_nat {α : Type} (f : α → Nat) {xs ys : List α} (h : xs.Perm ys) : (xs.map f).sum = (ys.map f).sum := by
  induction h with
  | nil => rfl
  | cons x _ ih => simp only [List.map_cons, List.sum_cons, ih]
  | swap x y l => simp only [List.map_cons, List.sum_cons]; omega
  | trans _ _ h1 h2 => exact h1.trans h2
theorem get_head {k a : Int} {r : Am} : getA ((k, a) :: r) k = some a := by rw [getA, if_pos rfl]
theorem get_tail {k a e : Int} {r : Am} (s : soleA ((k, a) :: r)) (h : e ∈ r.map (·.1)) : getA ((k, a) :: r) e = getA r e := by
  unfold soleA at s
  simp only [List.map_cons, List.nodup_cons] at s
  rw [getA, if_neg (fun z => s.1 (by rw [z]; exact h))]
theorem vals_get {b : Int} : ∀ {am : Am}, soleA am → ((am.map (·.1)).map fun y => (((getA am y).getD 0 : Int) : Rat) * W b y).sum = valA b am
  | [], _ => rfl
  | (k, a) :: r, s => by
    have ih := vals_get (b := b) (am := r) (by unfold soleA at s ⊢; exact (List.nodup_cons.mp s).2)
    unfold valA at ih ⊢
    simp only [List.map_cons, List.sum_cons, get_head, Option.getD_some]
    rw [← ih]
    congr 2
    exact List.map_congr_left fun y hy => by rw [get_tail s hy]
theorem abs_get : ∀ {am : Am}, soleA am → ((am.map (·.1)).map fun y => ((getA am y).getD 0).natAbs).sum = absA am
  | [], _ => rfl
  | (k, a) :: r, s => by
    have ih := abs_get (am := r) (by unfold soleA at s ⊢; exact (List.nodup_cons.mp s).2)
    unfold absA at ih ⊢
    simp only [List.map_cons, List.sum_cons, get_head, Option.getD_some]
    rw [← ih]
    congr 2
    exact List.map_congr_left fun y hy => by rw [get_tail s hy]
theorem intsK_kA (am : Am) : intsK (kA am) = some (am.map (·.1)) := by
  induction am with
  | nil => rfl
  | cons p r ih =>
    show (intsK (kA r)).map (p.1 :: ·) = _
    rw [ih]; rfl
theorem downI_perm (is : List Int) : (downI is).Perm is := List.mergeSort_perm _ _
theorem downI_sorted (is : List Int) : (downI is).Pairwise (· ≥ ·) := by
  have h1 := List.pairwise_mergeSort (le := fun a b : Int => decide (b ≤ a)) (fun a b c x y => by simp at *; omega) (fun a b => by simp; omega) is
  exact h1.imp fun h => by simpa using h
theorem sum_of_few {b : Int} (hb : 2 ≤ b) (hb2 : b ≤ 36) (ps : List Pt) (hl : ps.length < 64) {S D : Nat} (hS : absP ps ≤ S) (hSD : S * 36 ^ D < 2 ^ 80000) (hD : D < 10000)
    (hf : ∀ n e : Int, valP b ps = n * W b e → (∃ p ∈ ps, p.1 ≠ 0 ∧ p.2 = e) → n ≠ 0 → Few b n) (hd : ∀ p ∈ ps, ∀ q ∈ ps, p.1 ≠ 0 → q.1 ≠ 0 → p.2 - q.2 ≤ D) : M_sum_of [.int b, .lst (ps.map ptD)] = .ok (.sh (numD b (valP b ps))) := by
  have s0 : soleA [] := by simp [soleA]
  obtain ⟨x3, x4, l1⟩ := sum_loop1 (.int b) (.lst (ps.map ptD)) ps [] .un .un s0 (by simp; omega)
  generalize hA : ps.foldl accA [] = am at l1
  have sA : soleA am := by rw [← hA]; exact acc_sole ps [] s0
  have vA : valA b am = valP b ps := by rw [← hA, acc_val]; simp [valA, Rat.zero_add]
  have aA : absA am ≤ absP ps := by rw [← hA]; have := acc_abs ps []; simpa [absA] using this
  have nA : am.length ≤ ps.length := by rw [← hA]; have := acc_len ps []; simpa using this
  have kAm : ∀ x, hasA am x → ∃ p ∈ ps, p.1 ≠ 0 ∧ p.2 = x := fun x h => by
    rw [← hA] at h
    rcases acc_keys ps [] h with h | h
    · cases h
    · exact h
  generalize his : am.map (·.1) = is
  have hik : intsK (kA am) = some is := by rw [intsK_kA, his]
  have hil : is.length < 64 := by rw [← his, List.length_map]; omega
  by_cases h0 : is = []
  · have ham : am = [] := by rw [← his] at h0; simpa using h0
    subst ham
    have z : valP b ps = 0 := by rw [← vA]; rfl
    have f := form_of_val hb hb2 (n := 0) 0 (fun h => absurd rfl h)
    rw [show ((0 : Int) : Rat) = 0 from rfl, Rat.zero_mul] at f
    rw [z]
    unfold M_sum_of
    rw [body_eq]
    have z1 : kA [] = [] := rfl
    have z2 : xA [] = [] := rfl
    rw [z1, z2] at l1
    simp [mSetFD, l1, gMaxD, gSortD, intsK, downI, f, forM_nil]
  · have hm := topI_mem h0
    have hle := topI_le (is := is)
    generalize htop : topI is = top at hm hle
    have hdown := downI_perm is
    have hsort := downI_sorted is
    have hD2 : ∀ y ∈ is, top - y ≤ D := fun y hy => by
      obtain ⟨p, hp, p0, p1⟩ := kAm top (by unfold hasA; rw [his]; exact hm)
      obtain ⟨q, hq, q0, q1⟩ := kAm y (by unfold hasA; rw [his]; exact hy)
      have := hd p hp q hq p0 q0
      omega
    have hab : ((downI is).map fun y => ((getA am y).getD 0).natAbs).sum = absA am := by
      rw [sum_perm_nat _ hdown, ← his]; exact abs_get sA
    have hva : ((downI is).map fun y => (((getA am y).getD 0 : Int) : Rat) * W b y).sum = valA b am := by
      rw [sum_perm_rat _ hdown, ← his]; exact vals_get sA
    obtain ⟨place', total', x4', q1, q2, q3⟩ := sum_loop2 hb hb2 (.lst (ps.map ptD)) am (S := S) (D := D) (top := top) hSD hD (downI is) top 0 0 x3 x4 (fun y hy => by
      have hy2 := hdown.mem_iff.mp hy
      exact ⟨by unfold hasA; rw [his]; exact hy2, hle y hy2, hD2 y hy2⟩) (Int.le_refl _) hsort (by simp) (by rw [hab]; omega) (by omega)
    rw [hva, vA, show ((0 : Int) : Rat) = 0 from rfl, Rat.zero_mul, Rat.zero_add] at q2
    have q3 : ∃ p ∈ ps, p.1 ≠ 0 ∧ p.2 = place' := by
      have : place' ∈ is := by
        rcases q3 with q3 | q3
        · rw [q3]; exact hm
        · exact hdown.mem_iff.mp q3
      exact kAm place' (by unfold hasA; rw [his]; exact this)
    have f := form_of_val hb hb2 (n := total') place' (hf total' place' q2.symm q3)
    rw [q2] at f
    have z1 : kA [] = [] := rfl
    have z2 : xA [] = [] := rfl
    rw [z1, z2] at l1
    unfold M_sum_of
    rw [body_eq]
    generalize kA am = ks at *
    generalize xA am = xs at *
    simp [mSetFD, l1, gMaxD, gSortD, hik, hil, h0, htop, q1, f]
theorem val_low {b : Int} (hb : 2 ≤ b) (lo : Int) : ∀ {ps : List Pt}, (∀ p ∈ ps, p.1 ≠ 0 → lo ≤ p.2) → valP b ps = ((ps.map fun p => p.1 * b ^ (p.2 - lo).toNat).sum : Int) * W b lo
  | [], _ => by simp [valP]
  | p :: ps, h => by
    have ih := val_low hb lo (ps := ps) fun q hq => h q (List.mem_cons_of_mem _ hq)
    unfold valP at ih ⊢
    simp only [List.map_cons, List.sum_cons, ih, Rat.intCast_add, Rat.intCast_mul]
    by_cases h0 : p.1 = 0
    · rw [h0]; simp [Rat.zero_add]
    · have hl := h p List.mem_cons_self h0
      have e1 : W b p.2 = W b (p.2 - lo) * W b lo := by rw [← W_add hb]; congr 1; omega
      rw [e1, W_toNat b (by omega)]
      grind
theorem abs_low {b : Int} (hb : 2 ≤ b) (hb2 : b ≤ 36) (lo : Int) {D : Nat} : ∀ {ps : List Pt}, (∀ p ∈ ps, p.1 ≠ 0 → p.2 - lo ≤ D) → ((ps.map fun p => p.1 * b ^ (p.2 - lo).toNat).sum : Int).natAbs ≤ absP ps * 36 ^ D
  | [], _ => by simp
  | p :: ps, h => by
    have ih := abs_low hb hb2 lo (ps := ps) fun q hq => h q (List.mem_cons_of_mem _ hq)
    unfold absP at ih ⊢
    simp only [List.map_cons, List.sum_cons]
    have h1 : (p.1 * b ^ (p.2 - lo).toNat).natAbs ≤ p.1.natAbs * 36 ^ D := by
      by_cases h0 : p.1 = 0
      · rw [h0]; simp
      · rw [Int.natAbs_mul]
        have hl := h p List.mem_cons_self h0
        exact Nat.mul_le_mul_left _ (Nat.le_trans (pow36 (by omega) hb2 _) (Nat.pow_le_pow_right (by decide) (by omega)))
    rw [Nat.add_mul]
    have h2 := Int.natAbs_add_le (p.1 * b ^ (p.2 - lo).toNat) ((ps.map fun p => p.1 * b ^ (p.2 - lo).toNat).sum)
    omega
theorem sum_of_val {b : Int} (hb : 2 ≤ b) (hb2 : b ≤ 36) (ps : List Pt) (hl : ps.length < 64) {S D : Nat} (hS : absP ps ≤ S) (hSD : S * 36 ^ D < 2 ^ 8900) (hD : D < 10000)
    (hd : ∀ p ∈ ps, ∀ q ∈ ps, p.1 ≠ 0 → q.1 ≠ 0 → p.2 - q.2 ≤ D) : M_sum_of [.int b, .lst (ps.map ptD)] = .ok (.sh (numD b (valP b ps))) := by
  refine sum_of_few hb hb2 ps hl hS (Nat.lt_of_lt_of_le hSD (Nat.pow_le_pow_right (by decide) (by decide))) hD ?_ hd
  intro n e hv he h0
  by_cases hz : ∃ p ∈ ps, p.1 ≠ 0
  · obtain ⟨lo, hlo, hall⟩ : ∃ lo : Int, (∃ q ∈ ps, q.1 ≠ 0 ∧ q.2 = lo) ∧ ∀ p ∈ ps, p.1 ≠ 0 → lo ≤ p.2 := by
      clear hS hSD hd hv hl he
      induction ps with
      | nil => obtain ⟨p, hp, _⟩ := hz; cases hp
      | cons q r ih =>
        by_cases hr : ∃ p ∈ r, p.1 ≠ 0
        · obtain ⟨lo, ⟨w, w1, w2, w3⟩, h2⟩ := ih hr
          by_cases hq : q.1 ≠ 0 ∧ q.2 < lo
          · refine ⟨q.2, ⟨q, List.mem_cons_self, hq.1, rfl⟩, fun p hp p0 => ?_⟩
            rcases List.mem_cons.mp hp with rfl | hp
            · exact Int.le_refl _
            · have := h2 p hp p0; omega
          · refine ⟨lo, ⟨w, List.mem_cons_of_mem _ w1, w2, w3⟩, fun p hp p0 => ?_⟩
            rcases List.mem_cons.mp hp with rfl | hp
            · have : ¬ p.2 < lo := fun z => hq ⟨p0, z⟩
              omega
            · exact h2 p hp p0
        · obtain ⟨p, hp, p0⟩ := hz
          rcases List.mem_cons.mp hp with rfl | hp
          · refine ⟨p.2, ⟨p, List.mem_cons_self, p0, rfl⟩, fun x hx x0 => ?_⟩
            rcases List.mem_cons.mp hx with rfl | hx
            · exact Int.le_refl _
            · exact absurd ⟨x, hx, x0⟩ hr
          · exact absurd ⟨p, hp, p0⟩ hr
    obtain ⟨q, hq, q0, q1⟩ := hlo
    have hv2 := val_low hb lo hall
    have ha := abs_low hb hb2 lo (D := D) (ps := ps) fun p hp p0 => by have := hd p hp q hq p0 q0; omega
    generalize (ps.map fun p => p.1 * b ^ (p.2 - lo).toNat).sum = t at hv2 ha
    obtain ⟨x, hx, x0, x1⟩ := he
    have hle : lo ≤ e := by rw [← x1]; exact hall x hx x0
    have ht := mul_W_eq hb (hv.symm.trans hv2) hle
    refine few_of h0 (Nat.lt_of_le_of_lt ?_ (Nat.lt_of_le_of_lt ha (Nat.lt_of_le_of_lt (Nat.mul_le_mul_right _ hS) hSD)))
    rw [ht, Int.natAbs_mul]
    exact Nat.le_mul_of_pos_right _ (by have := NM.pow_pos hb (e - lo).toNat; omega)
  · obtain ⟨x, hx, x0, _⟩ := he
    exact absurd ⟨x, hx, x0⟩ hz
end PM

/-! sizes of values, sums by value -/
namespace NR
/-- v is an integer below 2 ^ A, times the worth of lo -/
def Sz (b : Int) (v : Rat) (A : Nat) (lo : Int) : Prop := ∃ n : Int, v = n * W b lo ∧ n.natAbs < 2 ^ A
section
variable {b : Int} (hb : 2 ≤ b) {v w : Rat} {A B : Nat} {lo : Int}
theorem Sz.dy (h : Sz b v A lo) : Dy b v := by obtain ⟨n, e, _⟩ := h; exact ⟨n, lo, e⟩
theorem Sz.mono (h : Sz b v A lo) (l : A ≤ B) : Sz b v B lo := by
  obtain ⟨n, e, s⟩ := h
  exact ⟨n, e, Nat.lt_of_lt_of_le s (Nat.pow_le_pow_right (by decide) l)⟩
theorem Sz.add (h : Sz b v A lo) (g : Sz b w A lo) : Sz b (v + w) (A + 1) lo := by
  obtain ⟨n, rfl, s⟩ := h
  obtain ⟨m, rfl, t⟩ := g
  refine ⟨n + m, by rw [Rat.intCast_add]; grind, ?_⟩
  have := Int.natAbs_add_le n m
  rw [Nat.pow_succ]; omega
theorem Sz.neg (h : Sz b v A lo) : Sz b (-v) A lo := by
  obtain ⟨n, rfl, s⟩ := h
  exact ⟨-n, by rw [Rat.intCast_neg]; grind, by rw [Int.natAbs_neg]; exact s⟩
theorem Sz.sub (h : Sz b v A lo) (g : Sz b w A lo) : Sz b (v - w) (A + 1) lo := by
  rw [Rat.sub_eq_add_neg]; exact h.add g.neg
theorem Sz.of {n e : Int} (h : n.natAbs < 2 ^ A) : Sz b (n * W b e) A e := ⟨n, rfl, h⟩
theorem Sz.int {n : Int} (h : n.natAbs < 2 ^ A) : Sz b n A 0 := ⟨n, by rw [W_zero, Rat.mul_one], h⟩
theorem Sz.zero : Sz b 0 A lo := ⟨0, by rw [show ((0 : Int) : Rat) = 0 from rfl, Rat.zero_mul], Nat.pow_pos (by decide)⟩
theorem Sz.muli (h : Sz b v A lo) {k : Int} {a : Nat} (hk : k.natAbs < 2 ^ a) : Sz b (v * k) (A + a) lo := by
  obtain ⟨n, rfl, s⟩ := h
  exact ⟨n * k, by rw [Rat.intCast_mul]; grind, by rw [Int.natAbs_mul, Nat.pow_add]; exact Nat.mul_lt_mul'' s hk⟩
include hb
theorem Sz.mulW (h : Sz b v A lo) (q : Int) : Sz b (v * W b q) A (lo + q) := by
  obtain ⟨n, rfl, s⟩ := h
  exact ⟨n, by rw [W_add hb]; grind, s⟩
theorem Sz.nm (h : Sz b v A lo) : (nm b v).natAbs < 2 ^ A := by
  obtain ⟨n, rfl, s⟩ := h
  exact Nat.lt_of_le_of_lt (nm_le hb) s
theorem nm_ne (h : Dy b v) (h0 : v ≠ 0) : NR.nm b v ≠ 0 := fun z => by
  have := h.eq hb
  rw [z] at this
  apply h0
  rw [← this, show ((0 : Int) : Rat) = 0 from rfl, Rat.zero_mul]
theorem nm_eq0 (h : Dy b v) (h0 : NR.nm b v = 0) : v = 0 := Classical.byContradiction fun z => nm_ne hb h z h0
theorem Sz.ex_lo (h : Sz b v A lo) (h0 : v ≠ 0) : lo ≤ ex b v := by
  obtain ⟨n, rfl, s⟩ := h
  refine ex_ge hb fun z => h0 ?_
  rw [z, show ((0 : Int) : Rat) = 0 from rfl, Rat.zero_mul]
theorem Sz.ex_hi (h : Sz b v A lo) (h0 : v ≠ 0) : ex b v < lo + A := by
  have h1 := h.ex_lo hb h0
  have h2 := h.dy.eq hb
  have h3 := nm_ne hb h.dy h0
  obtain ⟨n, e, s⟩ := h
  have h4 := mul_W_eq hb (h2.trans e) h1
  have h5 : 2 ^ (ex b v - lo).toNat < 2 ^ A := by
    refine Nat.lt_of_le_of_lt ?_ s
    rw [h4, Int.natAbs_mul]
    refine Nat.le_trans ?_ (Nat.le_mul_of_pos_left _ (by omega))
    rw [NM.natAbs_pow]
    exact Nat.pow_le_pow_left (by omega) _
  have := (Nat.pow_lt_pow_iff_right (a := 2) (by decide)).mp h5
  omega
theorem Sz.down (hb2 : b ≤ 36) (h : Sz b v A lo) {l : Int} (hl : l ≤ lo) : Sz b v (A + 6 * (lo - l).toNat) l := by
  obtain ⟨n, rfl, s⟩ := h
  refine ⟨n * b ^ (lo - l).toNat, ?_, ?_⟩
  · rw [show W b lo = W b (lo - l) * W b l by rw [← W_add hb]; congr 1; omega, W_toNat b (by omega), Rat.intCast_mul]
    grind
  · rw [Int.natAbs_mul, Nat.pow_add]
    have h1 : (b ^ (lo - l).toNat).natAbs ≤ 2 ^ (6 * (lo - l).toNat) := Nat.le_trans (PM.pow36 (by omega) hb2 _) (PM.pow36_lt _)
    exact Nat.lt_of_lt_of_le (Nat.mul_lt_mul_of_pos_right s (by have := NM.pow_pos hb (lo - l).toNat; omega)) (Nat.mul_le_mul_left _ h1)
theorem Sz.to (hb2 : b ≤ 36) (h : Sz b v A lo) {l : Int} (hl : l ≤ lo) (hB : A + 6 * (lo - l).toNat ≤ B) : Sz b v B l := (h.down hb hb2 hl).mono hB
theorem pick_inj (h : Dy b v) (g : Dy b w) (h1 : NR.nm b v = NR.nm b w) (h2 : ex b v = ex b w) : v = w := by
  rw [← h.eq hb, ← g.eq hb, h1, h2]
end
end NR
namespace PM
open PySem L2 GL DL NR
section
variable {b : Int} (hb : 2 ≤ b) (hb2 : b ≤ 36)
/-- the data of an effect -/
noncomputable abbrev effD (b : Int) (v : Rat) (q : Int) : D := .tup [numD b v, .int q]
theorem ten300 : (2 : Nat) ^ 996 ≤ 10 ^ 300 := by decide +kernel
theorem few_nat {n : Int} (h : n.natAbs < 2 ^ 996) : few n = true := by
  unfold few
  refine decide_eq_true ?_
  have h1 := ten300
  have h2 : ((10 ^ 300 : Nat) : Int) = (10 : Int) ^ 300 := by simp
  rw [← h2]
  generalize 10 ^ 300 = T at *
  generalize 2 ^ 996 = S at *
  split <;> omega
/-- v is the value of a number -/
def NumV (b : Int) (v : Rat) : Prop := Dy b v ∧ few (nm b v) = true ∧ -1000 ≤ ex b v ∧ ex b v ≤ 1000
include hb
theorem numV_of {v : Rat} {A : Nat} {lo : Int} (h : Sz b v A lo) (hA : A ≤ 996) (hl : -1000 ≤ lo) (hh : lo + A ≤ 1001) : NumV b v := by
  refine ⟨h.dy, few_nat (Nat.lt_of_lt_of_le (h.nm hb) (Nat.pow_le_pow_right (by decide) hA)), ?_⟩
  by_cases h0 : v = 0
  · subst h0
    rw [ex_zero hb]; omega
  · have h1 := h.ex_lo hb h0
    have h2 := h.ex_hi hb h0
    omega
theorem isNum_numD {v : Rat} (h : NumV b v) : isNum b (numD b v) = true := by
  obtain ⟨hd, h1, h2, h3⟩ := h
  show (decide (-1000 ≤ ex b v ∧ ex b v ≤ 1000) && (if nm b v = 0 then decide (ex b v = 0) else decide (nm b v % b ≠ 0) && few (nm b v))) = true
  rw [decide_eq_true ⟨h2, h3⟩, Bool.true_and]
  split
  · rename_i h0
    have := nm_eq0 hb hd h0
    rw [this, ex_zero hb]; rfl
  · rename_i h0
    rw [h1, Bool.and_true]
    refine decide_eq_true ?_
    rcases (hd.is hb).2 with h | ⟨h, _⟩
    · exact h
    · exact absurd h h0
theorem limited_numD {v : Rat} (h : NumV b v) : limited (nm b v) (ex b v) = .ok (.sh (numD b v)) := by
  obtain ⟨hd, h1, h2, h3⟩ := h
  unfold limited
  rw [if_pos h1, if_pos ⟨h2, h3⟩]; rfl
theorem limits_numD {v : Rat} (h : NumV b v) : M_within_limits [numD b v] = .ok (.sh (numD b v)) := (limits_eq _ _).trans (limited_numD hb h)
include hb2
theorem sum_of_box {A R : Nat} {lo : Int} (ps : List Pt) (hl : ps.length < 64) (hp : ∀ p ∈ ps, p.1.natAbs < 2 ^ A ∧ (p.1 ≠ 0 → lo ≤ p.2 ∧ p.2 ≤ lo + R)) (hA : A + 6 + 6 * R < 8900) :
    M_sum_of [.int b, .lst (ps.map ptD)] = .ok (.sh (numD b (valP b ps))) := by
  refine sum_of_val hb hb2 ps hl (S := 2 ^ (A + 6)) (D := R) ?_ ?_ (by omega) ?_
  · have h1 : absP ps ≤ ps.length * 2 ^ A := by
      clear hl
      induction ps with
      | nil => simp [absP]
      | cons p r ih =>
        have h2 := ih fun q hq => hp q (List.mem_cons_of_mem _ hq)
        have h3 := (hp p List.mem_cons_self).1
        unfold absP at h2 ⊢
        simp only [List.map_cons, List.sum_cons, List.length_cons]
        rw [Nat.add_mul]; omega
    refine Nat.le_trans h1 ?_
    rw [Nat.pow_add, Nat.mul_comm]
    exact Nat.mul_le_mul_left _ (by omega)
  · refine Nat.lt_of_le_of_lt (Nat.mul_le_mul_left _ (pow36_lt R)) ?_
    rw [← Nat.pow_add]
    exact Nat.pow_lt_pow_right (by decide) (by omega)
  · intro p h q g p0 q0
    have h1 := (hp p h).2 p0
    have h2 := (hp q g).2 q0
    omega
/-- the parts of values: numerators below 2 ^ A, exponents within R from lo on -/
theorem part_of {v : Rat} {A R : Nat} {lo : Int} (h : Sz b v A lo) (hR : A ≤ R + 1) : (nm b v).natAbs < 2 ^ A ∧ (nm b v ≠ 0 → lo ≤ ex b v ∧ ex b v ≤ lo + R) := by
  refine ⟨h.nm hb, fun h0 => ?_⟩
  have hv : v ≠ 0 := fun z => h0 (by rw [z]; exact nm_zero hb)
  have h1 := h.ex_lo hb hv
  have h2 := h.ex_hi hb hv
  omega
theorem sum2_val {v w : Rat} {A : Nat} {lo : Int} (h : Sz b v A lo) (g : Sz b w A lo) (hA : A ≤ 1200) : M_sum_of [.int b, .lst [numD b v, numD b w]] = .ok (.sh (numD b (v + w))) := by
  have e := sum_of_box hb hb2 (A := A) (R := A) (lo := lo) [(nm b v, ex b v), (nm b w, ex b w)] (by simp) (by
    intro p hp
    rcases List.mem_cons.mp hp with rfl | hp
    · exact part_of hb hb2 h (by omega)
    · rw [List.mem_singleton.mp hp]
      exact part_of hb hb2 g (by omega)) (by omega)
  have : valP b [(nm b v, ex b v), (nm b w, ex b w)] = v + w := by
    unfold valP
    simp only [List.map_cons, List.map_nil, List.sum_cons, List.sum_nil, h.dy.eq hb, g.dy.eq hb, Rat.add_zero]
  rw [this] at e
  exact e
end
/-! ### the numerals as data -/
section
variable (b : Int) (v : Rat)
@[simp] theorem numD_ix0 : gIx (numD b v) (.int 0) = some (.val (.int (nm b v))) := rfl
@[simp] theorem numD_ix1 : gIx (numD b v) (.int 1) = some (.val (.int (ex b v))) := rfl
@[simp] theorem numD_of (fs : List (D → En → Option En)) (Γ : En) : bOfTup fs (numD b v) Γ = bTup fs [.int (nm b v), .int (ex b v)] Γ := rfl
@[simp] theorem numD_noObj : noObj (numD b v) = true := rfl
@[simp] theorem numD_fair : fair (numD b v) = true := rfl
theorem tup_ix0 (x : D) (r : List D) : gIx (.tup (x :: r)) (.int 0) = some (.val x) := by
  rw [gIx_tup, atI_nn (i := 0) (a := x) (by decide) rfl]; rfl
theorem tup_ix1 (x y : D) (r : List D) : gIx (.tup (x :: y :: r)) (.int 1) = some (.val y) := by
  rw [gIx_tup, atI_nn (i := 1) (a := y) (by decide) rfl]; rfl
end
/-! ### == of effects and numbers -/
theorem eqOk_num (b : Int) (v : Rat) : eqOk (numD b v) = true := by
  show eqOk (.tup [.int (nm b v), .int (ex b v)]) = true
  generalize nm b v = n
  generalize ex b v = e
  unfold eqOk
  rw [show DL.plain (.tup [.int n, .int e]) = true from by unfold DL.plain plainAll plainAll plainAll DL.plain; rfl]
  unfold py pyAll pyAll pyAll py
  rfl
end PM

/-! the laws' sums; effects -/
namespace PM
open PySem L2 GL DL NR
theorem bd_pow {b : Int} (hb0 : 0 ≤ b) (hb : b ≤ 36) {c m : Nat} (h : 6 * c + 1 ≤ m) : (b ^ c).natAbs < 2 ^ m := Nat.lt_of_lt_of_le (NM.pow_small hb0 hb c) (Nat.pow_le_pow_right (by decide) h)
theorem power2_eq {b : Int} (hb0 : 0 ≤ b) (hb : b ≤ 36) {c0 : Nat} (h0 : c0 ≤ 4000) : M_law_power_v2 [.int b, .int (c0 : Int)] = .ok (.sh (.int (b ^ c0))) := by
  unfold M_law_power_v2
  rw [body_eq]
  obtain ⟨Γ', m', e1, ⟨i, j, c, rfl, hs, hm⟩, e3⟩ := whileM_inv (t := T_law_power_v2_1) (b := B_law_power_v2_1) (fun m Γ => ∃ i j c : Nat, Γ = [.sh (.int (b ^ j)), .sh (.int (c : Int)), .sh (.int (b ^ i))] ∧ i + j * c = c0 ∧ m = c) (by
    rintro m Γ ⟨i, j, c, rfl, hs, rfl⟩
    by_cases hc : m = 0
    · left; unfold T_law_power_v2_1; simp [hc]
    · right
      have hj : j ≤ c0 := by have : j * 1 ≤ j * m := Nat.mul_le_mul_left _ (by omega); omega
      have hi : i ≤ c0 := by omega
      have m1 : gMul (.int (b ^ i)) (.int (b ^ j)) = some (.val (.int (b ^ (i + j)))) := by
        rw [mul_ok (a := 24001) (b := 24001) (bd_pow hb0 hb (by omega)) (bd_pow hb0 hb (by omega)) (by decide) (by decide) (by decide), Int.pow_add]
      have m2 : gMul (.int (b ^ j)) (.int (b ^ j)) = some (.val (.int (b ^ (j + j)))) := by
        rw [mul_ok (a := 24001) (b := 24001) (bd_pow hb0 hb (by omega)) (bd_pow hb0 hb (by omega)) (by decide) (by decide) (by decide), Int.pow_add]
      have d1 : gDiv (.int (m : Int)) (.int 2) = some (.val (.int ((m / 2 : Nat) : Int))) := by
        rw [div_ok (a := 2) (by decide) (by decide) (by decide) (by decide)]; rfl
      have hc2 : (0 : Int) < m := by omega
      have hd := Nat.div_add_mod m 2
      refine ⟨by unfold T_law_power_v2_1; simp; omega, ?_⟩
      generalize hA : b ^ i = bi at m1 ⊢
      generalize hB : b ^ j = bj at m1 m2 ⊢
      rcases Nat.mod_two_eq_zero_or_one m with h2 | h2
      · have h3 : ¬ ((m : Int) % 2 = 1) := by omega
        refine ⟨[.sh (.int (b ^ (j + j))), .sh (.int ((m / 2 : Nat) : Int)), .sh (.int bi)], m / 2, .inl (by unfold B_law_power_v2_1; simp [h3, m2, d1]), by omega, i, j + j, m / 2, by rw [hA], ?_, rfl⟩
        rw [h2, Nat.add_zero] at hd
        rw [← hs, Nat.add_mul, ← Nat.mul_add, ← Nat.two_mul, hd]
      · have h3 : (m : Int) % 2 = 1 := by omega
        refine ⟨[.sh (.int (b ^ (j + j))), .sh (.int ((m / 2 : Nat) : Int)), .sh (.int (b ^ (i + j)))], m / 2, .inl (by unfold B_law_power_v2_1; simp [h3, m1, m2, d1]), by omega, i + j, j + j, m / 2, rfl, ?_, rfl⟩
        have e : j * m = (j + j) * (m / 2) + j := by
          conv => lhs; rw [← hd, h2]
          rw [Nat.mul_add, Nat.mul_one, ← Nat.two_mul, ← Nat.mul_assoc, Nat.mul_comm j 2]
        omega)
    1000000 c0 [.sh (.int b), .sh (.int (c0 : Int)), .sh (.int 1)] ⟨0, 1, c0, by rw [Int.pow_zero, Int.pow_succ, Int.pow_zero, Int.one_mul], by omega, rfl⟩ (by omega)
  have hc : c = 0 := by
    unfold T_law_power_v2_1 at e3
    simp at e3
    omega
  subst hc
  rw [Nat.mul_zero, Nat.add_zero] at hs
  subst hs
  generalize b ^ i = bi at e1 ⊢
  simp [e1]
theorem reduced_is_form : M_law_reduced = M_law_form := rfl
section
variable {b : Int} (hb : 2 ≤ b) (hb2 : b ≤ 36)
include hb hb2
theorem reduced_val {n : Int} (e : Int) {m : Nat} (hm : n.natAbs < 2 ^ m) (hm2 : m ≤ 900000) : M_law_reduced [.int b, .int n, .int e] = .ok (.sh (numD b (n * W b e))) := by
  rw [reduced_is_form]; exact law_form_val hb hb2 e hm hm2
theorem sum_low {n1 e1 n2 e2 lo : Int} (h1 : lo ≤ e1) (h2 : lo ≤ e2) : ((n1 * b ^ (e1 - lo).toNat + n2 * b ^ (e2 - lo).toNat : Int) : Rat) * W b lo = n1 * W b e1 + n2 * W b e2 := by
  rw [show W b e1 = W b (e1 - lo) * W b lo by rw [← W_add hb]; congr 1; omega, show W b e2 = W b (e2 - lo) * W b lo by rw [← W_add hb]; congr 1; omega, W_toNat b (show 0 ≤ e1 - lo by omega), W_toNat b (show 0 ≤ e2 - lo by omega)]
  rw [Rat.intCast_add, Rat.intCast_mul, Rat.intCast_mul]
  grind
theorem law_sum2_pt {n1 e1 n2 e2 : Int} (h1 : n1.natAbs < 2 ^ 9000) (h2 : n2.natAbs < 2 ^ 9000) (hd : (e1 - e2).natAbs ≤ 4000) :
    M_law_sum_v2 [.int b, .tup [.int n1, .int e1], .tup [.int n2, .int e2]] = .ok (.sh (numD b (n1 * W b e1 + n2 * W b e2))) := by
  unfold M_law_sum_v2
  rw [body_eq]
  generalize hlo : (if e2 < e1 then e2 else e1) = lo
  have l1 : lo ≤ e1 := by rw [← hlo]; split <;> omega
  have l2 : lo ≤ e2 := by rw [← hlo]; split <;> omega
  have l3 : e1 - lo ≤ 4000 ∧ e2 - lo ≤ 4000 := by rw [← hlo]; split <;> omega
  obtain ⟨c1, k1⟩ : ∃ c : Nat, e1 - lo = c := ⟨(e1 - lo).toNat, by omega⟩
  obtain ⟨c2, k2⟩ : ∃ c : Nat, e2 - lo = c := ⟨(e2 - lo).toNat, by omega⟩
  have hv := sum_low hb hb2 (n1 := n1) (n2 := n2) l1 l2
  rw [k1, k2, Int.toNat_natCast, Int.toNat_natCast] at hv
  have p1 := power2_eq (b := b) (by omega) hb2 (c0 := c1) (by omega)
  have p2 := power2_eq (b := b) (by omega) hb2 (c0 := c2) (by omega)
  have s1 : (b ^ c1).natAbs < 2 ^ 24001 := bd_pow (by omega) hb2 (by omega)
  have s2 : (b ^ c2).natAbs < 2 ^ 24001 := bd_pow (by omega) hb2 (by omega)
  have m1 : gMul (.int n1) (.int (b ^ c1)) = some (.val (.int (n1 * b ^ c1))) := mul_ok h1 s1 (by decide) (by decide) (by decide)
  have m2 : gMul (.int n2) (.int (b ^ c2)) = some (.val (.int (n2 * b ^ c2))) := mul_ok h2 s2 (by decide) (by decide) (by decide)
  have bd : (n1 * b ^ c1 + n2 * b ^ c2).natAbs < 2 ^ 66003 := by
    haveI : Bd n1 9000 := ⟨h1⟩
    haveI : Bd n2 9000 := ⟨h2⟩
    haveI : Bd (b ^ c1) 24001 := ⟨s1⟩
    haveI : Bd (b ^ c2) 24001 := ⟨s2⟩
    exact (inferInstance : Bd (n1 * b ^ c1 + n2 * b ^ c2) (9000 + 24001 + (9000 + 24001) + 1)).lt
  have r := reduced_val hb hb2 lo bd (by decide)
  rw [hv] at r
  generalize b ^ c1 = P1 at *
  generalize b ^ c2 = P2 at *
  simp [tup_ix0, tup_ix1, hlo, k1, k2, p1, p2, m1, m2, r]
/-- numerators and exponents of a value within the limits -/
theorem box {v : Rat} {A : Nat} {lo : Int} (h : Sz b v A lo) : (nm b v).natAbs < 2 ^ A ∧ ((lo ≤ ex b v ∧ ex b v ≤ lo + A) ∨ ex b v = 0) := by
  refine ⟨h.nm hb, ?_⟩
  by_cases h0 : v = 0
  · right; rw [h0]; exact ex_zero hb
  · left
    have h1 := h.ex_lo hb h0
    have h2 := h.ex_hi hb h0
    omega
theorem law_sum2_val {v w : Rat} {A : Nat} {lo : Int} (h : Sz b v A lo) (g : Sz b w A lo) (hA : A ≤ 2000) (l1 : -1500 ≤ lo) (l2 : lo ≤ 1500) : M_law_sum_v2 [.int b, numD b v, numD b w] = .ok (.sh (numD b (v + w))) := by
  obtain ⟨a1, a2⟩ := box hb hb2 h
  obtain ⟨b1, b2⟩ := box hb hb2 g
  have lt := Nat.pow_le_pow_right (n := 2) (by decide) (show A ≤ 9000 by omega)
  have e := law_sum2_pt hb hb2 (Nat.lt_of_lt_of_le a1 lt) (Nat.lt_of_lt_of_le b1 lt) (e1 := ex b v) (e2 := ex b w) (by omega)
  rw [h.dy.eq hb, g.dy.eq hb] at e
  exact e
/-- a number times base ** q, in its form again -/
theorem reduced_moved {v : Rat} {A : Nat} {lo : Int} (h : Sz b v A lo) (hA : A ≤ 9000) (q : Int) : M_law_reduced [.int b, .int (nm b v), .int (ex b v + q)] = .ok (.sh (numD b (v * W b q))) := by
  have e := reduced_val hb hb2 (ex b v + q) (h.nm hb) (by omega)
  rw [W_add hb, ← Rat.mul_assoc, h.dy.eq hb] at e
  exact e
theorem law_composed_val {v w : Rat} {q r : Int} {A : Nat} {lo : Int} (h : Sz b v A lo) (g : Sz b (w * W b q) A lo) (hA : A ≤ 2000) (l1 : -1500 ≤ lo) (l2 : lo ≤ 1500) :
    M_law_composed [.int b, effD b v q, effD b w r] = .ok (.sh (effD b (v + w * W b q) (q + r))) := by
  unfold M_law_composed
  rw [body_eq]
  have g' : Sz b w A (lo - q) := by
    have := g.mulW hb (-q)
    rw [Rat.mul_assoc, ← W_add hb, Int.add_right_neg, W_zero, Rat.mul_one] at this
    exact this
  have e1 := reduced_moved hb hb2 g' (by omega) q
  have e2 := law_sum2_val hb hb2 h g hA l1 l2
  simp [tup_ix0, tup_ix1, e1, e2]
theorem law_inverse_val {v : Rat} {q : Int} {A : Nat} {lo : Int} (h : Sz b v A lo) (hA : A ≤ 9000) : M_law_inverse [.int b, effD b v q] = .ok (.sh (effD b (-v * W b (-q)) (-q))) := by
  unfold M_law_inverse
  rw [body_eq]
  have e1 : M_law_reduced [.int b, .int (-nm b v), .int (ex b v - q)] = .ok (.sh (numD b (-v * W b (-q)))) := by
    have e := reduced_val hb hb2 (n := -nm b v) (ex b v - q) (m := A) (by rw [Int.natAbs_neg]; exact h.nm hb) (by omega)
    rw [Int.sub_eq_add_neg, W_add hb, ← Rat.mul_assoc, Rat.intCast_neg, Rat.neg_mul, h.dy.eq hb] at e
    exact e
  simp [tup_ix0, tup_ix1, e1]
/-! ### effects.py -/
theorem isPair_effD {v : Rat} (h : NumV b v) {q : Int} (hq : -1000 ≤ q ∧ q ≤ 1000) : isPair b (effD b v q) = true := by
  show (isNum b (numD b v) && (decide (-1000 ≤ q) && decide (q ≤ 1000))) = true
  rw [isNum_numD hb h, decide_eq_true hq.1, decide_eq_true hq.2]; rfl
theorem fair2_effD (v : Rat) (q : Int) : fair2 (effD b v q) = true := rfl
theorem require_effects_ok {es : List D} (h : ∀ e ∈ es, fair2 e = true ∧ isPair b e = true) (d : D) (hd : asLT d = .ok es) : M_require_effects [.int b, d] = .ok (.sh .non) := by
  unfold M_require_effects
  rw [body_eq]
  obtain ⟨Γ', e1, x2, rfl⟩ := forM_inv (g := bName 2) (b := B_require_effects_1) (fun k Γ => ∃ x2, Γ = [.sh (.int b), .sh d, x2]) es 0 [.sh (.int b), .sh d, .un] ⟨_, rfl⟩ (by
    rintro i x Γ hx ⟨x2, rfl⟩
    obtain ⟨f, p⟩ := h x (List.mem_of_getElem? hx)
    have e := is_effect_eq (show 0 < b by omega) f
    rw [p] at e
    exact ⟨_, [.sh (.int b), .sh d, .sh x], rfl, .inl (by unfold B_require_effects_1; simp [e]), _, rfl⟩)
  simp [hd, e1]
theorem require_offset_ok {q : Int} (hq : -1000 ≤ q ∧ q ≤ 1000) : M_require_offset [.int q] = .ok (.sh .non) := by
  unfold M_require_offset
  rw [body_eq]
  have e := is_place_eq (noObj_int q)
  rw [show within (-1000) 1000 (.int q) = true by show (decide _ && decide _) = true; rw [decide_eq_true hq.1, decide_eq_true hq.2]; rfl] at e
  simp [e]
theorem moved_eq (n e q : Int) : M_moved [.tup [.int n, .int e], .int q] = .ok (.sh (.tup [.int n, .int (e + q)])) := by
  unfold M_moved
  rw [body_eq]
  simp
theorem negative_eq (n e : Int) : M_negative [.tup [.int n, .int e]] = .ok (.sh (.tup [.int (-n), .int e])) := by
  unfold M_negative
  rw [body_eq]
  simp
theorem inverse_val {v : Rat} {q : Int} {A : Nat} {lo : Int} (h : Sz b v A lo) (hA : A ≤ 8000) (hv : NumV b v) (hq : -1000 ≤ q ∧ q ≤ 1000) (hw : NumV b (-v * W b (-q))) : M_inverse [.int b, effD b v q] = .ok (.sh (effD b (-v * W b (-q)) (-q))) := by
  unfold M_inverse
  rw [body_eq]
  have e1 := require_effects_ok hb hb2 (es := [effD b v q]) (by intro e he; rw [List.mem_singleton.mp he]; exact ⟨rfl, isPair_effD hb hb2 hv hq⟩) (.lst [effD b v q]) rfl
  have e2 : M_make_number [.int b, .int (-nm b v), .int (ex b v - q)] = .ok (.sh (numD b (-v * W b (-q)))) := by
    have f : IsForm b (-nm b v) (ex b v - q) (nm b (-v * W b (-q))) (ex b (-v * W b (-q))) := by
      obtain ⟨n', e', k1, k2⟩ := form_of_few hb hb2 (n := -nm b v) (ex b v - q) (fun h0 => few_of h0 (by rw [Int.natAbs_neg]; exact Nat.lt_of_lt_of_le (h.nm hb) (Nat.pow_le_pow_right (by decide) (by omega))))
      have k3 := k1.num hb
      rw [Int.sub_eq_add_neg, W_add hb, ← Rat.mul_assoc, Rat.intCast_neg, Rat.neg_mul, h.dy.eq hb] at k3
      rw [← k3.1, ← k3.2]; exact k1
    rw [make_eq hb hb2 (by rw [Int.natAbs_neg]; exact Nat.lt_of_lt_of_le (h.nm hb) (Nat.pow_le_pow_right (by decide) (by omega))) f]
    exact limited_numD hb hw
  simp [e1, e2]
end
end PM

/-! powers of effects, compositions -/
namespace NR
/-- 1 + W q + W (2 q) + .., k of them -/
def geo (b q : Int) : Nat → Rat
  | 0 => 0
  | k + 1 => geo b q k + W b (q * k)
/-- the value of a power -/
def powV (b : Int) (v : Rat) (q k : Int) : Rat := if 0 ≤ k then v * geo b q k.toNat else -v * W b (-q) * geo b (-q) (-k).toNat
/-- 1 + s + s ^ 2 + .., k of them -/
def geoI (s : Int) : Nat → Int
  | 0 => 0
  | k + 1 => geoI s k * s + 1
theorem geoI_lt {s : Int} (hs : 2 ≤ s) : ∀ k, 0 ≤ geoI s k ∧ geoI s k < s ^ k
  | 0 => by simp [geoI]
  | k + 1 => by
    obtain ⟨h0, h1⟩ := geoI_lt hs k
    have h2 : 0 ≤ geoI s k * s := Int.mul_nonneg h0 (by omega)
    refine ⟨by unfold geoI; omega, ?_⟩
    rw [geoI, Int.pow_succ]
    have h3 : (geoI s k + 1) * s ≤ s ^ k * s := Int.mul_le_mul_of_nonneg_right (by omega) (by omega)
    rw [Int.add_mul] at h3
    omega
section
variable {b : Int} (hb : 2 ≤ b)
include hb
theorem geo_horner (q : Int) : ∀ k, geo b q (k + 1) = geo b q k * W b q + 1
  | 0 => by simp [geo, W_zero, Rat.zero_mul, Rat.zero_add]
  | k + 1 => by
    have e0 : geo b q (k + 1 + 1) = geo b q (k + 1) + W b (q * ((k + 1 : Nat) : Int)) := rfl
    have e1 : geo b q (k + 1) = geo b q k + W b (q * k) := rfl
    have e2 := geo_horner q k
    have : W b (q * ((k + 1 : Nat) : Int)) = W b (q * k) * W b q := by
      rw [← W_add hb]; congr 1
      rw [show ((k + 1 : Nat) : Int) = (k : Int) + 1 by omega, Int.mul_add, Int.mul_one]
    rw [e0, this]; grind
theorem geoI_pos {q : Int} (hq : 0 ≤ q) : ∀ k, ((geoI (b ^ q.toNat) k : Int) : Rat) = geo b q k
  | 0 => rfl
  | k + 1 => by
    rw [geo_horner hb, geoI, Rat.intCast_add, Rat.intCast_mul, geoI_pos hq k, ← W_toNat b hq]; rfl
theorem geoI_neg {q : Int} (hq : q ≤ 0) : ∀ k, ((geoI (b ^ (-q).toNat) (k + 1) : Int) : Rat) * W b (q * k) = geo b q (k + 1)
  | 0 => by simp [geoI, geo, W_zero, Rat.zero_add]
  | k + 1 => by
    have ih := geoI_neg hq k
    rw [geo, ← ih, geoI, Rat.intCast_add, Rat.intCast_mul, ← W_toNat b (show 0 ≤ -q by omega)]
    have e : W b (q * ((k + 1 : Nat) : Int)) * W b (-q) = W b (q * k) := by
      rw [← W_add hb]; congr 1
      rw [show ((k + 1 : Nat) : Int) = (k : Int) + 1 by omega, Int.mul_add, Int.mul_one]; omega
    rw [show ((1 : Int) : Rat) = 1 from rfl]
    rw [← e]; grind
theorem powV_succ (v : Rat) (q k : Int) : powV b v q (k + 1) = powV b v q k + v * W b (q * k) := by
  unfold powV
  by_cases h : 0 ≤ k
  · rw [if_pos h, if_pos (show 0 ≤ k + 1 by omega), show (k + 1).toNat = k.toNat + 1 by omega, geo, Int.toNat_of_nonneg h]; grind
  · rw [if_neg h]
    by_cases h1 : k = -1
    · subst h1
      have e : W b (-q) = W b (q * -1) := by congr 1; omega
      simp [geo, W_zero, e, Rat.mul_zero]; grind
    · rw [if_neg (show ¬ 0 ≤ k + 1 by omega)]
      obtain ⟨j, hj⟩ : ∃ j, (-k).toNat = j + 1 := ⟨(-k).toNat - 1, by omega⟩
      rw [hj, show (-(k + 1)).toNat = j by omega, geo]
      have e : W b (-q) * W b (-q * j) = W b (q * k) := by
        rw [← W_add hb]; congr 1
        have : k = -((j : Int) + 1) := by omega
        rw [this, Int.mul_neg, Int.mul_add, Int.neg_mul]; omega
      rw [← e]; grind
theorem powV_zero (v : Rat) (q : Int) : powV b v q 0 = 0 := by simp [powV, geo, Rat.mul_zero]
theorem powV_add (v : Rat) (q j : Int) : ∀ n : Nat, powV b v q (j + n) = powV b v q j + powV b v q n * W b (q * j)
  | 0 => by simp [powV_zero hb, Rat.zero_mul, Rat.add_zero]
  | n + 1 => by
    have ih := powV_add v q j n
    rw [show j + ((n + 1 : Nat) : Int) = (j + n) + 1 by omega, powV_succ hb, ih, show ((n + 1 : Nat) : Int) = (n : Int) + 1 by omega, powV_succ hb]
    have e : W b (q * (j + n)) = W b (q * n) * W b (q * j) := by rw [← W_add hb]; congr 1; rw [Int.mul_add]; omega
    rw [e]; grind
theorem powV_addI (v : Rat) (q j k : Int) : powV b v q (j + k) = powV b v q j + powV b v q k * W b (q * j) := by
  by_cases h : 0 ≤ k
  · obtain ⟨n, rfl⟩ := Int.eq_ofNat_of_zero_le h
    exact powV_add hb v q j n
  · obtain ⟨n, hn⟩ := Int.eq_ofNat_of_zero_le (show 0 ≤ -k by omega)
    have h1 := powV_add hb v q (j + k) n
    have h2 := powV_add hb v q k n
    rw [show j + k + (n : Int) = j by omega] at h1
    rw [show k + (n : Int) = 0 by omega, powV_zero hb] at h2
    have e : W b (q * (j + k)) = W b (q * k) * W b (q * j) := by rw [← W_add hb]; congr 1; rw [Int.mul_add]; omega
    rw [e] at h1
    grind
theorem powV_mul (v : Rat) (q j : Int) : ∀ n : Nat, powV b (powV b v q j) (q * j) n = powV b v q (j * n)
  | 0 => by simp [powV_zero hb]
  | n + 1 => by
    rw [show ((n + 1 : Nat) : Int) = (n : Int) + 1 by omega, powV_succ hb, powV_mul v q j n, show j * ((n : Int) + 1) = j * n + j by rw [Int.mul_add]; omega, powV_addI hb]
    rw [Int.mul_assoc]
theorem powV_mulI (v : Rat) (q j n : Int) : powV b (powV b v q j) (q * j) n = powV b v q (j * n) := by
  by_cases h : 0 ≤ n
  · obtain ⟨m, rfl⟩ := Int.eq_ofNat_of_zero_le h
    exact powV_mul hb v q j m
  · obtain ⟨m, hm⟩ := Int.eq_ofNat_of_zero_le (show 0 ≤ -n by omega)
    obtain rfl : n = -(m : Int) := by omega
    clear h hm
    induction m with
    | zero => simp [powV_zero hb]
    | succ m ih =>
      have h1 := powV_succ hb (powV b v q j) (q * j) (-((m + 1 : Nat) : Int))
      have h2 := powV_addI hb v q (j * -((m + 1 : Nat) : Int)) j
      have e1 : -((m + 1 : Nat) : Int) + 1 = -(m : Int) := by omega
      have e2 : j * -((m + 1 : Nat) : Int) + j = j * -(m : Int) := by
        rw [show -((m + 1 : Nat) : Int) = -(m : Int) - 1 by omega, Int.mul_sub, Int.mul_one]; omega
      rw [e1] at h1
      rw [e2] at h2
      rw [ih, h2, ← Int.mul_assoc q j] at h1
      grind
theorem powV_one (v : Rat) (q : Int) : powV b v q 1 = v := by
  have := powV_succ hb v q 0
  rw [powV_zero hb] at this
  simp [W_zero, Rat.zero_add] at this
  exact this
theorem powV_neg1 (v : Rat) (q : Int) : powV b v q (-1) = -v * W b (-q) := by
  have := powV_succ hb v q (-1)
  simp [powV_zero hb] at this
  have e : W b (-q) = W b (q * -1) := by congr 1; omega
  rw [e, Int.mul_neg, Int.mul_one]; grind
theorem powV_still (v : Rat) (k : Int) : powV b v 0 k = v * k := by
  have g : ∀ n : Nat, geo b 0 n = (n : Int) := fun n => by
    induction n with
    | zero => rfl
    | succ n ih => rw [geo, ih]; simp [W_zero]
  unfold powV
  split
  · rename_i h
    rw [g, Int.toNat_of_nonneg h]
  · rename_i h
    have : (((-k).toNat : Nat) : Int) = -k := Int.toNat_of_nonneg (by omega)
    rw [show (-0 : Int) = 0 by omega, g, this, W_zero, Rat.intCast_neg]; grind
/-- sizes of powers -/
theorem Sz.geo (hb2 : b ≤ 36) (q : Int) {R : Nat} {lo : Int} : ∀ (k : Nat), (∀ j : Nat, j < k → lo ≤ q * j ∧ q * j ≤ lo + R) → Sz b (geo b q k) (6 * R + 1 + k) lo
  | 0, _ => Sz.zero
  | k + 1, h => by
    have ih := Sz.geo hb2 q k fun j hj => h j (by omega)
    obtain ⟨h1, h2⟩ := h k (by omega)
    have w : Sz b (W b (q * k)) 1 (q * k) := ⟨1, by rw [show ((1 : Int) : Rat) = 1 from rfl, Rat.one_mul], by decide⟩
    exact (ih.add (w.to hb hb2 h1 (by omega))).mono (by omega)
end
theorem Sz.mulv {b : Int} (hb : 2 ≤ b) {v w : Rat} {A B : Nat} {l m : Int} (h : Sz b v A l) (g : Sz b w B m) : Sz b (v * w) (A + B) (l + m) := by
  obtain ⟨n, rfl, s⟩ := h
  obtain ⟨k, rfl, t⟩ := g
  exact ⟨n * k, by rw [W_add hb, Rat.intCast_mul]; grind, by rw [Int.natAbs_mul, Nat.pow_add]; exact Nat.mul_lt_mul'' s t⟩
end NR
namespace PM
open PySem L2 GL DL NR
section
variable {b : Int} (hb : 2 ≤ b) (hb2 : b ≤ 36)
include hb hb2
/-- the sum of powers, and its exponent -/
theorem copies_val {q : Int} {k : Nat} (hq : q.natAbs ≤ 1000) (h0 : q ≠ 0) (hk : k ≤ 2000) (hs : q.natAbs * k ≤ 1100) :
    ∃ f p : Int, M_copies [.int b, .int q, .int (k : Int)] = .ok (.sh (.tup [.int f, .int p])) ∧ (f : Rat) * W b p = geo b q k ∧ f.natAbs < 2 ^ 6601 ∧ p = (if q * ((k : Int) - 1) < 0 then q * ((k : Int) - 1) else 0) := by
  have ha : (if q < 0 then -q else q) = (q.natAbs : Int) := by split <;> omega
  have pw := power_of_eq (b := b) (by omega) hb2 (c := q.natAbs) (by omega)
  have hstep : 2 ≤ b ^ q.natAbs := by
    obtain ⟨j, hj⟩ : ∃ j, q.natAbs = j + 1 := ⟨q.natAbs - 1, by omega⟩
    rw [hj, Int.pow_succ]
    have h1 := NM.pow_pos hb j
    have h2 : 1 * b ≤ b ^ j * b := Int.mul_le_mul_of_nonneg_right (by omega) (by omega)
    omega
  have small : ∀ j, j ≤ k → (geoI (b ^ q.natAbs) j).natAbs < 2 ^ 6601 := fun j hj => by
    obtain ⟨g0, g1⟩ := geoI_lt hstep j
    rw [← Int.pow_mul] at g1
    have h1 := NM.pow_small (b := b) (by omega) hb2 (q.natAbs * j)
    have h2 : q.natAbs * j ≤ q.natAbs * k := Nat.mul_le_mul_left _ hj
    have h3 : 2 ^ (6 * (q.natAbs * j) + 1) ≤ 2 ^ 6601 := Nat.pow_le_pow_right (by decide) (by omega)
    omega
  have sstep : (b ^ q.natAbs).natAbs < 2 ^ 6001 := bd_pow (by omega) hb2 (by omega)
  obtain ⟨Γ', e1, x5, rfl⟩ := forM_inv (g := bName 5) (b := B_copies_1) (fun j Γ => ∃ x5, Γ = [.sh (.int b), .sh (.int q), .sh (.int (k : Int)), .sh (.int (b ^ q.natAbs)), .sh (.int (geoI (b ^ q.natAbs) j)), x5]) (rangeD 0 k) 0
    [.sh (.int b), .sh (.int q), .sh (.int (k : Int)), .sh (.int (b ^ q.natAbs)), .sh (.int 0), .un] ⟨.un, rfl⟩ (by
      rintro i x Γ hx ⟨x5, rfl⟩
      have hi : i < k := by
        have := (List.getElem?_eq_some_iff.mp hx).1
        rwa [rangeD_len] at this
      rw [Nat.zero_add]
      have m1 : gMul (.int (geoI (b ^ q.natAbs) i)) (.int (b ^ q.natAbs)) = some (.val (.int (geoI (b ^ q.natAbs) i * b ^ q.natAbs))) := mul_ok (small i (by omega)) sstep (by decide) (by decide) (by decide)
      refine ⟨_, [.sh (.int b), .sh (.int q), .sh (.int (k : Int)), .sh (.int (b ^ q.natAbs)), .sh (.int (geoI (b ^ q.natAbs) (i + 1))), .sh x], rfl, .inl ?_, _, rfl⟩
      rw [geoI]
      generalize b ^ q.natAbs = S at *
      generalize geoI S i = G at *
      unfold B_copies_1
      simp [m1])
  rw [Nat.zero_add, rangeD_len] at e1
  have hkk : (-1000000 : Int) ≤ k ∧ (k : Int) ≤ 1000000 := by omega
  have m2 : gMul (.int q) (.int ((k : Int) - 1)) = some (.val (.int (q * ((k : Int) - 1)))) := mul_ok (a := 11) (b := 12) (by omega) (by omega) (by decide) (by decide) (by decide)
  refine ⟨geoI (b ^ q.natAbs) k, (if q * ((k : Int) - 1) < 0 then q * ((k : Int) - 1) else 0), ?_, ?_, small k (Nat.le_refl _), rfl⟩
  · unfold M_copies
    rw [body_eq]
    generalize b ^ q.natAbs = S at *
    generalize geoI S k = G at *
    simp [h0, ha, pw, hkk, e1, m2]
  · rcases Int.lt_or_lt_of_ne h0 with hn | hp
    · cases k with
      | zero => simp [geoI, geo, Rat.zero_mul]
      | succ k =>
        have e2 : q * (((k + 1 : Nat) : Int) - 1) = q * k := by congr 1; omega
        rw [e2]
        have h3 : q * (k : Int) ≤ 0 := Int.mul_nonpos_of_nonpos_of_nonneg (by omega) (by omega)
        have h4 : (if q * (k : Int) < 0 then q * (k : Int) else 0) = q * k := by split <;> omega
        rw [h4, ← geoI_neg hb (by omega) k, show q.natAbs = (-q).toNat by omega]
    · have e2 := geoI_pos hb (show 0 ≤ q by omega) k
      rw [show q.toNat = q.natAbs by omega] at e2
      cases k with
      | zero => simp [geoI, geo, Rat.zero_mul]
      | succ k =>
        have h3 : ¬ (q * (((k + 1 : Nat) : Int) - 1) < 0) := by
          have : 0 ≤ q * (((k + 1 : Nat) : Int) - 1) := Int.mul_nonneg (by omega) (by omega)
          omega
        rw [if_neg h3, W_zero, Rat.mul_one]; exact e2
theorem copies_still (k : Int) : M_copies [.int b, .int 0, .int k] = .ok (.sh (.tup [.int k, .int 0])) := by
  unfold M_copies
  rw [body_eq]
  simp
/-- what a power needs: small enough to be computed -/
def PowOk (q k : Int) : Prop := (q ≠ 0 ∧ q.natAbs ≤ 1000 ∧ k.natAbs ≤ 2000 ∧ q.natAbs * k.natAbs ≤ 1000) ∨ (q = 0 ∧ k.natAbs < 2 ^ 1200)
theorem copies_any {q k : Int} (h : PowOk q k) (hk : 0 ≤ k) : ∃ f p : Int, M_copies [.int b, .int q, .int k] = .ok (.sh (.tup [.int f, .int p])) ∧ (f : Rat) * W b p = geo b q k.toNat ∧ f.natAbs < 2 ^ 6601 ∧ p.natAbs ≤ 4000 := by
  rcases h with ⟨h0, h1, h2, h3⟩ | ⟨rfl, h1⟩
  · obtain ⟨n, rfl⟩ := Int.eq_ofNat_of_zero_le hk
    obtain ⟨f, p, e1, e2, e3, e4⟩ := copies_val hb hb2 (k := n) h1 h0 (by omega) (by simp at h3; omega)
    refine ⟨f, p, e1, by simpa using e2, e3, ?_⟩
    rw [e4]
    have h5 : (q * ((n : Int) - 1)).natAbs ≤ 4000 := by
      rw [Int.natAbs_mul]
      have h6 : ((n : Int) - 1).natAbs ≤ n + 1 := by omega
      have h7 := Nat.mul_le_mul_left q.natAbs h6
      rw [Nat.mul_add] at h7
      simp at h3
      omega
    split <;> omega
  · refine ⟨k, 0, copies_still hb hb2 k, ?_, Nat.lt_of_lt_of_le h1 (Nat.pow_le_pow_right (by decide) (by decide)), by decide⟩
    have g : ∀ n : Nat, geo b 0 n = (n : Int) := fun n => by
      induction n with
      | zero => rfl
      | succ n ih => rw [geo, ih]; simp [W_zero]
    rw [g, Int.toNat_of_nonneg hk, W_zero, Rat.mul_one]
theorem power_val {v : Rat} {q k : Int} {A : Nat} {lo : Int} (h : Sz b v A lo) (hA : A ≤ 1000) (hv : NumV b v) (hq : -1000 ≤ q ∧ q ≤ 1000) (hk : PowOk q k) (hqk : -1000 ≤ q * k ∧ q * k ≤ 1000) (hw : NumV b (powV b v q k)) :
    M_power [.int b, effD b v q, .int k] = .ok (.sh (effD b (powV b v q k) (q * k))) := by
  have e1 := require_effects_ok hb hb2 (es := [effD b v q]) (by intro e he; rw [List.mem_singleton.mp he]; exact ⟨rfl, isPair_effD hb hb2 hv hq⟩) (.lst [effD b v q]) rfl
  have e2 := is_whole_eq (noObj_int k)
  have e3 := require_offset_ok hb hb2 hqk
  have kb : k.natAbs < 2 ^ 1200 := by
    rcases hk with ⟨_, _, h2, _⟩ | ⟨_, h2⟩
    · exact Nat.lt_of_lt_of_le (show k.natAbs < 2 ^ 11 by omega) (Nat.pow_le_pow_right (by decide) (by decide))
    · exact h2
  have m1 : gMul (.int q) (.int k) = some (.val (.int (q * k))) := mul_ok (a := 11) (b := 1200) (by omega) kb (by decide) (by decide) (by decide)
  have fin : ∀ {n f e p : Int}, n.natAbs < 2 ^ 1000 → f.natAbs < 2 ^ 6601 → (n : Rat) * W b e * ((f : Rat) * W b p) = powV b v q k →
      gMul (.int n) (.int f) = some (.val (.int (n * f))) ∧ M_form_of [.int b, .int (n * f), .int (e + p)] = .ok (.sh (numD b (powV b v q k))) := by
    intro n f e p hn hf hval
    have hm : (n * f).natAbs < 2 ^ 8900 := by
      rw [Int.natAbs_mul]
      refine Nat.lt_of_lt_of_le (Nat.mul_lt_mul'' hn hf) ?_
      rw [← Nat.pow_add]
      exact Nat.pow_le_pow_right (by decide) (by decide)
    refine ⟨mul_ok hn hf (by decide) (by decide) (by decide), ?_⟩
    have r := form_of_val hb hb2 (n := n * f) (e + p) (fun h0 => few_of h0 hm)
    have : ((n * f : Int) : Rat) * W b (e + p) = powV b v q k := by
      rw [← hval, W_add hb, Rat.intCast_mul]; grind
    rw [this] at r
    exact r
  have hn : (nm b v).natAbs < 2 ^ 1000 := Nat.lt_of_lt_of_le (h.nm hb) (Nat.pow_le_pow_right (by decide) hA)
  have lim := limits_numD hb hw
  unfold M_power
  rw [body_eq]
  by_cases hneg : k < 0
  · have hk' : PowOk (-q) (-k) := by
      rcases hk with ⟨h0, h1, h2, h3⟩ | ⟨h0, h1⟩
      · exact .inl ⟨by omega, by omega, by omega, by rw [Int.natAbs_neg, Int.natAbs_neg]; exact h3⟩
      · exact .inr ⟨by omega, by rw [Int.natAbs_neg]; exact h1⟩
    obtain ⟨f, p, c1, c2, c3, c4⟩ := copies_any hb hb2 hk' (by omega)
    have hval : ((-nm b v : Int) : Rat) * W b (ex b v + -q) * ((f : Rat) * W b p) = powV b v q k := by
      rw [c2, powV, if_neg (by omega), W_add hb, Rat.intCast_neg, ← Rat.mul_assoc, Rat.neg_mul, h.dy.eq hb]
    obtain ⟨f1, f2⟩ := fin (n := -nm b v) (e := ex b v + -q) (by rw [Int.natAbs_neg]; exact hn) c3 hval
    have ng : M_negative [numD b v] = .ok (.sh (.tup [.int (-nm b v), .int (ex b v)])) := negative_eq hb hb2 _ _
    have mv := moved_eq hb hb2 (-nm b v) (ex b v) (-q)
    simp [e1, e2, isWhole, m1, e3, hneg, c1, ng, mv, f1, f2, lim]
  · obtain ⟨f, p, c1, c2, c3, c4⟩ := copies_any hb hb2 hk (by omega)
    have hval : ((nm b v : Int) : Rat) * W b (ex b v) * ((f : Rat) * W b p) = powV b v q k := by
      rw [c2, powV, if_pos (by omega), h.dy.eq hb]
    obtain ⟨f1, f2⟩ := fin (n := nm b v) (e := ex b v) hn c3 hval
    simp [e1, e2, isWhole, m1, e3, hneg, c1, f1, f2, lim]
end
end PM

namespace PM
open PySem L2 GL DL NR
abbrev Ef := Rat × Int
noncomputable def efD (b : Int) (e : Ef) : D := effD b e.1 e.2
/-- the value of a composition that begins at the offset o -/
noncomputable def compV (b : Int) : List Ef → Int → Rat
  | [], _ => 0
  | (v, q) :: r, o => v * W b o + compV b r (o + q)
def compO : List Ef → Int → Int
  | [], o => o
  | (_, q) :: r, o => compO r (o + q)
noncomputable def compP (b : Int) : List Ef → Int → List Pt
  | [], _ => []
  | (v, q) :: r, o => (nm b v, ex b v + o) :: compP b r (o + q)
def CompOk (b : Int) (A : Nat) (lo : Int) : List Ef → Int → Prop
  | [], _ => True
  | (v, q) :: r, o => Sz b (v * W b o) A lo ∧ CompOk b A lo r (o + q)
section
variable {b : Int} (hb : 2 ≤ b) (hb2 : b ≤ 36)
include hb hb2
theorem unW {v : Rat} {A : Nat} {lo q : Int} (g : Sz b (v * W b q) A lo) : Sz b v A (lo - q) := by
  have := g.mulW hb (-q)
  rw [Rat.mul_assoc, ← W_add hb, Int.add_right_neg, W_zero, Rat.mul_one] at this
  exact this
theorem composed_loop (E : D) : ∀ (es : List Ef) (o : Int) (acc : List D) (x4 x5 : DL.Slot), acc.length + es.length < 1000000 →
    ∃ y4 y5, DL.forM (bOfTup [(bName 4), (bName 5)]) B_composed_1 (es.map (efD b)) [.sh (.int b), .sh E, .own acc, .sh (.int o), x4, x5] = .nx [.sh (.int b), .sh E, .own (acc ++ (compP b es o).map ptD), .sh (.int (compO es o)), y4, y5]
  | [], o, acc, x4, x5, _ => ⟨x4, x5, by simp [forM_nil, compP, compO]⟩
  | (v, q) :: r, o, acc, x4, x5, hl => by
    simp only [List.length_cons] at hl
    obtain ⟨y4, y5, ih⟩ := composed_loop E r (o + q) (acc ++ [ptD (nm b v, ex b v + o)]) (.sh (numD b v)) (.sh (.int q)) (by simp; omega)
    refine ⟨y4, y5, ?_⟩
    have fc := forM_cons (bOfTup [(bName 4), (bName 5)]) B_composed_1 (efD b (v, q)) (r.map (efD b)) [.sh (.int b), .sh E, .own acc, .sh (.int o), x4, x5] [.sh (.int b), .sh E, .own acc, .sh (.int o), .sh (numD b v), .sh (.int q)] rfl
    have mv : M_moved [numD b v, .int o] = .ok (.sh (ptD (nm b v, ex b v + o))) := moved_eq hb hb2 _ _ _
    have hl2 : acc.length < 1000000 := by omega
    have hb3 : B_composed_1 [.sh (.int b), .sh E, .own acc, .sh (.int o), .sh (numD b v), .sh (.int q)] = .nx [.sh (.int b), .sh E, .own (acc ++ [ptD (nm b v, ex b v + o)]), .sh (.int (o + q)), .sh (numD b v), .sh (.int q)] := by
      unfold B_composed_1
      simp [mv, hl2]
    rw [hb3] at fc
    rw [List.map_cons, fc, turn_nx, ih]
    simp [compP, compO]
theorem compP_val : ∀ (es : List Ef) (o : Int) {A : Nat} {lo : Int}, CompOk b A lo es o → valP b (compP b es o) = compV b es o
  | [], _, _, _, _ => rfl
  | (v, q) :: r, o, A, lo, h => by
    have ih := compP_val r (o + q) h.2
    have hd := (unW hb hb2 h.1).dy.eq hb
    unfold valP at ih ⊢
    simp only [compP, compV, List.map_cons, List.sum_cons, ih]
    rw [W_add hb, ← Rat.mul_assoc, hd]
theorem compP_box : ∀ (es : List Ef) (o : Int) {A : Nat} {lo : Int}, CompOk b A lo es o → ∀ p ∈ compP b es o, p.1.natAbs < 2 ^ A ∧ (p.1 ≠ 0 → lo ≤ p.2 ∧ p.2 ≤ lo + A)
  | [], _, _, _, _, p, hp => by cases hp
  | (v, q) :: r, o, A, lo, h, p, hp => by
    rcases List.mem_cons.mp hp with rfl | hp
    · have hs := unW hb hb2 h.1
      have := part_of hb hb2 hs (R := A) (by omega)
      refine ⟨this.1, fun h0 => ?_⟩
      have := this.2 h0
      dsimp only
      omega
    · exact compP_box r (o + q) h.2 p hp
theorem compP_len : ∀ (es : List Ef) (o : Int), (compP b es o).length = es.length
  | [], _ => rfl
  | (v, q) :: r, o => congrArg Nat.succ (compP_len r (o + q))
theorem composed_val (es : List Ef) {A : Nat} {lo : Int} (hl : es.length ≤ 60) (h : CompOk b A lo es 0) (hA : A ≤ 1270) (hv : ∀ e ∈ es, NumV b e.1 ∧ -1000 ≤ e.2 ∧ e.2 ≤ 1000) (ho : -1000 ≤ compO es 0 ∧ compO es 0 ≤ 1000) (hw : NumV b (compV b es 0)) :
    starM 1 M_composed (.int b :: es.map (efD b)) = .ok (.sh (effD b (compV b es 0) (compO es 0))) := by
  have e0 : starM 1 M_composed (.int b :: es.map (efD b)) = M_composed [.int b, .tup (es.map (efD b))] := by
    unfold starM
    rw [if_pos ⟨by simp, by simp; omega⟩]; rfl
  rw [e0]
  have e1 := require_effects_ok hb hb2 (es := es.map (efD b)) (by
    intro e he
    obtain ⟨x, hx, rfl⟩ := List.mem_map.mp he
    exact ⟨rfl, isPair_effD hb hb2 (hv x hx).1 (hv x hx).2⟩) (.tup (es.map (efD b))) rfl
  obtain ⟨y4, y5, l⟩ := composed_loop hb hb2 (.tup (es.map (efD b))) es 0 [] .un .un (by simp; omega)
  have e3 := require_offset_ok hb hb2 ho
  have e4 := sum_of_box hb hb2 (A := A) (R := A) (lo := lo) (compP b es 0) (by rw [compP_len hb hb2]; omega) (compP_box hb hb2 es 0 h) (by omega)
  rw [compP_val hb hb2 es 0 h] at e4
  have e5 := limits_numD hb hw
  generalize es.map (efD b) = xs at e1 l ⊢
  generalize (compP b es 0).map ptD = ps at l e4
  simp at l
  unfold M_composed
  rw [body_eq]
  simp [e1, l, e3, frz, e4, e5]
end
/-! ### the end of a law: False is not given -/
theorem eqv_refl_int (n : Int) : PyData.eqv (.int n) (.int n) = true := by simp [PyData.eqv]
section
variable {b : Int} (hb : 2 ≤ b)
theorem eqOk_eff (v : Rat) (q : Int) : eqOk (effD b v q) = true := by
  show eqOk (.tup [.tup [.int (nm b v), .int (ex b v)], .int q]) = true
  generalize nm b v = n
  generalize ex b v = e
  have e1 : DL.plain (.tup [.tup [.int n, .int e], .int q]) = true := by simp [DL.plain, plainAll]
  have e2 : py (.tup [.tup [.int n, .int e], .int q]) = .tuple [.tuple [.int n, .int e], .int q] := by simp [py, pyAll]
  unfold eqOk
  rw [e1, e2]
  rfl
include hb
theorem eqv_num {v w : Rat} (h : Dy b v) (g : Dy b w) : PyData.eqv (py (numD b v)) (py (numD b w)) = decide (v = w) := by
  have e : ∀ v, py (numD b v) = .tuple [.int (nm b v), .int (ex b v)] := fun v => by
    show py (.tup [.int (nm b v), .int (ex b v)]) = _
    simp [py, pyAll]
  rw [e, e]
  have : PyData.eqv (.tuple [.int (nm b v), .int (ex b v)]) (.tuple [.int (nm b w), .int (ex b w)]) = (decide (nm b v = nm b w) && decide (ex b v = ex b w)) := by
    simp [PyData.eqv, PyData.eqvAll]
    rfl
  rw [this, Bool.eq_iff_iff, Bool.and_eq_true, decide_eq_true_iff, decide_eq_true_iff, decide_eq_true_iff]
  exact ⟨fun z => pick_inj hb h g z.1 z.2, fun z => by rw [z]; exact ⟨rfl, rfl⟩⟩
theorem eqv_eff {v w : Rat} (h : Dy b v) (g : Dy b w) (q r : Int) : PyData.eqv (py (effD b v q)) (py (effD b w r)) = (decide (v = w) && decide (q = r)) := by
  have e : ∀ v q, py (effD b v q) = .tuple [.tuple [.int (nm b v), .int (ex b v)], .int q] := fun v q => by
    show py (.tup [.tup [.int (nm b v), .int (ex b v)], .int q]) = _
    simp [py, pyAll]
  rw [e, e]
  have : PyData.eqv (.tuple [.tuple [.int (nm b v), .int (ex b v)], .int q]) (.tuple [.tuple [.int (nm b w), .int (ex b w)], .int r]) = ((decide (nm b v = nm b w) && decide (ex b v = ex b w)) && decide (q = r)) := by
    simp [PyData.eqv, PyData.eqvAll]
    rfl
  rw [this, Bool.eq_iff_iff]
  simp only [Bool.and_eq_true, decide_eq_true_iff]
  constructor
  · rintro ⟨⟨h1, h2⟩, h3⟩
    exact ⟨pick_inj hb h g h1 h2, h3⟩
  · rintro ⟨h1, h3⟩
    rw [h1]; exact ⟨⟨rfl, rfl⟩, h3⟩
theorem gNe_eff {v w : Rat} (h : Dy b v) (g : Dy b w) (q r : Int) : gNe (effD b v q) (effD b w r) = some (.val (.bl (!(decide (v = w) && decide (q = r))))) := by
  rw [← eqv_eff hb h g]
  show giv (eqOk (effD b v q) = true ∧ eqOk (effD b w r) = true) (.bl (!PyData.eqv (py (effD b v q)) (py (effD b w r)))) = _
  exact giv_pos ⟨eqOk_eff v q, eqOk_eff w r⟩
theorem gEq_eff {v w : Rat} (h : Dy b v) (g : Dy b w) (q r : Int) : gEq (effD b v q) (effD b w r) = some (.val (.bl (decide (v = w) && decide (q = r)))) := by
  rw [← eqv_eff hb h g]
  show giv (eqOk (effD b v q) = true ∧ eqOk (effD b w r) = true) (.bl (PyData.eqv (py (effD b v q)) (py (effD b w r)))) = _
  exact giv_pos ⟨eqOk_eff v q, eqOk_eff w r⟩
theorem gNe_num {v w : Rat} (h : Dy b v) (g : Dy b w) : gNe (numD b v) (numD b w) = some (.val (.bl (!decide (v = w)))) := by
  rw [← eqv_num hb h g]
  show giv (eqOk (numD b v) = true ∧ eqOk (numD b w) = true) (.bl (!PyData.eqv (py (numD b v)) (py (numD b w)))) = _
  exact giv_pos ⟨eqOk_num b v, eqOk_num b w⟩
theorem gEq_num {v w : Rat} (h : Dy b v) (g : Dy b w) : gEq (numD b v) (numD b w) = some (.val (.bl (decide (v = w)))) := by
  rw [← eqv_num hb h g]
  show giv (eqOk (numD b v) = true ∧ eqOk (numD b w) = true) (.bl (PyData.eqv (py (numD b v)) (py (numD b w)))) = _
  exact giv_pos ⟨eqOk_num b v, eqOk_num b w⟩
end
end PM

/-! d == d, d != d -/
namespace PM
open PySem L2 GL DL NR
theorem gNe_same {d : D} (h : eqOk d = true) : gNe d d = some (.val (.bl false)) := by
  have r : PyData.eqv (py d) (py d) = true := SeqAt.eqv_refl _ (SeqAt.canLay_of_shaped (eqOk_of h).2)
  have g : gNeD d d = some (.val (.bl false)) := by
    unfold gNeD
    rw [giv_pos ⟨h, h⟩, r]; rfl
  cases d with
  | str x => simp [gNe]
  | lst xs => cases xs with
    | nil => rfl
    | cons x r => exact g
  | _ => exact g
theorem gEq_same {d : D} (h : eqOk d = true) : gEq d d = some (.val (.bl true)) := by
  have r : PyData.eqv (py d) (py d) = true := SeqAt.eqv_refl _ (SeqAt.canLay_of_shaped (eqOk_of h).2)
  have g : gEqD d d = some (.val (.bl true)) := by
    unfold gEqD
    rw [giv_pos ⟨h, h⟩, r]
  cases d with
  | str x => simp [gEq]
  | lst xs => cases xs with
    | nil => rfl
    | cons x r => exact g
  | _ => exact g
theorem eqOk_ints (is : List Int) : eqOk (.lst (is.map .int)) = true := eqOk_lst fun x hx => by
  obtain ⟨i, _, rfl⟩ := List.mem_map.mp hx
  exact Smp.int i
theorem inD_ints (x : Int) (is : List Int) : inD (.int x) (is.map .int) = decide (x ∈ is) := by
  unfold inD inV
  rw [Bool.eq_iff_iff, List.any_eq_true, decide_eq_true_iff]
  constructor
  · rintro ⟨y, hy, h⟩
    rw [List.map_map, List.mem_map] at hy
    obtain ⟨z, hz, rfl⟩ := hy
    have : (z == x) = true := h
    rw [beq_iff_eq] at this
    rw [← this]; exact hz
  · intro h
    exact ⟨.int x, by rw [List.map_map]; exact List.mem_map.mpr ⟨x, h, rfl⟩, by show (x == x) = true; simp⟩
end PM

/-! what the laws share: the loop over the cells, digits -/
namespace PM
open PySem L2 GL DL NR
theorem seq_step {a b : En → Out} {Γ Γ' : En} {o : Out} (h : a Γ = .nx Γ') (g : b Γ' = o) : mSeq a b Γ = o := by rw [seq_eq, h, then_nx, g]
theorem law_loop {M : List D → Res DL.Slot} {B : En → Out} {N : Nat} {m : Nat} (hN : N ≤ 63)
    (hM : M = mBody (m + 3) (mSeq (mFor (iEnumr (eOp gAdd (eSl (eVar 0) pN (pS (eC (.int (N : Int))))) (eOp gMul (eAll (fLst (eCons (eC (.int 7)) eNil))) (eUn gInt (eOp gEq (eVar 0) (eAll (fLst eNil))))))) (bOfTup [(bName 1), (bName 2)]) B) (mRet (eC (.bl true)))))
    (turn : ∀ (ns : List Int) (k : Nat) (c : Int) (r : En), k < 1000 → r.length = m → ∃ r', r'.length = m ∧ B (.sh (.scr ns) :: .sh (.int (k : Int)) :: .sh (.int c) :: r) = .nx (.sh (.scr ns) :: .sh (.int (k : Int)) :: .sh (.int c) :: r')) : LawTrue M := by
  intro ns hn
  rw [hM, body_eq]
  obtain ⟨cs, hc, xs, e1, k, e2, ys, e3, e4⟩ := cells_eq ns hn N
  have e5 := scr_nil ns
  obtain ⟨Γ', e6, x1, x2, r, rfl, hr⟩ := forM_inv (g := bOfTup [bName 1, bName 2]) (b := B) (fun _ Γ => ∃ x1 x2 r, Γ = .sh (.scr ns) :: x1 :: x2 :: r ∧ r.length = m)
    (enumD 0 (cs.map .int)) 0 (.sh (.scr ns) :: .un :: .un :: List.replicate m .un) ⟨_, _, _, rfl, by simp⟩ (by
      rintro i x Γ hx ⟨x1, x2, r, rfl, hr⟩
      have hi : i < cs.length := by
        have := (List.getElem?_eq_some_iff.mp hx).1
        rwa [enumD_len, List.length_map] at this
      rw [enumD_get (d := D.int cs[i]) (by rw [List.getElem?_map, List.getElem?_eq_getElem hi]; rfl)] at hx
      cases hx
      rw [Nat.zero_add]
      obtain ⟨r', hr', h⟩ := turn ns i cs[i] r (by omega) hr
      exact ⟨_, _, rfl, .inl h, _, _, _, rfl, hr'⟩)
  simp [e1, e5, e2, e3, e4, e6, List.replicate_succ]
/-- the digit at k -/
def dg (ds : List Int) (k : Nat) : Int := ds.getD k 0
theorem Digs.at_ {z : Int} {n : Nat} {ds : List Int} (h : Digs z n ds) {k : Nat} (hk : k < n) : gIx (.lst (ds.map .int)) (.int (k : Int)) = some (.val (.int (dg ds k))) ∧ 0 ≤ dg ds k ∧ dg ds k < z := by
  have hl : k < ds.length := by rw [h.1]; exact hk
  have e : ds[k]? = some ds[k] := List.getElem?_eq_getElem hl
  have e2 : dg ds k = ds[k] := by unfold dg; rw [List.getD_eq_getElem?_getD, e]; rfl
  refine ⟨?_, ?_⟩
  · rw [gIx_lst, atI_nat (j := k) (v := D.int (dg ds k)) (by rw [List.getElem?_map, e, e2]; rfl)]
    rfl
  · rw [e2]; exact h.2 _ (List.getElem_mem hl)
theorem Digs.from_ {z : Int} {n : Nat} {ds : List Int} (h : Digs z n ds) {k : Nat} (hk : k ≤ n) : gSl (some (k : Int)) none (.lst (ds.map .int)) = some (.newL ((ds.drop k).map .int)) := by
  have e := sl_from (ds.map .int) k (by rw [List.length_map, h.1]; exact hk)
  rw [List.map_drop]
  exact e
/-- an item by a digit -/
theorem pick_all {xs : List D} {P : D → Prop} (h : ∀ x ∈ xs, P x) {n : Nat} (hn : xs.length = n) (h0 : 0 < n) (d : Int) : ∃ x, gIx (.lst xs) (.int (d % (n : Int))) = some (.val x) ∧ P x := by
  have h1 := Int.emod_nonneg d (show (n : Int) ≠ 0 by omega)
  have h2 := Int.emod_lt_of_pos d (show (0 : Int) < n by omega)
  have hl : (d % (n : Int)).toNat < xs.length := by omega
  exact ⟨xs[(d % (n : Int)).toNat], by rw [gIx_lst, atI_nn h1 (List.getElem?_eq_getElem hl)]; rfl, h _ (List.getElem_mem hl)⟩
theorem pick_int {xs : List Int} {P : Int → Prop} (h : ∀ x ∈ xs, P x) {n : Nat} (hn : xs.length = n) (h0 : 0 < n) (d : Int) : ∃ x, gIx (.lst (xs.map .int)) (.int (d % (n : Int))) = some (.val (.int x)) ∧ P x := by
  obtain ⟨y, h1, x, rfl, h2⟩ := pick_all (xs := xs.map .int) (P := fun y => ∃ x, y = .int x ∧ P x) (fun y hy => by
    obtain ⟨x, hx, rfl⟩ := List.mem_map.mp hy
    exact ⟨x, rfl, h x hx⟩) (by rw [List.length_map]; exact hn) h0 d
  exact ⟨x, h1, h2⟩
section
variable {b : Int} (hb : 2 ≤ b) (hb2 : b ≤ 36)
include hb hb2
theorem offset_effect_val {ds : List Int} {n : Nat} (hd : Digs 420 n ds) (hn : 35 ≤ n) :
    ∃ v q, M_law_offset_effect [.int b, .lst (ds.map .int)] = .ok (.sh (effD b v q)) ∧ Sz b v 330 (-4) ∧ q.natAbs ≤ 4 := by
  obtain ⟨g0, p0, q0⟩ := hd.at_ (k := 0) (by omega)
  obtain ⟨g1, p1, q1⟩ := hd.at_ (k := 1) (by omega)
  have sl := hd.from_ (k := 2) (by omega)
  have g0 : gIx (.lst (ds.map .int)) (.int 0) = some (.val (.int (dg ds 0))) := g0
  have g1 : gIx (.lst (ds.map .int)) (.int 1) = some (.val (.int (dg ds 1))) := g1
  have sl : gSl (some 2) none (.lst (ds.map .int)) = some (.newL ((ds.drop 2).map .int)) := sl
  obtain ⟨i, e1, e2⟩ := integer_eq (hd.drop 2) (by omega)
  generalize (ds.drop 2).map D.int = zs at sl e1
  generalize ds.map D.int = dl at g0 g1 sl ⊢
  have h9 := Int.emod_nonneg (dg ds 0) (show (9 : Int) ≠ 0 by decide)
  have h9' := Int.emod_lt_of_pos (dg ds 0) (show (0 : Int) < 9 by decide)
  have k9 := Int.emod_nonneg (dg ds 1) (show (9 : Int) ≠ 0 by decide)
  have k9' := Int.emod_lt_of_pos (dg ds 1) (show (0 : Int) < 9 by decide)
  have r := reduced_val hb hb2 (dg ds 0 % 9 - 4) e2 (by decide)
  have hs : Sz b ((i : Rat) * W b (dg ds 0 % 9 - 4)) 330 (-4) := (Sz.of e2).to hb hb2 (by omega) (by omega)
  refine ⟨_, dg ds 1 % 9 - 4, ?_, hs, by omega⟩
  generalize hE : dg ds 0 % 9 - 4 = E at *
  unfold M_law_offset_effect
  rw [body_eq]
  simp [g0, g1, sl, e1, hE, r]
theorem numD_small {n : Int} (h0 : 0 < n) (h1 : n < b) : D.tup [.int n, .int 0] = numD b (n : Rat) := by
  have h : Is b (n : Rat) n 0 := ⟨by rw [W_zero, Rat.mul_one], .inl (by rw [Int.emod_eq_of_lt (by omega) h1]; omega)⟩
  obtain ⟨e1, e2⟩ := h.eq hb
  show D.tup [.int n, .int 0] = .tup [.int (nm b n), .int (ex b n)]
  rw [← e1, ← e2]
theorem numD_zero : D.tup [.int 0, .int 0] = numD b 0 := by
  show D.tup [.int 0, .int 0] = .tup [.int (nm b 0), .int (ex b 0)]
  rw [nm_zero hb, ex_zero hb]
end
end PM

/-! sizes of powers -/
namespace PM
open PySem L2 GL DL NR
theorem mul_le {q k : Int} {a c : Nat} (h : q.natAbs ≤ a) (g : k.natAbs ≤ c) : (q * k).natAbs ≤ a * c := by
  rw [Int.natAbs_mul]; exact Nat.mul_le_mul h g
section
variable {b : Int} (hb : 2 ≤ b) (hb2 : b ≤ 36)
include hb hb2
theorem geo_sz {q : Int} {n L : Nat} (h : q.natAbs * n ≤ L) : ∃ lo, Sz b (geo b q n) (6 * L + 1 + n) lo ∧ -(L : Int) ≤ lo ∧ lo ≤ 0 := by
  have key : ∀ j : Nat, j < n → (q * (j : Int)).natAbs ≤ L := fun j hj => by
    have h1 : q.natAbs * j ≤ q.natAbs * n := Nat.mul_le_mul_left _ (by omega)
    rw [Int.natAbs_mul, Int.natAbs_natCast]; omega
  by_cases c : 0 ≤ q
  · refine ⟨0, Sz.geo hb hb2 q (R := L) n fun j hj => ?_, by omega, by omega⟩
    have := key j hj
    have : 0 ≤ q * (j : Int) := Int.mul_nonneg c (by omega)
    omega
  · refine ⟨-(L : Int), Sz.geo hb hb2 q (R := L) n fun j hj => ?_, by omega, by omega⟩
    have := key j hj
    have : q * (j : Int) ≤ 0 := Int.mul_nonpos_of_nonpos_of_nonneg (by omega) (by omega)
    omega
/-- the size of a power: offsets of at most L on the way, at most C copies -/
theorem pow_sz {v : Rat} {q k : Int} {A L C : Nat} {lo : Int} (h : Sz b v A lo) (hL : q.natAbs * k.natAbs ≤ L) (hC : k.natAbs ≤ C) (hq : q.natAbs ≤ L) :
    ∃ l, Sz b (powV b v q k) (A + (6 * L + 1 + C)) l ∧ lo - 2 * L ≤ l ∧ l ≤ lo + L := by
  unfold powV
  split
  · rename_i h0
    obtain ⟨l, g, h1, h2⟩ := geo_sz hb hb2 (q := q) (n := k.toNat) (L := L) (by rw [show k.toNat = k.natAbs by omega]; exact hL)
    exact ⟨_, (h.mulv hb g).mono (by omega), by omega, by omega⟩
  · rename_i h0
    obtain ⟨l, g, h1, h2⟩ := geo_sz hb hb2 (q := -q) (n := (-k).toNat) (L := L) (by rw [show (-k).toNat = k.natAbs by omega, Int.natAbs_neg]; exact hL)
    exact ⟨_, ((h.neg.mulW hb (-q)).mulv hb g).mono (by omega), by omega, by omega⟩
theorem pow_num {v : Rat} {q k : Int} {A L C : Nat} {lo : Int} (h : Sz b v A lo) (hL : q.natAbs * k.natAbs ≤ L) (hC : k.natAbs ≤ C) (hq : q.natAbs ≤ L) (h1 : A + (6 * L + 1 + C) ≤ 996) (h2 : -1000 ≤ lo - 2 * L) (h3 : lo + L + (A + (6 * L + 1 + C)) ≤ 1001) : NumV b (powV b v q k) := by
  obtain ⟨l, s, l1, l2⟩ := pow_sz hb hb2 h hL hC hq
  exact numV_of hb s h1 (by omega) (by omega)
/-- power of an effect of few copies -/
theorem pow_eq {v : Rat} {q k : Int} {A L C : Nat} {lo : Int} (h : Sz b v A lo) (hv : NumV b v) (hA : A ≤ 1000) (hL : q.natAbs * k.natAbs ≤ L) (hC : k.natAbs ≤ C) (hq : q.natAbs ≤ L) (hL2 : L ≤ 1000) (hC2 : C ≤ 2000) (h1 : A + (6 * L + 1 + C) ≤ 996) (h2 : -1000 ≤ lo - 2 * L) (h3 : lo + L + (A + (6 * L + 1 + C)) ≤ 1001) :
    M_power [.int b, effD b v q, .int k] = .ok (.sh (effD b (powV b v q k) (q * k))) := by
  have hqk : (q * k).natAbs ≤ L := by rw [Int.natAbs_mul]; exact hL
  refine power_val hb hb2 h hA hv (by omega) ?_ (by omega) (pow_num hb hb2 h hL hC hq h1 h2 h3)
  by_cases h0 : q = 0
  · exact .inr ⟨h0, Nat.lt_of_lt_of_le (show k.natAbs < 2 ^ 11 by omega) (Nat.pow_le_pow_right (by decide) (by decide))⟩
  · exact .inl ⟨h0, by omega, by omega, by omega⟩
end
end PM

/-! commuting, conjugation -/
namespace PM
open PySem L2 GL DL NR
section
variable {b : Int} (hb : 2 ≤ b) (hb2 : b ≤ 36)
include hb hb2
theorem part_moved {w : Rat} {q : Int} {A : Nat} {lo : Int} (g : Sz b (w * W b q) A lo) : (nm b w).natAbs < 2 ^ A ∧ (nm b w ≠ 0 → lo ≤ ex b w + q ∧ ex b w + q ≤ lo + A) := by
  have := part_of hb hb2 (unW hb hb2 g) (R := A) (by omega)
  exact ⟨this.1, fun h0 => by have := this.2 h0; omega⟩
theorem val_moved {w : Rat} (h : Dy b w) (q : Int) : (nm b w : Rat) * W b (ex b w + q) = w * W b q := by
  rw [W_add hb, ← Rat.mul_assoc, h.eq hb]
theorem sum_moved {v w : Rat} {q : Int} {A : Nat} {lo : Int} (h : Sz b v A lo) (g : Sz b (w * W b q) A lo) (hA : A ≤ 1270) :
    M_sum_of [.int b, .lst [numD b v, .tup [.int (nm b w), .int (ex b w + q)]]] = .ok (.sh (numD b (v + w * W b q))) := by
  have e := sum_of_box hb hb2 (A := A) (R := A) (lo := lo) [(nm b v, ex b v), (nm b w, ex b w + q)] (by simp) (by
    intro p hp
    rcases List.mem_cons.mp hp with rfl | hp
    · exact part_of hb hb2 h (by omega)
    · rw [List.mem_singleton.mp hp]
      exact part_moved hb hb2 g) (by omega)
  have : valP b [(nm b v, ex b v), (nm b w, ex b w + q)] = v + w * W b q := by
    unfold valP
    simp only [List.map_cons, List.map_nil, List.sum_cons, List.sum_nil, h.dy.eq hb, val_moved hb hb2 (unW hb hb2 g).dy, Rat.add_zero]
  rw [this] at e
  exact e
theorem two_effects {v w : Rat} {q r : Int} (hv : NumV b v) (hw : NumV b w) (hq : q.natAbs ≤ 1000) (hr : r.natAbs ≤ 1000) : M_require_effects [.int b, .lst [effD b v q, effD b w r]] = .ok (.sh .non) := by
  refine require_effects_ok hb hb2 (es := [effD b v q, effD b w r]) (fun e he => ?_) _ rfl
  rcases List.mem_cons.mp he with rfl | he
  · exact ⟨rfl, isPair_effD hb hb2 hv (by omega)⟩
  · rw [List.mem_singleton.mp he]
    exact ⟨rfl, isPair_effD hb hb2 hw (by omega)⟩
theorem commutes_val {v w : Rat} {q r : Int} {A : Nat} {lo : Int} (h1 : Sz b v A lo) (h2 : Sz b (w * W b q) A lo) (h3 : Sz b w A lo) (h4 : Sz b (v * W b r) A lo) (hA : A ≤ 1270) (hv : NumV b v) (hw : NumV b w) (hq : q.natAbs ≤ 1000) (hr : r.natAbs ≤ 1000) :
    M_commutes [.int b, effD b v q, effD b w r] = .ok (.sh (.bl (decide (v + w * W b q = w + v * W b r)))) := by
  have e1 := two_effects hb hb2 hv hw hq hr
  have e2 := sum_moved hb hb2 h1 h2 hA
  have e3 := sum_moved hb hb2 h3 h4 hA
  have m1 : M_moved [numD b w, .int q] = .ok (.sh (.tup [.int (nm b w), .int (ex b w + q)])) := moved_eq hb hb2 _ _ _
  have m2 : M_moved [numD b v, .int r] = .ok (.sh (.tup [.int (nm b v), .int (ex b v + r)])) := moved_eq hb hb2 _ _ _
  have q1 := gEq_num hb (h1.add h2).dy (h3.add h4).dy
  unfold M_commutes
  rw [body_eq]
  simp [tup_ix0, tup_ix1, e1, e2, e3, m1, m2, q1]
theorem conjugate_val {v w : Rat} {q r : Int} {A : Nat} {lo : Int} (h1 : Sz b w A lo) (h2 : Sz b (v * W b r) A lo) (h3 : Sz b (w * W b q) A lo) (hA : A ≤ 1270) (hv : NumV b v) (hw : NumV b w) (hq : q.natAbs ≤ 1000) (hr : r.natAbs ≤ 1000) (hx : NumV b (w + v * W b r - w * W b q)) :
    M_conjugate [.int b, effD b v q, effD b w r] = .ok (.sh (effD b (w + v * W b r - w * W b q) q)) := by
  have e1 := two_effects hb hb2 hv hw hq hr
  have m1 : M_moved [numD b v, .int r] = .ok (.sh (.tup [.int (nm b v), .int (ex b v + r)])) := moved_eq hb hb2 _ _ _
  have m2 : M_negative [numD b w] = .ok (.sh (.tup [.int (-nm b w), .int (ex b w)])) := negative_eq hb hb2 _ _
  have m3 : M_moved [.tup [.int (-nm b w), .int (ex b w)], .int q] = .ok (.sh (.tup [.int (-nm b w), .int (ex b w + q)])) := moved_eq hb hb2 _ _ _
  have e2 := sum_of_box hb hb2 (A := A) (R := A) (lo := lo) [(nm b w, ex b w), (nm b v, ex b v + r), (-nm b w, ex b w + q)] (by simp) (by
    intro p hp
    rcases List.mem_cons.mp hp with rfl | hp
    · exact part_of hb hb2 h1 (by omega)
    rcases List.mem_cons.mp hp with rfl | hp
    · exact part_moved hb hb2 h2
    · rw [List.mem_singleton.mp hp]
      have := part_moved hb hb2 h3
      exact ⟨by dsimp only; rw [Int.natAbs_neg]; exact this.1, fun h0 => this.2 (by dsimp only at h0; omega)⟩) (by omega)
  have e3 : valP b [(nm b w, ex b w), (nm b v, ex b v + r), (-nm b w, ex b w + q)] = w + v * W b r - w * W b q := by
    unfold valP
    have z := val_moved hb hb2 (unW hb hb2 h3).dy q
    simp only [List.map_cons, List.map_nil, List.sum_cons, List.sum_nil, h1.dy.eq hb, val_moved hb hb2 (unW hb hb2 h2).dy, Rat.intCast_neg, Rat.neg_mul, z]
    grind
  rw [e3] at e2
  have e2 : M_sum_of [.int b, .lst [numD b w, .tup [.int (nm b v), .int (ex b v + r)], .tup [.int (-nm b w), .int (ex b w + q)]]] = .ok (.sh (numD b (w + v * W b r - w * W b q))) := e2
  have e4 := limits_numD hb hx
  unfold M_conjugate
  rw [body_eq]
  simp [tup_ix0, tup_ix1, e1, m1, m2, m3, e2, e4]
end
end PM

/-! conjugators -/
namespace PM
open PySem L2 GL DL NR
/-- the shifts below s after which the values differ by a multiple of b ^ s - 1 -/
noncomputable def turnP (b : Int) (s : Nat) (v w : Rat) (j : Nat) : Bool := decide ((b ^ s - 1) ∣ (phi b s v * b ^ j - phi b s w))
noncomputable def turnsL (b : Int) (s : Nat) (v w : Rat) (n : Nat) : List Int := ((List.range n).filter (turnP b s v w)).map (fun (j : Nat) => (j : Int))
theorem turnsL_succ (b : Int) (s : Nat) (v w : Rat) (n : Nat) : turnsL b s v w (n + 1) = turnsL b s v w n ++ (if turnP b s v w n = true then [(n : Int)] else []) := by
  unfold turnsL
  rw [List.range_succ, List.filter_append, List.map_append]
  congr 1
  cases h : turnP b s v w n <;> simp [h]
theorem turnsL_len (b : Int) (s : Nat) (v w : Rat) (n : Nat) : (turnsL b s v w n).length ≤ n := by
  unfold turnsL
  rw [List.length_map]
  exact Nat.le_trans (List.length_filter_le _ _) (by simp)
section
variable {b : Int} (hb : 2 ≤ b) (hb2 : b ≤ 36)
include hb hb2
theorem modulus_pos {s : Nat} (hs : 0 < s) : 0 < b ^ s - 1 := by
  obtain ⟨j, rfl⟩ : ∃ j, s = j + 1 := ⟨s - 1, by omega⟩
  have h1 := NM.pow_pos hb j
  rw [Int.pow_succ]
  have h2 : 1 * b ≤ b ^ j * b := Int.mul_le_mul_of_nonneg_right (by omega) (by omega)
  omega
theorem remainder_val {v : Rat} {s : Nat} (hs : 0 < s) (hs2 : s ≤ 1000) (hn : (nm b v).natAbs < 2 ^ 2000) : M_remainder [.int b, numD b v, .int (s : Int), .int (b ^ s - 1)] = .ok (.sh (.int (phi b s v % (b ^ s - 1)))) := by
  have hm := modulus_pos hb hb2 hs
  have hl := rs_lt hs (ex b v)
  have pw := power_of_eq (b := b) (by omega) hb2 (c := rs s (ex b v)) (by omega)
  rw [rs_cast hs] at pw
  have m1 : gMul (.int (nm b v)) (.int (b ^ rs s (ex b v))) = some (.val (.int (phi b s v))) := mul_ok hn (bd_pow (m := 6001) (by omega) hb2 (by omega)) (by decide) (by decide) (by decide)
  have hs0 : (0 : Int) < s := by omega
  unfold M_remainder
  rw [body_eq]
  generalize b ^ rs s (ex b v) = P at *
  generalize phi b s v = F at *
  generalize b ^ s - 1 = M at *
  simp [hs, hs0, pw, m1, hm]
theorem turns_val {v w : Rat} {s : Nat} (hs : 0 < s) (hs2 : s ≤ 1000) (hv : (nm b v).natAbs < 2 ^ 2000) (hw : (nm b w).natAbs < 2 ^ 2000) :
    M_turns_between [.int b, numD b v, numD b w, .int (s : Int)] = .ok (.own ((turnsL b s v w s).map .int)) := by
  have hm := modulus_pos hb hb2 hs
  have hM : (b ^ s).natAbs < 2 ^ 6001 := bd_pow (by omega) hb2 (by omega)
  have r1 := remainder_val hb hb2 hs hs2 hv
  have r2 := remainder_val hb hb2 hs hs2 hw
  have pw := power_of_eq (b := b) (by omega) hb2 (c := s) (by omega)
  have hP := NM.pow_pos hb s
  have key : ∀ j, turnP b s v w j = decide ((phi b s v * b ^ j) % (b ^ s - 1) = phi b s w % (b ^ s - 1)) := fun j => by
    unfold turnP
    exact decide_eq_decide.mpr Cg.iff_emod
  have nxt : ∀ j, (phi b s v * b ^ j) % (b ^ s - 1) * b % (b ^ s - 1) = (phi b s v * b ^ (j + 1)) % (b ^ s - 1) := fun j => by
    rw [Int.pow_succ, ← Int.mul_assoc]
    exact Cg.iff_emod.mp ((Cg.of_emod _).mulr b)
  generalize hMM : b ^ s - 1 = M at *
  have hMb : M.natAbs < 2 ^ 6001 := by omega
  obtain ⟨Γ', e1, x8', rfl⟩ := forM_inv (g := bName 8) (b := B_turns_between_1) (fun j Γ => ∃ x8, Γ = [.sh (.int b), .sh (numD b v), .sh (numD b w), .sh (.int (s : Int)), .sh (.int M), .sh (.int ((phi b s v * b ^ j) % M)), .sh (.int (phi b s w % M)), .own ((turnsL b s v w j).map .int), x8]) (rangeD 0 s) 0
    [.sh (.int b), .sh (numD b v), .sh (numD b w), .sh (.int (s : Int)), .sh (.int M), .sh (.int (phi b s v % M)), .sh (.int (phi b s w % M)), .own [], .un] ⟨.un, by simp [turnsL]⟩ (by
      rintro i x Γ hx ⟨x8, rfl⟩
      have hi : i < s := by
        have := (List.getElem?_eq_some_iff.mp hx).1
        rwa [rangeD_len] at this
      rw [rangeD_get 0 hi] at hx
      cases hx
      rw [Nat.zero_add, Int.zero_add]
      have k := key i
      have nx := nxt i
      have hlen : ((turnsL b s v w i).map D.int).length < 1000000 := by
        have := turnsL_len b s v w i
        rw [List.length_map]; omega
      refine ⟨_, [.sh (.int b), .sh (numD b v), .sh (numD b w), .sh (.int (s : Int)), .sh (.int M), .sh (.int ((phi b s v * b ^ (i + 1)) % M)), .sh (.int (phi b s w % M)), .own ((turnsL b s v w (i + 1)).map .int), .sh (.int (i : Int))], rfl, .inl ?_, _, rfl⟩
      rw [turnsL_succ, List.map_append]
      generalize (phi b s v * b ^ (i + 1)) % M = Y at *
      have hX0 := Int.emod_nonneg (phi b s v * b ^ i) (show M ≠ 0 by omega)
      have hX1 := Int.emod_lt_of_pos (phi b s v * b ^ i) hm
      generalize (phi b s v * b ^ i) % M = X at *
      generalize phi b s w % M = Z at *
      generalize (turnsL b s v w i).map D.int = acc at *
      have m1 : gMul (.int X) (.int b) = some (.val (.int (X * b))) := mul_ok (a := 6001) (b := 6) (by omega) (by omega) (by decide) (by decide) (by decide)
      unfold B_turns_between_1
      cases ht : turnP b s v w i with
      | true =>
        rw [ht] at k
        have hxz : X = Z := by simpa using k.symm
        rw [if_pos rfl]
        subst hxz
        simp [hlen, m1, hm, nx]
      | false =>
        rw [ht] at k
        have hxz : X ≠ Z := by simpa using k.symm
        rw [if_neg Bool.false_ne_true]
        simp [hxz, m1, hm, nx])
  rw [Nat.zero_add, rangeD_len] at e1
  have hss : (-1000000 : Int) ≤ s ∧ (s : Int) ≤ 1000000 := by omega
  unfold M_turns_between
  rw [body_eq]
  generalize (turnsL b s v w s).map D.int = res at *
  generalize (phi b s v * b ^ s) % M = Y at *
  generalize phi b s v % M = X at *
  generalize phi b s w % M = Z at *
  generalize b ^ s = P at *
  simp [pw, hMM, r1, r2, hss, e1]
/-- the offsets of conjugators -/
noncomputable def conjL (b : Int) (v w : Rat) (q r : Int) : List Int :=
  if q ≠ r then [] else if q = 0 then (if nm b v ≠ nm b w then [] else if -1000 ≤ ex b w - ex b v ∧ ex b w - ex b v ≤ 1000 then [ex b w - ex b v] else []) else turnsL b q.natAbs v w q.natAbs
theorem shifts_val (v w : Rat) : M_shifts_between [numD b v, numD b w] = .ok (.own ((if nm b v ≠ nm b w then [] else if -1000 ≤ ex b w - ex b v ∧ ex b w - ex b v ≤ 1000 then [ex b w - ex b v] else []).map .int)) := by
  have e := is_place_eq (noObj_int (ex b w - ex b v))
  unfold M_shifts_between
  rw [body_eq]
  by_cases h : nm b v = nm b w
  · by_cases h2 : -1000 ≤ ex b w - ex b v ∧ ex b w - ex b v ≤ 1000
    · have hw : within (-1000) 1000 (.int (ex b w - ex b v)) = true := by simp only [within]; simp [h2.1, h2.2]
      rw [hw] at e
      generalize hE : ex b w - ex b v = E at *
      simp [h, hE, e, h2]
    · have hw : within (-1000) 1000 (.int (ex b w - ex b v)) = false := by
        simp only [within]
        rw [Bool.and_eq_false_iff, decide_eq_false_iff_not, decide_eq_false_iff_not]
        omega
      rw [hw] at e
      simp [h, e, h2]
  · simp [h]
/-- what is asked of two effects -/
def EffOk (b : Int) (v : Rat) (q : Int) : Prop := NumV b v ∧ (nm b v).natAbs < 2 ^ 2000 ∧ q.natAbs ≤ 1000
theorem conjugators_val {v w : Rat} {q r : Int} (h1 : EffOk b v q) (h2 : EffOk b w r) : M_conjugators [.int b, effD b v q, effD b w r] = .ok (.own ((conjL b v w q r).map .int)) := by
  have e1 := two_effects hb hb2 h1.1 h2.1 h1.2.2 h2.2.2
  unfold M_conjugators conjL
  rw [body_eq]
  by_cases hqr : q = r
  · subst hqr
    by_cases h0 : q = 0
    · subst h0
      have e2 := shifts_val hb hb2 v w
      rw [if_neg (by simp), if_pos rfl]
      generalize List.map D.int _ = L at e2 ⊢
      simp [e1, tup_ix0, tup_ix1, e2]
    · have ha : (if q < 0 then -q else q) = (q.natAbs : Int) := by split <;> omega
      have e2 := turns_val hb hb2 (s := q.natAbs) (by omega) h1.2.2 h1.2.1 h2.2.1
      rw [if_neg (by simp), if_neg h0]
      generalize List.map D.int _ = L at e2 ⊢
      simp [e1, tup_ix0, tup_ix1, h0, ha, e2]
  · rw [if_pos hqr]
    simp [e1, tup_ix1, hqr]
/-- what the law itself finds -/
theorem want_turn {v w : Rat} {s : Nat} (hs : 0 < s) (hs2 : s ≤ 1000) (h1 : NumV b v) (h2 : NumV b w) (hv : (nm b v).natAbs < 2 ^ 2000) (hw : (nm b w).natAbs < 2 ^ 2000) {q r : Int} {i : Nat} (hi : i < s) (x4 x7 : DL.Slot) :
    B_law_want_v3_1 [.sh (.int b), .sh (effD b v q), .sh (effD b w r), .sh (.int (i : Int)), x4, .sh (.int (b ^ s - 1)), .own ((turnsL b s v w i).map .int), x7] =
      .nx [.sh (.int b), .sh (effD b v q), .sh (effD b w r), .sh (.int (i : Int)), x4, .sh (.int (b ^ s - 1)), .own ((turnsL b s v w (i + 1)).map .int), .sh (.tup [.int (-nm b v), .int (ex b v + i)])] := by
  have hm := modulus_pos hb hb2 hs
  obtain ⟨d1, _, l1, u1⟩ := h1
  obtain ⟨d2, _, l2, u2⟩ := h2
  have e1 := law_sum2_pt hb hb2 (n1 := nm b w) (e1 := ex b w) (n2 := -nm b v) (e2 := ex b v + i) (Nat.lt_of_lt_of_le hw (Nat.pow_le_pow_right (by decide) (by decide))) (by rw [Int.natAbs_neg]; exact Nat.lt_of_lt_of_le hv (Nat.pow_le_pow_right (by decide) (by decide))) (by omega)
  have ey : (nm b w : Rat) * W b (ex b w) + ((-nm b v : Int) : Rat) * W b (ex b v + i) = w + -(v * W b i) := by
    rw [d2.eq hb, Rat.intCast_neg, W_add hb, Rat.neg_mul, ← Rat.mul_assoc, d1.eq hb]
  rw [ey] at e1
  have e1 : M_law_sum_v2 [.int b, numD b w, .tup [.int (-nm b v), .int (ex b v + i)]] = .ok (.sh (numD b (w + -(v * W b i)))) := e1
  have hlen : ((turnsL b s v w i).map D.int).length < 1000000 := by
    have := turnsL_len b s v w i
    rw [List.length_map]; omega
  have dvi : Dy b (v * W b i) := d1.mul hb (Dy.w hb _)
  have hp : turnP b s v w i = decide (nm b (w + -(v * W b i)) % (b ^ s - 1) = 0) := by
    unfold turnP
    refine decide_eq_decide.mpr ?_
    have c1 := phi_add hb hs d2 (dvi.neg hb)
    have c2 := phi_neg hb hs dvi
    have c3 := phi_mulW hb hs d1 (i : Int)
    rw [rs_nat, Nat.mod_eq_of_lt hi] at c3
    have c4 : Cg (b ^ s - 1) (phi b s (w + -(v * W b i))) (phi b s w + -(phi b s v * b ^ i)) := c1.trans ((Cg.refl _).add (c2.trans c3.neg))
    rw [show phi b s v * b ^ i - phi b s w = -(phi b s w + -(phi b s v * b ^ i)) by omega, Int.dvd_neg, ← c4.dvd, phi_dvd hb hs]
    exact ⟨Int.emod_eq_zero_of_dvd, Int.dvd_of_emod_eq_zero⟩
  rw [turnsL_succ, List.map_append]
  generalize (turnsL b s v w i).map D.int = acc at *
  generalize w + -(v * W b i) = y at *
  generalize b ^ s - 1 = M at *
  unfold B_law_want_v3_1
  cases ht : turnP b s v w i with
  | true =>
    rw [ht] at hp
    have hz : nm b y % M = 0 := by simpa using hp.symm
    rw [if_pos rfl]
    simp [tup_ix0, tup_ix1, e1, hm, hz, hlen]
  | false =>
    rw [ht] at hp
    have hz : ¬ nm b y % M = 0 := by simpa using hp.symm
    rw [if_neg Bool.false_ne_true]
    simp [tup_ix0, tup_ix1, e1, hm, hz]
theorem want_val {v w : Rat} {q r : Int} (h1 : EffOk b v q) (h2 : EffOk b w r) (hsh : q = 0 → -1000 ≤ ex b w - ex b v ∧ ex b w - ex b v ≤ 1000) : M_law_want_v3 [.int b, effD b v q, effD b w r] = .ok (.own ((conjL b v w q r).map .int)) := by
  unfold M_law_want_v3 conjL
  rw [body_eq]
  by_cases hqr : q = r
  · subst hqr
    by_cases h0 : q = 0
    · subst h0
      rw [if_neg (by simp), if_pos rfl]
      by_cases hz : nm b v = 0 ∧ nm b w = 0
      · have hv0 := nm_eq0 hb h1.1.1 hz.1
        have hw0 := nm_eq0 hb h2.1.1 hz.2
        subst hv0; subst hw0
        rw [if_neg (by simp), if_pos ⟨by rw [Int.sub_self]; decide, by rw [Int.sub_self]; decide⟩, Int.sub_self]
        simp [tup_ix0, tup_ix1, hz.1]
      · by_cases hn : nm b v = nm b w
        · rw [if_neg (by simpa using hn), if_pos (hsh rfl)]
          have hz1 : ¬ nm b w = 0 := fun z => hz ⟨by rw [hn, z], z⟩
          simp [tup_ix0, tup_ix1, hz1, hn]
        · rw [if_pos hn]
          by_cases hz1 : nm b v = 0
          · have hz2 : ¬ nm b w = 0 := fun z => hz ⟨hz1, z⟩
            have hz3 : ¬ 0 = nm b w := fun z => hz2 z.symm
            simp [tup_ix0, tup_ix1, hz1, hz2, hz3]
          · simp [tup_ix0, tup_ix1, hz1, hn]
    · have ha : (if -q > q then -q else q) = (q.natAbs : Int) := by split <;> omega
      rw [if_neg (by simp), if_neg h0]
      have hs : 0 < q.natAbs := by omega
      have hs2 := h1.2.2
      generalize hS : q.natAbs = s at *
      have hm := modulus_pos hb hb2 hs
      have pw := power2_eq (b := b) (by omega) hb2 (c0 := s) (by omega)
      obtain ⟨Γ', e1, x3', x7', rfl⟩ := forM_inv (g := bName 3) (b := B_law_want_v3_1) (fun j Γ => ∃ x3 x7, Γ = [.sh (.int b), .sh (effD b v q), .sh (effD b w q), x3, .sh (.int (s : Int)), .sh (.int (b ^ s - 1)), .own ((turnsL b s v w j).map .int), x7]) (rangeD 0 s) 0
        [.sh (.int b), .sh (effD b v q), .sh (effD b w q), .un, .sh (.int (s : Int)), .sh (.int (b ^ s - 1)), .own [], .un] ⟨.un, .un, rfl⟩ (by
          rintro i x Γ hx ⟨x3, x7, rfl⟩
          have hi : i < s := by
            have := (List.getElem?_eq_some_iff.mp hx).1
            rwa [rangeD_len] at this
          rw [rangeD_get 0 hi] at hx
          cases hx
          rw [Nat.zero_add, Int.zero_add]
          exact ⟨_, _, rfl, .inl (want_turn hb hb2 hs hs2 h1.1 h2.1 h1.2.1 h2.2.1 hi _ _), _, _, rfl⟩)
      rw [Nat.zero_add, rangeD_len] at e1
      have hss : (-1000000 : Int) ≤ s ∧ (s : Int) ≤ 1000000 := by omega
      generalize (turnsL b s v w s).map D.int = res at *
      generalize b ^ s = P at *
      have ha' : (if q < -q then -q else q) = (s : Int) := ha
      simp [tup_ix0, tup_ix1, h0, ha', pw, hss, e1]
  · rw [if_pos hqr]
    simp [tup_ix1, hqr]
end
end PM

namespace PM
open PySem L2 GL DL NR
theorem mcomp_eq (vs : List Nat) (mi : ML) (g : D → En → Option En) (t : En → Res Bool) (m : MD) (Γ : En) : mComp vs mi g t m Γ = (mi Γ).bind fun xs => need (xs.length < 1000000) (compM g t m (wipeE Γ vs) xs) := rfl
theorem eqOk_bl (x : Bool) : eqOk (.bl x) = true := by
  have e1 : DL.plain (.bl x) = true := by simp [DL.plain]
  have e2 : py (.bl x) = .bool x := by simp [py]
  unfold eqOk
  rw [e1, e2]; rfl
theorem gNe_bl (x y : Bool) : gNe (.bl x) (.bl y) = some (.val (.bl (!(x == y)))) := by
  show giv (eqOk (.bl x) = true ∧ eqOk (.bl y) = true) (.bl (!PyData.eqv (py (.bl x)) (py (.bl y)))) = _
  rw [giv_pos ⟨eqOk_bl x, eqOk_bl y⟩]
  cases x <;> cases y <;> simp [py, PyData.eqv]
/-- an effect of middle size -/
def Mid (b : Int) (v : Rat) (q : Int) : Prop := NumV b v ∧ q.natAbs ≤ 12 ∧ ∃ l, Sz b v 410 l ∧ -28 ≤ l ∧ l ≤ 8
section
variable {b : Int} (hb : 2 ≤ b) (hb2 : b ≤ 36)
include hb hb2
theorem Mid.sz {v : Rat} {q : Int} (h : Mid b v q) (s lo : Int) {A : Nat} (h1 : lo ≤ -28 + s) (h2 : 410 + 6 * (8 + s - lo).toNat ≤ A) : Sz b (v * W b s) A lo := by
  obtain ⟨_, _, l, z, l1, l2⟩ := h
  exact (z.mulW hb s).to hb hb2 (by omega) (by omega)
theorem Mid.sz0 {v : Rat} {q : Int} (h : Mid b v q) (lo : Int) {A : Nat} (h1 : lo ≤ -28) (h2 : 410 + 6 * (8 - lo).toNat ≤ A) : Sz b v A lo := by
  obtain ⟨_, _, l, z, l1, l2⟩ := h
  exact z.to hb hb2 (by omega) (by omega)
theorem mid_of {v : Rat} {q : Int} (h : Sz b v 330 (-4)) (hq : q.natAbs ≤ 4) : Mid b v q := ⟨numV_of hb h (by decide) (by decide) (by decide), by omega, -4, h.mono (by decide), by decide, by decide⟩
theorem mid_pow {v : Rat} {q k : Int} (h : Sz b v 330 (-4)) (hq : q.natAbs ≤ 4) (hk : k.natAbs ≤ 3) : M_power [.int b, effD b v q, .int k] = .ok (.sh (effD b (powV b v q k) (q * k))) ∧ Mid b (powV b v q k) (q * k) := by
  have hv : NumV b v := numV_of hb h (by decide) (by decide) (by decide)
  have hL : q.natAbs * k.natAbs ≤ 12 := Nat.mul_le_mul hq hk
  obtain ⟨l, s, l1, l2⟩ := pow_sz hb hb2 h hL hk (by omega)
  exact ⟨pow_eq hb hb2 h hv (by decide) hL hk (by omega) (by decide) (by decide) (by decide) (by decide) (by decide), pow_num hb hb2 h hL hk (by omega) (by decide) (by decide) (by decide), by rw [Int.natAbs_mul]; exact hL, l, s.mono (by decide), by omega, by omega⟩
theorem mid_zero : Mid b 0 0 := ⟨numV_of hb (Sz.zero (A := 1) (lo := 0)) (by decide) (by decide) (by decide), by decide, 0, Sz.zero, by decide, by decide⟩
/-- the conjugate of an effect of middle size by another one -/
theorem conj_mid {v w : Rat} {q r : Int} (hf : Mid b v q) (hs : Mid b w r) : M_conjugate [.int b, effD b v q, effD b w r] = .ok (.sh (effD b (w + v * W b r - w * W b q) q)) ∧ Sz b (w + v * W b r - w * W b q) 802 (-40) ∧ NumV b (w + v * W b r - w * W b q) := by
  have hq := hf.2.1
  have hr := hs.2.1
  have wq : Sz b (w * W b q) 800 (-40) := hs.sz hb hb2 q _ (by omega) (by omega)
  have zs : Sz b (w + v * W b r) 780 (-40) := ((hs.sz0 hb hb2 _ (by decide) (A := 770) (by decide)).add (hf.sz hb hb2 r _ (by omega) (by omega))).mono (by decide)
  have zx : Sz b (w + v * W b r - w * W b q) 802 (-40) := ((zs.mono (B := 801) (by decide)).sub (wq.mono (by decide))).mono (by decide)
  have nx : NumV b (w + v * W b r - w * W b q) := numV_of hb zx (by decide) (by decide) (by decide)
  exact ⟨conjugate_val hb hb2 (A := 800) (lo := -40) (hs.sz0 hb hb2 _ (by decide) (by decide)) (hf.sz hb hb2 r _ (by omega) (by omega)) wq (by decide) hf.1 hs.1 (by omega) (by omega) nx, zx, nx⟩
end
end PM

/-! roots of effects -/
namespace NR
/-- a divisor of a number times a power divides the number times the power of as many factors as it has bits -/
theorem dvd_bits (b : Nat) : ∀ (L f : Nat), 0 < f → f < 2 ^ L → ∀ m t, f ∣ m * b ^ t → f ∣ m * b ^ L
  | 0, f, h0, h1, _, _, _ => by simp at h1; omega
  | L + 1, f, h0, h1, m, t, h => by
    by_cases hg : Nat.gcd f b = 1
    · have hc : Nat.Coprime f (b ^ t) := Nat.Coprime.pow_right t hg
      exact Nat.dvd_mul_right_of_dvd (hc.dvd_of_dvd_mul_right h) _
    · have gpos : 0 < Nat.gcd f b := Nat.gcd_pos_of_pos_left _ h0
      obtain ⟨f', hf⟩ := Nat.gcd_dvd_left f b
      obtain ⟨b', hb'⟩ := Nat.gcd_dvd_right f b
      generalize Nat.gcd f b = g at *
      have lift : ∀ s, m * b ^ (s + 1) = g * (m * b' * b ^ s) := fun s => by
        have e : m * (b ^ s * b) = m * (b ^ s * (g * b')) := by rw [← hb']
        rw [Nat.pow_succ, e]; ac_rfl
      cases t with
      | zero => exact Nat.dvd_mul_right_of_dvd (by simpa using h) _
      | succ t =>
        rw [lift t] at h
        have h2 : f' ∣ m * b' * b ^ t := Nat.dvd_of_mul_dvd_mul_left gpos (by rw [← hf]; exact h)
        have p1 : 0 < f' := Nat.pos_of_ne_zero fun z => by rw [z, Nat.mul_zero] at hf; omega
        have p2 : f' < 2 ^ L := by
          have : 2 * f' ≤ g * f' := Nat.mul_le_mul_right _ (by omega)
          rw [Nat.pow_succ] at h1; omega
        have h3 := dvd_bits b L f' p1 p2 (m * b') t h2
        rw [lift L, hf]
        exact Nat.mul_dvd_mul_left g h3
theorem dvd_bitsI {f b n : Int} {L t : Nat} (h0 : 0 < f) (hL : f.natAbs < 2 ^ L) (h : f ∣ n * b ^ t) : f ∣ n * b ^ L := by
  have h1 := Int.natAbs_dvd_natAbs.mpr h
  rw [Int.natAbs_mul, Int.natAbs_pow] at h1
  have h2 := dvd_bits b.natAbs L f.natAbs (by omega) hL _ _ h1
  rw [← Int.natAbs_pow, ← Int.natAbs_mul] at h2
  exact Int.natAbs_dvd_natAbs.mp h2
theorem geoI_pos1 {s : Int} (hs : 2 ≤ s) {k : Nat} (hk : 1 ≤ k) : 0 < geoI s k := by
  obtain ⟨j, rfl⟩ : ∃ j, k = j + 1 := ⟨k - 1, by omega⟩
  have h := (geoI_lt hs j).1
  have h2 : 0 ≤ geoI s j * s := Int.mul_nonneg h (by omega)
  unfold geoI; omega
end NR
namespace PM
open PySem L2 GL DL NR
section
variable {b : Int} (hb : 2 ≤ b) (hb2 : b ≤ 36)
include hb hb2
/-- the sum of powers, and its exponent -/
theorem copies_g {q : Int} {k : Nat} (hq : q.natAbs ≤ 1000) (h0 : q ≠ 0) (hk : k ≤ 2000) (hs : q.natAbs * k ≤ 1100) :
    ∃ p : Int, M_copies [.int b, .int q, .int (k : Int)] = .ok (.sh (.tup [.int (geoI (b ^ q.natAbs) k), .int p])) ∧ (geoI (b ^ q.natAbs) k : Rat) * W b p = geo b q k ∧ p = (if q * ((k : Int) - 1) < 0 then q * ((k : Int) - 1) else 0) := by
  have ha : (if q < 0 then -q else q) = (q.natAbs : Int) := by split <;> omega
  have pw := power_of_eq (b := b) (by omega) hb2 (c := q.natAbs) (by omega)
  have hstep : 2 ≤ b ^ q.natAbs := by
    obtain ⟨j, hj⟩ : ∃ j, q.natAbs = j + 1 := ⟨q.natAbs - 1, by omega⟩
    rw [hj, Int.pow_succ]
    have h1 := NM.pow_pos hb j
    have h2 : 1 * b ≤ b ^ j * b := Int.mul_le_mul_of_nonneg_right (by omega) (by omega)
    omega
  have small : ∀ j, j ≤ k → (geoI (b ^ q.natAbs) j).natAbs < 2 ^ 6601 := fun j hj => by
    obtain ⟨g0, g1⟩ := geoI_lt hstep j
    rw [← Int.pow_mul] at g1
    have h1 := NM.pow_small (b := b) (by omega) hb2 (q.natAbs * j)
    have h2 : q.natAbs * j ≤ q.natAbs * k := Nat.mul_le_mul_left _ hj
    have h3 : 2 ^ (6 * (q.natAbs * j) + 1) ≤ 2 ^ 6601 := Nat.pow_le_pow_right (by decide) (by omega)
    omega
  have sstep : (b ^ q.natAbs).natAbs < 2 ^ 6001 := bd_pow (by omega) hb2 (by omega)
  obtain ⟨Γ', e1, x5, rfl⟩ := forM_inv (g := bName 5) (b := B_copies_1) (fun j Γ => ∃ x5, Γ = [.sh (.int b), .sh (.int q), .sh (.int (k : Int)), .sh (.int (b ^ q.natAbs)), .sh (.int (geoI (b ^ q.natAbs) j)), x5]) (rangeD 0 k) 0
    [.sh (.int b), .sh (.int q), .sh (.int (k : Int)), .sh (.int (b ^ q.natAbs)), .sh (.int 0), .un] ⟨.un, rfl⟩ (by
      rintro i x Γ hx ⟨x5, rfl⟩
      have hi : i < k := by
        have := (List.getElem?_eq_some_iff.mp hx).1
        rwa [rangeD_len] at this
      rw [Nat.zero_add]
      have m1 : gMul (.int (geoI (b ^ q.natAbs) i)) (.int (b ^ q.natAbs)) = some (.val (.int (geoI (b ^ q.natAbs) i * b ^ q.natAbs))) := mul_ok (small i (by omega)) sstep (by decide) (by decide) (by decide)
      refine ⟨_, [.sh (.int b), .sh (.int q), .sh (.int (k : Int)), .sh (.int (b ^ q.natAbs)), .sh (.int (geoI (b ^ q.natAbs) (i + 1))), .sh x], rfl, .inl ?_, _, rfl⟩
      rw [geoI]
      generalize b ^ q.natAbs = S at *
      generalize geoI S i = G at *
      unfold B_copies_1
      simp [m1])
  rw [Nat.zero_add, rangeD_len] at e1
  have hkk : (-1000000 : Int) ≤ k ∧ (k : Int) ≤ 1000000 := by omega
  have m2 : gMul (.int q) (.int ((k : Int) - 1)) = some (.val (.int (q * ((k : Int) - 1)))) := mul_ok (a := 11) (b := 12) (by omega) (by omega) (by decide) (by decide) (by decide)
  refine ⟨(if q * ((k : Int) - 1) < 0 then q * ((k : Int) - 1) else 0), ?_, ?_, rfl⟩
  · unfold M_copies
    rw [body_eq]
    generalize b ^ q.natAbs = S at *
    generalize geoI S k = G at *
    simp [h0, ha, pw, hkk, e1, m2]
  · rcases Int.lt_or_lt_of_ne h0 with hn | hp
    · cases k with
      | zero => simp [geoI, geo, Rat.zero_mul]
      | succ k =>
        have e2 : q * (((k + 1 : Nat) : Int) - 1) = q * k := by congr 1; omega
        rw [e2]
        have h3 : q * (k : Int) ≤ 0 := Int.mul_nonpos_of_nonpos_of_nonneg (by omega) (by omega)
        have h4 : (if q * (k : Int) < 0 then q * (k : Int) else 0) = q * k := by split <;> omega
        rw [h4, ← geoI_neg hb (by omega) k, show q.natAbs = (-q).toNat by omega]
    · have e2 := geoI_pos hb (show 0 ≤ q by omega) k
      rw [show q.toNat = q.natAbs by omega] at e2
      cases k with
      | zero => simp [geoI, geo, Rat.zero_mul]
      | succ k =>
        have h3 : ¬ (q * (((k + 1 : Nat) : Int) - 1) < 0) := by
          have : 0 ≤ q * (((k + 1 : Nat) : Int) - 1) := Int.mul_nonneg (by omega) (by omega)
          omega
        rw [if_neg h3, W_zero, Rat.mul_one]; exact e2

/-- what a root asks: small enough to be computed -/
def RootOk (p k : Int) : Prop := 1 ≤ k ∧ ((p ≠ 0 ∧ p.natAbs ≤ 100 ∧ k ≤ 100 ∧ p.natAbs * k.natAbs ≤ 100) ∨ (p = 0 ∧ k.natAbs < 2 ^ 601))
/-- the factor of a power -/
def fac (b p k : Int) : Int := if p = 0 then k else geoI (b ^ p.natAbs) k.toNat
theorem two_le_pow {p : Int} (h : p ≠ 0) : 2 ≤ b ^ p.natAbs := by
  obtain ⟨j, hj⟩ : ∃ j, p.natAbs = j + 1 := ⟨p.natAbs - 1, by omega⟩
  rw [hj, Int.pow_succ]
  have h1 := NM.pow_pos hb j
  have h2 : 1 * b ≤ b ^ j * b := Int.mul_le_mul_of_nonneg_right (by omega) (by omega)
  omega
theorem copies_fac {p k : Int} (h : RootOk p k) : ∃ l : Int, M_copies [.int b, .int p, .int k] = .ok (.sh (.tup [.int (fac b p k), .int l])) ∧ (fac b p k : Rat) * W b l = geo b p k.toNat ∧ 0 < fac b p k ∧ (fac b p k).natAbs < 2 ^ 601 ∧ -100 ≤ l ∧ l ≤ 0 := by
  obtain ⟨k1, ⟨p0, pa, ka, pk⟩ | ⟨rfl, kb⟩⟩ := h
  · obtain ⟨n, rfl⟩ := Int.eq_ofNat_of_zero_le (show 0 ≤ k by omega)
    obtain ⟨l, e1, e2, e3⟩ := copies_g hb hb2 (k := n) (by omega) p0 (by omega) (by simp at pk; omega)
    have ef : fac b p n = geoI (b ^ p.natAbs) n := by unfold fac; rw [if_neg p0]; simp
    rw [ef]
    have hs := two_le_pow hb hb2 p0
    have g1 := geoI_pos1 hs (k := n) (by omega)
    refine ⟨l, e1, by simpa using e2, g1, ?_, ?_, ?_⟩
    · obtain ⟨_, g3⟩ := geoI_lt hs n
      rw [← Int.pow_mul] at g3
      have h1 := NM.pow_small (b := b) (by omega) hb2 (p.natAbs * n)
      have h3 : 2 ^ (6 * (p.natAbs * n) + 1) ≤ 2 ^ 601 := Nat.pow_le_pow_right (by decide) (by simp at pk; omega)
      omega
    · have h5 : (p * ((n : Int) - 1)).natAbs ≤ p.natAbs * n := by
        rw [Int.natAbs_mul]
        exact Nat.mul_le_mul_left _ (by omega)
      simp at pk
      rw [e3]; split <;> omega
    · rw [e3]; split <;> omega
  · refine ⟨0, copies_still hb hb2 k, ?_, by unfold fac; simp; omega, by unfold fac; simpa using kb, by decide, by decide⟩
    have g : ∀ n : Nat, geo b 0 n = (n : Int) := fun n => by
      induction n with
      | zero => rfl
      | succ n ih => rw [geo, ih]; simp [W_zero]
    unfold fac
    rw [g, Int.toNat_of_nonneg (by omega), W_zero, Rat.mul_one, if_pos rfl]
theorem quotient_eq {n e f : Int} (f0 : 0 < f) (f1 : f.natAbs < 2 ^ 601) (hn : n.natAbs < 2 ^ 1000) : ∃ L : Nat, f.natAbs < 2 ^ L ∧ L ≤ 601 ∧
    M_quotient [.int b, .tup [.int n, .int e], .int f] = (if n * b ^ L % f = 0 then .ok (.sh (numD b ((n * b ^ L / f : Int) * W b (e - L)))) else .ok (.sh .non)) := by
  obtain ⟨L, hL⟩ : ∃ L, Builtin.Int.intBits f = L := ⟨_, rfl⟩
  have l1 : L ≤ 601 := by rw [← hL]; exact bits_abs f1
  have l2 : f.natAbs < 2 ^ L := by
    have := NM.lt_bits f.natAbs
    rw [show ((f.natAbs : Nat) : Int) = f by omega, hL] at this
    exact this
  refine ⟨L, l2, l1, ?_⟩
  have pw := power_of_eq (b := b) (by omega) hb2 (c := L) (by omega)
  have pb : (b ^ L).natAbs < 2 ^ 3607 := by
    have h1 := NM.pow_small (b := b) (by omega) hb2 L
    have h3 : 2 ^ (6 * L + 1) ≤ 2 ^ 3607 := Nat.pow_le_pow_right (by decide) (by omega)
    have h4 := NM.pow_pos hb L
    omega
  have m1 : gMul (.int n) (.int (b ^ L)) = some (.val (.int (n * b ^ L))) := mul_ok hn pb (by decide) (by decide) (by decide)
  have mb : (n * b ^ L).natAbs < 2 ^ 4607 := by
    rw [Int.natAbs_mul]
    have := Nat.mul_lt_mul'' hn pb
    rwa [← Nat.pow_add] at this
  generalize n * b ^ L = N at *
  generalize b ^ L = B at *
  have d1 : gDiv (.int N) (.int f) = some (.val (.int (N / f))) := by
    rw [gDiv_int, giv_pos ⟨f0, .inl ((Nat.log2_lt (by omega)).mpr (Nat.lt_of_lt_of_le f1 (Nat.pow_le_pow_right (by decide) (by decide))))⟩]
  have r1 : gMod (.int N) (.int f) = some (.val (.int (N % f))) := giv_pos f0
  have fb : (N / f).natAbs < 2 ^ 8900 := by
    have h5 : (N / f).natAbs ≤ N.natAbs := Int.natAbs_ediv_le_natAbs N f
    have h6 : (2 : Nat) ^ 4607 ≤ 2 ^ 8900 := Nat.pow_le_pow_right (by decide) (by decide)
    omega
  have fo := form_of_val hb hb2 (n := N / f) (e - L) fun h0 => few_of h0 fb
  generalize numD b ((N / f : Int) * W b (e - L)) = R at *
  generalize N / f = Qt at *
  have i0 : ∀ x, gIx (.tup [.int n, .int e]) (.int 0) = some (.val x) ↔ x = .int n := by intro x; simp [tup_ix0, eq_comm]
  unfold M_quotient
  rw [body_eq]
  by_cases h : N % f = 0
  · rw [if_pos h]
    simp [hL, pw, m1, r1, h, d1, tup_ix0, tup_ix1, fo]
  · rw [if_neg h]
    simp [hL, pw, m1, r1, h, tup_ix0, tup_ix1]
end
end PM

namespace PM
open PySem L2 GL DL NR
@[simp] theorem isNon_eff (b : Int) (v : Rat) (q : Int) : DL.isNon (effD b v q) = false := rfl
@[simp] theorem isNon_num (b : Int) (v : Rat) : DL.isNon (numD b v) = false := rfl
section
variable {b : Int} (hb : 2 ≤ b) (hb2 : b ≤ 36)
include hb hb2
omit hb hb2 in
@[simp] theorem isN_non : gIsN .non .non = some (.val (.bl true)) := rfl
omit hb hb2 in
@[simp] theorem notN_non : gNotN .non .non = some (.val (.bl false)) := rfl
omit hb hb2 in
@[simp] theorem isN_num (v : Rat) : gIsN (numD b v) .non = some (.val (.bl false)) := rfl
omit hb hb2 in
@[simp] theorem notN_num (v : Rat) : gNotN (numD b v) .non = some (.val (.bl true)) := rfl
omit hb hb2 in
@[simp] theorem isN_eff (v : Rat) (q : Int) : gIsN (effD b v q) .non = some (.val (.bl false)) := rfl
omit hb hb2 in
@[simp] theorem notN_eff (v : Rat) (q : Int) : gNotN (effD b v q) .non = some (.val (.bl true)) := rfl
omit hb hb2 in
theorem rat_cancel {x y c : Rat} (h : c ≠ 0) (e : x * c = y * c) : x = y := by
  have h1 := Rat.mul_inv_cancel c h
  have : x * c * c⁻¹ = y * c * c⁻¹ := by rw [e]
  rw [Rat.mul_assoc, Rat.mul_assoc, h1, Rat.mul_one, Rat.mul_one] at this
  exact this
/-- when the division goes out -/
theorem goes_out {v G : Rat} {f l : Int} {L : Nat} (hv : Dy b v) (f0 : 0 < f) (hL : f.natAbs < 2 ^ L) (hG : (f : Rat) * W b l = G) :
    (∃ u, Dy b u ∧ u * G = v) → f ∣ nm b v * b ^ L := by
  rintro ⟨u, hu, e⟩
  have e1 := hu.eq hb
  have e2 := hv.eq hb
  generalize nm b u = m at *
  generalize ex b u = g at *
  generalize nm b v = n at *
  generalize ex b v = x at *
  have e3 : ((m * f : Int) : Rat) * W b (g + l) = n * W b x := by
    rw [e2, ← e, ← hG, ← e1, W_add hb, Rat.intCast_mul]; grind
  by_cases h : g + l ≤ x
  · have := mul_W_eq hb e3.symm h
    exact dvd_bitsI f0 hL (t := (x - (g + l)).toNat) (by rw [← this]; exact Int.dvd_mul_left m f)
  · have := mul_W_eq hb e3 (show x ≤ g + l by omega)
    rw [this, Int.mul_assoc, Int.mul_assoc]
    exact Int.dvd_trans (Int.dvd_mul_right f _) (Int.dvd_mul_left m _)
theorem comes_out {v G : Rat} {f l : Int} {L : Nat} (hv : Dy b v) (f0 : 0 < f) (hG : (f : Rat) * W b l = G) (h : f ∣ nm b v * b ^ L) :
    ((nm b v * b ^ L / f : Int) : Rat) * W b (ex b v + -l - L) * G = v := by
  obtain ⟨c, hc⟩ := h
  rw [hc, Int.mul_ediv_cancel_left _ (by omega), ← hG]
  have e2 := hv.eq hb
  have e4 : ((nm b v * b ^ L : Int) : Rat) = (f : Rat) * c := by rw [hc, Rat.intCast_mul]
  rw [Rat.intCast_mul, ← W_nat] at e4
  generalize nm b v = n at *
  generalize ex b v = x at *
  have e5 : W b (x + -l - L) * W b l * W b L = W b x := by
    rw [← W_add hb, ← W_add hb]; congr 1; omega
  have hw := W_ne hb (L : Int)
  have : (c : Rat) * W b (x + -l - L) * (f * W b l) * W b L = v * W b L := by
    rw [← e2]
    calc (c : Rat) * W b (x + -l - L) * (f * W b l) * W b L = (f * c) * (W b (x + -l - L) * W b l * W b L) := by grind
      _ = n * W b L * W b x := by rw [← e4, e5]
      _ = n * W b x * W b L := by grind
  exact rat_cancel hw this
theorem cancel_geo {p k : Int} (h : RootOk p k) : geo b p k.toNat ≠ 0 := by
  obtain ⟨l, _, e, f0, _⟩ := copies_fac hb hb2 h
  rw [← e]
  intro z
  rcases Rat.mul_eq_zero.mp z with z | z
  · have : fac b p k = 0 := by exact_mod_cast z
    omega
  · exact W_ne hb l z
theorem root_core {v : Rat} {q p k : Int} {A : Nat} {lo : Int} (h : Sz b v A lo) (hA : A ≤ 1000) (hv : NumV b v) (hq : -1000 ≤ q ∧ q ≤ 1000) (hk : RootOk p k) (hp : q = p * k) :
    (∀ u, NumV b u → u * geo b p k.toNat = v → M_root [.int b, effD b v q, .int k] = .ok (.sh (effD b u p))) ∧
    ((¬ ∃ u, Dy b u ∧ u * geo b p k.toNat = v) → M_root [.int b, effD b v q, .int k] = .ok (.sh .non)) := by
  have e1 := require_effects_ok hb hb2 (es := [effD b v q]) (by intro e he; rw [List.mem_singleton.mp he]; exact ⟨rfl, isPair_effD hb hb2 hv hq⟩) (.lst [effD b v q]) rfl
  have e2 := is_whole_eq (noObj_int k)
  obtain ⟨l, c1, c2, c3, c4, c5, c6⟩ := copies_fac hb hb2 hk
  have hn : (nm b v).natAbs < 2 ^ 1000 := Nat.lt_of_lt_of_le (h.nm hb) (Nat.pow_le_pow_right (by decide) hA)
  obtain ⟨L, q1, q2, q3⟩ := quotient_eq hb hb2 (n := nm b v) (e := ex b v + -l) c3 c4 hn
  have mv : M_moved [numD b v, .int (-l)] = .ok (.sh (.tup [.int (nm b v), .int (ex b v + -l)])) := moved_eq hb hb2 (nm b v) (ex b v) (-l)
  have k1 := hk.1
  have m0 : q % k = 0 := by rw [hp]; exact Int.mul_emod_left p k
  have d0 : q / k = p := by rw [hp]; exact Int.mul_ediv_cancel p (by omega)
  have g1 : gMod (.int q) (.int k) = some (.val (.int 0)) := by rw [gMod_int, giv_pos (by omega), m0]
  have g2 : gDiv (.int q) (.int k) = some (.val (.int p)) := by
    rw [gDiv_int, giv_pos ⟨by omega, .inr (Nat.lt_of_lt_of_le (show q.natAbs < 2 ^ 10 by omega) (Nat.pow_le_pow_right (by decide) (by decide)))⟩, d0]
  have lt : ¬ k < 1 := by omega
  have out := comes_out hb hb2 (L := L) h.dy c3 c2
  have inn := goes_out hb hb2 (L := L) h.dy c3 q1 c2
  have cg := cancel_geo hb hb2 hk
  generalize fac b p k = f at *
  refine ⟨fun u hu eu => ?_, fun hno => ?_⟩
  · have hd : f ∣ nm b v * b ^ L := inn ⟨u, hu.1, eu⟩
    have ev := out hd
    rw [if_pos (Int.emod_eq_zero_of_dvd hd)] at q3
    have eu2 : ((nm b v * b ^ L / f : Int) : Rat) * W b (ex b v + -l - L) = u := rat_cancel cg (ev.trans eu.symm)
    rw [eu2] at q3
    have lim := limits_numD hb hu
    unfold M_root
    rw [body_eq]
    simp [e1, e2, isWhole, lt, g1, g2, c1, mv, q3, lim, -gMod_int]
  · have hd : ¬ f ∣ nm b v * b ^ L := fun hd => hno ⟨_, ⟨_, _, rfl⟩, out hd⟩
    rw [if_neg (fun z => hd (Int.dvd_of_emod_eq_zero z))] at q3
    unfold M_root
    rw [body_eq]
    simp [e1, e2, isWhole, lt, g1, g2, c1, mv, q3, -gMod_int]
theorem root_odd {v : Rat} {q k : Int} (hv : NumV b v) (hq : -1000 ≤ q ∧ q ≤ 1000) (k1 : 1 ≤ k) (hm : q % k ≠ 0) : M_root [.int b, effD b v q, .int k] = .ok (.sh .non) := by
  have e1 := require_effects_ok hb hb2 (es := [effD b v q]) (by intro e he; rw [List.mem_singleton.mp he]; exact ⟨rfl, isPair_effD hb hb2 hv hq⟩) (.lst [effD b v q]) rfl
  have e2 := is_whole_eq (noObj_int k)
  have g1 : gMod (.int q) (.int k) = some (.val (.int (q % k))) := by rw [gMod_int, giv_pos (by omega)]
  have lt : ¬ k < 1 := by omega
  unfold M_root
  rw [body_eq]
  simp [e1, e2, isWhole, lt, g1, hm, -gMod_int]
end
end PM

namespace NR
/-- b drops out of what b * c + 1 divides -/
theorem dvd_drop {b D n : Int} {c : Int} (hD : D = b * c + 1) : ∀ t : Nat, D ∣ n * b ^ t → D ∣ n
  | 0, h => by simpa using h
  | t + 1, h => by
    refine dvd_drop hD t ?_
    obtain ⟨d, hd⟩ := h
    rw [Int.pow_succ, ← Int.mul_assoc] at hd
    generalize n * b ^ t = x at *
    refine ⟨x - c * d, ?_⟩
    have e2 : D * x = b * c * x + x := by rw [hD, Int.add_mul, Int.one_mul]
    have e3 : D * (c * d) = b * c * x := by
      rw [show D * (c * d) = c * (D * d) by ac_rfl, ← hd]; ac_rfl
    rw [Int.mul_sub, e2, e3]; omega
end NR
namespace PM
open PySem L2 GL DL NR
section
variable {b : Int} (hb : 2 ≤ b) (hb2 : b ≤ 36)
include hb hb2
omit hb hb2 in
theorem rangeD_eq (n : Nat) : rangeD 0 n = (List.range n).map fun (j : Nat) => D.int (j : Int) := by
  apply List.ext_getElem?
  intro i
  by_cases h : i < n
  · rw [rangeD_get 0 h, List.getElem?_map, List.getElem?_range h]; simp
  · rw [List.getElem?_eq_none (by rw [rangeD_len]; omega), List.getElem?_eq_none (by simp; omega)]
omit hb hb2 in
theorem compR_eq (vs : List Nat) (mi : ML) (g : D → En → Option En) (t : En → Res Bool) (m : MD) (Γ : En) : mComp vs mi g t m Γ = (mi Γ).bind fun xs => need (xs.length < 1000000) (compM g t m (wipeE Γ vs) xs) := rfl
omit hb hb2 in
theorem abs_max (p : Int) : (if -p > p then -p else p) = (p.natAbs : Int) := by split <;> omega
omit hb hb2 in
theorem sum_pows (S : Int) : ∀ k : Nat, ((List.range k).map fun j => S ^ j).sum = geoI S k
  | 0 => rfl
  | k + 1 => by
    have h : ∀ k : Nat, geoI S (k + 1) = geoI S k + S ^ k := fun k => by
      induction k with
      | zero => simp [geoI]
      | succ k ih =>
        have e1 : geoI S (k + 1 + 1) = geoI S (k + 1) * S + 1 := rfl
        have e2 : geoI S (k + 1) = geoI S k * S + 1 := rfl
        rw [e1, ih, Int.add_mul, Int.pow_succ]; omega
    rw [List.range_succ, List.map_append, List.sum_append_int, sum_pows S k, h k]; simp
theorem fac_dvd {v : Rat} {p k : Int} (hv : Dy b v) (hk : RootOk p k) (h : p = 0 → k < 16) :
    (∃ t : Nat, t < 40 ∧ fac b p k ∣ nm b v * b ^ t) ↔ ∃ u, Dy b u ∧ u * geo b p k.toNat = v := by
  obtain ⟨l, _, e, f0, f1, _⟩ := copies_fac hb hb2 hk
  constructor
  · rintro ⟨t, _, ht⟩
    exact ⟨_, ⟨_, _, rfl⟩, comes_out hb hb2 hv f0 e ht⟩
  · intro hu
    by_cases hp : p = 0
    · have fk : fac b p k = k := by unfold fac; rw [if_pos hp]
      have := hk.1
      exact ⟨4, by decide, goes_out hb hb2 (L := 4) hv f0 (by rw [fk]; have := h hp; omega) e hu⟩
    · have fk : fac b p k = geoI (b ^ p.natAbs) k.toNat := by unfold fac; rw [if_neg hp]
      obtain ⟨j, hj⟩ : ∃ j, k.toNat = j + 1 := ⟨k.toNat - 1, by have := hk.1; omega⟩
      obtain ⟨i, hi⟩ : ∃ i, p.natAbs = i + 1 := ⟨p.natAbs - 1, by omega⟩
      refine ⟨0, by decide, ?_⟩
      have g := goes_out hb hb2 (L := 601) hv f0 f1 e hu
      rw [fk, hj, geoI, hi, Int.pow_succ] at g ⊢
      rw [Int.pow_zero, Int.mul_one]
      exact dvd_drop (c := geoI (b ^ i * b) j * b ^ i) (by ac_rfl) 601 g
theorem has_root_val {v : Rat} {q k : Int} {A : Nat} {lo : Int} (h : Sz b v A lo) (hA : A ≤ 400) (k1 : 1 ≤ k) (k9 : k ≤ 9) (hq : q.natAbs ≤ 60) :
    ∃ t : Bool, M_law_has_root [.int b, effD b v q, .int k] = .ok (.sh (.bl t)) ∧ (t = true ↔ q % k = 0 ∧ ∃ u, Dy b u ∧ u * geo b (q / k) k.toNat = v) := by
  have g1 : gMod (.int q) (.int k) = some (.val (.int (q % k))) := by rw [gMod_int, giv_pos (by omega)]
  by_cases hm : q % k = 0
  · obtain ⟨p, hp⟩ : ∃ p, q / k = p := ⟨_, rfl⟩
    have hqp : q = p * k := by
      have := Int.emod_add_mul_ediv q k
      rw [hm, hp, Int.zero_add] at this
      rw [← this, Int.mul_comm]
    have g2 : gDiv (.int q) (.int k) = some (.val (.int p)) := by
      rw [gDiv_int, giv_pos ⟨by omega, .inr (Nat.lt_of_lt_of_le (show q.natAbs < 2 ^ 10 by omega) (Nat.pow_le_pow_right (by decide) (by decide)))⟩, hp]
    have hpk : p.natAbs * k.natAbs ≤ 60 := by rw [← Int.natAbs_mul, ← hqp]; exact hq
    have hpa : p.natAbs ≤ 60 := by
      have : p.natAbs * 1 ≤ p.natAbs * k.natAbs := Nat.mul_le_mul_left _ (by omega)
      omega
    have rk : RootOk p k := by
      refine ⟨k1, ?_⟩
      by_cases h0 : p = 0
      · exact .inr ⟨h0, Nat.lt_of_lt_of_le (show k.natAbs < 2 ^ 4 by omega) (Nat.pow_le_pow_right (by decide) (by decide))⟩
      · exact .inl ⟨h0, by omega, by omega, by omega⟩
    obtain ⟨l, _, _, f0, f1, _⟩ := copies_fac hb hb2 rk
    have iff := fac_dvd hb hb2 h.dy rk (fun _ => by omega)
    have hn : (nm b v).natAbs < 2 ^ 400 := Nat.lt_of_lt_of_le (h.nm hb) (Nat.pow_le_pow_right (by decide) hA)
    rw [hp]
    have ha := abs_max p
    obtain ⟨n, rfl⟩ := Int.eq_ofNat_of_zero_le (show 0 ≤ k by omega)
    have hkk : (-1000000 : Int) ≤ n ∧ (n : Int) ≤ 1000000 := by omega
    -- the sum
    have cm : ∀ s0 s1 s2 s3 s4 s5 s8 s9, compM (bName 10) bYes C_law_has_root_1 [.sh (.int b), s0, s1, s2, s3, s4, s5, .sh (.int (p.natAbs : Int)), s8, s9, .un] (rangeD 0 n) = .ok (((List.range n).map fun j => (b ^ p.natAbs) ^ j).map .int) := by
      intro s0 s1 s2 s3 s4 s5 s8 s9
      rw [show ((List.range n).map fun j => (b ^ p.natAbs) ^ j).map D.int = (rangeD 0 n).map (fun d => match d with | .int i => .int ((b ^ p.natAbs) ^ i.toNat) | d => d) by
        rw [rangeD_eq, List.map_map, List.map_map]
        refine List.map_congr_left fun j _ => ?_
        simp]
      refine compM_map _ _ fun x hx => ?_
      obtain ⟨j, hj, rfl⟩ : ∃ j, j < n ∧ x = .int (j : Int) := by
        rw [rangeD_eq] at hx
        obtain ⟨j, hj, rfl⟩ := List.mem_map.mp hx
        exact ⟨j, List.mem_range.mp hj, rfl⟩
      have hpj : p.natAbs * j ≤ 60 := Nat.le_trans (Nat.mul_le_mul_left _ (Nat.le_of_lt hj)) (by simpa using hpk)
      have m1 : gMul (.int (p.natAbs : Int)) (.int (j : Int)) = some (.val (.int ((p.natAbs * j : Nat) : Int))) := by
        have := mul_ok (i := (p.natAbs : Int)) (j := (j : Int)) (a := 7) (b := 4) (by omega) (by omega) (by decide) (by decide) (by decide)
        rw [this]; simp
      have pw := power2_eq (b := b) (by omega) hb2 (c0 := p.natAbs * j) (by omega)
      refine ⟨_, rfl, ?_⟩
      rw [Int.pow_mul] at pw
      generalize ((p.natAbs * j : Nat) : Int) = c at *
      unfold C_law_has_root_1
      simp [m1, pw]
    have sm : gSum (.lst (((List.range n).map fun j => (b ^ p.natAbs) ^ j).map .int)) = some (.val (.int (geoI (b ^ p.natAbs) n))) := by
      show (intsD _).bind _ = _
      rw [intsD_map]
      show some (Giv.val (.int _)) = _
      rw [sum_pows]
    -- the loop
    have hf : ∀ m : Nat, m < 40 → (nm b v * b ^ m).natAbs < 2 ^ 700 := fun m hm => by
      rw [Int.natAbs_mul]
      have h1 := NM.pow_small (b := b) (by omega) hb2 m
      have := Nat.mul_lt_mul'' hn h1
      rw [← Nat.pow_add] at this
      exact Nat.lt_of_lt_of_le this (Nat.pow_le_pow_right (by decide) (by omega))
    obtain ⟨F, hF⟩ : ∃ F, fac b p n = F := ⟨_, rfl⟩
    rw [hF] at f0 f1 iff
    have lp : ∀ x5 x7 x9 x10, ∃ t : Bool, (t = true ↔ ∃ m : Nat, m < 40 ∧ F ∣ nm b v * b ^ m) ∧ ∃ Γ', DL.forM (bName 9) B_law_has_root_1 (rangeD 0 40) [.sh (.int b), .sh (effD b v q), .sh (.int (n : Int)), .sh (numD b v), .sh (.int q), x5, .sh (.int F), x7, .sh (.int (nm b v)), x9, x10] =
        (if t = true then .rt (.sh (.bl true)) else .nx Γ') := by
      intro x5 x7 x9 x10
      rcases forM_find (g := bName 9) (b := B_law_has_root_1) (fun m Γ => ∃ x9, Γ = [.sh (.int b), .sh (effD b v q), .sh (.int (n : Int)), .sh (numD b v), .sh (.int q), x5, .sh (.int F), x7, .sh (.int (nm b v * b ^ m)), x9, x10])
        (fun m _ => decide (nm b v * b ^ m % F = 0)) (fun _ _ => .sh (.bl true)) (rangeD 0 40) 0 _ ⟨x9, rfl⟩ (by
          rintro i x Γ hx ⟨x9, rfl⟩
          have hi : i < 40 := by
            have := (List.getElem?_eq_some_iff.mp hx).1
            rwa [rangeD_len] at this
          rw [Nat.zero_add]
          refine ⟨_, rfl, ?_⟩
          have m1 : gMul (.int (nm b v * b ^ i)) (.int b) = some (.val (.int (nm b v * b ^ (i + 1)))) := by
            rw [mul_ok (a := 700) (b := 6) (hf i hi) (by omega) (by decide) (by decide) (by decide), Int.pow_succ, Int.mul_assoc]
          have r1 : gMod (.int (nm b v * b ^ i)) (.int F) = some (.val (.int (nm b v * b ^ i % F))) := giv_pos f0
          generalize nm b v * b ^ (i + 1) = N1 at *
          generalize nm b v * b ^ i = N at *
          by_cases hz : N % F = 0
          · rw [if_pos (by simpa using hz)]
            unfold B_law_has_root_1
            simp [r1, hz, -gMod_int]
          · rw [if_neg (by simpa using hz)]
            refine ⟨_, .inl (by unfold B_law_has_root_1; simp [r1, hz, m1, -gMod_int] <;> with_reducible rfl), .sh x, rfl⟩) with ⟨i, x, h1, h2, _, h4⟩ | ⟨h1, Γ', h2, _⟩
      · refine ⟨true, ⟨fun _ => ⟨i, ?_, ?_⟩, fun _ => rfl⟩, [], ?_⟩
        · have := (List.getElem?_eq_some_iff.mp h1).1
          rwa [rangeD_len] at this
        · rw [Nat.zero_add] at h2; exact Int.dvd_of_emod_eq_zero (by simpa using h2)
        · rw [if_pos rfl]; simpa using h4
      · refine ⟨false, ⟨fun z => (by cases z), fun ⟨m, hm, hd⟩ => ?_⟩, Γ', ?_⟩
        · have := h1 m (.int (m : Int)) (by have := rangeD_get 0 hm; simpa using this)
          rw [Nat.zero_add] at this
          simp [Int.emod_eq_zero_of_dvd hd] at this
        · rw [if_neg (by simp)]; simpa using h2
    have fin : ∀ x5 x7 x9 x10 t Γ', (t = true ↔ ∃ m : Nat, m < 40 ∧ F ∣ nm b v * b ^ m) → DL.forM (bName 9) B_law_has_root_1 (rangeD 0 40) [.sh (.int b), .sh (effD b v q), .sh (.int (n : Int)), .sh (numD b v), .sh (.int q), x5, .sh (.int F), x7, .sh (.int (nm b v)), x9, x10] =
        (if t = true then .rt (.sh (.bl true)) else .nx Γ') → (t = true ↔ q % n = 0 ∧ ∃ u, Dy b u ∧ u * geo b p (n : Int).toNat = v) := fun _ _ _ _ _ _ h1 _ => by
      rw [h1, iff]; simp [hm]
    have fk : fac b p n = if p = 0 then (n : Int) else geoI (b ^ p.natAbs) n := by unfold fac; simp
    by_cases h0 : p = 0
    · rw [if_pos h0] at fk
      obtain ⟨t, t1, Γ', t2⟩ := lp (.sh (.int p)) .un .un .un
      refine ⟨t, ?_, fin _ _ _ _ _ _ t1 t2⟩
      have hFn : F = n := hF.symm.trans fk
      rw [hFn] at t2
      unfold M_law_has_root
      rw [body_eq]
      subst h0
      cases t <;> simp [g1, g2, hm, t2, -gMod_int]
    · rw [if_neg h0] at fk
      obtain ⟨t, t1, Γ', t2⟩ := lp (.sh (.int p)) (.sh (.int (p.natAbs : Int))) .un .un
      refine ⟨t, ?_, fin _ _ _ _ _ _ t1 t2⟩
      have hFn : geoI (b ^ p.natAbs) n = F := fk.symm.trans hF
      rw [hFn] at sm
      have mx : gMax (.int p) (.int (-p)) = some (.val (.int (p.natAbs : Int))) := by
        show some (Giv.val (.int (if -p > p then -p else p))) = _
        rw [ha]
      have ln : ∀ m : Nat, ((List.range n).map fun j => (b ^ p.natAbs) ^ j).length = n := fun _ => by simp
      have n3 : (rangeD 0 n).length < 1000000 := by rw [rangeD_len]; omega
      generalize ((List.range n).map fun j => (b ^ p.natAbs) ^ j).map D.int = R at *
      unfold M_law_has_root
      rw [body_eq]
      cases t <;> simp [g1, g2, hm, h0, mx, compR_eq, wipeE, hkk, n3, cm, sm, t2, -gMod_int]
  · refine ⟨false, ?_, by simp [hm]⟩
    unfold M_law_has_root
    rw [body_eq]
    simp [g1, hm, -gMod_int]
end
end PM

/-! repr of data whose text is computed -/
namespace PM
open PySem L2 GL DL NR
def txt (d : D) : Str := (pyR d).shown
def textOk (d : D) : Bool := shows d && ((pyR d).showable && (decide ((pyR d).depth ≤ 60) && (decide ((pyR d).shown.length ≤ 5000) && (PyData.str (pyR d).shown).canLay0)))
theorem textOk_iff {d : D} : textOk d = true ↔ shows d = true ∧ (pyR d).showable = true ∧ (pyR d).depth ≤ 60 ∧ (pyR d).shown.length ≤ 5000 ∧ (PyData.str (pyR d).shown).canLay0 = true := by
  unfold textOk
  rw [Bool.and_eq_true, Bool.and_eq_true, Bool.and_eq_true, Bool.and_eq_true, decide_eq_true_iff, decide_eq_true_iff]
theorem txt_repr {d : D} (h : textOk d = true) : gRepr d = some (.val (.str (txt d))) := by
  obtain ⟨h1, h2, h3, h4, _⟩ := textOk_iff.mp h
  exact gRepr_of ⟨h1, h2, h3, Nat.le_trans h4 (by rw [sizeLine_eq]; decide)⟩
theorem txt_smp {d : D} (h : textOk d = true) : Smp (.str (txt d)) := Smp.str (textOk_iff.mp h).2.2.2.2
end PM

/-! effects at their limits, and invalid ones -/
namespace PM
open PySem L2 GL DL NR
def BadE (b : Int) (d : D) : Prop := fair2 d = true ∧ isPair b d = false
def GoodE (b : Int) (d : D) : Prop := fair2 d = true ∧ isPair b d = true
section
variable {b : Int} (hb : 2 ≤ b)
include hb
theorem req_bad {d : D} (h : BadE b d) (r : List D) : M_require_effects [.int b, .lst (d :: r)] = .exc "InvalidEffect" d := by
  have e := is_effect_eq (show 0 < b by omega) h.1
  rw [h.2] at e
  unfold M_require_effects
  rw [body_eq]
  simp [DL.forM, B_require_effects_1, e]
theorem req_good {g d : D} (hg : GoodE b g) (h : BadE b d) : M_require_effects [.int b, .lst [g, d]] = .exc "InvalidEffect" d := by
  have e := is_effect_eq (show 0 < b by omega) h.1
  rw [h.2] at e
  have e2 := is_effect_eq (show 0 < b by omega) hg.1
  rw [hg.2] at e2
  unfold M_require_effects
  rw [body_eq]
  simp [DL.forM, B_require_effects_1, e, e2]
omit hb in
theorem req_ok {g : D} (hb : 2 ≤ b) (hg : GoodE b g) : M_require_effects [.int b, .lst [g]] = .ok (.sh .non) := by
  have e2 := is_effect_eq (show 0 < b by omega) hg.1
  rw [hg.2] at e2
  unfold M_require_effects
  rw [body_eq]
  simp [DL.forM, B_require_effects_1, e2]
end
section
variable {b : Int} (hb : 2 ≤ b) (hb2 : b ≤ 36)
include hb hb2
theorem numD_w (e : Int) : numD b (W b e) = .tup [.int 1, .int e] := by
  have h : Is b (W b e) 1 e := ⟨by rw [show ((1 : Int) : Rat) = 1 from rfl, Rat.one_mul], .inl (by rw [Int.emod_eq_of_lt (by omega) (by omega)]; omega)⟩
  obtain ⟨e1, e2⟩ := h.eq hb
  show D.tup [.int (nm b (W b e)), .int (ex b (W b e))] = _
  rw [← e1, ← e2]
theorem sz_w (e : Int) : Sz b (W b e) 1 e := ⟨1, by rw [show ((1 : Int) : Rat) = 1 from rfl, Rat.one_mul], by decide⟩
end
section
variable {b : Int} (hb : 2 ≤ b) (hb2 : b ≤ 36)
include hb hb2
omit hb2 in
theorem num_is {v : Rat} {n e : Int} (h : Is b v n e) : numD b v = .tup [.int n, .int e] := by
  obtain ⟨e1, e2⟩ := h.eq hb
  unfold numD
  rw [← e1, ← e2]
omit hb2 in
theorem lim_of {v : Rat} {n e : Int} (h : Is b v n e) : M_within_limits [numD b v] = limited n e := by
  rw [num_is hb h]; exact limits_eq n e
omit hb hb2 in
theorem lim_far {n e : Int} (h : few n = true) (he : ¬ (-1000 ≤ e ∧ e ≤ 1000)) : limited n e = .exc "LimitExceeded" (.int 1000) := by unfold limited; rw [if_pos h, if_neg he]
omit hb hb2 in
theorem lim_long {n e : Int} (h : few n = false) : limited n e = .exc "LimitExceeded" (.int 300) := by
  unfold limited; rw [if_neg (by rw [h]; exact Bool.false_ne_true)]
omit hb2 in
theorem numV_is {v : Rat} {n e : Int} (h : Is b v n e) (f : few n = true) (h1 : -1000 ≤ e) (h2 : e ≤ 1000) : NumV b v := by
  obtain ⟨e1, e2⟩ := h.eq hb
  refine ⟨⟨n, e, h.1⟩, ?_, ?_, ?_⟩
  · rw [← e1]; exact f
  · rw [← e2]; exact h1
  · rw [← e2]; exact h2
omit hb2 in
theorem is_w (e : Int) : Is b (W b e) 1 e := ⟨by rw [show ((1 : Int) : Rat) = 1 from rfl, Rat.one_mul], .inl (by rw [Int.emod_eq_of_lt (by omega) (by omega)]; omega)⟩
theorem w_num {e : Int} (h1 : -1000 ≤ e) (h2 : e ≤ 1000) : NumV b (W b e) := numV_is hb (is_w hb e) (by decide +kernel) h1 h2
theorem good_w {e q : Int} (h1 : -1000 ≤ e) (h2 : e ≤ 1000) (hq : -1000 ≤ q ∧ q ≤ 1000) : GoodE b (.tup [.tup [.int 1, .int e], .int q]) := by
  have h := isPair_effD hb hb2 (w_num hb hb2 h1 h2) hq
  unfold effD at h
  rw [numD_w hb hb2] at h
  exact ⟨rfl, h⟩
omit hb hb2 in
theorem good_zero (b : Int) {q : Int} (hq : -1000 ≤ q ∧ q ≤ 1000) : GoodE b (.tup [.tup [.int 0, .int 0], .int q]) := by
  refine ⟨rfl, ?_⟩
  show (isNum b (.tup [.int 0, .int 0]) && (decide (-1000 ≤ q) && decide (q ≤ 1000))) = true
  rw [decide_eq_true hq.1, decide_eq_true hq.2]; rfl
omit hb hb2 in
theorem offset_no {q : Int} (hq : ¬ (-1000 ≤ q ∧ q ≤ 1000)) : M_require_offset [.int q] = .exc "LimitExceeded" (.int 1000) := by
  unfold M_require_offset
  rw [body_eq]
  have e := is_place_eq (noObj_int q)
  have hw : within (-1000) 1000 (.int q) = false := by
    show (decide (-1000 ≤ q) && decide (q ≤ 1000)) = false
    rw [Bool.and_eq_false_iff, decide_eq_false_iff_not, decide_eq_false_iff_not]; omega
  rw [hw] at e
  simp [e]
omit hb2 in
theorem power_off {x : D} {q k p : Int} (hg : GoodE b (.tup [x, .int q])) (m1 : gMul (.int q) (.int k) = some (.val (.int p))) (h : ¬ (-1000 ≤ p ∧ p ≤ 1000)) : M_power [.int b, .tup [x, .int q], .int k] = .exc "LimitExceeded" (.int 1000) := by
  have e1 := req_ok hb hg
  have e2 := is_whole_eq (noObj_int k)
  have e3 := offset_no h
  unfold M_power
  rw [body_eq]
  simp [e1, e2, isWhole, m1, e3]
theorem power_exc {v : Rat} {q k : Int} {A : Nat} {lo : Int} (h : Sz b v A lo) (hA : A ≤ 1000) (hv : NumV b v) (hq : -1000 ≤ q ∧ q ≤ 1000) (hk : PowOk q k) (hqk : -1000 ≤ q * k ∧ q * k ≤ 1000) (h0 : 0 ≤ k) {c : String} {d : D} (lim : M_within_limits [numD b (powV b v q k)] = .exc c d) :
    M_power [.int b, effD b v q, .int k] = .exc c d := by
  have e1 := require_effects_ok hb hb2 (es := [effD b v q]) (by intro e he; rw [List.mem_singleton.mp he]; exact ⟨rfl, isPair_effD hb hb2 hv hq⟩) (.lst [effD b v q]) rfl
  have e2 := is_whole_eq (noObj_int k)
  have e3 := require_offset_ok hb hb2 hqk
  have kb : k.natAbs < 2 ^ 1200 := by
    rcases hk with ⟨_, _, h2, _⟩ | ⟨_, h2⟩
    · exact Nat.lt_of_lt_of_le (show k.natAbs < 2 ^ 11 by omega) (Nat.pow_le_pow_right (by decide) (by decide))
    · exact h2
  have m1 : gMul (.int q) (.int k) = some (.val (.int (q * k))) := mul_ok (a := 11) (b := 1200) (by omega) kb (by decide) (by decide) (by decide)
  have hn : (nm b v).natAbs < 2 ^ 1000 := Nat.lt_of_lt_of_le (h.nm hb) (Nat.pow_le_pow_right (by decide) hA)
  obtain ⟨f, p, c1, c2, c3, c4⟩ := copies_any hb hb2 hk h0
  have hval : ((nm b v : Int) : Rat) * W b (ex b v) * ((f : Rat) * W b p) = powV b v q k := by
    rw [c2, powV, if_pos h0, h.dy.eq hb]
  have hm : (nm b v * f).natAbs < 2 ^ 8900 := by
    rw [Int.natAbs_mul]
    refine Nat.lt_of_lt_of_le (Nat.mul_lt_mul'' hn c3) ?_
    rw [← Nat.pow_add]
    exact Nat.pow_le_pow_right (by decide) (by decide)
  have f1 : gMul (.int (nm b v)) (.int f) = some (.val (.int (nm b v * f))) := mul_ok hn c3 (by decide) (by decide) (by decide)
  have f2 : M_form_of [.int b, .int (nm b v * f), .int (ex b v + p)] = .ok (.sh (numD b (powV b v q k))) := by
    have r := form_of_val hb hb2 (n := nm b v * f) (ex b v + p) (fun h0 => few_of h0 hm)
    have : ((nm b v * f : Int) : Rat) * W b (ex b v + p) = powV b v q k := by
      rw [← hval, W_add hb, Rat.intCast_mul]; grind
    rw [this] at r
    exact r
  have hneg : ¬ k < 0 := by omega
  unfold M_power
  rw [body_eq]
  simp [e1, e2, isWhole, m1, e3, hneg, c1, f1, f2, lim]
theorem conj_exc {n e q m f r : Int} {z : D} {c : String} {d : D} (h1 : GoodE b (.tup [.tup [.int n, .int e], .int q])) (h2 : GoodE b (.tup [.tup [.int m, .int f], .int r]))
    (e2 : M_sum_of [.int b, .lst [.tup [.int m, .int f], .tup [.int n, .int (e + r)], .tup [.int (-m), .int (f + q)]]] = .ok (.sh z)) (lim : M_within_limits [z] = .exc c d) :
    M_conjugate [.int b, .tup [.tup [.int n, .int e], .int q], .tup [.tup [.int m, .int f], .int r]] = .exc c d := by
  have e1 := require_effects_ok hb hb2 (es := [.tup [.tup [.int n, .int e], .int q], .tup [.tup [.int m, .int f], .int r]]) (fun e he => by
    rcases List.mem_cons.mp he with rfl | he
    · exact h1
    · rw [List.mem_singleton.mp he]; exact h2) (.lst _) rfl
  have m1 := moved_eq hb hb2 n e r
  have m2 := negative_eq hb hb2 m f
  have m3 := moved_eq hb hb2 (-m) f q
  unfold M_conjugate
  rw [body_eq]
  simp [tup_ix0, tup_ix1, e1, m1, m2, m3, e2, lim]
/-- 1, as far as it goes to the right or to the left -/
theorem conj_right : M_conjugate [.int b, .tup [.tup [.int 1, .int 1000], .int 0], .tup [.tup [.int 1, .int 0], .int 1]] = .exc "LimitExceeded" (.int 1000) := by
  have e := sum_of_val hb hb2 [(1, 0), (1, 1001), (-1, 0)] (by decide) (S := 3) (D := 1001) (by decide) (by decide +kernel) (by decide) (by decide +kernel)
  have ev : valP b [(1, 0), (1, 1001), (-1, 0)] = W b 1001 := by
    unfold valP
    simp only [List.map_cons, List.map_nil, List.sum_cons, List.sum_nil, W_zero]
    rw [show ((1 : Int) : Rat) = 1 from rfl, show ((-1 : Int) : Rat) = -1 from rfl]; grind
  rw [ev] at e
  exact conj_exc hb hb2 (good_w hb hb2 (by decide) (by decide) (by decide)) (good_w hb hb2 (by decide) (by decide) (by decide)) e ((lim_of hb (is_w hb 1001)).trans (lim_far (by decide +kernel) (by decide)))
theorem conj_left : M_conjugate [.int b, .tup [.tup [.int 1, .int (-1000)], .int 0], .tup [.tup [.int 0, .int 0], .int (-1)]] = .exc "LimitExceeded" (.int 1000) := by
  have e := sum_of_val hb hb2 [(0, 0), (1, -1001), (0, 0)] (by decide) (S := 3) (D := 1001) (by decide) (by decide +kernel) (by decide) (by decide +kernel)
  have ev : valP b [(0, 0), (1, -1001), (0, 0)] = W b (-1001) := by
    unfold valP
    simp only [List.map_cons, List.map_nil, List.sum_cons, List.sum_nil, W_zero]
    rw [show ((1 : Int) : Rat) = 1 from rfl, show ((0 : Int) : Rat) = 0 from rfl]; grind
  rw [ev] at e
  exact conj_exc hb hb2 (good_w hb hb2 (by decide) (by decide) (by decide)) (good_zero b (by decide)) e ((lim_of hb (is_w hb (-1001))).trans (lim_far (by decide +kernel) (by decide)))
theorem root_exc {v u : Rat} {q p k : Int} {A : Nat} {lo : Int} (h : Sz b v A lo) (hA : A ≤ 1000) (hv : NumV b v) (hq : -1000 ≤ q ∧ q ≤ 1000) (hk : RootOk p k) (hp : q = p * k) (hu : Dy b u) (eu : u * geo b p k.toNat = v) {c : String} {d : D} (lim : M_within_limits [numD b u] = .exc c d) :
    M_root [.int b, effD b v q, .int k] = .exc c d := by
  have e1 := require_effects_ok hb hb2 (es := [effD b v q]) (by intro e he; rw [List.mem_singleton.mp he]; exact ⟨rfl, isPair_effD hb hb2 hv hq⟩) (.lst [effD b v q]) rfl
  have e2 := is_whole_eq (noObj_int k)
  obtain ⟨l, c1, c2, c3, c4, c5, c6⟩ := copies_fac hb hb2 hk
  have hn : (nm b v).natAbs < 2 ^ 1000 := Nat.lt_of_lt_of_le (h.nm hb) (Nat.pow_le_pow_right (by decide) hA)
  obtain ⟨L, q1, q2, q3⟩ := quotient_eq hb hb2 (n := nm b v) (e := ex b v + -l) c3 c4 hn
  have mv : M_moved [numD b v, .int (-l)] = .ok (.sh (.tup [.int (nm b v), .int (ex b v + -l)])) := moved_eq hb hb2 (nm b v) (ex b v) (-l)
  have k1 := hk.1
  have m0 : q % k = 0 := by rw [hp]; exact Int.mul_emod_left p k
  have d0 : q / k = p := by rw [hp]; exact Int.mul_ediv_cancel p (by omega)
  have g1 : gMod (.int q) (.int k) = some (.val (.int 0)) := by rw [gMod_int, giv_pos (by omega), m0]
  have g2 : gDiv (.int q) (.int k) = some (.val (.int p)) := by
    rw [gDiv_int, giv_pos ⟨by omega, .inr (Nat.lt_of_lt_of_le (show q.natAbs < 2 ^ 10 by omega) (Nat.pow_le_pow_right (by decide) (by decide)))⟩, d0]
  have lt : ¬ k < 1 := by omega
  have out := comes_out hb hb2 (L := L) h.dy c3 c2
  have inn := goes_out hb hb2 (L := L) h.dy c3 q1 c2
  have cg := cancel_geo hb hb2 hk
  generalize fac b p k = f at *
  have hd : f ∣ nm b v * b ^ L := inn ⟨u, hu, eu⟩
  have ev := out hd
  rw [if_pos (Int.emod_eq_zero_of_dvd hd)] at q3
  have eu2 : ((nm b v * b ^ L / f : Int) : Rat) * W b (ex b v + -l - L) = u := rat_cancel cg (ev.trans eu.symm)
  rw [eu2] at q3
  unfold M_root
  rw [body_eq]
  simp [e1, e2, isWhole, lt, g1, g2, c1, mv, q3, lim, -gMod_int]
/-! ### far apart -/
omit hb2 in
theorem few_far {lo hi n e : Int} (h : lo < hi) (hv : W b lo + W b hi = n * W b e) (he : lo ≤ e) : Few b n := by
  obtain ⟨d, hd⟩ : ∃ d : Nat, hi = lo + ((d + 1 : Nat) : Int) := ⟨(hi - lo).toNat - 1, by omega⟩
  have e1 : W b lo + W b hi = ((1 + b ^ (d + 1) : Int) : Rat) * W b lo := by
    rw [hd, W_add hb, W_nat, Rat.intCast_add, show ((1 : Int) : Rat) = 1 from rfl]; grind
  have e2 := mul_W_eq hb (hv.symm.trans e1) he
  intro k hk
  cases k with
  | zero => rw [Int.pow_zero]; exact Nat.one_lt_two_pow (by decide)
  | succ k =>
    exfalso
    have h1 : b ∣ n := Int.dvd_trans ⟨b ^ k, by rw [Int.pow_succ, Int.mul_comm]⟩ (Int.dvd_of_emod_eq_zero hk)
    have h2 : b ∣ 1 + b ^ (d + 1) := by rw [e2]; exact Int.dvd_trans h1 (Int.dvd_mul_right _ _)
    have h3 : b ∣ b ^ (d + 1) := ⟨b ^ d, by rw [Int.pow_succ, Int.mul_comm]⟩
    have h4 : b ∣ 1 := by
      have := Int.dvd_sub h2 h3
      rwa [show 1 + b ^ (d + 1) - b ^ (d + 1) = 1 by omega] at this
    have := Int.le_of_dvd (by decide) h4
    omega
theorem sum_far {x y : Int} (h : x ≠ y) (hd : x - y ≤ 2100) (hd2 : y - x ≤ 2100) : M_sum_of [.int b, .lst [.tup [.int 1, .int x], .tup [.int 1, .int y]]] = .ok (.sh (numD b (W b x + W b y))) := by
  have ev : valP b [(1, x), (1, y)] = W b x + W b y := by
    unfold valP
    simp only [List.map_cons, List.map_nil, List.sum_cons, List.sum_nil]
    rw [show ((1 : Int) : Rat) = 1 from rfl]; grind
  have e := sum_of_few hb hb2 [(1, x), (1, y)] (by simp) (S := 2) (D := 2100) (by simp [absP]) (by decide +kernel) (by decide) (fun n e hv he _ => by
    rw [ev] at hv
    have he' : e = x ∨ e = y := by
      obtain ⟨p, hp, _, rfl⟩ := he
      rcases List.mem_cons.mp hp with rfl | hp
      · exact .inl rfl
      · rw [List.mem_singleton.mp hp]; exact .inr rfl
    rcases Int.lt_or_lt_of_ne h with h | h
    · exact few_far hb h hv (by omega)
    · exact few_far hb h ((Rat.add_comm _ _).trans hv) (by omega)) (fun p hp q hq _ _ => by
    have : ∀ p ∈ [((1 : Int), x), (1, y)], p.2 = x ∨ p.2 = y := fun p hp => by
      rcases List.mem_cons.mp hp with rfl | hp
      · exact .inl rfl
      · rw [List.mem_singleton.mp hp]; exact .inr rfl
    have h1 := this p hp
    have h2 := this q hq
    omega)
  rw [ev] at e
  exact e
theorem commutes_far {a : Int} (h0 : 0 ≤ a) (h1 : a ≤ 8) : ∃ t, M_commutes [.int b, .tup [.tup [.int 1, .int 1000], .int a], .tup [.tup [.int 1, .int (-1000)], .int a]] = .ok (.sh (.bl t)) := by
  have e1 := require_effects_ok hb hb2 (es := [.tup [.tup [.int 1, .int 1000], .int a], .tup [.tup [.int 1, .int (-1000)], .int a]]) (fun e he => by
    rcases List.mem_cons.mp he with rfl | he
    · exact good_w hb hb2 (by decide) (by decide) (by omega)
    · rw [List.mem_singleton.mp he]; exact good_w hb hb2 (by decide) (by decide) (by omega)) (.lst _) rfl
  have m1 := moved_eq hb hb2 1 (-1000) a
  have m2 := moved_eq hb hb2 1 1000 a
  have s1 := sum_far hb hb2 (x := 1000) (y := -1000 + a) (by omega) (by omega) (by omega)
  have s2 := sum_far hb hb2 (x := -1000) (y := 1000 + a) (by omega) (by omega) (by omega)
  have q1 := gEq_num hb ((Dy.w hb 1000).add hb (Dy.w hb (-1000 + a))) ((Dy.w hb (-1000)).add hb (Dy.w hb (1000 + a)))
  generalize decide (W b 1000 + W b (-1000 + a) = W b (-1000) + W b (1000 + a)) = t at q1
  refine ⟨t, ?_⟩
  unfold M_commutes
  rw [body_eq]
  simp [tup_ix0, tup_ix1, e1, m1, m2, s1, s2, q1]
theorem conjugators_far {a : Int} (h0 : 0 ≤ a) (h1 : a ≤ 8) : ∃ xs, M_conjugators [.int b, .tup [.tup [.int 1, .int 1000], .int a], .tup [.tup [.int 1, .int (-1000)], .int a]] = .ok (.own xs) := by
  have ok : ∀ e : Int, -1000 ≤ e → e ≤ 1000 → EffOk b (W b e) a := fun e h1 h2 => ⟨w_num hb hb2 h1 h2, by
    obtain ⟨e1, _⟩ := (is_w hb e).eq hb
    rw [← e1]; exact Nat.one_lt_two_pow (by decide), by omega⟩
  have e := conjugators_val hb hb2 (ok 1000 (by decide) (by decide)) (ok (-1000) (by decide) (by decide))
  unfold effD at e
  rw [numD_w hb hb2, numD_w hb hb2] at e
  exact ⟨_, e⟩
omit hb hb2 in
theorem geoI_odd (b : Int) (k : Nat) : geoI (b ^ 4) (k + 1) % b = 1 % b := by
  show (geoI (b ^ 4) k * b ^ 4 + 1) % b = 1 % b
  rw [Int.pow_succ, ← Int.mul_assoc, Int.add_comm, Int.add_mul_emod_self_right]
end
end PM

/-! numbers as some laws write them (base, power, integer, number), by value -/
namespace PM
open PySem L2 GL DL NR
theorem base_eq {d : Int} (h0 : 0 ≤ d) : ∃ b, M_law_base [.int d] = .ok (.sh (.int b)) ∧ 2 ≤ b ∧ b ≤ 36 := by
  unfold M_law_base
  rw [body_eq]
  have h1 := Int.emod_nonneg d (show (7 : Int) ≠ 0 by decide)
  have h2 := Int.emod_lt_of_pos d (show (0 : Int) < 7 by decide)
  obtain ⟨b, hb, b0, b1⟩ : ∃ b : Int, gIx (.lst [.int 2, .int 10, .int 3, .int 7, .int 16, .int 36, .int 5]) (.int (d % 7)) = some (.val (.int b)) ∧ 2 ≤ b ∧ b ≤ 36 := by
    have : d % 7 = 0 ∨ d % 7 = 1 ∨ d % 7 = 2 ∨ d % 7 = 3 ∨ d % 7 = 4 ∨ d % 7 = 5 ∨ d % 7 = 6 := by omega
    rcases this with h | h | h | h | h | h | h <;> rw [h]
    · exact ⟨2, rfl, by decide, by decide⟩
    · exact ⟨10, rfl, by decide, by decide⟩
    · exact ⟨3, rfl, by decide, by decide⟩
    · exact ⟨7, rfl, by decide, by decide⟩
    · exact ⟨16, rfl, by decide, by decide⟩
    · exact ⟨36, rfl, by decide, by decide⟩
    · exact ⟨5, rfl, by decide, by decide⟩
  exact ⟨b, by simp [hb], b0, b1⟩
theorem power_turn2 {b : Int} (hb0 : 0 ≤ b) (hb : b ≤ 36) (c : D) {k : Nat} (hk : k ≤ 2000) (x3 : DL.Slot) :
    B_law_power_1 [.sh (.int b), .sh c, .sh (.int (b ^ k)), x3] = .nx [.sh (.int b), .sh c, .sh (.int (b ^ (k + 1))), x3] := by
  unfold B_law_power_1
  have m : gMul (.int (b ^ k)) (.int b) = some (.val (.int (b ^ (k + 1)))) := by
    rw [mul_ok (b := 6) (NM.pow_small hb0 hb k) (lt_pow hb0 (by omega)) (by omega) (by decide) (by omega), Int.pow_succ]
  simp [m]
theorem law_power_eq {b : Int} (hb0 : 0 ≤ b) (hb : b ≤ 36) {c : Nat} (hc : c ≤ 2000) : M_law_power [.int b, .int (c : Int)] = .ok (.sh (.int (b ^ c))) := by
  unfold M_law_power
  rw [body_eq]
  obtain ⟨Γ', e1, x3, rfl⟩ := forM_inv (g := bName 3) (b := B_law_power_1) (fun k Γ => ∃ x3, Γ = [.sh (.int b), .sh (.int (c : Int)), .sh (.int (b ^ k)), x3]) (rangeD 0 c) 0 [.sh (.int b), .sh (.int (c : Int)), .sh (.int 1), .un] ⟨.un, by rw [Int.pow_zero]⟩ (by
    rintro i x Γ hx ⟨x3, rfl⟩
    have hi : i < c := by
      have := (List.getElem?_eq_some_iff.mp hx).1
      rwa [rangeD_len] at this
    rw [Nat.zero_add]
    exact ⟨_, _, rfl, .inl (power_turn2 hb0 hb _ (by omega) _), _, rfl⟩)
  rw [Nat.zero_add, rangeD_len] at e1
  have r : (-1000000 : Int) ≤ c ∧ (c : Int) ≤ 1000000 := by omega
  simp [r, e1]
theorem integer2_eq {ds : List Int} {n : Nat} (hd : Digs 420 n ds) (hn : 6 ≤ n) : ∃ i, M_law_integer_v2 [.lst (ds.map .int)] = .ok (.sh (.int i)) ∧ i.natAbs < 2 ^ 300 := by
  unfold M_law_integer_v2
  rw [body_eq]
  obtain ⟨x0, g0, p0, q0⟩ := hd.ix (i := 0) (by omega)
  obtain ⟨x1, g1, p1, q1⟩ := hd.ix (i := 1) (by omega)
  obtain ⟨x2, g2, p2, q2⟩ := hd.ix (i := 2) (by omega)
  obtain ⟨x3, g3, p3, q3⟩ := hd.ix (i := 3) (by omega)
  obtain ⟨x4, g4, p4, q4⟩ := hd.ix (i := 4) (by omega)
  obtain ⟨x5, g5, p5, q5⟩ := hd.ix (i := 5) (by omega)
  have g0 : gIx (.lst (ds.map .int)) (.int 0) = some (.val (.int x0)) := g0
  have g1 : gIx (.lst (ds.map .int)) (.int 1) = some (.val (.int x1)) := g1
  have g2 : gIx (.lst (ds.map .int)) (.int 2) = some (.val (.int x2)) := g2
  have g3 : gIx (.lst (ds.map .int)) (.int 3) = some (.val (.int x3)) := g3
  have g4 : gIx (.lst (ds.map .int)) (.int 4) = some (.val (.int x4)) := g4
  have g5 : gIx (.lst (ds.map .int)) (.int 5) = some (.val (.int x5)) := g5
  have k1 : gMul (.int 420) (.int 420) = some (.val (.int 176400)) := mul_ok (a := 9) (b := 9) (by decide) (by decide) (by decide) (by decide) (by decide)
  have k2 : gPow (.int 10) (.int 40) = some (.val (.int (10 ^ 40))) := pow_ok (j := 40) (a := 4) (by decide) (by decide)
  have k3 : gPow (.int 10) (.int 60) = some (.val (.int (10 ^ 60))) := pow_ok (j := 60) (a := 4) (by decide) (by decide)
  have m1 : gMul (.int x1) (.int 420) = some (.val (.int (x1 * 420))) := mul_ok (a := 9) (b := 9) (lt_pow p1 (by omega)) (by decide) (by decide) (by decide) (by decide)
  have m2 : gMul (.int (x1 * 420 + x2)) (.int 420) = some (.val (.int ((x1 * 420 + x2) * 420))) := mul_ok (a := 18) (b := 9) (lt_pow (by omega) (by omega)) (by decide) (by decide) (by decide) (by decide)
  generalize hM : (x1 * 420 + x2) * 420 + x3 = M
  have M0 : 0 ≤ M ∧ M < 2 ^ 27 := by omega
  have h1 := Int.emod_nonneg x0 (show (6 : Int) ≠ 0 by decide)
  have h2 := Int.emod_lt_of_pos x0 (show (0 : Int) < 6 by decide)
  have b40 : (0 : Int) ≤ 10 ^ 40 ∧ (10 : Int) ^ 40 < 2 ^ 210 := by decide +kernel
  have b60 : (0 : Int) ≤ 10 ^ 60 ∧ (10 : Int) ^ 60 < 2 ^ 210 := by decide +kernel
  generalize (10 : Int) ^ 40 = T4 at k2 b40
  generalize (10 : Int) ^ 60 = T6 at k3 b60
  obtain ⟨S, hS, S0, S1⟩ : ∃ S : Int, gIx (.lst [.int 1, .int 12, .int 420, .int 176400, .int T4, .int T6]) (.int (x0 % 6)) = some (.val (.int S)) ∧ 0 ≤ S ∧ S < 2 ^ 210 := by
    have big : (176400 : Int) < 2 ^ 210 := by decide +kernel
    have : x0 % 6 = 0 ∨ x0 % 6 = 1 ∨ x0 % 6 = 2 ∨ x0 % 6 = 3 ∨ x0 % 6 = 4 ∨ x0 % 6 = 5 := by omega
    generalize (2 : Int) ^ 210 = BB at big b40 b60 ⊢
    rcases this with h | h | h | h | h | h <;> rw [h]
    · exact ⟨1, rfl, by omega, by omega⟩
    · exact ⟨12, rfl, by omega, by omega⟩
    · exact ⟨420, rfl, by omega, by omega⟩
    · exact ⟨176400, rfl, by omega, by omega⟩
    · exact ⟨T4, rfl, b40.1, b40.2⟩
    · exact ⟨T6, rfl, b60.1, b60.2⟩
  have d1 : gDiv (.int S) (.int 7) = some (.val (.int (S / 7))) := div_ok (a := 3) (by decide) (by decide) (by decide) (by decide)
  have R0 : 0 ≤ S / 7 + 1 ∧ S / 7 + 1 < 2 ^ 211 := by
    have e : (2 : Int) ^ 211 = 2 ^ 210 * 2 := by rw [← Int.pow_succ]
    have := Int.ediv_nonneg S0 (show (0 : Int) ≤ 7 by decide)
    have h7 : S / 7 ≤ S := Int.ediv_le_self _ S0
    rw [e]
    have : (1 : Int) ≤ 2 ^ 210 := by decide +kernel
    generalize (2 : Int) ^ 210 = BB at *
    omega
  generalize hR : S / 7 + 1 = R at R0
  have m3 : gMul (.int M) (.int R) = some (.val (.int (M * R))) := mul_ok (a := 27) (b := 211) (lt_pow M0.1 M0.2) (lt_pow R0.1 R0.2) (by decide) (by decide) (by decide)
  have d2 : gDiv (.int (M * R)) (.int (1 + x4)) = some (.val (.int (M * R / (1 + x4)))) := div_ok (a := 9) (by omega) (lt_pow (by omega) (by omega)) (by decide) (by decide)
  have V0 : 0 ≤ M * R / (1 + x4) + M % 9 ∧ (M * R / (1 + x4) + M % 9).natAbs < 2 ^ 300 := by
    have h3 : 0 ≤ M * R := Int.mul_nonneg M0.1 R0.1
    have h4 := Int.ediv_nonneg h3 (show (0 : Int) ≤ 1 + x4 by omega)
    have h5 : M * R / (1 + x4) ≤ M * R := Int.ediv_le_self _ h3
    have h6 := Int.emod_nonneg M (show (9 : Int) ≠ 0 by decide)
    have h7 := Int.emod_lt_of_pos M (show (0 : Int) < 9 by decide)
    have h8 : M * R ≤ 2 ^ 27 * 2 ^ 211 := Int.mul_le_mul (by omega) (by omega) R0.1 (by decide)
    have h9 : (2 : Int) ^ 27 * 2 ^ 211 + 9 < 2 ^ 300 := by decide +kernel
    generalize M * R = MR at *
    generalize MR / (1 + x4) = Q at *
    refine ⟨by omega, lt_pow (by omega) ?_⟩
    generalize (2 : Int) ^ 27 * 2 ^ 211 = B1 at *
    generalize (2 : Int) ^ 300 = B2 at *
    omega
  generalize hV : M * R / (1 + x4) + M % 9 = V at V0
  by_cases c1 : 0 < x0 % 13
  · by_cases c2 : x5 % 2 = 1
    · refine ⟨0 - V, ?_, by rw [Int.zero_sub, Int.natAbs_neg]; exact V0.2⟩
      simp [g0, g1, g2, g3, g4, g5, k1, k2, k3, m1, m2, hM, hS, d1, hR, m3, d2, hV, c1, c2, show 0 < 1 + x4 by omega]
    · refine ⟨V, ?_, V0.2⟩
      simp [g0, g1, g2, g3, g4, g5, k1, k2, k3, m1, m2, hM, hS, d1, hR, m3, d2, hV, c1, c2, show 0 < 1 + x4 by omega]
  · refine ⟨0, ?_, by decide +kernel⟩
    simp [g0, g1, g2, g3, g4, g5, k1, k2, k3, m1, m2, hM, hS, d1, hR, m3, d2, hV, c1, show 0 < 1 + x4 by omega]

section
variable {b : Int} (hb : 2 ≤ b) (hb2 : b ≤ 36)
include hb hb2
theorem number2_val {ds : List Int} {n : Nat} (hd : Digs 420 n ds) (hn : 7 ≤ n) : ∃ v, M_law_number_v2 [.int b, .lst (ds.map .int)] = .ok (.sh (numD b v)) ∧ Sz b v 350 (-4) ∧ (nm b v).natAbs < 2 ^ 300 := by
  obtain ⟨x6, g6, p6, q6⟩ := hd.ix (i := 6) (by omega)
  have g6 : gIx (.lst (ds.map .int)) (.int 6) = some (.val (.int x6)) := g6
  obtain ⟨i, e1, e2⟩ := integer2_eq hd (by omega)
  have h9 := Int.emod_nonneg x6 (show (9 : Int) ≠ 0 by decide)
  have h9' := Int.emod_lt_of_pos x6 (show (0 : Int) < 9 by decide)
  have r := law_form_val hb hb2 (n := i) (x6 % 9 - 4) e2 (by decide)
  refine ⟨(i : Rat) * W b (x6 % 9 - 4), ?_, (Sz.of e2).to hb hb2 (by omega) (by omega), Nat.lt_of_le_of_lt (nm_le hb) e2⟩
  generalize hE : x6 % 9 - 4 = E at *
  unfold M_law_number_v2
  rw [body_eq]
  simp [g6, e1, hE, r]
/-- the law's sum of two points -/
theorem law_sum1_pt {n1 e1 n2 e2 : Int} (h1 : n1.natAbs < 2 ^ 9000) (h2 : n2.natAbs < 2 ^ 9000) (hd : (e1 - e2).natAbs ≤ 2000) :
    M_law_sum [.int b, .tup [.int n1, .int e1], .tup [.int n2, .int e2]] = .ok (.sh (numD b (n1 * W b e1 + n2 * W b e2))) := by
  unfold M_law_sum
  rw [body_eq]
  generalize hlo : (if e2 < e1 then e2 else e1) = lo
  have l1 : lo ≤ e1 := by rw [← hlo]; split <;> omega
  have l2 : lo ≤ e2 := by rw [← hlo]; split <;> omega
  have l3 : e1 - lo ≤ 2000 ∧ e2 - lo ≤ 2000 := by rw [← hlo]; split <;> omega
  obtain ⟨c1, k1⟩ : ∃ c : Nat, e1 - lo = c := ⟨(e1 - lo).toNat, by omega⟩
  obtain ⟨c2, k2⟩ : ∃ c : Nat, e2 - lo = c := ⟨(e2 - lo).toNat, by omega⟩
  have hv := sum_low hb hb2 (n1 := n1) (n2 := n2) l1 l2
  rw [k1, k2, Int.toNat_natCast, Int.toNat_natCast] at hv
  have p1 := law_power_eq (b := b) (by omega) hb2 (c := c1) (by omega)
  have p2 := law_power_eq (b := b) (by omega) hb2 (c := c2) (by omega)
  have s1 : (b ^ c1).natAbs < 2 ^ 24001 := bd_pow (by omega) hb2 (by omega)
  have s2 : (b ^ c2).natAbs < 2 ^ 24001 := bd_pow (by omega) hb2 (by omega)
  have m1 : gMul (.int n1) (.int (b ^ c1)) = some (.val (.int (n1 * b ^ c1))) := mul_ok h1 s1 (by decide) (by decide) (by decide)
  have m2 : gMul (.int n2) (.int (b ^ c2)) = some (.val (.int (n2 * b ^ c2))) := mul_ok h2 s2 (by decide) (by decide) (by decide)
  have bd : (n1 * b ^ c1 + n2 * b ^ c2).natAbs < 2 ^ 66003 := by
    haveI : Bd n1 9000 := ⟨h1⟩
    haveI : Bd n2 9000 := ⟨h2⟩
    haveI : Bd (b ^ c1) 24001 := ⟨s1⟩
    haveI : Bd (b ^ c2) 24001 := ⟨s2⟩
    exact (inferInstance : Bd (n1 * b ^ c1 + n2 * b ^ c2) (9000 + 24001 + (9000 + 24001) + 1)).lt
  have r := law_form_val hb hb2 lo bd (by decide)
  rw [hv] at r
  generalize b ^ c1 = P1 at *
  generalize b ^ c2 = P2 at *
  simp [tup_ix0, tup_ix1, hlo, k1, k2, p1, p2, m1, m2, r]
theorem sum2_pt {n1 e1 n2 e2 : Int} (h1 : n1.natAbs < 2 ^ 300) (h2 : n2.natAbs < 2 ^ 300) (hd : (e1 - e2).natAbs ≤ 1400) :
    M_sum_of [.int b, .lst [.tup [.int n1, .int e1], .tup [.int n2, .int e2]]] = .ok (.sh (numD b (n1 * W b e1 + n2 * W b e2))) := by
  have e := sum_of_val hb hb2 [(n1, e1), (n2, e2)] (by simp) (S := 2 ^ 301) (D := 1400) (by
    simp only [absP, List.map_cons, List.map_nil, List.sum_cons, List.sum_nil]
    have : (2 : Nat) ^ 301 = 2 ^ 300 + 2 ^ 300 := by rw [Nat.pow_succ]; omega
    rw [this]; omega) (by decide +kernel) (by decide) (fun p hp q hq _ _ => by
    have : ∀ p ∈ [(n1, e1), (n2, e2)], p.2 = e1 ∨ p.2 = e2 := fun p hp => by
      rcases List.mem_cons.mp hp with rfl | hp
      · exact .inl rfl
      · rw [List.mem_singleton.mp hp]; exact .inr rfl
    have h1 := this p hp
    have h2 := this q hq
    omega)
  have ev : valP b [(n1, e1), (n2, e2)] = n1 * W b e1 + n2 * W b e2 := by
    unfold valP
    simp only [List.map_cons, List.map_nil, List.sum_cons, List.sum_nil]
    grind
  rw [ev] at e
  exact e
end
end PM

namespace K03
open PySem L2 GL DL PM
def top (i : Nat) : Stmt := PySem.Challenge.pw_abacushead_k03_sums_of_numbers.main.body.getD i (.Pass ⟨0, 0, 0, 0⟩)
abbrev s_InvalidNumber_init : Stmt := inClass (top 2) 0
theorem sc_InvalidNumber_init : FnScope ["self", "value"] ["self", "value"] (defScope s_InvalidNumber_init) := ⟨rfl, rfl, rfl, by decide +kernel, rfl, by decide +kernel, by decide +kernel⟩
abbrev s_InvalidState_init : Stmt := inClass (top 3) 0
theorem sc_InvalidState_init : FnScope ["self", "value"] ["self", "value"] (defScope s_InvalidState_init) := ⟨rfl, rfl, rfl, by decide +kernel, rfl, by decide +kernel, by decide +kernel⟩
abbrev s_LimitExceeded_init : Stmt := inClass (top 4) 0
theorem sc_LimitExceeded_init : FnScope ["self", "limit"] ["self", "limit"] (defScope s_LimitExceeded_init) := ⟨rfl, rfl, rfl, by decide +kernel, rfl, by decide +kernel, by decide +kernel⟩
abbrev s_is_whole : Stmt := top 7
theorem sc_is_whole : FnScope ["value"] ["value"] (defScope s_is_whole) := ⟨rfl, rfl, rfl, by decide +kernel, rfl, by decide +kernel, by decide +kernel⟩
abbrev s_is_within : Stmt := top 8
theorem sc_is_within : FnScope ["value", "low", "high"] ["value", "low", "high"] (defScope s_is_within) := ⟨rfl, rfl, rfl, by decide +kernel, rfl, by decide +kernel, by decide +kernel⟩
abbrev s_is_place : Stmt := top 9
theorem sc_is_place : FnScope ["value"] ["value"] (defScope s_is_place) := ⟨rfl, rfl, rfl, by decide +kernel, rfl, by decide +kernel, by decide +kernel⟩
abbrev s_power_of : Stmt := top 10
theorem sc_power_of : FnScope ["base", "count", "power", "bit"] ["base", "count"] (defScope s_power_of) := ⟨rfl, rfl, rfl, by decide +kernel, rfl, by decide +kernel, by decide +kernel⟩
abbrev s_is_number : Stmt := top 13
theorem sc_is_number : FnScope ["base", "value", "numerator", "exponent"] ["base", "value"] (defScope s_is_number) := ⟨rfl, rfl, rfl, by decide +kernel, rfl, by decide +kernel, by decide +kernel⟩
abbrev s_make_number : Stmt := top 14
theorem sc_make_number : FnScope ["base", "numerator", "exponent"] ["base", "numerator", "exponent"] (defScope s_make_number) := ⟨rfl, rfl, rfl, by decide +kernel, rfl, by decide +kernel, by decide +kernel⟩
abbrev s_plus : Stmt := top 15
theorem sc_plus : FnScope ["base", "one", "other"] ["base", "one", "other"] (defScope s_plus) := ⟨rfl, rfl, rfl, by decide +kernel, rfl, by decide +kernel, by decide +kernel⟩
abbrev s_minus : Stmt := top 16
theorem sc_minus : FnScope ["base", "one", "other"] ["base", "one", "other"] (defScope s_minus) := ⟨rfl, rfl, rfl, by decide +kernel, rfl, by decide +kernel, by decide +kernel⟩
abbrev s_scaled : Stmt := top 17
theorem sc_scaled : FnScope ["base", "number", "places", "numerator", "exponent"] ["base", "number", "places"] (defScope s_scaled) := ⟨rfl, rfl, rfl, by decide +kernel, rfl, by decide +kernel, by decide +kernel⟩
abbrev s_floor_at : Stmt := top 18
theorem sc_floor_at : FnScope ["base", "number", "place"] ["base", "number", "place"] (defScope s_floor_at) := ⟨rfl, rfl, rfl, by decide +kernel, rfl, by decide +kernel, by decide +kernel⟩
abbrev s_units : Stmt := top 19
theorem sc_units : FnScope ["base", "number", "place", "numerator", "exponent"] ["base", "number", "place"] (defScope s_units) := ⟨rfl, rfl, rfl, by decide +kernel, rfl, by decide +kernel, by decide +kernel⟩
abbrev s_negative : Stmt := top 20
theorem sc_negative : FnScope ["number", "numerator", "exponent"] ["number"] (defScope s_negative) := ⟨rfl, rfl, rfl, by decide +kernel, rfl, by decide +kernel, by decide +kernel⟩
abbrev s_form_of : Stmt := top 21
theorem sc_form_of : FnScope ["base", "numerator", "exponent", "shortened", "factors"] ["base", "numerator", "exponent"] (defScope s_form_of) := ⟨rfl, rfl, rfl, by decide +kernel, rfl, by decide +kernel, by decide +kernel⟩
abbrev s_sum_of : Stmt := top 22
theorem sc_sum_of : FnScope ["base", "parts", "amounts", "numerator", "exponent", "place", "total"] ["base", "parts"] (defScope s_sum_of) := ⟨rfl, rfl, rfl, by decide +kernel, rfl, by decide +kernel, by decide +kernel⟩
abbrev s_within_limits : Stmt := top 23
theorem sc_within_limits : FnScope ["number", "numerator", "exponent"] ["number"] (defScope s_within_limits) := ⟨rfl, rfl, rfl, by decide +kernel, rfl, by decide +kernel, by decide +kernel⟩
abbrev s_require_numbers : Stmt := top 24
theorem sc_require_numbers : FnScope ["base", "values", "value"] ["base", "values"] (defScope s_require_numbers) := ⟨rfl, rfl, rfl, by decide +kernel, rfl, by decide +kernel, by decide +kernel⟩
abbrev s_has_few_digits : Stmt := top 25
theorem sc_has_few_digits : FnScope ["numerator"] ["numerator"] (defScope s_has_few_digits) := ⟨rfl, rfl, rfl, by decide +kernel, rfl, by decide +kernel, by decide +kernel⟩
abbrev s_without_factors : Stmt := top 26
theorem sc_without_factors : FnScope ["base", "numerator", "powers", "factors", "power"] ["base", "numerator"] (defScope s_without_factors) := ⟨rfl, rfl, rfl, by decide +kernel, rfl, by decide +kernel, by decide +kernel⟩
abbrev s_law_numbers : Stmt := top 28
theorem sc_law_numbers : FnScope ["_law_cell", "_law_salt", "_law_sizes", "_law_number_here", "_law_left", "_law_result", "_law_k", "_law_one"] ["_law_cell", "_law_salt", "_law_sizes"] (defScope s_law_numbers) := ⟨rfl, rfl, rfl, by decide +kernel, rfl, by decide +kernel, by decide +kernel⟩
abbrev s_law_power : Stmt := top 29
theorem sc_law_power : FnScope ["_law_base_here", "_law_count", "_law_result", "_law_turn"] ["_law_base_here", "_law_count"] (defScope s_law_power) := ⟨rfl, rfl, rfl, by decide +kernel, rfl, by decide +kernel, by decide +kernel⟩
abbrev s_law_form : Stmt := top 30
theorem sc_law_form : FnScope ["_law_base_here", "_law_numerator", "_law_exponent"] ["_law_base_here", "_law_numerator", "_law_exponent"] (defScope s_law_form) := ⟨rfl, rfl, rfl, by decide +kernel, rfl, by decide +kernel, by decide +kernel⟩
abbrev s_law_sum : Stmt := top 31
theorem sc_law_sum : FnScope ["_law_base_here", "_law_one", "_law_other", "_law_low", "_law_whole"] ["_law_base_here", "_law_one", "_law_other"] (defScope s_law_sum) := ⟨rfl, rfl, rfl, by decide +kernel, rfl, by decide +kernel, by decide +kernel⟩
abbrev s_law_base : Stmt := top 32
theorem sc_law_base : FnScope ["_law_digit"] ["_law_digit"] (defScope s_law_base) := ⟨rfl, rfl, rfl, by decide +kernel, rfl, by decide +kernel, by decide +kernel⟩
abbrev s_law_integer : Stmt := top 33
theorem sc_law_integer : FnScope ["_law_digits", "_law_size", "_law_mixed", "_law_result"] ["_law_digits"] (defScope s_law_integer) := ⟨rfl, rfl, rfl, by decide +kernel, rfl, by decide +kernel, by decide +kernel⟩
abbrev s_law_number : Stmt := top 34
theorem sc_law_number : FnScope ["_law_base_here", "_law_digits"] ["_law_base_here", "_law_digits"] (defScope s_law_number) := ⟨rfl, rfl, rfl, by decide +kernel, rfl, by decide +kernel, by decide +kernel⟩
abbrev s_law_got : Stmt := top 35
theorem sc_law_got : FnScope ["_law_door", "_law_base_here", "_law_one", "_law_other", "_law_result", "e"] ["_law_door", "_law_base_here", "_law_one", "_law_other"] (defScope s_law_got) := ⟨rfl, rfl, rfl, by decide +kernel, rfl, by decide +kernel, by decide +kernel⟩
abbrev s_law_limited : Stmt := top 36
theorem sc_law_limited : FnScope ["_law_number_here"] ["_law_number_here"] (defScope s_law_limited) := ⟨rfl, rfl, rfl, by decide +kernel, rfl, by decide +kernel, by decide +kernel⟩
abbrev s_law_floor : Stmt := top 37
theorem sc_law_floor : FnScope ["_law_base_here", "_law_number_here", "_law_place"] ["_law_base_here", "_law_number_here", "_law_place"] (defScope s_law_floor) := ⟨rfl, rfl, rfl, by decide +kernel, rfl, by decide +kernel, by decide +kernel⟩
abbrev s_law_far : Stmt := top 38
theorem sc_law_far : FnScope ["_law_base_here", "_law_number_here", "_law_digit"] ["_law_base_here", "_law_number_here", "_law_digit"] (defScope s_law_far) := ⟨rfl, rfl, rfl, by decide +kernel, rfl, by decide +kernel, by decide +kernel⟩
abbrev s_law_floors_ok : Stmt := top 39
theorem sc_law_floors_ok : FnScope ["_law_base_here", "_law_one", "_law_far_here", "_law_digit", "_law_place"] ["_law_base_here", "_law_one", "_law_far_here", "_law_digit"] (defScope s_law_floors_ok) := ⟨rfl, rfl, rfl, by decide +kernel, rfl, by decide +kernel, by decide +kernel⟩
abbrev s_law : Stmt := top 40
theorem sc_law : FnScope ["_law_script", "_law_k", "_law_cell", "_law_digits", "_law_base_here", "_law_one", "_law_other", "_law_pairs", "_law_far_here", "_law_first", "_law_second", "_law_back", "_law_want", "_law_door", "_law_number_here", "_law_places", "_law_odd"] ["_law_script"] (defScope s_law) := ⟨rfl, rfl, rfl, by decide +kernel, rfl, by decide +kernel, by decide +kernel⟩
structure Tx (K : PySem.W.Frag) (mg : Str → Option Value) where
  f_is_whole : Addr
  fd_is_whole : FuncData
  is_whole : Df K mg "is_whole" s_is_whole ["value"] f_is_whole fd_is_whole
  f_is_within : Addr
  fd_is_within : FuncData
  is_within : Df K mg "is_within" s_is_within ["value", "low", "high"] f_is_within fd_is_within
  f_is_place : Addr
  fd_is_place : FuncData
  is_place : Df K mg "is_place" s_is_place ["value"] f_is_place fd_is_place
  f_power_of : Addr
  fd_power_of : FuncData
  power_of : Df K mg "power_of" s_power_of ["base", "count"] f_power_of fd_power_of
  f_is_number : Addr
  fd_is_number : FuncData
  is_number : Df K mg "is_number" s_is_number ["base", "value"] f_is_number fd_is_number
  f_make_number : Addr
  fd_make_number : FuncData
  make_number : Df K mg "make_number" s_make_number ["base", "numerator", "exponent"] f_make_number fd_make_number
  f_plus : Addr
  fd_plus : FuncData
  plus : Df K mg "plus" s_plus ["base", "one", "other"] f_plus fd_plus
  f_minus : Addr
  fd_minus : FuncData
  minus : Df K mg "minus" s_minus ["base", "one", "other"] f_minus fd_minus
  f_scaled : Addr
  fd_scaled : FuncData
  scaled : Df K mg "scaled" s_scaled ["base", "number", "places"] f_scaled fd_scaled
  f_floor_at : Addr
  fd_floor_at : FuncData
  floor_at : Df K mg "floor_at" s_floor_at ["base", "number", "place"] f_floor_at fd_floor_at
  f_units : Addr
  fd_units : FuncData
  units : Df K mg "units" s_units ["base", "number", "place"] f_units fd_units
  f_negative : Addr
  fd_negative : FuncData
  negative : Df K mg "negative" s_negative ["number"] f_negative fd_negative
  f_form_of : Addr
  fd_form_of : FuncData
  form_of : Df K mg "form_of" s_form_of ["base", "numerator", "exponent"] f_form_of fd_form_of
  f_sum_of : Addr
  fd_sum_of : FuncData
  sum_of : Df K mg "sum_of" s_sum_of ["base", "parts"] f_sum_of fd_sum_of
  f_within_limits : Addr
  fd_within_limits : FuncData
  within_limits : Df K mg "within_limits" s_within_limits ["number"] f_within_limits fd_within_limits
  f_require_numbers : Addr
  fd_require_numbers : FuncData
  require_numbers : Df K mg "require_numbers" s_require_numbers ["base", "values"] f_require_numbers fd_require_numbers
  f_has_few_digits : Addr
  fd_has_few_digits : FuncData
  has_few_digits : Df K mg "has_few_digits" s_has_few_digits ["numerator"] f_has_few_digits fd_has_few_digits
  f_without_factors : Addr
  fd_without_factors : FuncData
  without_factors : Df K mg "without_factors" s_without_factors ["base", "numerator"] f_without_factors fd_without_factors
  f_law_numbers : Addr
  fd_law_numbers : FuncData
  law_numbers : Df K mg "_law_numbers" s_law_numbers ["_law_cell", "_law_salt", "_law_sizes"] f_law_numbers fd_law_numbers
  f_law_power : Addr
  fd_law_power : FuncData
  law_power : Df K mg "_law_power" s_law_power ["_law_base_here", "_law_count"] f_law_power fd_law_power
  f_law_form : Addr
  fd_law_form : FuncData
  law_form : Df K mg "_law_form" s_law_form ["_law_base_here", "_law_numerator", "_law_exponent"] f_law_form fd_law_form
  f_law_sum : Addr
  fd_law_sum : FuncData
  law_sum : Df K mg "_law_sum" s_law_sum ["_law_base_here", "_law_one", "_law_other"] f_law_sum fd_law_sum
  f_law_base : Addr
  fd_law_base : FuncData
  law_base : Df K mg "_law_base" s_law_base ["_law_digit"] f_law_base fd_law_base
  f_law_integer : Addr
  fd_law_integer : FuncData
  law_integer : Df K mg "_law_integer" s_law_integer ["_law_digits"] f_law_integer fd_law_integer
  f_law_number : Addr
  fd_law_number : FuncData
  law_number : Df K mg "_law_number" s_law_number ["_law_base_here", "_law_digits"] f_law_number fd_law_number
  f_law_got : Addr
  fd_law_got : FuncData
  law_got : Df K mg "_law_got" s_law_got ["_law_door", "_law_base_here", "_law_one", "_law_other"] f_law_got fd_law_got
  f_law_limited : Addr
  fd_law_limited : FuncData
  law_limited : Df K mg "_law_limited" s_law_limited ["_law_number_here"] f_law_limited fd_law_limited
  f_law_floor : Addr
  fd_law_floor : FuncData
  law_floor : Df K mg "_law_floor" s_law_floor ["_law_base_here", "_law_number_here", "_law_place"] f_law_floor fd_law_floor
  f_law_far : Addr
  fd_law_far : FuncData
  law_far : Df K mg "_law_far" s_law_far ["_law_base_here", "_law_number_here", "_law_digit"] f_law_far fd_law_far
  f_law_floors_ok : Addr
  fd_law_floors_ok : FuncData
  law_floors_ok : Df K mg "_law_floors_ok" s_law_floors_ok ["_law_base_here", "_law_one", "_law_far_here", "_law_digit"] f_law_floors_ok fd_law_floors_ok
  f_law : Addr
  fd_law : FuncData
  law : Df K mg "law" s_law ["_law_script"] f_law fd_law
  C_InvalidNumber : Addr
  fI_InvalidNumber : Addr
  InvalidNumber : ErrTxt K mg C_InvalidNumber fI_InvalidNumber "InvalidNumber" "value" "Exception" "Exception.__new__" [.type "Exception", .type "BaseException", .type "object"]
  C_InvalidState : Addr
  fI_InvalidState : Addr
  InvalidState : ErrTxt K mg C_InvalidState fI_InvalidState "InvalidState" "value" "Exception" "Exception.__new__" [.type "Exception", .type "BaseException", .type "object"]
  C_LimitExceeded : Addr
  fI_LimitExceeded : Addr
  LimitExceeded : ErrTxt K mg C_LimitExceeded fI_LimitExceeded "LimitExceeded" "limit" "OverflowError" "OverflowError.__new__" [.type "OverflowError", .type "ArithmeticError", .type "Exception", .type "BaseException", .type "object"]
  C_HeadError : Addr
  h_HeadError : mg "HeadError" = some (.ref C_HeadError)
  t_MAX_PLACE : Tok
  c_MAX_PLACE : mg "MAX_PLACE" = some (.int 1000 t_MAX_PLACE)
  t_MAX_DIGITS : Tok
  c_MAX_DIGITS : mg "MAX_DIGITS" = some (.int 300 t_MAX_DIGITS)
  b_abs : mg "abs" = none
  b_bool : mg "bool" = none
  b_enumerate : mg "enumerate" = none
  b_int : mg "int" = none
  b_isinstance : mg "isinstance" = none
  b_len : mg "len" = none
  b_max : mg "max" = none
  b_min : mg "min" = none
  b_range : mg "range" = none
  b_repr : mg "repr" = none
  b_reversed : mg "reversed" = none
  b_sorted : mg "sorted" = none
  b_tuple : mg "tuple" = none
  x_kit_InvalidNumber_HeadError : PySem.W.kitOne K (.ref C_InvalidNumber) (.ref C_HeadError) = some true
  x_kit_InvalidNumber_InvalidState : PySem.W.kitOne K (.ref C_InvalidNumber) (.ref C_InvalidState) = some false
  x_exm_InvalidState_InvalidNumber : PySem.W.exmOne K (.ref C_InvalidState) (.ref C_InvalidNumber) = some false
  x_exm_LimitExceeded_InvalidNumber : PySem.W.exmOne K (.ref C_LimitExceeded) (.ref C_InvalidNumber) = some false
  x_exm_InvalidNumber_LimitExceeded : PySem.W.exmOne K (.ref C_InvalidNumber) (.ref C_LimitExceeded) = some false
  x_exm_InvalidState_LimitExceeded : PySem.W.exmOne K (.ref C_InvalidState) (.ref C_LimitExceeded) = some false
section
variable {K : PySem.W.Frag} {mg : Str → Option Value}
def Tx.et (T : Tx K mg) : ET := fun x => if x = "InvalidNumber" then some (T.C_InvalidNumber, ("value" : Str)) else if x = "InvalidState" then some (T.C_InvalidState, ("value" : Str)) else if x = "LimitExceeded" then some (T.C_LimitExceeded, ("limit" : Str)) else none
theorem Tx.et_InvalidNumber (T : Tx K mg) : T.et "InvalidNumber" = some (T.C_InvalidNumber, ("value" : Str)) := by simp [Tx.et]
theorem Tx.et_InvalidState (T : Tx K mg) : T.et "InvalidState" = some (T.C_InvalidState, ("value" : Str)) := by simp [Tx.et]
theorem Tx.et_LimitExceeded (T : Tx K mg) : T.et "LimitExceeded" = some (T.C_LimitExceeded, ("limit" : Str)) := by simp [Tx.et]
theorem Tx.cat_InvalidNumber (T : Tx K mg) : CatOk K T.et (.ref T.C_InvalidNumber) (fun x => x == "InvalidNumber") := fun x C fld h => by
  unfold Tx.et at h
  by_cases h1 : x = "InvalidNumber"
  · rw [if_pos h1] at h; cases h; subst h1; exact T.InvalidNumber.te
  rw [if_neg h1] at h; clear h1
  by_cases h1 : x = "InvalidState"
  · rw [if_pos h1] at h; cases h; subst h1; exact T.x_exm_InvalidState_InvalidNumber
  rw [if_neg h1] at h; clear h1
  by_cases h1 : x = "LimitExceeded"
  · rw [if_pos h1] at h; cases h; subst h1; exact T.x_exm_LimitExceeded_InvalidNumber
  rw [if_neg h1] at h; clear h1
  cases h
theorem Tx.cat_LimitExceeded (T : Tx K mg) : CatOk K T.et (.ref T.C_LimitExceeded) (fun x => x == "LimitExceeded") := fun x C fld h => by
  unfold Tx.et at h
  by_cases h1 : x = "InvalidNumber"
  · rw [if_pos h1] at h; cases h; subst h1; exact T.x_exm_InvalidNumber_LimitExceeded
  rw [if_neg h1] at h; clear h1
  by_cases h1 : x = "InvalidState"
  · rw [if_pos h1] at h; cases h; subst h1; exact T.x_exm_InvalidState_LimitExceeded
  rw [if_neg h1] at h; clear h1
  by_cases h1 : x = "LimitExceeded"
  · rw [if_pos h1] at h; cases h; subst h1; exact T.LimitExceeded.te
  rw [if_neg h1] at h; clear h1
  cases h
end
set_option maxHeartbeats 0 in
def mkTx {K : PySem.W.Frag} {h : Heap} {mg : Str → Option Value} (X : K.In h) (G : h.Ns mainGlobals mg)
  {f_is_whole : Addr} {od_is_whole an_is_whole : Option Addr} {sl_is_whole : Array (Option Value)} {oc_is_whole kV_is_whole dc_is_whole pm_is_whole cd_is_whole ct_is_whole : Value}
  {f_is_within : Addr} {od_is_within an_is_within : Option Addr} {sl_is_within : Array (Option Value)} {oc_is_within kV_is_within dc_is_within pm_is_within cd_is_within ct_is_within : Value}
  {f_is_place : Addr} {od_is_place an_is_place : Option Addr} {sl_is_place : Array (Option Value)} {oc_is_place kV_is_place dc_is_place pm_is_place cd_is_place ct_is_place : Value}
  {f_power_of : Addr} {od_power_of an_power_of : Option Addr} {sl_power_of : Array (Option Value)} {oc_power_of kV_power_of dc_power_of pm_power_of cd_power_of ct_power_of : Value}
  {f_is_number : Addr} {od_is_number an_is_number : Option Addr} {sl_is_number : Array (Option Value)} {oc_is_number kV_is_number dc_is_number pm_is_number cd_is_number ct_is_number : Value}
  {f_make_number : Addr} {od_make_number an_make_number : Option Addr} {sl_make_number : Array (Option Value)} {oc_make_number kV_make_number dc_make_number pm_make_number cd_make_number ct_make_number : Value}
  {f_plus : Addr} {od_plus an_plus : Option Addr} {sl_plus : Array (Option Value)} {oc_plus kV_plus dc_plus pm_plus cd_plus ct_plus : Value}
  {f_minus : Addr} {od_minus an_minus : Option Addr} {sl_minus : Array (Option Value)} {oc_minus kV_minus dc_minus pm_minus cd_minus ct_minus : Value}
  {f_scaled : Addr} {od_scaled an_scaled : Option Addr} {sl_scaled : Array (Option Value)} {oc_scaled kV_scaled dc_scaled pm_scaled cd_scaled ct_scaled : Value}
  {f_floor_at : Addr} {od_floor_at an_floor_at : Option Addr} {sl_floor_at : Array (Option Value)} {oc_floor_at kV_floor_at dc_floor_at pm_floor_at cd_floor_at ct_floor_at : Value}
  {f_units : Addr} {od_units an_units : Option Addr} {sl_units : Array (Option Value)} {oc_units kV_units dc_units pm_units cd_units ct_units : Value}
  {f_negative : Addr} {od_negative an_negative : Option Addr} {sl_negative : Array (Option Value)} {oc_negative kV_negative dc_negative pm_negative cd_negative ct_negative : Value}
  {f_form_of : Addr} {od_form_of an_form_of : Option Addr} {sl_form_of : Array (Option Value)} {oc_form_of kV_form_of dc_form_of pm_form_of cd_form_of ct_form_of : Value}
  {f_sum_of : Addr} {od_sum_of an_sum_of : Option Addr} {sl_sum_of : Array (Option Value)} {oc_sum_of kV_sum_of dc_sum_of pm_sum_of cd_sum_of ct_sum_of : Value}
  {f_within_limits : Addr} {od_within_limits an_within_limits : Option Addr} {sl_within_limits : Array (Option Value)} {oc_within_limits kV_within_limits dc_within_limits pm_within_limits cd_within_limits ct_within_limits : Value}
  {f_require_numbers : Addr} {od_require_numbers an_require_numbers : Option Addr} {sl_require_numbers : Array (Option Value)} {oc_require_numbers kV_require_numbers dc_require_numbers pm_require_numbers cd_require_numbers ct_require_numbers : Value}
  {f_has_few_digits : Addr} {od_has_few_digits an_has_few_digits : Option Addr} {sl_has_few_digits : Array (Option Value)} {oc_has_few_digits kV_has_few_digits dc_has_few_digits pm_has_few_digits cd_has_few_digits ct_has_few_digits : Value}
  {f_without_factors : Addr} {od_without_factors an_without_factors : Option Addr} {sl_without_factors : Array (Option Value)} {oc_without_factors kV_without_factors dc_without_factors pm_without_factors cd_without_factors ct_without_factors : Value}
  {f_law_numbers : Addr} {od_law_numbers an_law_numbers : Option Addr} {sl_law_numbers : Array (Option Value)} {oc_law_numbers kV_law_numbers dc_law_numbers pm_law_numbers cd_law_numbers ct_law_numbers : Value}
  {f_law_power : Addr} {od_law_power an_law_power : Option Addr} {sl_law_power : Array (Option Value)} {oc_law_power kV_law_power dc_law_power pm_law_power cd_law_power ct_law_power : Value}
  {f_law_form : Addr} {od_law_form an_law_form : Option Addr} {sl_law_form : Array (Option Value)} {oc_law_form kV_law_form dc_law_form pm_law_form cd_law_form ct_law_form : Value}
  {f_law_sum : Addr} {od_law_sum an_law_sum : Option Addr} {sl_law_sum : Array (Option Value)} {oc_law_sum kV_law_sum dc_law_sum pm_law_sum cd_law_sum ct_law_sum : Value}
  {f_law_base : Addr} {od_law_base an_law_base : Option Addr} {sl_law_base : Array (Option Value)} {oc_law_base kV_law_base dc_law_base pm_law_base cd_law_base ct_law_base : Value}
  {f_law_integer : Addr} {od_law_integer an_law_integer : Option Addr} {sl_law_integer : Array (Option Value)} {oc_law_integer kV_law_integer dc_law_integer pm_law_integer cd_law_integer ct_law_integer : Value}
  {f_law_number : Addr} {od_law_number an_law_number : Option Addr} {sl_law_number : Array (Option Value)} {oc_law_number kV_law_number dc_law_number pm_law_number cd_law_number ct_law_number : Value}
  {f_law_got : Addr} {od_law_got an_law_got : Option Addr} {sl_law_got : Array (Option Value)} {oc_law_got kV_law_got dc_law_got pm_law_got cd_law_got ct_law_got : Value}
  {f_law_limited : Addr} {od_law_limited an_law_limited : Option Addr} {sl_law_limited : Array (Option Value)} {oc_law_limited kV_law_limited dc_law_limited pm_law_limited cd_law_limited ct_law_limited : Value}
  {f_law_floor : Addr} {od_law_floor an_law_floor : Option Addr} {sl_law_floor : Array (Option Value)} {oc_law_floor kV_law_floor dc_law_floor pm_law_floor cd_law_floor ct_law_floor : Value}
  {f_law_far : Addr} {od_law_far an_law_far : Option Addr} {sl_law_far : Array (Option Value)} {oc_law_far kV_law_far dc_law_far pm_law_far cd_law_far ct_law_far : Value}
  {f_law_floors_ok : Addr} {od_law_floors_ok an_law_floors_ok : Option Addr} {sl_law_floors_ok : Array (Option Value)} {oc_law_floors_ok kV_law_floors_ok dc_law_floors_ok pm_law_floors_ok cd_law_floors_ok ct_law_floors_ok : Value}
  {f_law : Addr} {od_law an_law : Option Addr} {sl_law : Array (Option Value)} {oc_law kV_law dc_law pm_law cd_law ct_law : Value}
  {C_InvalidNumber I_InvalidNumber N_InvalidNumber : Addr} {nm_InvalidNumber q_InvalidNumber : Str} {bs_InvalidNumber bm_InvalidNumber sub_InvalidNumber : List Value} {sn_InvalidNumber : List Str} {ab_InvalidNumber : Bool} {col_InvalidNumber : Option Bool} {dd_InvalidNumber : Option Addr} {m0_InvalidNumber m1_InvalidNumber m2_InvalidNumber m3_InvalidNumber m5_InvalidNumber : Option Value}
  {od_InvalidNumber an_InvalidNumber : Option Addr} {sl_InvalidNumber : Array (Option Value)} {oc_InvalidNumber dc_InvalidNumber pm_InvalidNumber cd_InvalidNumber cv_InvalidNumber : Value}
  {C_InvalidState I_InvalidState N_InvalidState : Addr} {nm_InvalidState q_InvalidState : Str} {bs_InvalidState bm_InvalidState sub_InvalidState : List Value} {sn_InvalidState : List Str} {ab_InvalidState : Bool} {col_InvalidState : Option Bool} {dd_InvalidState : Option Addr} {m0_InvalidState m1_InvalidState m2_InvalidState m3_InvalidState m5_InvalidState : Option Value}
  {od_InvalidState an_InvalidState : Option Addr} {sl_InvalidState : Array (Option Value)} {oc_InvalidState dc_InvalidState pm_InvalidState cd_InvalidState cv_InvalidState : Value}
  {C_LimitExceeded I_LimitExceeded N_LimitExceeded : Addr} {nm_LimitExceeded q_LimitExceeded : Str} {bs_LimitExceeded bm_LimitExceeded sub_LimitExceeded : List Value} {sn_LimitExceeded : List Str} {ab_LimitExceeded : Bool} {col_LimitExceeded : Option Bool} {dd_LimitExceeded : Option Addr} {m0_LimitExceeded m1_LimitExceeded m2_LimitExceeded m3_LimitExceeded m5_LimitExceeded : Option Value}
  {od_LimitExceeded an_LimitExceeded : Option Addr} {sl_LimitExceeded : Array (Option Value)} {oc_LimitExceeded dc_LimitExceeded pm_LimitExceeded cd_LimitExceeded cv_LimitExceeded : Value}
  {C_HeadError : Addr}
  {t_MAX_PLACE : Tok}
  {t_MAX_DIGITS : Tok}
  (a_is_whole : PySem.W.nsIn K mainGlobals "is_whole" = some (some (.ref f_is_whole)))
  (l_is_whole : K.lookup f_is_whole = some ⟨oc_is_whole, od_is_whole, .func (PySem.W.fnOf "is_whole" "is_whole" (defArgs s_is_whole) (defBody s_is_whole) (defScope s_is_whole) .none kV_is_whole dc_is_whole pm_is_whole an_is_whole cd_is_whole ct_is_whole), sl_is_whole⟩)
  (c_is_whole : PySem.W.codeIn K cd_is_whole "is_whole" = true)
  (k_is_whole : PySem.W.keepIn K (.ref f_is_whole) = true)
  (a_is_within : PySem.W.nsIn K mainGlobals "is_within" = some (some (.ref f_is_within)))
  (l_is_within : K.lookup f_is_within = some ⟨oc_is_within, od_is_within, .func (PySem.W.fnOf "is_within" "is_within" (defArgs s_is_within) (defBody s_is_within) (defScope s_is_within) .none kV_is_within dc_is_within pm_is_within an_is_within cd_is_within ct_is_within), sl_is_within⟩)
  (c_is_within : PySem.W.codeIn K cd_is_within "is_within" = true)
  (k_is_within : PySem.W.keepIn K (.ref f_is_within) = true)
  (a_is_place : PySem.W.nsIn K mainGlobals "is_place" = some (some (.ref f_is_place)))
  (l_is_place : K.lookup f_is_place = some ⟨oc_is_place, od_is_place, .func (PySem.W.fnOf "is_place" "is_place" (defArgs s_is_place) (defBody s_is_place) (defScope s_is_place) .none kV_is_place dc_is_place pm_is_place an_is_place cd_is_place ct_is_place), sl_is_place⟩)
  (c_is_place : PySem.W.codeIn K cd_is_place "is_place" = true)
  (k_is_place : PySem.W.keepIn K (.ref f_is_place) = true)
  (a_power_of : PySem.W.nsIn K mainGlobals "power_of" = some (some (.ref f_power_of)))
  (l_power_of : K.lookup f_power_of = some ⟨oc_power_of, od_power_of, .func (PySem.W.fnOf "power_of" "power_of" (defArgs s_power_of) (defBody s_power_of) (defScope s_power_of) .none kV_power_of dc_power_of pm_power_of an_power_of cd_power_of ct_power_of), sl_power_of⟩)
  (c_power_of : PySem.W.codeIn K cd_power_of "power_of" = true)
  (k_power_of : PySem.W.keepIn K (.ref f_power_of) = true)
  (a_is_number : PySem.W.nsIn K mainGlobals "is_number" = some (some (.ref f_is_number)))
  (l_is_number : K.lookup f_is_number = some ⟨oc_is_number, od_is_number, .func (PySem.W.fnOf "is_number" "is_number" (defArgs s_is_number) (defBody s_is_number) (defScope s_is_number) .none kV_is_number dc_is_number pm_is_number an_is_number cd_is_number ct_is_number), sl_is_number⟩)
  (c_is_number : PySem.W.codeIn K cd_is_number "is_number" = true)
  (k_is_number : PySem.W.keepIn K (.ref f_is_number) = true)
  (a_make_number : PySem.W.nsIn K mainGlobals "make_number" = some (some (.ref f_make_number)))
  (l_make_number : K.lookup f_make_number = some ⟨oc_make_number, od_make_number, .func (PySem.W.fnOf "make_number" "make_number" (defArgs s_make_number) (defBody s_make_number) (defScope s_make_number) .none kV_make_number dc_make_number pm_make_number an_make_number cd_make_number ct_make_number), sl_make_number⟩)
  (c_make_number : PySem.W.codeIn K cd_make_number "make_number" = true)
  (k_make_number : PySem.W.keepIn K (.ref f_make_number) = true)
  (a_plus : PySem.W.nsIn K mainGlobals "plus" = some (some (.ref f_plus)))
  (l_plus : K.lookup f_plus = some ⟨oc_plus, od_plus, .func (PySem.W.fnOf "plus" "plus" (defArgs s_plus) (defBody s_plus) (defScope s_plus) .none kV_plus dc_plus pm_plus an_plus cd_plus ct_plus), sl_plus⟩)
  (c_plus : PySem.W.codeIn K cd_plus "plus" = true)
  (k_plus : PySem.W.keepIn K (.ref f_plus) = true)
  (a_minus : PySem.W.nsIn K mainGlobals "minus" = some (some (.ref f_minus)))
  (l_minus : K.lookup f_minus = some ⟨oc_minus, od_minus, .func (PySem.W.fnOf "minus" "minus" (defArgs s_minus) (defBody s_minus) (defScope s_minus) .none kV_minus dc_minus pm_minus an_minus cd_minus ct_minus), sl_minus⟩)
  (c_minus : PySem.W.codeIn K cd_minus "minus" = true)
  (k_minus : PySem.W.keepIn K (.ref f_minus) = true)
  (a_scaled : PySem.W.nsIn K mainGlobals "scaled" = some (some (.ref f_scaled)))
  (l_scaled : K.lookup f_scaled = some ⟨oc_scaled, od_scaled, .func (PySem.W.fnOf "scaled" "scaled" (defArgs s_scaled) (defBody s_scaled) (defScope s_scaled) .none kV_scaled dc_scaled pm_scaled an_scaled cd_scaled ct_scaled), sl_scaled⟩)
  (c_scaled : PySem.W.codeIn K cd_scaled "scaled" = true)
  (k_scaled : PySem.W.keepIn K (.ref f_scaled) = true)
  (a_floor_at : PySem.W.nsIn K mainGlobals "floor_at" = some (some (.ref f_floor_at)))
  (l_floor_at : K.lookup f_floor_at = some ⟨oc_floor_at, od_floor_at, .func (PySem.W.fnOf "floor_at" "floor_at" (defArgs s_floor_at) (defBody s_floor_at) (defScope s_floor_at) .none kV_floor_at dc_floor_at pm_floor_at an_floor_at cd_floor_at ct_floor_at), sl_floor_at⟩)
  (c_floor_at : PySem.W.codeIn K cd_floor_at "floor_at" = true)
  (k_floor_at : PySem.W.keepIn K (.ref f_floor_at) = true)
  (a_units : PySem.W.nsIn K mainGlobals "units" = some (some (.ref f_units)))
  (l_units : K.lookup f_units = some ⟨oc_units, od_units, .func (PySem.W.fnOf "units" "units" (defArgs s_units) (defBody s_units) (defScope s_units) .none kV_units dc_units pm_units an_units cd_units ct_units), sl_units⟩)
  (c_units : PySem.W.codeIn K cd_units "units" = true)
  (k_units : PySem.W.keepIn K (.ref f_units) = true)
  (a_negative : PySem.W.nsIn K mainGlobals "negative" = some (some (.ref f_negative)))
  (l_negative : K.lookup f_negative = some ⟨oc_negative, od_negative, .func (PySem.W.fnOf "negative" "negative" (defArgs s_negative) (defBody s_negative) (defScope s_negative) .none kV_negative dc_negative pm_negative an_negative cd_negative ct_negative), sl_negative⟩)
  (c_negative : PySem.W.codeIn K cd_negative "negative" = true)
  (k_negative : PySem.W.keepIn K (.ref f_negative) = true)
  (a_form_of : PySem.W.nsIn K mainGlobals "form_of" = some (some (.ref f_form_of)))
  (l_form_of : K.lookup f_form_of = some ⟨oc_form_of, od_form_of, .func (PySem.W.fnOf "form_of" "form_of" (defArgs s_form_of) (defBody s_form_of) (defScope s_form_of) .none kV_form_of dc_form_of pm_form_of an_form_of cd_form_of ct_form_of), sl_form_of⟩)
  (c_form_of : PySem.W.codeIn K cd_form_of "form_of" = true)
  (k_form_of : PySem.W.keepIn K (.ref f_form_of) = true)
  (a_sum_of : PySem.W.nsIn K mainGlobals "sum_of" = some (some (.ref f_sum_of)))
  (l_sum_of : K.lookup f_sum_of = some ⟨oc_sum_of, od_sum_of, .func (PySem.W.fnOf "sum_of" "sum_of" (defArgs s_sum_of) (defBody s_sum_of) (defScope s_sum_of) .none kV_sum_of dc_sum_of pm_sum_of an_sum_of cd_sum_of ct_sum_of), sl_sum_of⟩)
  (c_sum_of : PySem.W.codeIn K cd_sum_of "sum_of" = true)
  (k_sum_of : PySem.W.keepIn K (.ref f_sum_of) = true)
  (a_within_limits : PySem.W.nsIn K mainGlobals "within_limits" = some (some (.ref f_within_limits)))
  (l_within_limits : K.lookup f_within_limits = some ⟨oc_within_limits, od_within_limits, .func (PySem.W.fnOf "within_limits" "within_limits" (defArgs s_within_limits) (defBody s_within_limits) (defScope s_within_limits) .none kV_within_limits dc_within_limits pm_within_limits an_within_limits cd_within_limits ct_within_limits), sl_within_limits⟩)
  (c_within_limits : PySem.W.codeIn K cd_within_limits "within_limits" = true)
  (k_within_limits : PySem.W.keepIn K (.ref f_within_limits) = true)
  (a_require_numbers : PySem.W.nsIn K mainGlobals "require_numbers" = some (some (.ref f_require_numbers)))
  (l_require_numbers : K.lookup f_require_numbers = some ⟨oc_require_numbers, od_require_numbers, .func (PySem.W.fnOf "require_numbers" "require_numbers" (defArgs s_require_numbers) (defBody s_require_numbers) (defScope s_require_numbers) .none kV_require_numbers dc_require_numbers pm_require_numbers an_require_numbers cd_require_numbers ct_require_numbers), sl_require_numbers⟩)
  (c_require_numbers : PySem.W.codeIn K cd_require_numbers "require_numbers" = true)
  (k_require_numbers : PySem.W.keepIn K (.ref f_require_numbers) = true)
  (a_has_few_digits : PySem.W.nsIn K mainGlobals "has_few_digits" = some (some (.ref f_has_few_digits)))
  (l_has_few_digits : K.lookup f_has_few_digits = some ⟨oc_has_few_digits, od_has_few_digits, .func (PySem.W.fnOf "has_few_digits" "has_few_digits" (defArgs s_has_few_digits) (defBody s_has_few_digits) (defScope s_has_few_digits) .none kV_has_few_digits dc_has_few_digits pm_has_few_digits an_has_few_digits cd_has_few_digits ct_has_few_digits), sl_has_few_digits⟩)
  (c_has_few_digits : PySem.W.codeIn K cd_has_few_digits "has_few_digits" = true)
  (k_has_few_digits : PySem.W.keepIn K (.ref f_has_few_digits) = true)
  (a_without_factors : PySem.W.nsIn K mainGlobals "without_factors" = some (some (.ref f_without_factors)))
  (l_without_factors : K.lookup f_without_factors = some ⟨oc_without_factors, od_without_factors, .func (PySem.W.fnOf "without_factors" "without_factors" (defArgs s_without_factors) (defBody s_without_factors) (defScope s_without_factors) .none kV_without_factors dc_without_factors pm_without_factors an_without_factors cd_without_factors ct_without_factors), sl_without_factors⟩)
  (c_without_factors : PySem.W.codeIn K cd_without_factors "without_factors" = true)
  (k_without_factors : PySem.W.keepIn K (.ref f_without_factors) = true)
  (a_law_numbers : PySem.W.nsIn K mainGlobals "_law_numbers" = some (some (.ref f_law_numbers)))
  (l_law_numbers : K.lookup f_law_numbers = some ⟨oc_law_numbers, od_law_numbers, .func (PySem.W.fnOf "_law_numbers" "_law_numbers" (defArgs s_law_numbers) (defBody s_law_numbers) (defScope s_law_numbers) .none kV_law_numbers dc_law_numbers pm_law_numbers an_law_numbers cd_law_numbers ct_law_numbers), sl_law_numbers⟩)
  (c_law_numbers : PySem.W.codeIn K cd_law_numbers "_law_numbers" = true)
  (k_law_numbers : PySem.W.keepIn K (.ref f_law_numbers) = true)
  (a_law_power : PySem.W.nsIn K mainGlobals "_law_power" = some (some (.ref f_law_power)))
  (l_law_power : K.lookup f_law_power = some ⟨oc_law_power, od_law_power, .func (PySem.W.fnOf "_law_power" "_law_power" (defArgs s_law_power) (defBody s_law_power) (defScope s_law_power) .none kV_law_power dc_law_power pm_law_power an_law_power cd_law_power ct_law_power), sl_law_power⟩)
  (c_law_power : PySem.W.codeIn K cd_law_power "_law_power" = true)
  (k_law_power : PySem.W.keepIn K (.ref f_law_power) = true)
  (a_law_form : PySem.W.nsIn K mainGlobals "_law_form" = some (some (.ref f_law_form)))
  (l_law_form : K.lookup f_law_form = some ⟨oc_law_form, od_law_form, .func (PySem.W.fnOf "_law_form" "_law_form" (defArgs s_law_form) (defBody s_law_form) (defScope s_law_form) .none kV_law_form dc_law_form pm_law_form an_law_form cd_law_form ct_law_form), sl_law_form⟩)
  (c_law_form : PySem.W.codeIn K cd_law_form "_law_form" = true)
  (k_law_form : PySem.W.keepIn K (.ref f_law_form) = true)
  (a_law_sum : PySem.W.nsIn K mainGlobals "_law_sum" = some (some (.ref f_law_sum)))
  (l_law_sum : K.lookup f_law_sum = some ⟨oc_law_sum, od_law_sum, .func (PySem.W.fnOf "_law_sum" "_law_sum" (defArgs s_law_sum) (defBody s_law_sum) (defScope s_law_sum) .none kV_law_sum dc_law_sum pm_law_sum an_law_sum cd_law_sum ct_law_sum), sl_law_sum⟩)
  (c_law_sum : PySem.W.codeIn K cd_law_sum "_law_sum" = true)
  (k_law_sum : PySem.W.keepIn K (.ref f_law_sum) = true)
  (a_law_base : PySem.W.nsIn K mainGlobals "_law_base" = some (some (.ref f_law_base)))
  (l_law_base : K.lookup f_law_base = some ⟨oc_law_base, od_law_base, .func (PySem.W.fnOf "_law_base" "_law_base" (defArgs s_law_base) (defBody s_law_base) (defScope s_law_base) .none kV_law_base dc_law_base pm_law_base an_law_base cd_law_base ct_law_base), sl_law_base⟩)
  (c_law_base : PySem.W.codeIn K cd_law_base "_law_base" = true)
  (k_law_base : PySem.W.keepIn K (.ref f_law_base) = true)
  (a_law_integer : PySem.W.nsIn K mainGlobals "_law_integer" = some (some (.ref f_law_integer)))
  (l_law_integer : K.lookup f_law_integer = some ⟨oc_law_integer, od_law_integer, .func (PySem.W.fnOf "_law_integer" "_law_integer" (defArgs s_law_integer) (defBody s_law_integer) (defScope s_law_integer) .none kV_law_integer dc_law_integer pm_law_integer an_law_integer cd_law_integer ct_law_integer), sl_law_integer⟩)
  (c_law_integer : PySem.W.codeIn K cd_law_integer "_law_integer" = true)
  (k_law_integer : PySem.W.keepIn K (.ref f_law_integer) = true)
  (a_law_number : PySem.W.nsIn K mainGlobals "_law_number" = some (some (.ref f_law_number)))
  (l_law_number : K.lookup f_law_number = some ⟨oc_law_number, od_law_number, .func (PySem.W.fnOf "_law_number" "_law_number" (defArgs s_law_number) (defBody s_law_number) (defScope s_law_number) .none kV_law_number dc_law_number pm_law_number an_law_number cd_law_number ct_law_number), sl_law_number⟩)
  (c_law_number : PySem.W.codeIn K cd_law_number "_law_number" = true)
  (k_law_number : PySem.W.keepIn K (.ref f_law_number) = true)
  (a_law_got : PySem.W.nsIn K mainGlobals "_law_got" = some (some (.ref f_law_got)))
  (l_law_got : K.lookup f_law_got = some ⟨oc_law_got, od_law_got, .func (PySem.W.fnOf "_law_got" "_law_got" (defArgs s_law_got) (defBody s_law_got) (defScope s_law_got) .none kV_law_got dc_law_got pm_law_got an_law_got cd_law_got ct_law_got), sl_law_got⟩)
  (c_law_got : PySem.W.codeIn K cd_law_got "_law_got" = true)
  (k_law_got : PySem.W.keepIn K (.ref f_law_got) = true)
  (a_law_limited : PySem.W.nsIn K mainGlobals "_law_limited" = some (some (.ref f_law_limited)))
  (l_law_limited : K.lookup f_law_limited = some ⟨oc_law_limited, od_law_limited, .func (PySem.W.fnOf "_law_limited" "_law_limited" (defArgs s_law_limited) (defBody s_law_limited) (defScope s_law_limited) .none kV_law_limited dc_law_limited pm_law_limited an_law_limited cd_law_limited ct_law_limited), sl_law_limited⟩)
  (c_law_limited : PySem.W.codeIn K cd_law_limited "_law_limited" = true)
  (k_law_limited : PySem.W.keepIn K (.ref f_law_limited) = true)
  (a_law_floor : PySem.W.nsIn K mainGlobals "_law_floor" = some (some (.ref f_law_floor)))
  (l_law_floor : K.lookup f_law_floor = some ⟨oc_law_floor, od_law_floor, .func (PySem.W.fnOf "_law_floor" "_law_floor" (defArgs s_law_floor) (defBody s_law_floor) (defScope s_law_floor) .none kV_law_floor dc_law_floor pm_law_floor an_law_floor cd_law_floor ct_law_floor), sl_law_floor⟩)
  (c_law_floor : PySem.W.codeIn K cd_law_floor "_law_floor" = true)
  (k_law_floor : PySem.W.keepIn K (.ref f_law_floor) = true)
  (a_law_far : PySem.W.nsIn K mainGlobals "_law_far" = some (some (.ref f_law_far)))
  (l_law_far : K.lookup f_law_far = some ⟨oc_law_far, od_law_far, .func (PySem.W.fnOf "_law_far" "_law_far" (defArgs s_law_far) (defBody s_law_far) (defScope s_law_far) .none kV_law_far dc_law_far pm_law_far an_law_far cd_law_far ct_law_far), sl_law_far⟩)
  (c_law_far : PySem.W.codeIn K cd_law_far "_law_far" = true)
  (k_law_far : PySem.W.keepIn K (.ref f_law_far) = true)
  (a_law_floors_ok : PySem.W.nsIn K mainGlobals "_law_floors_ok" = some (some (.ref f_law_floors_ok)))
  (l_law_floors_ok : K.lookup f_law_floors_ok = some ⟨oc_law_floors_ok, od_law_floors_ok, .func (PySem.W.fnOf "_law_floors_ok" "_law_floors_ok" (defArgs s_law_floors_ok) (defBody s_law_floors_ok) (defScope s_law_floors_ok) .none kV_law_floors_ok dc_law_floors_ok pm_law_floors_ok an_law_floors_ok cd_law_floors_ok ct_law_floors_ok), sl_law_floors_ok⟩)
  (c_law_floors_ok : PySem.W.codeIn K cd_law_floors_ok "_law_floors_ok" = true)
  (k_law_floors_ok : PySem.W.keepIn K (.ref f_law_floors_ok) = true)
  (a_law : PySem.W.nsIn K mainGlobals "law" = some (some (.ref f_law)))
  (l_law : K.lookup f_law = some ⟨oc_law, od_law, .func (PySem.W.fnOf "law" "law" (defArgs s_law) (defBody s_law) (defScope s_law) .none kV_law dc_law pm_law an_law cd_law ct_law), sl_law⟩)
  (c_law : PySem.W.codeIn K cd_law "law" = true)
  (k_law : PySem.W.keepIn K (.ref f_law) = true)
  (a_InvalidNumber : PySem.W.nsIn K mainGlobals "InvalidNumber" = some (some (.ref C_InvalidNumber)))
  (x_InvalidNumber : K.lookup C_InvalidNumber = some (excClassObj nm_InvalidNumber q_InvalidNumber C_InvalidNumber N_InvalidNumber bs_InvalidNumber bm_InvalidNumber true sn_InvalidNumber sub_InvalidNumber ab_InvalidNumber col_InvalidNumber dd_InvalidNumber m0_InvalidNumber m1_InvalidNumber m2_InvalidNumber m3_InvalidNumber m5_InvalidNumber "Exception.__new__"))
  (xt_InvalidNumber : PySem.W.excTail [.type "Exception", .type "BaseException", .type "object"] bm_InvalidNumber = true)
  (ov_InvalidNumber : PySem.W.excOver K C_InvalidNumber [.type "Exception", .type "BaseException", .type "object"] = true)
  (sa_InvalidNumber : PySem.W.findIn K (.ref C_InvalidNumber) "__setattr__" = some (some (.builtin "object.__setattr__")))
  (ga_InvalidNumber : PySem.W.findIn K (.ref C_InvalidNumber) "__getattribute__" = some (some (.builtin "BaseException.__getattribute__")))
  (gg_InvalidNumber : PySem.W.findIn K (.ref C_InvalidNumber) "__getattr__" = some none)
  (nn_InvalidNumber : PySem.W.findIn K (.ref C_InvalidNumber) "value" = some none)
  (ii_InvalidNumber : PySem.W.findIn K (.ref C_InvalidNumber) "__init__" = some (some (.ref I_InvalidNumber)))
  (cc_InvalidNumber : PySem.W.findIn K (.ref C_InvalidNumber) "__class__" = some (some (.builtin "object.__class__")))
  (ti_InvalidNumber : PySem.W.typeIn K (.ref I_InvalidNumber) = some (.type "function"))
  (kc_InvalidNumber : PySem.W.keepIn K (.ref C_InvalidNumber) = true)
  (ex_InvalidNumber : PySem.W.subIn K (.ref C_InvalidNumber) (.type "BaseException") = some true)
  (tc_InvalidNumber : PySem.W.typeIn K (.ref C_InvalidNumber) = some (.type "type"))
  (hd_InvalidNumber : PySem.W.hasDictIn K C_InvalidNumber = true)
  (te_InvalidNumber : PySem.W.exmOne K (.ref C_InvalidNumber) (.ref C_InvalidNumber) = some true)
  (cn_InvalidNumber : PySem.W.specialIn K (.builtin "object.__class__") "__get__" = some (some (.builtin "getset_descriptor.__get__")))
  (ct_InvalidNumber : PySem.W.takesIn K (.builtin "object.__class__") = some true)
  (cm_InvalidNumber : PySem.W.mroIn K C_InvalidNumber (.type "object") = some true)
  (li_InvalidNumber : K.lookup I_InvalidNumber = some ⟨oc_InvalidNumber, od_InvalidNumber, .func (PySem.W.fnOf "__init__" "InvalidNumber.__init__" (defArgs (inClass (top 2) 0)) (defBody (inClass (top 2) 0)) (defScope (inClass (top 2) 0)) .none .none dc_InvalidNumber pm_InvalidNumber an_InvalidNumber cd_InvalidNumber cv_InvalidNumber), sl_InvalidNumber⟩)
  (ci_InvalidNumber : PySem.W.codeIn K cd_InvalidNumber "InvalidNumber.__init__" = true)
  (a_InvalidState : PySem.W.nsIn K mainGlobals "InvalidState" = some (some (.ref C_InvalidState)))
  (x_InvalidState : K.lookup C_InvalidState = some (excClassObj nm_InvalidState q_InvalidState C_InvalidState N_InvalidState bs_InvalidState bm_InvalidState true sn_InvalidState sub_InvalidState ab_InvalidState col_InvalidState dd_InvalidState m0_InvalidState m1_InvalidState m2_InvalidState m3_InvalidState m5_InvalidState "Exception.__new__"))
  (xt_InvalidState : PySem.W.excTail [.type "Exception", .type "BaseException", .type "object"] bm_InvalidState = true)
  (ov_InvalidState : PySem.W.excOver K C_InvalidState [.type "Exception", .type "BaseException", .type "object"] = true)
  (sa_InvalidState : PySem.W.findIn K (.ref C_InvalidState) "__setattr__" = some (some (.builtin "object.__setattr__")))
  (ga_InvalidState : PySem.W.findIn K (.ref C_InvalidState) "__getattribute__" = some (some (.builtin "BaseException.__getattribute__")))
  (gg_InvalidState : PySem.W.findIn K (.ref C_InvalidState) "__getattr__" = some none)
  (nn_InvalidState : PySem.W.findIn K (.ref C_InvalidState) "value" = some none)
  (ii_InvalidState : PySem.W.findIn K (.ref C_InvalidState) "__init__" = some (some (.ref I_InvalidState)))
  (cc_InvalidState : PySem.W.findIn K (.ref C_InvalidState) "__class__" = some (some (.builtin "object.__class__")))
  (ti_InvalidState : PySem.W.typeIn K (.ref I_InvalidState) = some (.type "function"))
  (kc_InvalidState : PySem.W.keepIn K (.ref C_InvalidState) = true)
  (ex_InvalidState : PySem.W.subIn K (.ref C_InvalidState) (.type "BaseException") = some true)
  (tc_InvalidState : PySem.W.typeIn K (.ref C_InvalidState) = some (.type "type"))
  (hd_InvalidState : PySem.W.hasDictIn K C_InvalidState = true)
  (te_InvalidState : PySem.W.exmOne K (.ref C_InvalidState) (.ref C_InvalidState) = some true)
  (cn_InvalidState : PySem.W.specialIn K (.builtin "object.__class__") "__get__" = some (some (.builtin "getset_descriptor.__get__")))
  (ct_InvalidState : PySem.W.takesIn K (.builtin "object.__class__") = some true)
  (cm_InvalidState : PySem.W.mroIn K C_InvalidState (.type "object") = some true)
  (li_InvalidState : K.lookup I_InvalidState = some ⟨oc_InvalidState, od_InvalidState, .func (PySem.W.fnOf "__init__" "InvalidState.__init__" (defArgs (inClass (top 3) 0)) (defBody (inClass (top 3) 0)) (defScope (inClass (top 3) 0)) .none .none dc_InvalidState pm_InvalidState an_InvalidState cd_InvalidState cv_InvalidState), sl_InvalidState⟩)
  (ci_InvalidState : PySem.W.codeIn K cd_InvalidState "InvalidState.__init__" = true)
  (a_LimitExceeded : PySem.W.nsIn K mainGlobals "LimitExceeded" = some (some (.ref C_LimitExceeded)))
  (x_LimitExceeded : K.lookup C_LimitExceeded = some (excClassObj nm_LimitExceeded q_LimitExceeded C_LimitExceeded N_LimitExceeded bs_LimitExceeded bm_LimitExceeded true sn_LimitExceeded sub_LimitExceeded ab_LimitExceeded col_LimitExceeded dd_LimitExceeded m0_LimitExceeded m1_LimitExceeded m2_LimitExceeded m3_LimitExceeded m5_LimitExceeded "OverflowError.__new__"))
  (xt_LimitExceeded : PySem.W.excTail [.type "OverflowError", .type "ArithmeticError", .type "Exception", .type "BaseException", .type "object"] bm_LimitExceeded = true)
  (ov_LimitExceeded : PySem.W.excOver K C_LimitExceeded [.type "OverflowError", .type "ArithmeticError", .type "Exception", .type "BaseException", .type "object"] = true)
  (sa_LimitExceeded : PySem.W.findIn K (.ref C_LimitExceeded) "__setattr__" = some (some (.builtin "object.__setattr__")))
  (ga_LimitExceeded : PySem.W.findIn K (.ref C_LimitExceeded) "__getattribute__" = some (some (.builtin "BaseException.__getattribute__")))
  (gg_LimitExceeded : PySem.W.findIn K (.ref C_LimitExceeded) "__getattr__" = some none)
  (nn_LimitExceeded : PySem.W.findIn K (.ref C_LimitExceeded) "limit" = some none)
  (ii_LimitExceeded : PySem.W.findIn K (.ref C_LimitExceeded) "__init__" = some (some (.ref I_LimitExceeded)))
  (cc_LimitExceeded : PySem.W.findIn K (.ref C_LimitExceeded) "__class__" = some (some (.builtin "object.__class__")))
  (ti_LimitExceeded : PySem.W.typeIn K (.ref I_LimitExceeded) = some (.type "function"))
  (kc_LimitExceeded : PySem.W.keepIn K (.ref C_LimitExceeded) = true)
  (ex_LimitExceeded : PySem.W.subIn K (.ref C_LimitExceeded) (.type "BaseException") = some true)
  (tc_LimitExceeded : PySem.W.typeIn K (.ref C_LimitExceeded) = some (.type "type"))
  (hd_LimitExceeded : PySem.W.hasDictIn K C_LimitExceeded = true)
  (te_LimitExceeded : PySem.W.exmOne K (.ref C_LimitExceeded) (.ref C_LimitExceeded) = some true)
  (cn_LimitExceeded : PySem.W.specialIn K (.builtin "object.__class__") "__get__" = some (some (.builtin "getset_descriptor.__get__")))
  (ct_LimitExceeded : PySem.W.takesIn K (.builtin "object.__class__") = some true)
  (cm_LimitExceeded : PySem.W.mroIn K C_LimitExceeded (.type "object") = some true)
  (li_LimitExceeded : K.lookup I_LimitExceeded = some ⟨oc_LimitExceeded, od_LimitExceeded, .func (PySem.W.fnOf "__init__" "LimitExceeded.__init__" (defArgs (inClass (top 4) 0)) (defBody (inClass (top 4) 0)) (defScope (inClass (top 4) 0)) .none .none dc_LimitExceeded pm_LimitExceeded an_LimitExceeded cd_LimitExceeded cv_LimitExceeded), sl_LimitExceeded⟩)
  (ci_LimitExceeded : PySem.W.codeIn K cd_LimitExceeded "LimitExceeded.__init__" = true)
  (a_HeadError : PySem.W.nsIn K mainGlobals "HeadError" = some (some (.ref C_HeadError)))
  (n_MAX_PLACE : PySem.W.nsIn K mainGlobals "MAX_PLACE" = some (some (.int 1000 t_MAX_PLACE)))
  (n_MAX_DIGITS : PySem.W.nsIn K mainGlobals "MAX_DIGITS" = some (some (.int 300 t_MAX_DIGITS)))
  (z_abs : PySem.W.nsIn K mainGlobals "abs" = some none)
  (z_bool : PySem.W.nsIn K mainGlobals "bool" = some none)
  (z_enumerate : PySem.W.nsIn K mainGlobals "enumerate" = some none)
  (z_int : PySem.W.nsIn K mainGlobals "int" = some none)
  (z_isinstance : PySem.W.nsIn K mainGlobals "isinstance" = some none)
  (z_len : PySem.W.nsIn K mainGlobals "len" = some none)
  (z_max : PySem.W.nsIn K mainGlobals "max" = some none)
  (z_min : PySem.W.nsIn K mainGlobals "min" = some none)
  (z_range : PySem.W.nsIn K mainGlobals "range" = some none)
  (z_repr : PySem.W.nsIn K mainGlobals "repr" = some none)
  (z_reversed : PySem.W.nsIn K mainGlobals "reversed" = some none)
  (z_sorted : PySem.W.nsIn K mainGlobals "sorted" = some none)
  (z_tuple : PySem.W.nsIn K mainGlobals "tuple" = some none)
  (x_kit_InvalidNumber_HeadError : PySem.W.kitOne K (.ref C_InvalidNumber) (.ref C_HeadError) = some true)
  (x_kit_InvalidNumber_InvalidState : PySem.W.kitOne K (.ref C_InvalidNumber) (.ref C_InvalidState) = some false)
  (x_exm_InvalidState_InvalidNumber : PySem.W.exmOne K (.ref C_InvalidState) (.ref C_InvalidNumber) = some false)
  (x_exm_LimitExceeded_InvalidNumber : PySem.W.exmOne K (.ref C_LimitExceeded) (.ref C_InvalidNumber) = some false)
  (x_exm_InvalidNumber_LimitExceeded : PySem.W.exmOne K (.ref C_InvalidNumber) (.ref C_LimitExceeded) = some false)
  (x_exm_InvalidState_LimitExceeded : PySem.W.exmOne K (.ref C_InvalidState) (.ref C_LimitExceeded) = some false)
  : Tx K mg :=
  { f_is_whole := _, fd_is_whole := _, is_whole := ⟨fun_mk (st := s_is_whole) l_is_whole c_is_whole k_is_whole, PySem.W.mg_of X G a_is_whole, (fun_mk (st := s_is_whole) l_is_whole c_is_whole k_is_whole).binds (ps := ["value"]) fun _ _ _ _ _ _ us hl => match us, hl with | [_], _ => rfl⟩,
    f_is_within := _, fd_is_within := _, is_within := ⟨fun_mk (st := s_is_within) l_is_within c_is_within k_is_within, PySem.W.mg_of X G a_is_within, (fun_mk (st := s_is_within) l_is_within c_is_within k_is_within).binds (ps := ["value", "low", "high"]) fun _ _ _ _ _ _ us hl => match us, hl with | [_, _, _], _ => rfl⟩,
    f_is_place := _, fd_is_place := _, is_place := ⟨fun_mk (st := s_is_place) l_is_place c_is_place k_is_place, PySem.W.mg_of X G a_is_place, (fun_mk (st := s_is_place) l_is_place c_is_place k_is_place).binds (ps := ["value"]) fun _ _ _ _ _ _ us hl => match us, hl with | [_], _ => rfl⟩,
    f_power_of := _, fd_power_of := _, power_of := ⟨fun_mk (st := s_power_of) l_power_of c_power_of k_power_of, PySem.W.mg_of X G a_power_of, (fun_mk (st := s_power_of) l_power_of c_power_of k_power_of).binds (ps := ["base", "count"]) fun _ _ _ _ _ _ us hl => match us, hl with | [_, _], _ => rfl⟩,
    f_is_number := _, fd_is_number := _, is_number := ⟨fun_mk (st := s_is_number) l_is_number c_is_number k_is_number, PySem.W.mg_of X G a_is_number, (fun_mk (st := s_is_number) l_is_number c_is_number k_is_number).binds (ps := ["base", "value"]) fun _ _ _ _ _ _ us hl => match us, hl with | [_, _], _ => rfl⟩,
    f_make_number := _, fd_make_number := _, make_number := ⟨fun_mk (st := s_make_number) l_make_number c_make_number k_make_number, PySem.W.mg_of X G a_make_number, (fun_mk (st := s_make_number) l_make_number c_make_number k_make_number).binds (ps := ["base", "numerator", "exponent"]) fun _ _ _ _ _ _ us hl => match us, hl with | [_, _, _], _ => rfl⟩,
    f_plus := _, fd_plus := _, plus := ⟨fun_mk (st := s_plus) l_plus c_plus k_plus, PySem.W.mg_of X G a_plus, (fun_mk (st := s_plus) l_plus c_plus k_plus).binds (ps := ["base", "one", "other"]) fun _ _ _ _ _ _ us hl => match us, hl with | [_, _, _], _ => rfl⟩,
    f_minus := _, fd_minus := _, minus := ⟨fun_mk (st := s_minus) l_minus c_minus k_minus, PySem.W.mg_of X G a_minus, (fun_mk (st := s_minus) l_minus c_minus k_minus).binds (ps := ["base", "one", "other"]) fun _ _ _ _ _ _ us hl => match us, hl with | [_, _, _], _ => rfl⟩,
    f_scaled := _, fd_scaled := _, scaled := ⟨fun_mk (st := s_scaled) l_scaled c_scaled k_scaled, PySem.W.mg_of X G a_scaled, (fun_mk (st := s_scaled) l_scaled c_scaled k_scaled).binds (ps := ["base", "number", "places"]) fun _ _ _ _ _ _ us hl => match us, hl with | [_, _, _], _ => rfl⟩,
    f_floor_at := _, fd_floor_at := _, floor_at := ⟨fun_mk (st := s_floor_at) l_floor_at c_floor_at k_floor_at, PySem.W.mg_of X G a_floor_at, (fun_mk (st := s_floor_at) l_floor_at c_floor_at k_floor_at).binds (ps := ["base", "number", "place"]) fun _ _ _ _ _ _ us hl => match us, hl with | [_, _, _], _ => rfl⟩,
    f_units := _, fd_units := _, units := ⟨fun_mk (st := s_units) l_units c_units k_units, PySem.W.mg_of X G a_units, (fun_mk (st := s_units) l_units c_units k_units).binds (ps := ["base", "number", "place"]) fun _ _ _ _ _ _ us hl => match us, hl with | [_, _, _], _ => rfl⟩,
    f_negative := _, fd_negative := _, negative := ⟨fun_mk (st := s_negative) l_negative c_negative k_negative, PySem.W.mg_of X G a_negative, (fun_mk (st := s_negative) l_negative c_negative k_negative).binds (ps := ["number"]) fun _ _ _ _ _ _ us hl => match us, hl with | [_], _ => rfl⟩,
    f_form_of := _, fd_form_of := _, form_of := ⟨fun_mk (st := s_form_of) l_form_of c_form_of k_form_of, PySem.W.mg_of X G a_form_of, (fun_mk (st := s_form_of) l_form_of c_form_of k_form_of).binds (ps := ["base", "numerator", "exponent"]) fun _ _ _ _ _ _ us hl => match us, hl with | [_, _, _], _ => rfl⟩,
    f_sum_of := _, fd_sum_of := _, sum_of := ⟨fun_mk (st := s_sum_of) l_sum_of c_sum_of k_sum_of, PySem.W.mg_of X G a_sum_of, (fun_mk (st := s_sum_of) l_sum_of c_sum_of k_sum_of).binds (ps := ["base", "parts"]) fun _ _ _ _ _ _ us hl => match us, hl with | [_, _], _ => rfl⟩,
    f_within_limits := _, fd_within_limits := _, within_limits := ⟨fun_mk (st := s_within_limits) l_within_limits c_within_limits k_within_limits, PySem.W.mg_of X G a_within_limits, (fun_mk (st := s_within_limits) l_within_limits c_within_limits k_within_limits).binds (ps := ["number"]) fun _ _ _ _ _ _ us hl => match us, hl with | [_], _ => rfl⟩,
    f_require_numbers := _, fd_require_numbers := _, require_numbers := ⟨fun_mk (st := s_require_numbers) l_require_numbers c_require_numbers k_require_numbers, PySem.W.mg_of X G a_require_numbers, (fun_mk (st := s_require_numbers) l_require_numbers c_require_numbers k_require_numbers).binds (ps := ["base", "values"]) fun _ _ _ _ _ _ us hl => match us, hl with | [_, _], _ => rfl⟩,
    f_has_few_digits := _, fd_has_few_digits := _, has_few_digits := ⟨fun_mk (st := s_has_few_digits) l_has_few_digits c_has_few_digits k_has_few_digits, PySem.W.mg_of X G a_has_few_digits, (fun_mk (st := s_has_few_digits) l_has_few_digits c_has_few_digits k_has_few_digits).binds (ps := ["numerator"]) fun _ _ _ _ _ _ us hl => match us, hl with | [_], _ => rfl⟩,
    f_without_factors := _, fd_without_factors := _, without_factors := ⟨fun_mk (st := s_without_factors) l_without_factors c_without_factors k_without_factors, PySem.W.mg_of X G a_without_factors, (fun_mk (st := s_without_factors) l_without_factors c_without_factors k_without_factors).binds (ps := ["base", "numerator"]) fun _ _ _ _ _ _ us hl => match us, hl with | [_, _], _ => rfl⟩,
    f_law_numbers := _, fd_law_numbers := _, law_numbers := ⟨fun_mk (st := s_law_numbers) l_law_numbers c_law_numbers k_law_numbers, PySem.W.mg_of X G a_law_numbers, (fun_mk (st := s_law_numbers) l_law_numbers c_law_numbers k_law_numbers).binds (ps := ["_law_cell", "_law_salt", "_law_sizes"]) fun _ _ _ _ _ _ us hl => match us, hl with | [_, _, _], _ => rfl⟩,
    f_law_power := _, fd_law_power := _, law_power := ⟨fun_mk (st := s_law_power) l_law_power c_law_power k_law_power, PySem.W.mg_of X G a_law_power, (fun_mk (st := s_law_power) l_law_power c_law_power k_law_power).binds (ps := ["_law_base_here", "_law_count"]) fun _ _ _ _ _ _ us hl => match us, hl with | [_, _], _ => rfl⟩,
    f_law_form := _, fd_law_form := _, law_form := ⟨fun_mk (st := s_law_form) l_law_form c_law_form k_law_form, PySem.W.mg_of X G a_law_form, (fun_mk (st := s_law_form) l_law_form c_law_form k_law_form).binds (ps := ["_law_base_here", "_law_numerator", "_law_exponent"]) fun _ _ _ _ _ _ us hl => match us, hl with | [_, _, _], _ => rfl⟩,
    f_law_sum := _, fd_law_sum := _, law_sum := ⟨fun_mk (st := s_law_sum) l_law_sum c_law_sum k_law_sum, PySem.W.mg_of X G a_law_sum, (fun_mk (st := s_law_sum) l_law_sum c_law_sum k_law_sum).binds (ps := ["_law_base_here", "_law_one", "_law_other"]) fun _ _ _ _ _ _ us hl => match us, hl with | [_, _, _], _ => rfl⟩,
    f_law_base := _, fd_law_base := _, law_base := ⟨fun_mk (st := s_law_base) l_law_base c_law_base k_law_base, PySem.W.mg_of X G a_law_base, (fun_mk (st := s_law_base) l_law_base c_law_base k_law_base).binds (ps := ["_law_digit"]) fun _ _ _ _ _ _ us hl => match us, hl with | [_], _ => rfl⟩,
    f_law_integer := _, fd_law_integer := _, law_integer := ⟨fun_mk (st := s_law_integer) l_law_integer c_law_integer k_law_integer, PySem.W.mg_of X G a_law_integer, (fun_mk (st := s_law_integer) l_law_integer c_law_integer k_law_integer).binds (ps := ["_law_digits"]) fun _ _ _ _ _ _ us hl => match us, hl with | [_], _ => rfl⟩,
    f_law_number := _, fd_law_number := _, law_number := ⟨fun_mk (st := s_law_number) l_law_number c_law_number k_law_number, PySem.W.mg_of X G a_law_number, (fun_mk (st := s_law_number) l_law_number c_law_number k_law_number).binds (ps := ["_law_base_here", "_law_digits"]) fun _ _ _ _ _ _ us hl => match us, hl with | [_, _], _ => rfl⟩,
    f_law_got := _, fd_law_got := _, law_got := ⟨fun_mk (st := s_law_got) l_law_got c_law_got k_law_got, PySem.W.mg_of X G a_law_got, (fun_mk (st := s_law_got) l_law_got c_law_got k_law_got).binds (ps := ["_law_door", "_law_base_here", "_law_one", "_law_other"]) fun _ _ _ _ _ _ us hl => match us, hl with | [_, _, _, _], _ => rfl⟩,
    f_law_limited := _, fd_law_limited := _, law_limited := ⟨fun_mk (st := s_law_limited) l_law_limited c_law_limited k_law_limited, PySem.W.mg_of X G a_law_limited, (fun_mk (st := s_law_limited) l_law_limited c_law_limited k_law_limited).binds (ps := ["_law_number_here"]) fun _ _ _ _ _ _ us hl => match us, hl with | [_], _ => rfl⟩,
    f_law_floor := _, fd_law_floor := _, law_floor := ⟨fun_mk (st := s_law_floor) l_law_floor c_law_floor k_law_floor, PySem.W.mg_of X G a_law_floor, (fun_mk (st := s_law_floor) l_law_floor c_law_floor k_law_floor).binds (ps := ["_law_base_here", "_law_number_here", "_law_place"]) fun _ _ _ _ _ _ us hl => match us, hl with | [_, _, _], _ => rfl⟩,
    f_law_far := _, fd_law_far := _, law_far := ⟨fun_mk (st := s_law_far) l_law_far c_law_far k_law_far, PySem.W.mg_of X G a_law_far, (fun_mk (st := s_law_far) l_law_far c_law_far k_law_far).binds (ps := ["_law_base_here", "_law_number_here", "_law_digit"]) fun _ _ _ _ _ _ us hl => match us, hl with | [_, _, _], _ => rfl⟩,
    f_law_floors_ok := _, fd_law_floors_ok := _, law_floors_ok := ⟨fun_mk (st := s_law_floors_ok) l_law_floors_ok c_law_floors_ok k_law_floors_ok, PySem.W.mg_of X G a_law_floors_ok, (fun_mk (st := s_law_floors_ok) l_law_floors_ok c_law_floors_ok k_law_floors_ok).binds (ps := ["_law_base_here", "_law_one", "_law_far_here", "_law_digit"]) fun _ _ _ _ _ _ us hl => match us, hl with | [_, _, _, _], _ => rfl⟩,
    f_law := _, fd_law := _, law := ⟨fun_mk (st := s_law) l_law c_law k_law, PySem.W.mg_of X G a_law, (fun_mk (st := s_law) l_law c_law k_law).binds (ps := ["_law_script"]) fun _ _ _ _ _ _ us hl => match us, hl with | [_], _ => rfl⟩,
    C_InvalidNumber := _, fI_InvalidNumber := _, InvalidNumber := { gC := PySem.W.mg_of X G a_InvalidNumber, cls := ⟨_, _, _, _, _, _, _, _, _, _, _, _, _, _, _, x_InvalidNumber, xt_InvalidNumber⟩, FB := ⟨_, PySem.F.excBase_Exception⟩, SF := PySem.F.store_Exception, over := ov_InvalidNumber, sa := sa_InvalidNumber, ga := ga_InvalidNumber, gg := gg_InvalidNumber, noN := nn_InvalidNumber, iC := ii_InvalidNumber, tC := ti_InvalidNumber, kC := kc_InvalidNumber, exC := ex_InvalidNumber, tyC := tc_InvalidNumber, hdC := hd_InvalidNumber, te := te_InvalidNumber, cc := cc_InvalidNumber, cn := cn_InvalidNumber, ct := ct_InvalidNumber, cm := cm_InvalidNumber, fn := ⟨_, _, _, _, _, _, _, _, (inClass (top 2) 0), _, li_InvalidNumber, ci_InvalidNumber, ⟨⟨_, _, _, _, rfl⟩, rfl, rfl, rfl, rfl, rfl, by decide +kernel, by decide +kernel, fun _ _ _ _ _ _ _ => rfl, fun _ _ _ => rfl, fun _ _ _ => rfl, fun _ _ _ _ _ _ _ => rfl⟩⟩ },
    C_InvalidState := _, fI_InvalidState := _, InvalidState := { gC := PySem.W.mg_of X G a_InvalidState, cls := ⟨_, _, _, _, _, _, _, _, _, _, _, _, _, _, _, x_InvalidState, xt_InvalidState⟩, FB := ⟨_, PySem.F.excBase_Exception⟩, SF := PySem.F.store_Exception, over := ov_InvalidState, sa := sa_InvalidState, ga := ga_InvalidState, gg := gg_InvalidState, noN := nn_InvalidState, iC := ii_InvalidState, tC := ti_InvalidState, kC := kc_InvalidState, exC := ex_InvalidState, tyC := tc_InvalidState, hdC := hd_InvalidState, te := te_InvalidState, cc := cc_InvalidState, cn := cn_InvalidState, ct := ct_InvalidState, cm := cm_InvalidState, fn := ⟨_, _, _, _, _, _, _, _, (inClass (top 3) 0), _, li_InvalidState, ci_InvalidState, ⟨⟨_, _, _, _, rfl⟩, rfl, rfl, rfl, rfl, rfl, by decide +kernel, by decide +kernel, fun _ _ _ _ _ _ _ => rfl, fun _ _ _ => rfl, fun _ _ _ => rfl, fun _ _ _ _ _ _ _ => rfl⟩⟩ },
    C_LimitExceeded := _, fI_LimitExceeded := _, LimitExceeded := { gC := PySem.W.mg_of X G a_LimitExceeded, cls := ⟨_, _, _, _, _, _, _, _, _, _, _, _, _, _, _, x_LimitExceeded, xt_LimitExceeded⟩, FB := ⟨_, PySem.F.excBase_OverflowError⟩, SF := PySem.F.store_OverflowError, over := ov_LimitExceeded, sa := sa_LimitExceeded, ga := ga_LimitExceeded, gg := gg_LimitExceeded, noN := nn_LimitExceeded, iC := ii_LimitExceeded, tC := ti_LimitExceeded, kC := kc_LimitExceeded, exC := ex_LimitExceeded, tyC := tc_LimitExceeded, hdC := hd_LimitExceeded, te := te_LimitExceeded, cc := cc_LimitExceeded, cn := cn_LimitExceeded, ct := ct_LimitExceeded, cm := cm_LimitExceeded, fn := ⟨_, _, _, _, _, _, _, _, (inClass (top 4) 0), _, li_LimitExceeded, ci_LimitExceeded, ⟨⟨_, _, _, _, rfl⟩, rfl, rfl, rfl, rfl, rfl, by decide +kernel, by decide +kernel, fun _ _ _ _ _ _ _ => rfl, fun _ _ _ => rfl, fun _ _ _ => rfl, fun _ _ _ _ _ _ _ => rfl⟩⟩ },
    C_HeadError := _, h_HeadError := PySem.W.mg_of X G a_HeadError,
    t_MAX_PLACE := _, c_MAX_PLACE := PySem.W.mg_of X G n_MAX_PLACE,
    t_MAX_DIGITS := _, c_MAX_DIGITS := PySem.W.mg_of X G n_MAX_DIGITS,
    b_abs := PySem.W.mg_none_of X G z_abs,
    b_bool := PySem.W.mg_none_of X G z_bool,
    b_enumerate := PySem.W.mg_none_of X G z_enumerate,
    b_int := PySem.W.mg_none_of X G z_int,
    b_isinstance := PySem.W.mg_none_of X G z_isinstance,
    b_len := PySem.W.mg_none_of X G z_len,
    b_max := PySem.W.mg_none_of X G z_max,
    b_min := PySem.W.mg_none_of X G z_min,
    b_range := PySem.W.mg_none_of X G z_range,
    b_repr := PySem.W.mg_none_of X G z_repr,
    b_reversed := PySem.W.mg_none_of X G z_reversed,
    b_sorted := PySem.W.mg_none_of X G z_sorted,
    b_tuple := PySem.W.mg_none_of X G z_tuple,
    x_kit_InvalidNumber_HeadError := x_kit_InvalidNumber_HeadError,
    x_kit_InvalidNumber_InvalidState := x_kit_InvalidNumber_InvalidState,
    x_exm_InvalidState_InvalidNumber := x_exm_InvalidState_InvalidNumber,
    x_exm_LimitExceeded_InvalidNumber := x_exm_LimitExceeded_InvalidNumber,
    x_exm_InvalidNumber_LimitExceeded := x_exm_InvalidNumber_LimitExceeded,
    x_exm_InvalidState_LimitExceeded := x_exm_InvalidState_LimitExceeded }
end K03

namespace K03
open PySem L2 GL DL PM
theorem ok_is_whole {P : Program} {w : World} {K : PySem.W.Frag} {mg : Str → Option Value} {base : Heap} (T : Tx K mg) (nd : base.NoDigits) : FnG P w K mg base (L2.CX P w) 2 T.f_is_whole T.fd_is_whole ["value"] (spD K T.et 1 M_is_whole) := by
  exact fn_data (k := 1) T.is_whole.F sc_is_whole fun cdv A outer s H E quiet hr => by
    have hu64 := hr.units
    exact (ds_one (ds_ret (d_and (d_isi (T := .int) (by rfl) T.b_isinstance (pe_bltn (by rfl) T.b_int (by decide +kernel) rfl) (DE.o (d_var (pv 0)))) (d_one (d_not (d_isi (T := .bool) (by rfl) T.b_isinstance (pe_bltn (by rfl) T.b_bool (by decide +kernel) rfl) (DE.o (d_var (pv 0)))))))))

theorem ok_is_within {P : Program} {w : World} {K : PySem.W.Frag} {mg : Str → Option Value} {base : Heap} (T : Tx K mg) (nd : base.NoDigits) : FnG P w K mg base (L2.CX P w) 3 T.f_is_within T.fd_is_within ["value", "low", "high"] (spD K T.et 3 M_is_within) := by
  have G_is_whole := ok_is_whole (P := P) (w := w) (base := base) T nd
  exact fn_data (k := 2) T.is_within.F sc_is_within fun cdv A outer s H E quiet hr => by
    have hu64 := hr.units
    exact (ds_one (ds_ret (d_and (d_call (fun _ p => pe_callW G_is_whole quiet (hr.mono (by decide)) rfl T.is_whole.g T.is_whole.F.kp T.is_whole.b (takes_of rfl rfl rfl rfl) p) (dan_cons (d_var (pv 0)) dan_nil)) (d_one (d_chain (DE.o (d_var (pv 1))) (DE.o (d_var (pv 0))) (DE.o (d_var (pv 2))) le_bl (fun _ _ _ x y z => pe_chain o_le o_le x y z))))))

theorem ok_is_place {P : Program} {w : World} {K : PySem.W.Frag} {mg : Str → Option Value} {base : Heap} (T : Tx K mg) (nd : base.NoDigits) : FnG P w K mg base (L2.CX P w) 4 T.f_is_place T.fd_is_place ["value"] (spD K T.et 1 M_is_place) := by
  have G_is_within := ok_is_within (P := P) (w := w) (base := base) T nd
  exact fn_data (k := 3) T.is_place.F sc_is_place fun cdv A outer s H E quiet hr => by
    have hu64 := hr.units
    exact (ds_one (ds_ret (d_call (fun _ p => pe_callW G_is_within quiet (hr.mono (by decide)) rfl T.is_within.g T.is_within.F.kp T.is_within.b (takes_of rfl rfl rfl rfl) p) (dan_cons (d_var (pv 0)) (dan_cons (d_un u_neg (DE.o (d_int (pe_glob (v := .int 1000) rfl T.c_MAX_PLACE ⟨_, rfl⟩)))) (dan_cons (d_int (pe_glob (v := .int 1000) rfl T.c_MAX_PLACE ⟨_, rfl⟩)) dan_nil))))))

theorem ok_power_of {P : Program} {w : World} {K : PySem.W.Frag} {mg : Str → Option Value} {base : Heap} (T : Tx K mg) (nd : base.NoDigits) : FnG P w K mg base (L2.CX P w) 2 T.f_power_of T.fd_power_of ["base", "count"] (spD K T.et 2 M_power_of) := by
  exact fn_data (k := 1) T.power_of.F sc_power_of fun cdv A outer s H E quiet hr => by
    have hu64 := hr.units
    exact (ds_cons (ds_set (i := 2) (fun _ p => ps_set (i := 2) sc_power_of.nd rfl (Or.inl rfl) p) (d_int pe_int))
        (ds_cons (ds_for (vs := [3]) (passes_of rfl) rfl (di_range3 rfl T.b_range (da_cons (d_op o_sub (DE.o (d_bits (fun _ p => pe_bits p) (DE.o (d_var (pv 1))))) (DE.o (d_int pe_int))) (da_cons (d_un u_neg (DE.o (d_int pe_int))) (da_cons (d_un u_neg (DE.o (d_int pe_int))) da_nil)))) (pg_name (i := 3) sc_power_of.nd rfl (Or.inl rfl)) (good_name (by decide)) (ds_cons (ds_aug (i := 2) (fun _ p => ps_aug (i := 2) sc_power_of.nd rfl (Or.inl rfl) p q_mul) (d_var (pv 2)))
        (ds_one (ds_if (dt_truth (fun _ p => pt_truth p (fun _ => rfl)) (DE.o (d_op o_and (DE.o (d_op o_shr (DE.o (d_var (pv 1))) (DE.o (d_var (pv 3))))) (DE.o (d_int pe_int))))) (ds_one (ds_aug (i := 2) (fun _ p => ps_aug (i := 2) sc_power_of.nd rfl (Or.inl rfl) p q_mul) (d_var (pv 0)))) ds_nil))))
        (ds_one (ds_ret (d_var (pv 2))))))

theorem ok_has_few_digits {P : Program} {w : World} {K : PySem.W.Frag} {mg : Str → Option Value} {base : Heap} (T : Tx K mg) (nd : base.NoDigits) : FnG P w K mg base (L2.CX P w) 3 T.f_has_few_digits T.fd_has_few_digits ["numerator"] (spD K T.et 1 M_has_few_digits) := by
  have G_power_of := ok_power_of (P := P) (w := w) (base := base) T nd
  exact fn_data (k := 2) T.has_few_digits.F sc_has_few_digits fun cdv A outer s H E quiet hr => by
    have hu64 := hr.units
    exact (ds_one (ds_ret (d_cmp o_lt (DE.o (d_c1 (fun _ p => pe_callB b_abs (by rfl) T.b_abs (by decide +kernel) p) (DE.o (d_var (pv 0))))) (DE.o (d_call (fun _ p => pe_callW G_power_of quiet (hr.mono (by decide)) rfl T.power_of.g T.power_of.F.kp T.power_of.b (takes_of rfl rfl rfl rfl) p) (dan_cons (d_int pe_int) (dan_cons (d_int (pe_glob (v := .int 300) rfl T.c_MAX_DIGITS ⟨_, rfl⟩)) dan_nil)))) (nomark _))))

theorem ok_is_number {P : Program} {w : World} {K : PySem.W.Frag} {mg : Str → Option Value} {base : Heap} (T : Tx K mg) (nd : base.NoDigits) : FnG P w K mg base (L2.CX P w) 5 T.f_is_number T.fd_is_number ["base", "value"] (spD K T.et 2 M_is_number) := by
  have G_has_few_digits := ok_has_few_digits (P := P) (w := w) (base := base) T nd
  have G_is_whole := ok_is_whole (P := P) (w := w) (base := base) T nd
  have G_is_place := ok_is_place (P := P) (w := w) (base := base) T nd
  exact fn_data (k := 4) T.is_number.F sc_is_number fun cdv A outer s H E quiet hr => by
    have hu64 := hr.units
    exact (ds_cons (ds_if (dt_w (dw_or (dt_not (dt_val (d_isi (T := .tuple) (by rfl) T.b_isinstance (pe_bltn (by rfl) T.b_tuple (by decide +kernel) rfl) (DE.o (d_var (pv 1)))) (fun _ p => pt_val p))) (dw_or1 (dt_cmp (o_ne hu64) (DE.o (d_c1 (fun _ p => pe_callB b_len (by rfl) T.b_len (by decide +kernel) p) (DE.o (d_var (pv 1))))) (DE.o (d_int pe_int)) (nomark _))))) (ds_one (ds_ret (d_bl pe_bl))) ds_nil)
        (ds_cons (ds_asg (vs := [2, 3]) (fun _ p => ps_asg p (pg_tup rfl (pgs_cons (pg_name (i := 2) sc_is_number.nd rfl (Or.inl rfl)) (pgs_cons (pg_name (i := 3) sc_is_number.nd rfl (Or.inl rfl)) pgs_nil)))) (good_tup (.cons (good_name (by decide)) (.cons (good_name (by decide)) .nil)) rfl) (d_var (pv 1)))
        (ds_cons (ds_if (dt_w (dw_or (dt_not (dt_val (d_call (fun _ p => pe_callW G_is_whole quiet (hr.mono (by decide)) rfl T.is_whole.g T.is_whole.F.kp T.is_whole.b (takes_of rfl rfl rfl rfl) p) (dan_cons (d_var (pv 2)) dan_nil)) (fun _ p => pt_val p))) (dw_or1 (dt_not (dt_val (d_call (fun _ p => pe_callW G_is_place quiet (hr.mono (by decide)) rfl T.is_place.g T.is_place.F.kp T.is_place.b (takes_of rfl rfl rfl rfl) p) (dan_cons (d_var (pv 3)) dan_nil)) (fun _ p => pt_val p)))))) (ds_one (ds_ret (d_bl pe_bl))) ds_nil)
        (ds_cons (ds_if (dt_cmp (o_eq hu64) (DE.o (d_var (pv 2))) (DE.o (d_int pe_int)) (nomark _)) (ds_one (ds_ret (d_cmp (o_eq hu64) (DE.o (d_var (pv 3))) (DE.o (d_int pe_int)) (nomark _)))) ds_nil)
        (ds_one (ds_ret (d_and (d_cmp (o_ne hu64) (DE.o (d_op o_mod (DE.o (d_var (pv 2))) (DE.o (d_var (pv 0))))) (DE.o (d_int pe_int)) (nomark _)) (d_one (d_call (fun _ p => pe_callW G_has_few_digits quiet (hr.mono (by decide)) rfl T.has_few_digits.g T.has_few_digits.F.kp T.has_few_digits.b (takes_of rfl rfl rfl rfl) p) (dan_cons (d_var (pv 2)) dan_nil))))))))))

theorem ok_within_limits {P : Program} {w : World} {K : PySem.W.Frag} {mg : Str → Option Value} {base : Heap} (T : Tx K mg) (nd : base.NoDigits) : FnG P w K mg base (L2.CX P w) 5 T.f_within_limits T.fd_within_limits ["number"] (spD K T.et 1 M_within_limits) := by
  have G_has_few_digits := ok_has_few_digits (P := P) (w := w) (base := base) T nd
  have G_is_place := ok_is_place (P := P) (w := w) (base := base) T nd
  exact fn_data (k := 4) T.within_limits.F sc_within_limits fun cdv A outer s H E quiet hr => by
    have hu64 := hr.units
    exact (ds_cons (ds_asg (vs := [1, 2]) (fun _ p => ps_asg p (pg_tup rfl (pgs_cons (pg_name (i := 1) sc_within_limits.nd rfl (Or.inl rfl)) (pgs_cons (pg_name (i := 2) sc_within_limits.nd rfl (Or.inl rfl)) pgs_nil)))) (good_tup (.cons (good_name (by decide)) (.cons (good_name (by decide)) .nil)) rfl) (d_var (pv 0)))
        (ds_cons (ds_if (dt_not (dt_val (d_call (fun _ p => pe_callW G_has_few_digits quiet (hr.mono (by decide)) rfl T.has_few_digits.g T.has_few_digits.F.kp T.has_few_digits.b (takes_of rfl rfl rfl rfl) p) (dan_cons (d_var (pv 1)) dan_nil)) (fun _ p => pt_val p))) (ds_one (ds_raise (x := "LimitExceeded") T.et_LimitExceeded (fun _ p => ps_raiseErr rfl T.LimitExceeded (hr.mono (Nat.zero_le _)) (takes_of rfl rfl rfl rfl) p) (d_int (pe_glob (v := .int 300) rfl T.c_MAX_DIGITS ⟨_, rfl⟩)))) ds_nil)
        (ds_cons (ds_if (dt_not (dt_val (d_call (fun _ p => pe_callW G_is_place quiet (hr.mono (by decide)) rfl T.is_place.g T.is_place.F.kp T.is_place.b (takes_of rfl rfl rfl rfl) p) (dan_cons (d_var (pv 2)) dan_nil)) (fun _ p => pt_val p))) (ds_one (ds_raise (x := "LimitExceeded") T.et_LimitExceeded (fun _ p => ps_raiseErr rfl T.LimitExceeded (hr.mono (Nat.zero_le _)) (takes_of rfl rfl rfl rfl) p) (d_int (pe_glob (v := .int 1000) rfl T.c_MAX_PLACE ⟨_, rfl⟩)))) ds_nil)
        (ds_one (ds_ret (d_var (pv 0)))))))

theorem ok_without_factors {P : Program} {w : World} {K : PySem.W.Frag} {mg : Str → Option Value} {base : Heap} (T : Tx K mg) (nd : base.NoDigits) : FnG P w K mg base (L2.CX P w) 2 T.f_without_factors T.fd_without_factors ["base", "numerator"] (spD K T.et 2 M_without_factors) := by
  exact fn_data (k := 1) T.without_factors.F sc_without_factors fun cdv A outer s H E quiet hr => by
    have hu64 := hr.units
    exact (ds_cons (ds_setF (i := 2) (fun _ p => ps_set (i := 2) sc_without_factors.nd rfl (Or.inl rfl) p) (d_lst (da_cons (d_var (pv 0)) da_nil)))
        (ds_cons (ds_while 1000000 (passes_of rfl) (dt_cmp (o_eq hu64) (DE.o (d_op o_mod (DE.o (d_var (pv 1))) (DE.o (d_op o_mul (DE.o (d_ix (d_varO (pv 2)) (DE.o (d_un u_neg (DE.o (d_int pe_int)))) (fun _ _ => rfl))) (DE.o (d_ix (d_varO (pv 2)) (DE.o (d_un u_neg (DE.o (d_int pe_int)))) (fun _ _ => rfl))))))) (DE.o (d_int pe_int)) (nomark _)) (ds_one (ds_app (i := 2) (fun _ p => ps_expr (pe_bm PySem.F.plainAttrs_list PySem.F.slot_list_append PySem.F.type_list_append mt_append (pv 2) (pa_cons p pa_nil))) (d_op o_mul (DE.o (d_ix (d_varO (pv 2)) (DE.o (d_un u_neg (DE.o (d_int pe_int)))) (fun _ _ => rfl))) (DE.o (d_ix (d_varO (pv 2)) (DE.o (d_un u_neg (DE.o (d_int pe_int)))) (fun _ _ => rfl)))))))
        (ds_cons (ds_set (i := 3) (fun _ p => ps_set (i := 3) sc_without_factors.nd rfl (Or.inl rfl) p) (d_int pe_int))
        (ds_cons (ds_frz 2 (ds_for (vs := [4]) (passes_of rfl) rfl (di_rev (by rfl) T.b_reversed (d_var (pv 2))) (pg_name (i := 4) sc_without_factors.nd rfl (Or.inl rfl)) (good_name (by decide)) (ds_cons (ds_aug (i := 3) (fun _ p => ps_aug (i := 3) sc_without_factors.nd rfl (Or.inl rfl) p q_mul) (d_int pe_int))
        (ds_one (ds_if (dt_cmp (o_eq hu64) (DE.o (d_op o_mod (DE.o (d_var (pv 1))) (DE.o (d_var (pv 4))))) (DE.o (d_int pe_int)) (nomark _)) (ds_cons (ds_aug (i := 1) (fun _ p => ps_aug (i := 1) sc_without_factors.nd rfl (Or.inl rfl) p q_div) (d_var (pv 4)))
        (ds_one (ds_aug (i := 3) (fun _ p => ps_aug (i := 3) sc_without_factors.nd rfl (Or.inl rfl) p q_add) (d_int pe_int)))) ds_nil)))))
        (ds_one (ds_ret (d_tup (da_cons (d_var (pv 1)) (da_cons (d_var (pv 3)) da_nil)))))))))

theorem ok_form_of {P : Program} {w : World} {K : PySem.W.Frag} {mg : Str → Option Value} {base : Heap} (T : Tx K mg) (nd : base.NoDigits) : FnG P w K mg base (L2.CX P w) 3 T.f_form_of T.fd_form_of ["base", "numerator", "exponent"] (spD K T.et 3 M_form_of) := by
  have G_without_factors := ok_without_factors (P := P) (w := w) (base := base) T nd
  exact fn_data (k := 2) T.form_of.F sc_form_of fun cdv A outer s H E quiet hr => by
    have hu64 := hr.units
    exact (ds_cons (ds_if (dt_cmp (o_eq hu64) (DE.o (d_var (pv 1))) (DE.o (d_int pe_int)) (nomark _)) (ds_one (ds_ret (d_tup (da_cons (d_int pe_int) (da_cons (d_int pe_int) da_nil))))) ds_nil)
        (ds_cons (ds_asg (vs := [3, 4]) (fun _ p => ps_asg p (pg_tup rfl (pgs_cons (pg_name (i := 3) sc_form_of.nd rfl (Or.inl rfl)) (pgs_cons (pg_name (i := 4) sc_form_of.nd rfl (Or.inl rfl)) pgs_nil)))) (good_tup (.cons (good_name (by decide)) (.cons (good_name (by decide)) .nil)) rfl) (d_call (fun _ p => pe_callW G_without_factors quiet (hr.mono (by decide)) rfl T.without_factors.g T.without_factors.F.kp T.without_factors.b (takes_of rfl rfl rfl rfl) p) (dan_cons (d_var (pv 0)) (dan_cons (d_var (pv 1)) dan_nil))))
        (ds_one (ds_ret (d_tup (da_cons (d_var (pv 3)) (da_cons (d_op o_add (DE.o (d_var (pv 2))) (DE.o (d_var (pv 4)))) da_nil)))))))

theorem ok_make_number {P : Program} {w : World} {K : PySem.W.Frag} {mg : Str → Option Value} {base : Heap} (T : Tx K mg) (nd : base.NoDigits) : FnG P w K mg base (L2.CX P w) 6 T.f_make_number T.fd_make_number ["base", "numerator", "exponent"] (spD K T.et 3 M_make_number) := by
  have G_within_limits := ok_within_limits (P := P) (w := w) (base := base) T nd
  have G_form_of := ok_form_of (P := P) (w := w) (base := base) T nd
  exact fn_data (k := 5) T.make_number.F sc_make_number fun cdv A outer s H E quiet hr => by
    have hu64 := hr.units
    exact (ds_one (ds_ret (d_call (fun _ p => pe_callW G_within_limits quiet (hr.mono (by decide)) rfl T.within_limits.g T.within_limits.F.kp T.within_limits.b (takes_of rfl rfl rfl rfl) p) (dan_cons (d_call (fun _ p => pe_callW G_form_of quiet (hr.mono (by decide)) rfl T.form_of.g T.form_of.F.kp T.form_of.b (takes_of rfl rfl rfl rfl) p) (dan_cons (d_var (pv 0)) (dan_cons (d_var (pv 1)) (dan_cons (d_var (pv 2)) dan_nil)))) dan_nil))))

theorem ok_require_numbers {P : Program} {w : World} {K : PySem.W.Frag} {mg : Str → Option Value} {base : Heap} (T : Tx K mg) (nd : base.NoDigits) : FnG P w K mg base (L2.CX P w) 6 T.f_require_numbers T.fd_require_numbers ["base", "values"] (spD K T.et 2 M_require_numbers) := by
  have G_is_number := ok_is_number (P := P) (w := w) (base := base) T nd
  exact fn_data (k := 5) T.require_numbers.F sc_require_numbers fun cdv A outer s H E quiet hr => by
    have hu64 := hr.units
    exact (ds_one (ds_for (vs := [2]) (passes_of rfl) rfl (di_list (d_var (pv 1))) (pg_name (i := 2) sc_require_numbers.nd rfl (Or.inl rfl)) (good_name (by decide)) (ds_one (ds_if (dt_not (dt_val (d_call (fun _ p => pe_callW G_is_number quiet (hr.mono (by decide)) rfl T.is_number.g T.is_number.F.kp T.is_number.b (takes_of rfl rfl rfl rfl) p) (dan_cons (d_var (pv 0)) (dan_cons (d_var (pv 2)) dan_nil))) (fun _ p => pt_val p))) (ds_one (ds_raise (x := "InvalidNumber") T.et_InvalidNumber (fun _ p => ps_raiseErr rfl T.InvalidNumber (hr.mono (Nat.zero_le _)) (takes_of rfl rfl rfl rfl) p) (d_var (pv 2)))) ds_nil))))

theorem ok_sum_of {P : Program} {w : World} {K : PySem.W.Frag} {mg : Str → Option Value} {base : Heap} (T : Tx K mg) (nd : base.NoDigits) : FnG P w K mg base (L2.CX P w) 4 T.f_sum_of T.fd_sum_of ["base", "parts"] (spD K T.et 2 M_sum_of) := by
  have G_form_of := ok_form_of (P := P) (w := w) (base := base) T nd
  have G_power_of := ok_power_of (P := P) (w := w) (base := base) T nd
  exact fn_data (k := 3) T.sum_of.F sc_sum_of fun cdv A outer s H E quiet hr => by
    have hu64 := hr.units
    exact (ds_cons (ds_setFD (i := 2) (fun _ p => ps_set (i := 2) sc_sum_of.nd rfl (Or.inl rfl) p) (d_dict0 pe_dnewK))
        (ds_cons (ds_for (vs := [3, 4]) (passes_of rfl) rfl (di_list (d_var (pv 1))) (pg_tup rfl (pgs_cons (pg_name (i := 3) sc_sum_of.nd rfl (Or.inl rfl)) (pgs_cons (pg_name (i := 4) sc_sum_of.nd rfl (Or.inl rfl)) pgs_nil))) (good_tup (.cons (good_name (by decide)) (.cons (good_name (by decide)) .nil)) rfl) (ds_one (ds_if (dt_cmp (o_ne hu64) (DE.o (d_var (pv 3))) (DE.o (d_int pe_int)) (nomark _)) (ds_one (ds_putD (i := 2) (fun _ _ p q => ps_dput (by exact Nat.lt_of_le_of_lt (Nat.add_le_add_left (by decide) _) hu64) (pv 2) q p (by rfl)) (d_var (pv 4)) (d_op o_add (DE.o (d_dget2 (fun _ _ _ p q r => pe_dget2 (by exact Nat.lt_of_le_of_lt (Nat.add_le_add_left (by decide) _) hu64) p q r ⟨rfl, rfl, rfl, rfl⟩) (d_varO (pv 2)) (d_var (pv 4)) (d_int pe_int))) (DE.o (d_var (pv 3)))))) ds_nil)))
        (ds_cons (ds_set (i := 5) (fun _ p => ps_set (i := 5) sc_sum_of.nd rfl (Or.inl rfl) p) (d_maxD (fun _ _ p q => pe_callBK (cr_maxDD rfl) (by rfl) T.b_max (by decide +kernel) p q) (d_varO (pv 2)) (d_int pe_int)))
        (ds_cons (ds_set (i := 6) (fun _ p => ps_set (i := 6) sc_sum_of.nd rfl (Or.inl rfl) p) (d_int pe_int))
        (ds_cons (ds_for (vs := [4]) (passes_of rfl) rfl (di_list (d_sortD (fun _ _ p q => pe_callBK (cr_sortedDR rfl) (by rfl) T.b_sorted (by decide +kernel) p q) (d_varO (pv 2)) (d_bl pe_bl))) (pg_name (i := 4) sc_sum_of.nd rfl (Or.inl rfl)) (good_name (by decide)) (ds_cons (ds_set (i := 6) (fun _ p => ps_set (i := 6) sc_sum_of.nd rfl (Or.inl rfl) p) (d_op o_add (DE.o (d_op o_mul (DE.o (d_var (pv 6))) (DE.o (d_call (fun _ p => pe_callW G_power_of quiet (hr.mono (by decide)) rfl T.power_of.g T.power_of.F.kp T.power_of.b (takes_of rfl rfl rfl rfl) p) (dan_cons (d_var (pv 0)) (dan_cons (d_op o_sub (DE.o (d_var (pv 5))) (DE.o (d_var (pv 4)))) dan_nil)))))) (DE.o (d_dget (fun _ _ p q => pe_dget (by exact Nat.lt_of_le_of_lt (Nat.add_le_add_left (by decide) _) hu64) p q (fun _ _ => rfl)) (d_varO (pv 2)) (d_var (pv 4))))))
        (ds_one (ds_set (i := 5) (fun _ p => ps_set (i := 5) sc_sum_of.nd rfl (Or.inl rfl) p) (d_var (pv 4))))))
        (ds_one (ds_ret (d_call (fun _ p => pe_callW G_form_of quiet (hr.mono (by decide)) rfl T.form_of.g T.form_of.F.kp T.form_of.b (takes_of rfl rfl rfl rfl) p) (dan_cons (d_var (pv 0)) (dan_cons (d_var (pv 6)) (dan_cons (d_var (pv 5)) dan_nil)))))))))))

theorem ok_plus {P : Program} {w : World} {K : PySem.W.Frag} {mg : Str → Option Value} {base : Heap} (T : Tx K mg) (nd : base.NoDigits) : FnG P w K mg base (L2.CX P w) 7 T.f_plus T.fd_plus ["base", "one", "other"] (spD K T.et 3 M_plus) := by
  have G_require_numbers := ok_require_numbers (P := P) (w := w) (base := base) T nd
  have G_within_limits := ok_within_limits (P := P) (w := w) (base := base) T nd
  have G_sum_of := ok_sum_of (P := P) (w := w) (base := base) T nd
  exact fn_data (k := 6) T.plus.F sc_plus fun cdv A outer s H E quiet hr => by
    have hu64 := hr.units
    exact (ds_cons (ds_expr (fun _ p => ps_expr p) (d_call (fun _ p => pe_callW G_require_numbers quiet (hr.mono (by decide)) rfl T.require_numbers.g T.require_numbers.F.kp T.require_numbers.b (takes_of rfl rfl rfl rfl) p) (dan_cons (d_var (pv 0)) (dan_cons (DF.all (d_lst (da_cons (d_var (pv 1)) (da_cons (d_var (pv 2)) da_nil)))) dan_nil))))
        (ds_one (ds_ret (d_call (fun _ p => pe_callW G_within_limits quiet (hr.mono (by decide)) rfl T.within_limits.g T.within_limits.F.kp T.within_limits.b (takes_of rfl rfl rfl rfl) p) (dan_cons (d_call (fun _ p => pe_callW G_sum_of quiet (hr.mono (by decide)) rfl T.sum_of.g T.sum_of.F.kp T.sum_of.b (takes_of rfl rfl rfl rfl) p) (dan_cons (d_var (pv 0)) (dan_cons (DF.all (d_lst (da_cons (d_var (pv 1)) (da_cons (d_var (pv 2)) da_nil)))) dan_nil))) dan_nil)))))

theorem ok_negative {P : Program} {w : World} {K : PySem.W.Frag} {mg : Str → Option Value} {base : Heap} (T : Tx K mg) (nd : base.NoDigits) : FnG P w K mg base (L2.CX P w) 2 T.f_negative T.fd_negative ["number"] (spD K T.et 1 M_negative) := by
  exact fn_data (k := 1) T.negative.F sc_negative fun cdv A outer s H E quiet hr => by
    have hu64 := hr.units
    exact (ds_cons (ds_asg (vs := [1, 2]) (fun _ p => ps_asg p (pg_tup rfl (pgs_cons (pg_name (i := 1) sc_negative.nd rfl (Or.inl rfl)) (pgs_cons (pg_name (i := 2) sc_negative.nd rfl (Or.inl rfl)) pgs_nil)))) (good_tup (.cons (good_name (by decide)) (.cons (good_name (by decide)) .nil)) rfl) (d_var (pv 0)))
        (ds_one (ds_ret (d_tup (da_cons (d_un u_neg (DE.o (d_var (pv 1)))) (da_cons (d_var (pv 2)) da_nil))))))

theorem ok_minus {P : Program} {w : World} {K : PySem.W.Frag} {mg : Str → Option Value} {base : Heap} (T : Tx K mg) (nd : base.NoDigits) : FnG P w K mg base (L2.CX P w) 7 T.f_minus T.fd_minus ["base", "one", "other"] (spD K T.et 3 M_minus) := by
  have G_require_numbers := ok_require_numbers (P := P) (w := w) (base := base) T nd
  have G_within_limits := ok_within_limits (P := P) (w := w) (base := base) T nd
  have G_sum_of := ok_sum_of (P := P) (w := w) (base := base) T nd
  have G_negative := ok_negative (P := P) (w := w) (base := base) T nd
  exact fn_data (k := 6) T.minus.F sc_minus fun cdv A outer s H E quiet hr => by
    have hu64 := hr.units
    exact (ds_cons (ds_expr (fun _ p => ps_expr p) (d_call (fun _ p => pe_callW G_require_numbers quiet (hr.mono (by decide)) rfl T.require_numbers.g T.require_numbers.F.kp T.require_numbers.b (takes_of rfl rfl rfl rfl) p) (dan_cons (d_var (pv 0)) (dan_cons (DF.all (d_lst (da_cons (d_var (pv 1)) (da_cons (d_var (pv 2)) da_nil)))) dan_nil))))
        (ds_one (ds_ret (d_call (fun _ p => pe_callW G_within_limits quiet (hr.mono (by decide)) rfl T.within_limits.g T.within_limits.F.kp T.within_limits.b (takes_of rfl rfl rfl rfl) p) (dan_cons (d_call (fun _ p => pe_callW G_sum_of quiet (hr.mono (by decide)) rfl T.sum_of.g T.sum_of.F.kp T.sum_of.b (takes_of rfl rfl rfl rfl) p) (dan_cons (d_var (pv 0)) (dan_cons (DF.all (d_lst (da_cons (d_var (pv 1)) (da_cons (d_call (fun _ p => pe_callW G_negative quiet (hr.mono (by decide)) rfl T.negative.g T.negative.F.kp T.negative.b (takes_of rfl rfl rfl rfl) p) (dan_cons (d_var (pv 2)) dan_nil)) da_nil)))) dan_nil))) dan_nil)))))

theorem ok_scaled {P : Program} {w : World} {K : PySem.W.Frag} {mg : Str → Option Value} {base : Heap} (T : Tx K mg) (nd : base.NoDigits) : FnG P w K mg base (L2.CX P w) 7 T.f_scaled T.fd_scaled ["base", "number", "places"] (spD K T.et 3 M_scaled) := by
  have G_require_numbers := ok_require_numbers (P := P) (w := w) (base := base) T nd
  have G_make_number := ok_make_number (P := P) (w := w) (base := base) T nd
  exact fn_data (k := 6) T.scaled.F sc_scaled fun cdv A outer s H E quiet hr => by
    have hu64 := hr.units
    exact (ds_cons (ds_expr (fun _ p => ps_expr p) (d_call (fun _ p => pe_callW G_require_numbers quiet (hr.mono (by decide)) rfl T.require_numbers.g T.require_numbers.F.kp T.require_numbers.b (takes_of rfl rfl rfl rfl) p) (dan_cons (d_var (pv 0)) (dan_cons (DF.all (d_lst (da_cons (d_var (pv 1)) da_nil))) dan_nil))))
        (ds_cons (ds_asg (vs := [3, 4]) (fun _ p => ps_asg p (pg_tup rfl (pgs_cons (pg_name (i := 3) sc_scaled.nd rfl (Or.inl rfl)) (pgs_cons (pg_name (i := 4) sc_scaled.nd rfl (Or.inl rfl)) pgs_nil)))) (good_tup (.cons (good_name (by decide)) (.cons (good_name (by decide)) .nil)) rfl) (d_var (pv 1)))
        (ds_one (ds_ret (d_call (fun _ p => pe_callW G_make_number quiet (hr.mono (by decide)) rfl T.make_number.g T.make_number.F.kp T.make_number.b (takes_of rfl rfl rfl rfl) p) (dan_cons (d_var (pv 0)) (dan_cons (d_var (pv 3)) (dan_cons (d_op o_add (DE.o (d_var (pv 4))) (DE.o (d_var (pv 2)))) dan_nil))))))))

theorem ok_units {P : Program} {w : World} {K : PySem.W.Frag} {mg : Str → Option Value} {base : Heap} (T : Tx K mg) (nd : base.NoDigits) : FnG P w K mg base (L2.CX P w) 3 T.f_units T.fd_units ["base", "number", "place"] (spD K T.et 3 M_units) := by
  have G_power_of := ok_power_of (P := P) (w := w) (base := base) T nd
  exact fn_data (k := 2) T.units.F sc_units fun cdv A outer s H E quiet hr => by
    have hu64 := hr.units
    exact (ds_cons (ds_asg (vs := [3, 4]) (fun _ p => ps_asg p (pg_tup rfl (pgs_cons (pg_name (i := 3) sc_units.nd rfl (Or.inl rfl)) (pgs_cons (pg_name (i := 4) sc_units.nd rfl (Or.inl rfl)) pgs_nil)))) (good_tup (.cons (good_name (by decide)) (.cons (good_name (by decide)) .nil)) rfl) (d_var (pv 1)))
        (ds_cons (ds_if (dt_cmp o_lt (DE.o (d_var (pv 4))) (DE.o (d_var (pv 2))) (nomark _)) (ds_one (ds_ret (d_op o_div (DE.o (d_var (pv 3))) (DE.o (d_call (fun _ p => pe_callW G_power_of quiet (hr.mono (by decide)) rfl T.power_of.g T.power_of.F.kp T.power_of.b (takes_of rfl rfl rfl rfl) p) (dan_cons (d_var (pv 0)) (dan_cons (d_op o_sub (DE.o (d_var (pv 2))) (DE.o (d_var (pv 4)))) dan_nil))))))) ds_nil)
        (ds_one (ds_ret (d_op o_mul (DE.o (d_var (pv 3))) (DE.o (d_call (fun _ p => pe_callW G_power_of quiet (hr.mono (by decide)) rfl T.power_of.g T.power_of.F.kp T.power_of.b (takes_of rfl rfl rfl rfl) p) (dan_cons (d_var (pv 0)) (dan_cons (d_op o_sub (DE.o (d_var (pv 4))) (DE.o (d_var (pv 2)))) dan_nil)))))))))

theorem ok_floor_at {P : Program} {w : World} {K : PySem.W.Frag} {mg : Str → Option Value} {base : Heap} (T : Tx K mg) (nd : base.NoDigits) : FnG P w K mg base (L2.CX P w) 7 T.f_floor_at T.fd_floor_at ["base", "number", "place"] (spD K T.et 3 M_floor_at) := by
  have G_require_numbers := ok_require_numbers (P := P) (w := w) (base := base) T nd
  have G_units := ok_units (P := P) (w := w) (base := base) T nd
  exact fn_data (k := 6) T.floor_at.F sc_floor_at fun cdv A outer s H E quiet hr => by
    have hu64 := hr.units
    exact (ds_cons (ds_expr (fun _ p => ps_expr p) (d_call (fun _ p => pe_callW G_require_numbers quiet (hr.mono (by decide)) rfl T.require_numbers.g T.require_numbers.F.kp T.require_numbers.b (takes_of rfl rfl rfl rfl) p) (dan_cons (d_var (pv 0)) (dan_cons (DF.all (d_lst (da_cons (d_var (pv 1)) da_nil))) dan_nil))))
        (ds_one (ds_ret (d_call (fun _ p => pe_callW G_units quiet (hr.mono (by decide)) rfl T.units.g T.units.F.kp T.units.b (takes_of rfl rfl rfl rfl) p) (dan_cons (d_var (pv 0)) (dan_cons (d_var (pv 1)) (dan_cons (d_var (pv 2)) dan_nil)))))))

theorem ok_law_numbers {P : Program} {w : World} {K : PySem.W.Frag} {mg : Str → Option Value} {base : Heap} (T : Tx K mg) (nd : base.NoDigits) : FnG P w K mg base (L2.CX P w) 2 T.f_law_numbers T.fd_law_numbers ["_law_cell", "_law_salt", "_law_sizes"] (spD K T.et 3 M_law_numbers) := by
  exact fn_data (k := 1) T.law_numbers.F sc_law_numbers fun cdv A outer s H E quiet hr => by
    have hu64 := hr.units
    exact (ds_cons (ds_set (i := 3) (fun _ p => ps_set (i := 3) sc_law_numbers.nd rfl (Or.inl rfl) p) (d_c2 (fun _ p => pe_callB (b_max rfl) (by rfl) T.b_max (by decide +kernel) p) (DE.o (d_var (pv 0))) (DE.o (d_op o_sub (DE.o (d_un u_neg (DE.o (d_int pe_int)))) (DE.o (d_var (pv 0)))))))
        (ds_cons (ds_set (i := 4) (fun _ p => ps_set (i := 4) sc_law_numbers.nd rfl (Or.inl rfl) p) (d_var (pv 3)))
        (ds_cons (ds_setF (i := 5) (fun _ p => ps_set (i := 5) sc_law_numbers.nd rfl (Or.inl rfl) p) (d_lst da_nil))
        (ds_cons (ds_for (vs := [6]) (passes_of rfl) rfl (di_range1 rfl T.b_range (da_cons (d_c1 (fun _ p => pe_callB b_len (by rfl) T.b_len (by decide +kernel) p) (DE.o (d_var (pv 2)))) da_nil)) (pg_name (i := 6) sc_law_numbers.nd rfl (Or.inl rfl)) (good_name (by decide)) (ds_one (ds_if (dt_w (dw_and (dt_cmp o_ge (DE.o (d_var (pv 3))) (DE.o (d_op o_pow (DE.o (d_int pe_int)) (DE.o (d_int pe_int)))) (nomark _)) (dw_and1 (dt_cmp o_gt (DE.o (d_var (pv 4))) (DE.o (d_int pe_int)) (nomark _))))) (ds_cons (ds_app (i := 5) (fun _ p => ps_expr (pe_bm PySem.F.plainAttrs_list PySem.F.slot_list_append PySem.F.type_list_append mt_append (pv 5) (pa_cons p pa_nil))) (d_op o_mod (DE.o (d_var (pv 4))) (DE.o (d_ix (DE.o (d_var (pv 2))) (DE.o (d_var (pv 6))) (fun _ _ => rfl)))))
        (ds_one (ds_set (i := 4) (fun _ p => ps_set (i := 4) sc_law_numbers.nd rfl (Or.inl rfl) p) (d_op o_div (DE.o (d_var (pv 4))) (DE.o (d_ix (DE.o (d_var (pv 2))) (DE.o (d_var (pv 6))) (fun _ _ => rfl))))))) (ds_cons (ds_set (i := 7) (fun _ p => ps_set (i := 7) sc_law_numbers.nd rfl (Or.inl rfl) p) (d_op o_mod (DE.o (d_op o_pow (DE.o (d_op o_add (DE.o (d_op o_add (DE.o (d_op o_mod (DE.o (d_var (pv 3))) (DE.o (d_int pe_int)))) (DE.o (d_op o_mul (DE.o (d_int pe_int)) (DE.o (d_var (pv 1))))))) (DE.o (d_int pe_int)))) (DE.o (d_int pe_int)))) (DE.o (d_int pe_int))))
        (ds_cons (ds_set (i := 7) (fun _ p => ps_set (i := 7) sc_law_numbers.nd rfl (Or.inl rfl) p) (d_op o_mod (DE.o (d_op o_mul (DE.o (d_op o_add (DE.o (d_var (pv 7))) (DE.o (d_op o_mul (DE.o (d_int pe_int)) (DE.o (d_op o_add (DE.o (d_var (pv 6))) (DE.o (d_int pe_int)))))))) (DE.o (d_op o_add (DE.o (d_var (pv 6))) (DE.o (d_int pe_int)))))) (DE.o (d_int pe_int))))
        (ds_cons (ds_set (i := 7) (fun _ p => ps_set (i := 7) sc_law_numbers.nd rfl (Or.inl rfl) p) (d_op o_mod (DE.o (d_op o_mul (DE.o (d_op o_mod (DE.o (d_op o_pow (DE.o (d_var (pv 7))) (DE.o (d_int pe_int)))) (DE.o (d_int pe_int)))) (DE.o (d_int pe_int)))) (DE.o (d_int pe_int))))
        (ds_one (ds_app (i := 5) (fun _ p => ps_expr (pe_bm PySem.F.plainAttrs_list PySem.F.slot_list_append PySem.F.type_list_append mt_append (pv 5) (pa_cons p pa_nil))) (d_op o_mod (DE.o (d_op o_div (DE.o (d_var (pv 7))) (DE.o (d_int pe_int)))) (DE.o (d_ix (DE.o (d_var (pv 2))) (DE.o (d_var (pv 6))) (fun _ _ => rfl))))))))))))
        (ds_one (ds_retO (pv 5)))))))

theorem ok_law_power {P : Program} {w : World} {K : PySem.W.Frag} {mg : Str → Option Value} {base : Heap} (T : Tx K mg) (nd : base.NoDigits) : FnG P w K mg base (L2.CX P w) 2 T.f_law_power T.fd_law_power ["_law_base_here", "_law_count"] (spD K T.et 2 M_law_power) := by
  exact fn_data (k := 1) T.law_power.F sc_law_power fun cdv A outer s H E quiet hr => by
    have hu64 := hr.units
    exact (ds_cons (ds_set (i := 2) (fun _ p => ps_set (i := 2) sc_law_power.nd rfl (Or.inl rfl) p) (d_int pe_int))
        (ds_cons (ds_for (vs := [3]) (passes_of rfl) rfl (di_range1 rfl T.b_range (da_cons (d_var (pv 1)) da_nil)) (pg_name (i := 3) sc_law_power.nd rfl (Or.inl rfl)) (good_name (by decide)) (ds_one (ds_set (i := 2) (fun _ p => ps_set (i := 2) sc_law_power.nd rfl (Or.inl rfl) p) (d_op o_mul (DE.o (d_var (pv 2))) (DE.o (d_var (pv 0)))))))
        (ds_one (ds_ret (d_var (pv 2))))))

theorem ok_law_form {P : Program} {w : World} {K : PySem.W.Frag} {mg : Str → Option Value} {base : Heap} (T : Tx K mg) (nd : base.NoDigits) : FnG P w K mg base (L2.CX P w) 2 T.f_law_form T.fd_law_form ["_law_base_here", "_law_numerator", "_law_exponent"] (spD K T.et 3 M_law_form) := by
  exact fn_data (k := 1) T.law_form.F sc_law_form fun cdv A outer s H E quiet hr => by
    have hu64 := hr.units
    exact (ds_cons (ds_while 1000000 (passes_of rfl) (dt_w (dw_and (dt_cmp (o_ne hu64) (DE.o (d_var (pv 1))) (DE.o (d_int pe_int)) (nomark _)) (dw_and1 (dt_cmp (o_eq hu64) (DE.o (d_op o_mod (DE.o (d_var (pv 1))) (DE.o (d_var (pv 0))))) (DE.o (d_int pe_int)) (nomark _))))) (ds_one (ds_par (i := 1) (j := 2) (fun _ p => ps_par (i := 1) (j := 2) rfl sc_law_form.nd rfl rfl (by decide) rfl rfl p (by rfl)) (da_cons (d_op o_div (DE.o (d_var (pv 1))) (DE.o (d_var (pv 0)))) (da_cons (d_op o_add (DE.o (d_var (pv 2))) (DE.o (d_int pe_int))) da_nil)))))
        (ds_one (ds_ret (d_if (dt_cmp (o_ne hu64) (DE.o (d_var (pv 1))) (DE.o (d_int pe_int)) (nomark _)) (d_tup (da_cons (d_var (pv 1)) (da_cons (d_var (pv 2)) da_nil))) (d_tup (da_cons (d_int pe_int) (da_cons (d_int pe_int) da_nil)))))))

theorem ok_law_sum {P : Program} {w : World} {K : PySem.W.Frag} {mg : Str → Option Value} {base : Heap} (T : Tx K mg) (nd : base.NoDigits) : FnG P w K mg base (L2.CX P w) 3 T.f_law_sum T.fd_law_sum ["_law_base_here", "_law_one", "_law_other"] (spD K T.et 3 M_law_sum) := by
  have G_law_form := ok_law_form (P := P) (w := w) (base := base) T nd
  have G_law_power := ok_law_power (P := P) (w := w) (base := base) T nd
  exact fn_data (k := 2) T.law_sum.F sc_law_sum fun cdv A outer s H E quiet hr => by
    have hu64 := hr.units
    exact (ds_cons (ds_set (i := 3) (fun _ p => ps_set (i := 3) sc_law_sum.nd rfl (Or.inl rfl) p) (d_c2 (fun _ p => pe_callB (b_min rfl) (by rfl) T.b_min (by decide +kernel) p) (DE.o (d_ix (DE.o (d_var (pv 1))) (DE.o (d_int pe_int)) (fun _ _ => rfl))) (DE.o (d_ix (DE.o (d_var (pv 2))) (DE.o (d_int pe_int)) (fun _ _ => rfl)))))
        (ds_cons (ds_set (i := 4) (fun _ p => ps_set (i := 4) sc_law_sum.nd rfl (Or.inl rfl) p) (d_op o_add (DE.o (d_op o_mul (DE.o (d_ix (DE.o (d_var (pv 1))) (DE.o (d_int pe_int)) (fun _ _ => rfl))) (DE.o (d_call (fun _ p => pe_callW G_law_power quiet (hr.mono (by decide)) rfl T.law_power.g T.law_power.F.kp T.law_power.b (takes_of rfl rfl rfl rfl) p) (dan_cons (d_var (pv 0)) (dan_cons (d_op o_sub (DE.o (d_ix (DE.o (d_var (pv 1))) (DE.o (d_int pe_int)) (fun _ _ => rfl))) (DE.o (d_var (pv 3)))) dan_nil)))))) (DE.o (d_op o_mul (DE.o (d_ix (DE.o (d_var (pv 2))) (DE.o (d_int pe_int)) (fun _ _ => rfl))) (DE.o (d_call (fun _ p => pe_callW G_law_power quiet (hr.mono (by decide)) rfl T.law_power.g T.law_power.F.kp T.law_power.b (takes_of rfl rfl rfl rfl) p) (dan_cons (d_var (pv 0)) (dan_cons (d_op o_sub (DE.o (d_ix (DE.o (d_var (pv 2))) (DE.o (d_int pe_int)) (fun _ _ => rfl))) (DE.o (d_var (pv 3)))) dan_nil))))))))
        (ds_one (ds_ret (d_call (fun _ p => pe_callW G_law_form quiet (hr.mono (by decide)) rfl T.law_form.g T.law_form.F.kp T.law_form.b (takes_of rfl rfl rfl rfl) p) (dan_cons (d_var (pv 0)) (dan_cons (d_var (pv 4)) (dan_cons (d_var (pv 3)) dan_nil))))))))

theorem ok_law_base {P : Program} {w : World} {K : PySem.W.Frag} {mg : Str → Option Value} {base : Heap} (T : Tx K mg) (nd : base.NoDigits) : FnG P w K mg base (L2.CX P w) 2 T.f_law_base T.fd_law_base ["_law_digit"] (spD K T.et 1 M_law_base) := by
  exact fn_data (k := 1) T.law_base.F sc_law_base fun cdv A outer s H E quiet hr => by
    have hu64 := hr.units
    exact (ds_one (ds_ret (d_ix (DE.o (DF.all (d_lst (da_cons (d_int pe_int) (da_cons (d_int pe_int) (da_cons (d_int pe_int) (da_cons (d_int pe_int) (da_cons (d_int pe_int) (da_cons (d_int pe_int) (da_cons (d_int pe_int) da_nil)))))))))) (DE.o (d_op o_mod (DE.o (d_var (pv 0))) (DE.o (d_int pe_int)))) (fun _ _ => rfl))))

theorem ok_law_integer {P : Program} {w : World} {K : PySem.W.Frag} {mg : Str → Option Value} {base : Heap} (T : Tx K mg) (nd : base.NoDigits) : FnG P w K mg base (L2.CX P w) 2 T.f_law_integer T.fd_law_integer ["_law_digits"] (spD K T.et 1 M_law_integer_v2) := by
  exact fn_data (k := 1) T.law_integer.F sc_law_integer fun cdv A outer s H E quiet hr => by
    have hu64 := hr.units
    exact (ds_cons (ds_set (i := 1) (fun _ p => ps_set (i := 1) sc_law_integer.nd rfl (Or.inl rfl) p) (d_ix (DE.o (DF.all (d_lst (da_cons (d_int pe_int) (da_cons (d_int pe_int) (da_cons (d_int pe_int) (da_cons (d_op o_mul (DE.o (d_int pe_int)) (DE.o (d_int pe_int))) (da_cons (d_op o_pow (DE.o (d_int pe_int)) (DE.o (d_int pe_int))) (da_cons (d_op o_pow (DE.o (d_int pe_int)) (DE.o (d_int pe_int))) da_nil))))))))) (DE.o (d_op o_mod (DE.o (d_ix (DE.o (d_var (pv 0))) (DE.o (d_int pe_int)) (fun _ _ => rfl))) (DE.o (d_int pe_int)))) (fun _ _ => rfl)))
        (ds_cons (ds_set (i := 2) (fun _ p => ps_set (i := 2) sc_law_integer.nd rfl (Or.inl rfl) p) (d_op o_add (DE.o (d_op o_mul (DE.o (d_op o_add (DE.o (d_op o_mul (DE.o (d_ix (DE.o (d_var (pv 0))) (DE.o (d_int pe_int)) (fun _ _ => rfl))) (DE.o (d_int pe_int)))) (DE.o (d_ix (DE.o (d_var (pv 0))) (DE.o (d_int pe_int)) (fun _ _ => rfl))))) (DE.o (d_int pe_int)))) (DE.o (d_ix (DE.o (d_var (pv 0))) (DE.o (d_int pe_int)) (fun _ _ => rfl)))))
        (ds_cons (ds_set (i := 3) (fun _ p => ps_set (i := 3) sc_law_integer.nd rfl (Or.inl rfl) p) (d_op o_add (DE.o (d_op o_div (DE.o (d_op o_mul (DE.o (d_var (pv 2))) (DE.o (d_op o_add (DE.o (d_op o_div (DE.o (d_var (pv 1))) (DE.o (d_int pe_int)))) (DE.o (d_int pe_int)))))) (DE.o (d_op o_add (DE.o (d_int pe_int)) (DE.o (d_ix (DE.o (d_var (pv 0))) (DE.o (d_int pe_int)) (fun _ _ => rfl))))))) (DE.o (d_op o_mod (DE.o (d_var (pv 2))) (DE.o (d_int pe_int))))))
        (ds_one (ds_ret (d_if (dt_cmp o_gt (DE.o (d_op o_mod (DE.o (d_ix (DE.o (d_var (pv 0))) (DE.o (d_int pe_int)) (fun _ _ => rfl))) (DE.o (d_int pe_int)))) (DE.o (d_int pe_int)) (nomark _)) (d_if (dt_cmp (o_eq hu64) (DE.o (d_op o_mod (DE.o (d_ix (DE.o (d_var (pv 0))) (DE.o (d_int pe_int)) (fun _ _ => rfl))) (DE.o (d_int pe_int)))) (DE.o (d_int pe_int)) (nomark _)) (d_op o_sub (DE.o (d_int pe_int)) (DE.o (d_var (pv 3)))) (d_var (pv 3))) (d_int pe_int)))))))

theorem ok_law_number {P : Program} {w : World} {K : PySem.W.Frag} {mg : Str → Option Value} {base : Heap} (T : Tx K mg) (nd : base.NoDigits) : FnG P w K mg base (L2.CX P w) 3 T.f_law_number T.fd_law_number ["_law_base_here", "_law_digits"] (spD K T.et 2 M_law_number_v2) := by
  have G_law_form := ok_law_form (P := P) (w := w) (base := base) T nd
  have G_law_integer := ok_law_integer (P := P) (w := w) (base := base) T nd
  exact fn_data (k := 2) T.law_number.F sc_law_number fun cdv A outer s H E quiet hr => by
    have hu64 := hr.units
    exact (ds_one (ds_ret (d_call (fun _ p => pe_callW G_law_form quiet (hr.mono (by decide)) rfl T.law_form.g T.law_form.F.kp T.law_form.b (takes_of rfl rfl rfl rfl) p) (dan_cons (d_var (pv 0)) (dan_cons (d_call (fun _ p => pe_callW G_law_integer quiet (hr.mono (by decide)) rfl T.law_integer.g T.law_integer.F.kp T.law_integer.b (takes_of rfl rfl rfl rfl) p) (dan_cons (d_var (pv 1)) dan_nil)) (dan_cons (d_op o_sub (DE.o (d_op o_mod (DE.o (d_ix (DE.o (d_var (pv 1))) (DE.o (d_int pe_int)) (fun _ _ => rfl))) (DE.o (d_int pe_int)))) (DE.o (d_int pe_int))) dan_nil))))))

theorem ok_law_got {P : Program} {w : World} {K : PySem.W.Frag} {mg : Str → Option Value} {base : Heap} (T : Tx K mg) (nd : base.NoDigits) : FnG P w K mg base (L2.CX P w) 8 T.f_law_got T.fd_law_got ["_law_door", "_law_base_here", "_law_one", "_law_other"] (spD K T.et 4 M_law_got_v2) := by
  have G_plus := ok_plus (P := P) (w := w) (base := base) T nd
  have G_minus := ok_minus (P := P) (w := w) (base := base) T nd
  have G_scaled := ok_scaled (P := P) (w := w) (base := base) T nd
  have G_floor_at := ok_floor_at (P := P) (w := w) (base := base) T nd
  exact fn_data (k := 7) T.law_got.F sc_law_got fun cdv A outer s H E quiet hr => by
    have hu64 := hr.units
    exact (ds_cons (ds_set (i := 4) (fun _ p => ps_set (i := 4) sc_law_got.nd rfl (Or.inl rfl) p) (d_non pe_non))
        (ds_cons (ds_try (cs := [.ref T.C_InvalidNumber, .ref T.C_LimitExceeded]) rfl rfl sc_law_got.nd (takes_of rfl rfl rfl rfl) (fun _ _ _ tk po => (ds_one (ds_if (dt_cmp o_lt (DE.o (d_var (pv 0))) (DE.o (d_int pe_int)) (nomark _)) (ds_one (ds_set (i := 4) (fun _ p => ps_set (i := 4) sc_law_got.nd rfl (Or.inl rfl) p) (d_door (by exact fun _ _ p q => pe_doorG (pe_ix ix_list (pe_lst (pa_cons (pe_glob (v := .ref T.f_plus) rfl T.plus.g rfl) (pa_cons (pe_glob (v := .ref T.f_minus) rfl T.minus.g rfl) pa_nil))) p (fun _ _ => rfl)) (by rintro f sp (⟨rfl, rfl⟩ | ⟨rfl, rfl⟩) <;> first | exact ⟨T.plus.F.kp, _, _, _, G_plus, hr.mono (by decide), T.plus.b⟩ | exact ⟨T.minus.F.kp, _, _, _, G_minus, hr.mono (by decide), T.minus.b⟩) quiet tk q) (d_var (pv 0)) (dan_cons (d_var (pv 1)) (dan_cons (d_var (pv 2)) (dan_cons (d_var (pv 3)) dan_nil)))))) (ds_one (ds_if (dt_cmp (o_eq hu64) (DE.o (d_var (pv 0))) (DE.o (d_int pe_int)) (nomark _)) (ds_one (ds_set (i := 4) (fun _ p => ps_set (i := 4) sc_law_got.nd rfl (Or.inl rfl) p) (d_call (fun _ p => pe_callW G_scaled quiet (hr.mono (by decide)) rfl T.scaled.g T.scaled.F.kp T.scaled.b tk p) (dan_cons (d_var (pv 1)) (dan_cons (d_var (pv 2)) (dan_cons (d_var (pv 3)) dan_nil)))))) (ds_one (ds_set (i := 4) (fun _ p => ps_set (i := 4) sc_law_got.nd rfl (Or.inl rfl) p) (d_call (fun _ p => pe_callW G_floor_at quiet (hr.mono (by decide)) rfl T.floor_at.g T.floor_at.F.kp T.floor_at.b tk p) (dan_cons (d_var (pv 1)) (dan_cons (d_var (pv 2)) (dan_cons (d_var (pv 3)) dan_nil))))))))))) (.cons T.cat_InvalidNumber (.cons T.cat_LimitExceeded .nil)) (.cons rfl rfl ⟨rfl, by decide, .inl T.InvalidNumber.gC⟩ (fun a oe cls d pn hz hf => DSs.can (ds_one (ds_set (i := 4) (fun _ p => ps_set (i := 4) sc_law_got.nd rfl (Or.inl rfl) p) (DF.all (d_lst (da_cons (d_str pe_str) (da_cons (d_c1 (fun _ p => pe_callB (b_repr quiet hu64) (by rfl) T.b_repr (by decide +kernel) p) (DE.o (d_errFld (x := "InvalidNumber") T.et_InvalidNumber (fun _ p => pe_errFld T.InvalidNumber hz hf p) (pv 5)))) (da_cons (d_errIsi (x := "InvalidNumber") T.et_InvalidNumber (fun _ p => pe_callB (call_errIs T.InvalidNumber hz hf) (by rfl) T.b_isinstance (by decide +kernel) p) (pv 5) (pe_glob (v := .ref T.C_HeadError) rfl T.h_HeadError rfl) (.own _) T.x_kit_InvalidNumber_HeadError) (da_cons (d_errIsi (x := "InvalidNumber") T.et_InvalidNumber (fun _ p => pe_callB (call_errIs T.InvalidNumber hz hf) (by rfl) T.b_isinstance (by decide +kernel) p) (pv 5) (pe_glob (v := .ref T.C_InvalidState) rfl T.InvalidState.gC rfl) (.own _) T.x_kit_InvalidNumber_InvalidState) da_nil))))))))) (.cons rfl rfl ⟨rfl, by decide, .inl T.LimitExceeded.gC⟩ (fun a oe cls d pn hz hf => DSs.can (ds_one (ds_set (i := 4) (fun _ p => ps_set (i := 4) sc_law_got.nd rfl (Or.inl rfl) p) (DF.all (d_lst (da_cons (d_str pe_str) (da_cons (d_errFld (x := "LimitExceeded") T.et_LimitExceeded (fun _ p => pe_errFld T.LimitExceeded hz hf p) (pv 5)) da_nil))))))) .nil)))
        (ds_one (ds_ret (d_var (pv 4))))))

theorem ok_law_limited {P : Program} {w : World} {K : PySem.W.Frag} {mg : Str → Option Value} {base : Heap} (T : Tx K mg) (nd : base.NoDigits) : FnG P w K mg base (L2.CX P w) 2 T.f_law_limited T.fd_law_limited ["_law_number_here"] (spD K T.et 1 M_law_limited) := by
  exact fn_data (k := 1) T.law_limited.F sc_law_limited fun cdv A outer s H E quiet hr => by
    have hu64 := hr.units
    exact (ds_cons (ds_if (dt_cmp o_ge (DE.o (d_c1 (fun _ p => pe_callB b_abs (by rfl) T.b_abs (by decide +kernel) p) (DE.o (d_ix (DE.o (d_var (pv 0))) (DE.o (d_int pe_int)) (fun _ _ => rfl))))) (DE.o (d_op o_pow (DE.o (d_op o_pow (DE.o (d_int pe_int)) (DE.o (d_int pe_int)))) (DE.o (d_int pe_int)))) (nomark _)) (ds_one (ds_retF (d_lst (da_cons (d_str pe_str) (da_cons (d_int pe_int) da_nil))))) ds_nil)
        (ds_one (ds_ret (d_if (dt_chain (DE.o (d_un u_neg (DE.o (d_int pe_int)))) (DE.o (d_ix (DE.o (d_var (pv 0))) (DE.o (d_int pe_int)) (fun _ _ => rfl))) (DE.o (d_int pe_int)) le_bl (fun _ _ _ x y z => pt_chain o_le o_le x y z)) (d_var (pv 0)) (DF.all (d_lst (da_cons (d_str pe_str) (da_cons (d_int pe_int) da_nil))))))))

theorem ok_law_floor {P : Program} {w : World} {K : PySem.W.Frag} {mg : Str → Option Value} {base : Heap} (T : Tx K mg) (nd : base.NoDigits) : FnG P w K mg base (L2.CX P w) 3 T.f_law_floor T.fd_law_floor ["_law_base_here", "_law_number_here", "_law_place"] (spD K T.et 3 M_law_floor) := by
  have G_law_power := ok_law_power (P := P) (w := w) (base := base) T nd
  exact fn_data (k := 2) T.law_floor.F sc_law_floor fun cdv A outer s H E quiet hr => by
    have hu64 := hr.units
    exact (ds_cons (ds_if (dt_cmp o_ge (DE.o (d_ix (DE.o (d_var (pv 1))) (DE.o (d_int pe_int)) (fun _ _ => rfl))) (DE.o (d_var (pv 2))) (nomark _)) (ds_one (ds_ret (d_op o_mul (DE.o (d_ix (DE.o (d_var (pv 1))) (DE.o (d_int pe_int)) (fun _ _ => rfl))) (DE.o (d_call (fun _ p => pe_callW G_law_power quiet (hr.mono (by decide)) rfl T.law_power.g T.law_power.F.kp T.law_power.b (takes_of rfl rfl rfl rfl) p) (dan_cons (d_var (pv 0)) (dan_cons (d_op o_sub (DE.o (d_ix (DE.o (d_var (pv 1))) (DE.o (d_int pe_int)) (fun _ _ => rfl))) (DE.o (d_var (pv 2)))) dan_nil))))))) ds_nil)
        (ds_one (ds_ret (d_op o_div (DE.o (d_ix (DE.o (d_var (pv 1))) (DE.o (d_int pe_int)) (fun _ _ => rfl))) (DE.o (d_call (fun _ p => pe_callW G_law_power quiet (hr.mono (by decide)) rfl T.law_power.g T.law_power.F.kp T.law_power.b (takes_of rfl rfl rfl rfl) p) (dan_cons (d_var (pv 0)) (dan_cons (d_op o_sub (DE.o (d_var (pv 2))) (DE.o (d_ix (DE.o (d_var (pv 1))) (DE.o (d_int pe_int)) (fun _ _ => rfl)))) dan_nil))))))))

theorem ok_law_far {P : Program} {w : World} {K : PySem.W.Frag} {mg : Str → Option Value} {base : Heap} (T : Tx K mg) (nd : base.NoDigits) : FnG P w K mg base (L2.CX P w) 2 T.f_law_far T.fd_law_far ["_law_base_here", "_law_number_here", "_law_digit"] (spD K T.et 3 M_law_far) := by
  exact fn_data (k := 1) T.law_far.F sc_law_far fun cdv A outer s H E quiet hr => by
    have hu64 := hr.units
    exact (ds_one (ds_ret (d_if (dt_cmp (o_eq hu64) (DE.o (d_ix (DE.o (d_var (pv 1))) (DE.o (d_int pe_int)) (fun _ _ => rfl))) (DE.o (d_int pe_int)) (nomark _)) (d_var (pv 1)) (d_tup (da_cons (d_ix (DE.o (d_var (pv 1))) (DE.o (d_int pe_int)) (fun _ _ => rfl)) (da_cons (d_ix (DE.o (DF.all (d_lst (da_cons (d_int pe_int) (da_cons (d_un u_neg (DE.o (d_int pe_int))) (da_cons (d_int pe_int) (da_cons (d_un u_neg (DE.o (d_int pe_int))) da_nil))))))) (DE.o (d_op o_mod (DE.o (d_var (pv 2))) (DE.o (d_int pe_int)))) (fun _ _ => rfl)) da_nil))))))

theorem ok_law_floors_ok {P : Program} {w : World} {K : PySem.W.Frag} {mg : Str → Option Value} {base : Heap} (T : Tx K mg) (nd : base.NoDigits) : FnG P w K mg base (L2.CX P w) 9 T.f_law_floors_ok T.fd_law_floors_ok ["_law_base_here", "_law_one", "_law_far_here", "_law_digit"] (spD K T.et 4 M_law_floors_ok) := by
  have G_law_got := ok_law_got (P := P) (w := w) (base := base) T nd
  have G_law_floor := ok_law_floor (P := P) (w := w) (base := base) T nd
  exact fn_data (k := 8) T.law_floors_ok.F sc_law_floors_ok fun cdv A outer s H E quiet hr => by
    have hu64 := hr.units
    exact (ds_cons (ds_for (vs := [4]) (passes_of rfl) rfl (di_range2 rfl T.b_range (da_cons (d_un u_neg (DE.o (d_int pe_int))) (da_cons (d_int pe_int) da_nil))) (pg_name (i := 4) sc_law_floors_ok.nd rfl (Or.inl rfl)) (good_name (by decide)) (ds_one (ds_if (dt_cmp (o_ne hu64) (DE.o (d_c1 (fun _ p => pe_callB (b_reprW quiet hr hu64 nd) (by rfl) T.b_repr (by decide +kernel) p) (DE.o (d_call (fun _ p => pe_callW G_law_got quiet (hr.mono (by decide)) rfl T.law_got.g T.law_got.F.kp T.law_got.b (takes_of rfl rfl rfl rfl) p) (dan_cons (d_int pe_int) (dan_cons (d_var (pv 0)) (dan_cons (d_var (pv 1)) (dan_cons (d_var (pv 4)) dan_nil)))))))) (DE.o (d_c1 (fun _ p => pe_callB (b_reprW quiet hr hu64 nd) (by rfl) T.b_repr (by decide +kernel) p) (DE.o (d_call (fun _ p => pe_callW G_law_floor quiet (hr.mono (by decide)) rfl T.law_floor.g T.law_floor.F.kp T.law_floor.b (takes_of rfl rfl rfl rfl) p) (dan_cons (d_var (pv 0)) (dan_cons (d_var (pv 1)) (dan_cons (d_var (pv 4)) dan_nil))))))) (nomark _)) (ds_one (ds_ret (d_bl pe_bl))) ds_nil)))
        (ds_cons (ds_for (vs := [4]) (passes_of rfl) rfl (di_list (DF.all (d_lst (da_cons (d_int pe_int) (da_cons (d_un u_neg (DE.o (d_int pe_int))) (da_cons (d_ix (DE.o (d_var (pv 2))) (DE.o (d_int pe_int)) (fun _ _ => rfl)) (da_cons (d_c2 (fun _ p => pe_callB (b_max rfl) (by rfl) T.b_max (by decide +kernel) p) (DE.o (d_un u_neg (DE.o (d_int pe_int)))) (DE.o (d_op o_sub (DE.o (d_ix (DE.o (d_var (pv 2))) (DE.o (d_int pe_int)) (fun _ _ => rfl))) (DE.o (d_op o_mod (DE.o (d_var (pv 3))) (DE.o (d_int pe_int))))))) da_nil))))))) (pg_name (i := 4) sc_law_floors_ok.nd rfl (Or.inl rfl)) (good_name (by decide)) (ds_one (ds_if (dt_cmp (o_ne hu64) (DE.o (d_c1 (fun _ p => pe_callB (b_reprW quiet hr hu64 nd) (by rfl) T.b_repr (by decide +kernel) p) (DE.o (d_call (fun _ p => pe_callW G_law_got quiet (hr.mono (by decide)) rfl T.law_got.g T.law_got.F.kp T.law_got.b (takes_of rfl rfl rfl rfl) p) (dan_cons (d_int pe_int) (dan_cons (d_var (pv 0)) (dan_cons (d_var (pv 2)) (dan_cons (d_var (pv 4)) dan_nil)))))))) (DE.o (d_c1 (fun _ p => pe_callB (b_reprW quiet hr hu64 nd) (by rfl) T.b_repr (by decide +kernel) p) (DE.o (d_call (fun _ p => pe_callW G_law_floor quiet (hr.mono (by decide)) rfl T.law_floor.g T.law_floor.F.kp T.law_floor.b (takes_of rfl rfl rfl rfl) p) (dan_cons (d_var (pv 0)) (dan_cons (d_var (pv 2)) (dan_cons (d_var (pv 4)) dan_nil))))))) (nomark _)) (ds_one (ds_ret (d_bl pe_bl))) ds_nil)))
        (ds_one (ds_ret (d_bl pe_bl)))))
end K03

namespace K03
open PySem L2 GL DL PM
theorem ok_law {P : Program} {w : World} {K : PySem.W.Frag} {mg : Str → Option Value} {base : Heap} (T : Tx K mg) (nd : base.NoDigits) : FnG P w K mg base (L2.CX P w) 10 T.f_law T.fd_law ["_law_script"] (spD K T.et 1 M_law_K03) := by
  have G_law_numbers := ok_law_numbers (P := P) (w := w) (base := base) T nd
  have G_law_base := ok_law_base (P := P) (w := w) (base := base) T nd
  have G_law_far := ok_law_far (P := P) (w := w) (base := base) T nd
  have G_law_number := ok_law_number (P := P) (w := w) (base := base) T nd
  have G_law_floors_ok := ok_law_floors_ok (P := P) (w := w) (base := base) T nd
  have G_law_limited := ok_law_limited (P := P) (w := w) (base := base) T nd
  have G_law_got := ok_law_got (P := P) (w := w) (base := base) T nd
  have G_law_sum := ok_law_sum (P := P) (w := w) (base := base) T nd
  exact fn_data (k := 9) T.law.F sc_law fun cdv A outer s H E quiet hr => by
    have hu64 := hr.units
    exact (ds_cons (ds_for (vs := [1, 2]) (passes_of rfl) rfl (di_enum (by rfl) T.b_enumerate (d_op o_add (DE.o (d_sl (DE.o (d_var (pv 0))) dp_none (dp_some (DE.o (d_int pe_int))))) (DE.o (d_op o_mul (DE.o (DF.all (d_lst (da_cons (d_int pe_int) da_nil)))) (DE.o (d_c1 (fun _ p => pe_callTy b_int (by rfl) T.b_int (by decide +kernel) p) (DE.o (d_cmp (o_eq hu64) (DE.o (d_var (pv 0))) (DE.o (DF.all (d_lst da_nil))) (nomark _))))))))) (pg_tup rfl (pgs_cons (pg_name (i := 1) sc_law.nd rfl (Or.inl rfl)) (pgs_cons (pg_name (i := 2) sc_law.nd rfl (Or.inl rfl)) pgs_nil))) (good_tup (.cons (good_name (by decide)) (.cons (good_name (by decide)) .nil)) rfl) (ds_cons (ds_set (i := 3) (fun _ p => ps_set (i := 3) sc_law.nd rfl (Or.inl rfl) p) (DF.all (d_callF (fun _ p => pe_callW G_law_numbers quiet (hr.mono (by decide)) rfl T.law_numbers.g T.law_numbers.F.kp T.law_numbers.b (takes_of rfl rfl rfl rfl) p) (dan_cons (d_var (pv 2)) (dan_cons (d_op o_add (DE.o (d_int pe_int)) (DE.o (d_var (pv 1)))) (dan_cons (d_op o_mul (DE.o (DF.all (d_lst (da_cons (d_int pe_int) da_nil)))) (DE.o (d_int pe_int))) dan_nil))))))
        (ds_cons (ds_set (i := 4) (fun _ p => ps_set (i := 4) sc_law.nd rfl (Or.inr rfl) p) (d_call (fun _ p => pe_callW G_law_base quiet (hr.mono (by decide)) rfl T.law_base.g T.law_base.F.kp T.law_base.b (takes_of rfl rfl rfl rfl) p) (dan_cons (d_ix (DE.o (d_var (pv 3))) (DE.o (d_int pe_int)) (fun _ _ => rfl)) dan_nil)))
        (ds_cons (ds_par (i := 5) (j := 6) (fun _ p => ps_par (i := 5) (j := 6) rfl sc_law.nd rfl rfl (by decide) rfl rfl p (by rfl)) (da_cons (d_call (fun _ p => pe_callW G_law_number quiet (hr.mono (by decide)) rfl T.law_number.g T.law_number.F.kp T.law_number.b (takes_of rfl rfl rfl rfl) p) (dan_cons (d_var (pv 4)) (dan_cons (d_sl (DE.o (d_var (pv 3))) (dp_some (DE.o (d_int pe_int))) dp_none) dan_nil))) (da_cons (d_call (fun _ p => pe_callW G_law_number quiet (hr.mono (by decide)) rfl T.law_number.g T.law_number.F.kp T.law_number.b (takes_of rfl rfl rfl rfl) p) (dan_cons (d_var (pv 4)) (dan_cons (d_sl (DE.o (d_var (pv 3))) (dp_some (DE.o (d_int pe_int))) dp_none) dan_nil))) da_nil)))
        (ds_cons (ds_setF (i := 7) (fun _ p => ps_set (i := 7) sc_law.nd rfl (Or.inl rfl) p) (d_lst (da_cons (d_tup (da_cons (d_var (pv 5)) (da_cons (d_var (pv 6)) da_nil))) (da_cons (d_tup (da_cons (d_var (pv 6)) (da_cons (d_var (pv 5)) da_nil))) (da_cons (d_tup (da_cons (d_var (pv 5)) (da_cons (d_var (pv 5)) da_nil))) (da_cons (d_tup (da_cons (d_var (pv 5)) (da_cons (d_tup (da_cons (d_int pe_int) (da_cons (d_int pe_int) da_nil))) da_nil))) (da_cons (d_tup (da_cons (d_var (pv 5)) (da_cons (d_tup (da_cons (d_op o_sub (DE.o (d_int pe_int)) (DE.o (d_ix (DE.o (d_var (pv 5))) (DE.o (d_int pe_int)) (fun _ _ => rfl)))) (da_cons (d_ix (DE.o (d_var (pv 5))) (DE.o (d_int pe_int)) (fun _ _ => rfl)) da_nil))) da_nil))) da_nil)))))))
        (ds_cons (ds_set (i := 8) (fun _ p => ps_set (i := 8) sc_law.nd rfl (Or.inr rfl) p) (d_call (fun _ p => pe_callW G_law_far quiet (hr.mono (by decide)) rfl T.law_far.g T.law_far.F.kp T.law_far.b (takes_of rfl rfl rfl rfl) p) (dan_cons (d_var (pv 4)) (dan_cons (d_var (pv 5)) (dan_cons (d_ix (DE.o (d_var (pv 3))) (DE.o (d_int pe_int)) (fun _ _ => rfl)) dan_nil)))))
        (ds_cons (ds_setF (i := 7) (fun _ p => ps_set (i := 7) sc_law.nd rfl (Or.inl rfl) p) (d_opF o_add (d_varO (pv 7)) (DE.o (DF.all (d_lst (da_cons (d_tup (da_cons (d_var (pv 8)) (da_cons (d_var (pv 8)) da_nil))) (da_cons (d_tup (da_cons (d_var (pv 8)) (da_cons (d_tup (da_cons (d_op o_sub (DE.o (d_int pe_int)) (DE.o (d_ix (DE.o (d_var (pv 8))) (DE.o (d_int pe_int)) (fun _ _ => rfl)))) (da_cons (d_ix (DE.o (d_var (pv 8))) (DE.o (d_int pe_int)) (fun _ _ => rfl)) da_nil))) da_nil))) (da_cons (d_tup (da_cons (d_var (pv 8)) (da_cons (d_call (fun _ p => pe_callW G_law_far quiet (hr.mono (by decide)) rfl T.law_far.g T.law_far.F.kp T.law_far.b (takes_of rfl rfl rfl rfl) p) (dan_cons (d_var (pv 4)) (dan_cons (d_var (pv 6)) (dan_cons (d_ix (DE.o (d_var (pv 3))) (DE.o (d_int pe_int)) (fun _ _ => rfl)) dan_nil)))) da_nil))) da_nil))))))))
        (ds_cons (ds_if (dt_cmp o_gt (DE.o (d_ix (DE.o (d_var (pv 8))) (DE.o (d_int pe_int)) (fun _ _ => rfl))) (DE.o (d_int pe_int)) (nomark _)) (ds_one (ds_app (i := 7) (fun _ p => ps_expr (pe_bm PySem.F.plainAttrs_list PySem.F.slot_list_append PySem.F.type_list_append mt_append (pv 7) (pa_cons p pa_nil))) (d_tup (da_cons (d_var (pv 8)) (da_cons (d_var (pv 6)) da_nil))))) ds_nil)
        (ds_cons (ds_frz 7 (ds_for (vs := [9, 10]) (passes_of rfl) rfl (di_list (d_var (pv 7))) (pg_tup rfl (pgs_cons (pg_name (i := 9) sc_law.nd rfl (Or.inr rfl)) (pgs_cons (pg_name (i := 10) sc_law.nd rfl (Or.inr rfl)) pgs_nil))) (good_tup (.cons (good_name (by decide)) (.cons (good_name (by decide)) .nil)) rfl) (ds_cons (ds_set (i := 11) (fun _ p => ps_set (i := 11) sc_law.nd rfl (Or.inl rfl) p) (d_tup (da_cons (d_op o_sub (DE.o (d_int pe_int)) (DE.o (d_ix (DE.o (d_var (pv 10))) (DE.o (d_int pe_int)) (fun _ _ => rfl)))) (da_cons (d_ix (DE.o (d_var (pv 10))) (DE.o (d_int pe_int)) (fun _ _ => rfl)) da_nil))))
        (ds_cons (ds_set (i := 12) (fun _ p => ps_set (i := 12) sc_law.nd rfl (Or.inl rfl) p) (DF.all (d_lst (da_cons (d_call (fun _ p => pe_callW G_law_limited quiet (hr.mono (by decide)) rfl T.law_limited.g T.law_limited.F.kp T.law_limited.b (takes_of rfl rfl rfl rfl) p) (dan_cons (d_call (fun _ p => pe_callW G_law_sum quiet (hr.mono (by decide)) rfl T.law_sum.g T.law_sum.F.kp T.law_sum.b (takes_of rfl rfl rfl rfl) p) (dan_cons (d_var (pv 4)) (dan_cons (d_var (pv 9)) (dan_cons (d_var (pv 10)) dan_nil)))) dan_nil)) (da_cons (d_call (fun _ p => pe_callW G_law_limited quiet (hr.mono (by decide)) rfl T.law_limited.g T.law_limited.F.kp T.law_limited.b (takes_of rfl rfl rfl rfl) p) (dan_cons (d_call (fun _ p => pe_callW G_law_sum quiet (hr.mono (by decide)) rfl T.law_sum.g T.law_sum.F.kp T.law_sum.b (takes_of rfl rfl rfl rfl) p) (dan_cons (d_var (pv 4)) (dan_cons (d_var (pv 9)) (dan_cons (d_var (pv 11)) dan_nil)))) dan_nil)) da_nil)))))
        (ds_one (ds_if (dt_cmp (o_ne hu64) (DE.o (d_c1 (fun _ p => pe_callB (b_reprW quiet hr hu64 nd) (by rfl) T.b_repr (by decide +kernel) p) (DE.o (DF.all (d_comp (vs := [13]) (fun _ p => pe_lc (own := [("_law_door", 13)]) rfl sc_law.nd p (blkOk_by (own := [("_law_door", 13)]) (N := ["_law_script", "_law_k", "_law_cell", "_law_digits", "_law_base_here", "_law_one", "_law_other", "_law_pairs", "_law_far_here", "_law_first", "_law_second", "_law_back", "_law_want", "_law_door", "_law_number_here", "_law_places", "_law_odd"]) (sc := defScope s_law) (by decide +kernel)) (fun _ _ _ _ _ => (pg_name (i := 13) sc_law.nd rfl (Or.inl rfl))) (fun _ _ _ _ _ => DTs.ex dts_nil) (fun _ _ _ _ _ => DE.can (d_call (fun _ p => pe_callW G_law_got quiet (hr.mono (by decide)) rfl T.law_got.g T.law_got.F.kp T.law_got.b takesF p) (dan_cons (d_var (pv 13)) (dan_cons (d_var (pv 4)) (dan_cons (d_var (pv 9)) (dan_cons (d_var (pv 10)) dan_nil))))))) (di_range1 rfl T.b_range (da_cons (d_int pe_int) da_nil)) (good_name (by decide))))))) (DE.o (d_c1 (fun _ p => pe_callB (b_reprW quiet hr hu64 nd) (by rfl) T.b_repr (by decide +kernel) p) (DE.o (d_var (pv 12))))) (nomark _)) (ds_one (ds_ret (d_bl pe_bl))) ds_nil))))))
        (ds_cons (ds_for (vs := [14]) (passes_of rfl) rfl (di_list (DF.all (d_lst (da_cons (d_var (pv 5)) (da_cons (d_var (pv 6)) (da_cons (d_var (pv 8)) (da_cons (d_tup (da_cons (d_int pe_int) (da_cons (d_int pe_int) da_nil))) da_nil))))))) (pg_name (i := 14) sc_law.nd rfl (Or.inl rfl)) (good_name (by decide)) (ds_one (ds_for (vs := [15]) (passes_of rfl) rfl (di_list (DF.all (d_lst (da_cons (d_op o_sub (DE.o (d_op o_mod (DE.o (d_ix (DE.o (d_var (pv 3))) (DE.o (d_int pe_int)) (fun _ _ => rfl))) (DE.o (d_int pe_int)))) (DE.o (d_int pe_int))) (da_cons (d_op o_sub (DE.o (d_op o_mod (DE.o (d_ix (DE.o (d_var (pv 3))) (DE.o (d_int pe_int)) (fun _ _ => rfl))) (DE.o (d_int pe_int)))) (DE.o (d_int pe_int))) (da_cons (d_int pe_int) (da_cons (d_int pe_int) (da_cons (d_un u_neg (DE.o (d_int pe_int))) da_nil)))))))) (pg_name (i := 15) sc_law.nd rfl (Or.inl rfl)) (good_name (by decide)) (ds_cons (ds_set (i := 12) (fun _ p => ps_set (i := 12) sc_law.nd rfl (Or.inl rfl) p) (d_if (dt_cmp (o_ne hu64) (DE.o (d_ix (DE.o (d_var (pv 14))) (DE.o (d_int pe_int)) (fun _ _ => rfl))) (DE.o (d_int pe_int)) (nomark _)) (d_tup (da_cons (d_ix (DE.o (d_var (pv 14))) (DE.o (d_int pe_int)) (fun _ _ => rfl)) (da_cons (d_op o_add (DE.o (d_ix (DE.o (d_var (pv 14))) (DE.o (d_int pe_int)) (fun _ _ => rfl))) (DE.o (d_var (pv 15)))) da_nil))) (d_tup (da_cons (d_int pe_int) (da_cons (d_int pe_int) da_nil)))))
        (ds_one (ds_if (dt_cmp (o_ne hu64) (DE.o (d_c1 (fun _ p => pe_callB (b_reprW quiet hr hu64 nd) (by rfl) T.b_repr (by decide +kernel) p) (DE.o (d_call (fun _ p => pe_callW G_law_got quiet (hr.mono (by decide)) rfl T.law_got.g T.law_got.F.kp T.law_got.b (takes_of rfl rfl rfl rfl) p) (dan_cons (d_int pe_int) (dan_cons (d_var (pv 4)) (dan_cons (d_var (pv 14)) (dan_cons (d_var (pv 15)) dan_nil)))))))) (DE.o (d_c1 (fun _ p => pe_callB (b_reprW quiet hr hu64 nd) (by rfl) T.b_repr (by decide +kernel) p) (DE.o (d_call (fun _ p => pe_callW G_law_limited quiet (hr.mono (by decide)) rfl T.law_limited.g T.law_limited.F.kp T.law_limited.b (takes_of rfl rfl rfl rfl) p) (dan_cons (d_var (pv 12)) dan_nil))))) (nomark _)) (ds_one (ds_ret (d_bl pe_bl))) ds_nil))))))
        (ds_cons (ds_if (dt_not (dt_val (d_call (fun _ p => pe_callW G_law_floors_ok quiet (hr.mono (by decide)) rfl T.law_floors_ok.g T.law_floors_ok.F.kp T.law_floors_ok.b (takes_of rfl rfl rfl rfl) p) (dan_cons (d_var (pv 4)) (dan_cons (d_var (pv 5)) (dan_cons (d_var (pv 8)) (dan_cons (d_ix (DE.o (d_var (pv 3))) (DE.o (d_int pe_int)) (fun _ _ => rfl)) dan_nil))))) (fun _ p => pt_val p))) (ds_one (ds_ret (d_bl pe_bl))) ds_nil)
        (ds_cons (ds_set (i := 16) (fun _ p => ps_set (i := 16) sc_law.nd rfl (Or.inr rfl) p) (d_ix (DE.o (DF.all (d_lst (da_cons (d_non pe_non) (da_cons (d_tup (da_cons (d_var (pv 4)) (da_cons (d_int pe_int) da_nil))) (da_cons (d_tup (da_cons (d_int pe_int) (da_cons (d_int pe_int) da_nil))) (da_cons (d_tup (da_cons (d_int pe_int) (da_cons (d_int pe_int) da_nil))) (da_cons (DF.all (d_lst (da_cons (d_int pe_int) (da_cons (d_int pe_int) da_nil)))) (da_cons (d_tup (da_cons (d_bl pe_bl) (da_cons (d_int pe_int) da_nil))) (da_cons (d_str pe_str) (da_cons (d_tup (da_cons (d_int pe_int) da_nil)) (da_cons (d_int pe_int) da_nil)))))))))))) (DE.o (d_op o_mod (DE.o (d_ix (DE.o (d_var (pv 3))) (DE.o (d_int pe_int)) (fun _ _ => rfl))) (DE.o (d_int pe_int)))) (fun _ _ => rfl)))
        (ds_cons (ds_for (vs := [13]) (passes_of rfl) rfl (di_range1 rfl T.b_range (da_cons (d_int pe_int) da_nil)) (pg_name (i := 13) sc_law.nd rfl (Or.inl rfl)) (good_name (by decide)) (ds_one (ds_if (dt_cmp (o_ne hu64) (DE.o (d_call (fun _ p => pe_callW G_law_got quiet (hr.mono (by decide)) rfl T.law_got.g T.law_got.F.kp T.law_got.b (takes_of rfl rfl rfl rfl) p) (dan_cons (d_var (pv 13)) (dan_cons (d_var (pv 4)) (dan_cons (d_var (pv 16)) (dan_cons (d_int pe_int) dan_nil)))))) (DE.o (DF.all (d_lst (da_cons (d_str pe_str) (da_cons (d_c1 (fun _ p => pe_callB (b_reprW quiet hr hu64 nd) (by rfl) T.b_repr (by decide +kernel) p) (DE.o (d_var (pv 16)))) (da_cons (d_bl pe_bl) (da_cons (d_bl pe_bl) da_nil))))))) (nomark _)) (ds_one (ds_ret (d_bl pe_bl))) ds_nil)))
        (ds_one (ds_if (dt_cmp (o_ne hu64) (DE.o (DF.all (d_comp (vs := [13]) (fun _ p => pe_lc (own := [("_law_door", 13)]) rfl sc_law.nd p (blkOk_by (own := [("_law_door", 13)]) (N := ["_law_script", "_law_k", "_law_cell", "_law_digits", "_law_base_here", "_law_one", "_law_other", "_law_pairs", "_law_far_here", "_law_first", "_law_second", "_law_back", "_law_want", "_law_door", "_law_number_here", "_law_places", "_law_odd"]) (sc := defScope s_law) (by decide +kernel)) (fun _ _ _ _ _ => (pg_name (i := 13) sc_law.nd rfl (Or.inl rfl))) (fun _ _ _ _ _ => DTs.ex dts_nil) (fun _ _ _ _ _ => DE.can (d_call (fun _ p => pe_callW G_law_got quiet (hr.mono (by decide)) rfl T.law_got.g T.law_got.F.kp T.law_got.b takesF p) (dan_cons (d_var (pv 13)) (dan_cons (d_var (pv 4)) (dan_cons (d_var (pv 8)) (dan_cons (d_var (pv 16)) dan_nil))))))) (di_range1 rfl T.b_range (da_cons (d_int pe_int) da_nil)) (good_name (by decide))))) (DE.o (d_op o_mul (DE.o (DF.all (d_lst (da_cons (DF.all (d_lst (da_cons (d_str pe_str) (da_cons (d_c1 (fun _ p => pe_callB (b_reprW quiet hr hu64 nd) (by rfl) T.b_repr (by decide +kernel) p) (DE.o (d_var (pv 16)))) (da_cons (d_bl pe_bl) (da_cons (d_bl pe_bl) da_nil)))))) da_nil)))) (DE.o (d_int pe_int)))) (nomark _)) (ds_one (ds_ret (d_bl pe_bl))) ds_nil)))))))))))))))
        (ds_one (ds_ret (d_bl pe_bl))))
end K03

namespace PM
open PySem L2 GL DL NR
def doorOf (M1 M2 : List D → Res DL.Slot) (mas : ML) (Γ : En) : D → Res D
  | .int 0 => (mas Γ).bind fun ds => (M1 ds).bind slotD
  | .int 1 => (mas Γ).bind fun ds => (M2 ds).bind slotD
  | _ => .stuck
theorem eDoor_def (M1 M2 : List D → Res DL.Slot) (mi : MD) (mas : ML) (Γ : En) : eDoor M1 M2 mi mas Γ = (mi Γ).bind (doorOf M1 M2 mas Γ) := by
  unfold eDoor
  cases mi Γ with
  | ok d =>
    show _ = doorOf M1 M2 mas Γ d
    rw [bind_ok]
    unfold doorOf
    rfl
  | _ => rfl
theorem door_0 (M1 M2 : List D → Res DL.Slot) (mas : ML) (Γ : En) : doorOf M1 M2 mas Γ (.int 0) = (mas Γ).bind fun ds => (M1 ds).bind slotD := rfl
theorem door_1 (M1 M2 : List D → Res DL.Slot) (mas : ML) (Γ : En) : doorOf M1 M2 mas Γ (.int 1) = (mas Γ).bind fun ds => (M2 ds).bind slotD := rfl
/-- what a door gives of a value -/
def told3 (n e : Int) : D := if few n = true then (if -1000 ≤ e ∧ e ≤ 1000 then .tup [.int n, .int e] else .lst [.str "limit", .int 1000]) else .lst [.str "limit", .int 300]
/-- how an invalid number is told -/
def odd3 (t : Str) : D := .lst [.str "number", .str t, .bl true, .bl false]
theorem swT (x : Str) (h : (x.cps.toList.all fun c => decide (c < 16 ^ 8)) = true) (n : Nat) (hn : x.cps.size ≤ n) : Sw (.str x) 0 n := (Sw.str h).up (Nat.le_refl _) hn
theorem told3_plain (n e : Int) : DL.plain (told3 n e) = true := by
  unfold told3
  split
  · split
    · unfold DL.plain plainAll plainAll plainAll DL.plain; rfl
    · unfold DL.plain plainAll plainAll plainAll DL.plain; rfl
  · unfold DL.plain plainAll plainAll plainAll DL.plain; rfl
theorem few_1900 {n : Int} (h : few n = true) : n.natAbs < 2 ^ 1900 := by
  unfold few at h
  have h := of_decide_eq_true h
  have h2 : (10 : Int) ^ 300 ≤ 2 ^ 1900 := by decide +kernel
  have h3 : (n.natAbs : Int) < 2 ^ 1900 := by
    generalize (10 : Int) ^ 300 = L at *
    generalize (2 : Int) ^ 1900 = M at *
    split at h <;> omega
  have h4 : ((2 ^ 1900 : Nat) : Int) = (2 : Int) ^ 1900 := by norm_cast
  rw [← h4] at h3
  exact_mod_cast h3
theorem told3_sw (n e : Int) : Sw (py (told3 n e)) 1 20 := by
  unfold told3
  split
  · rename_i h
    split
    · rename_i h2
      have e1 : py (.tup [.int n, .int e]) = .tuple [.int n, .int e] := by unfold py pyAll pyAll pyAll py; rfl
      rw [e1]
      exact (Sw.tuple (.cons (Sw.int (few_1900 h)) (.cons (Sw.int (Nat.lt_of_lt_of_le (show e.natAbs < 2 ^ 11 by omega) (Nat.pow_le_pow_right (by decide) (by decide)))) .nil))).up (by decide) (by decide)
    · have e1 : py (.lst [.str "limit", .int 1000]) = .list [.str "limit", .int 1000] := by unfold py pyAll pyAll pyAll py; rfl
      rw [e1]
      exact (Sw.list (.cons (Sw.str (x := "limit") (by decide +kernel)) (.cons (Sw.int (Nat.lt_of_lt_of_le (show (1000 : Int).natAbs < 2 ^ 11 by decide) (Nat.pow_le_pow_right (by decide) (by decide)))) .nil))).up (by decide) (by decide +kernel)
  · have e1 : py (.lst [.str "limit", .int 300]) = .list [.str "limit", .int 300] := by unfold py pyAll pyAll pyAll py; rfl
    rw [e1]
    exact (Sw.list (.cons (Sw.str (x := "limit") (by decide +kernel)) (.cons (Sw.int (Nat.lt_of_lt_of_le (show (300 : Int).natAbs < 2 ^ 11 by decide) (Nat.pow_le_pow_right (by decide) (by decide)))) .nil))).up (by decide) (by decide +kernel)
theorem plain_R {d : D} (h : DL.plain d = true) : pyR d = py d := by
  cases d with
  | tup xs =>
    have h2 : plainAll xs = true := by unfold DL.plain at h; exact h
    show PyData.tuple (xs.map pyS) = py (.tup xs)
    unfold py
    rw [pyAll_map xs h2]
  | dic ks xs => unfold DL.plain at h; cases h
  | _ => rfl
theorem shown_of {d : D} {k b : Nat} (h : DL.plain d = true) (s : Sw (py d) k b) (hk : k ≤ 60) (hb : b ≤ 5000) : Shown d := by
  have e := plain_R h
  unfold Shown
  rw [e]
  refine ⟨?_, s.sh, Nat.le_trans s.dp hk, s.len hb⟩
  cases d with
  | tup xs =>
    have h2 : plainAll xs = true := by unfold DL.plain at h; exact h
    show (plainAll xs || _) = true
    rw [h2]; rfl
  | dic ks xs => unfold DL.plain at h; cases h
  | _ => exact h
theorem told3_repr (n e : Int) : ∃ t, gReprW (told3 n e) = some (.val (.str t)) := by
  have hs := shown_of (told3_plain n e) (told3_sw n e) (by decide) (by decide)
  rw [reprW_eq (by
    intro i
    unfold told3
    split
    · split <;> simp
    · simp)]
  exact ⟨_, gRepr_of hs⟩
theorem told3_repr2 (n e m f : Int) : ∃ t, gReprW (.lst [told3 n e, told3 m f]) = some (.val (.str t)) := by
  have p1 := told3_plain n e
  have p2 := told3_plain m f
  have s1 := told3_sw n e
  have s2 := told3_sw m f
  generalize told3 n e = x at *
  generalize told3 m f = y at *
  rw [reprW_eq (by intro i; simp)]
  refine ⟨_, gRepr_of (shown_of (k := 2) (b := 100) ?_ ?_ (by decide) (by decide))⟩
  · unfold DL.plain plainAll plainAll plainAll
    rw [p1, p2]; rfl
  · have e1 : py (.lst [x, y]) = .list [py x, py y] := by rw [py, pyAll, pyAll, pyAll]
    rw [e1]
    exact (Sw.list (.cons s1 (.cons s2 .nil))).up (by decide) (by decide)
theorem limited_told (n e : Int) : ∃ s, M_law_limited [.tup [.int n, .int e]] = .ok s ∧ slotD s = .ok (told3 n e) := by
  unfold M_law_limited
  rw [body_eq]
  have i0 : gIx (.tup [.int n, .int e]) (.int 0) = some (.val (.int n)) := rfl
  have i1 : gIx (.tup [.int n, .int e]) (.int 1) = some (.val (.int e)) := rfl
  have p1 := LL_1
  have p2 := LL_2
  have hfew : decide (LL ≤ (if n < 0 then -n else n)) = !few n := by
    unfold few
    rw [← LL_eq, Bool.eq_iff_iff]
    simp
  unfold told3
  generalize hL : LL = L at *
  generalize (10 : Int) ^ 60 = T at *
  cases c1 : few n with
  | false =>
    rw [c1] at hfew
    have h1 : L ≤ (if n < 0 then -n else n) := of_decide_eq_true hfew
    refine ⟨.own [.str "limit", .int 300], ?_, rfl⟩
    simp [i0, i1, p1, p2, h1]
  | true =>
    rw [c1] at hfew
    have h1 : ¬ L ≤ (if n < 0 then -n else n) := of_decide_eq_false hfew
    by_cases c2 : -1000 ≤ e ∧ e ≤ 1000
    · refine ⟨.sh (.tup [.int n, .int e]), ?_, by simp [c2]⟩
      simp [i0, i1, p1, p2, h1, c2]
    · refine ⟨.sh (.lst [.str "limit", .int 1000]), ?_, by simp only [if_pos, if_neg c2]; rfl⟩
      by_cases c3 : -1000 ≤ e
      · have c4 : ¬ e ≤ 1000 := fun z => c2 ⟨c3, z⟩
        simp [i0, i1, p1, p2, h1, c3, c4]
      · simp [i0, i1, p1, p2, h1, c3]
section
variable {b : Int} (hb : 2 ≤ b) (hb2 : b ≤ 36)
include hb
/-- a number within the limits, as a pair -/
def PtOk (b n e : Int) : Prop := isNum b (.tup [.int n, .int e]) = true ∧ n.natAbs < 2 ^ 300 ∧ -1000 ≤ e ∧ e ≤ 1000
theorem req2 {x y : D} (hx : fair x = true) (hy : fair y = true) (h1 : isNum b x = true) : M_require_numbers [.int b, .lst [x, y]] = if isNum b y = true then .ok (.sh .non) else .exc "InvalidNumber" y := by
  have e1 := is_number_eq (show 0 < b by omega) hx
  have e2 := is_number_eq (show 0 < b by omega) hy
  rw [h1] at e1
  unfold M_require_numbers
  rw [body_eq]
  cases h : isNum b y with
  | true => rw [h] at e2; simp [DL.forM, B_require_numbers_1, e1, e2]
  | false => rw [h] at e2; simp [DL.forM, B_require_numbers_1, e1, e2]
theorem req1 {x : D} (hx : fair x = true) (r : List D) (h1 : isNum b x = false) : M_require_numbers [.int b, .lst (x :: r)] = .exc "InvalidNumber" x := by
  have e1 := is_number_eq (show 0 < b by omega) hx
  rw [h1] at e1
  unfold M_require_numbers
  rw [body_eq]
  simp [DL.forM, B_require_numbers_1, e1]
theorem req0 {x : D} (hx : fair x = true) (h1 : isNum b x = true) : M_require_numbers [.int b, .lst [x]] = .ok (.sh .non) := by
  have e1 := is_number_eq (show 0 < b by omega) hx
  rw [h1] at e1
  unfold M_require_numbers
  rw [body_eq]
  simp [DL.forM, B_require_numbers_1, e1]
include hb2
theorem lim_told {n e : Int} {M : List D → Res DL.Slot} {x : D} (h : M [x] = limited n e) : (told3 n e = .tup [.int n, .int e] ∧ M [x] = .ok (.sh (.tup [.int n, .int e]))) ∨ (∃ k : Int, told3 n e = .lst [.str "limit", .int k] ∧ M [x] = .exc "LimitExceeded" (.int k)) := by
  rw [h]
  unfold told3 limited
  cases few n with
  | false => exact .inr ⟨300, rfl, rfl⟩
  | true =>
    by_cases c : -1000 ≤ e ∧ e ≤ 1000
    · rw [if_pos rfl, if_pos c, if_pos rfl, if_pos c]; exact .inl ⟨rfl, rfl⟩
    · rw [if_pos rfl, if_neg c, if_pos rfl, if_neg c]; exact .inr ⟨1000, rfl, rfl⟩
/-- plus and minus -/
theorem got_sum {n e m f : Int} (h1 : PtOk b n e) (h2 : PtOk b m f) (hd : (e - f).natAbs ≤ 1400) :
    (∃ s, M_law_got_v2 [.int 0, .int b, .tup [.int n, .int e], .tup [.int m, .int f]] = .ok s ∧ slotD s = .ok (told3 (nm b (n * W b e + m * W b f)) (ex b (n * W b e + m * W b f)))) ∧
    (∃ s, M_law_got_v2 [.int 1, .int b, .tup [.int n, .int e], .tup [.int m, .int f]] = .ok s ∧ slotD s = .ok (told3 (nm b (n * W b e + (-m : Int) * W b f)) (ex b (n * W b e + (-m : Int) * W b f)))) := by
  have r := req2 hb (x := .tup [.int n, .int e]) (y := .tup [.int m, .int f]) rfl rfl h1.1
  rw [if_pos h2.1] at r
  have s1 := sum2_pt hb hb2 h1.2.1 h2.2.1 hd
  have s2 := sum2_pt hb hb2 (n2 := -m) (e2 := f) h1.2.1 (by rw [Int.natAbs_neg]; exact h2.2.1) hd
  have ng := negative_eq hb hb2 m f
  have l1 := lim_told hb hb2 (M := M_within_limits) (limits_eq (nm b (n * W b e + m * W b f)) (ex b (n * W b e + m * W b f)))
  have l2 := lim_told hb hb2 (M := M_within_limits) (limits_eq (nm b (n * W b e + (-m : Int) * W b f)) (ex b (n * W b e + (-m : Int) * W b f)))
  have i0 : gEq (.int 0) (.int 2) = some (.val (.bl false)) := by simp
  constructor
  · generalize n * W b e + m * W b f = v at *
    rcases l1 with ⟨t, hl⟩ | ⟨k, t, hl⟩
    · have hl : M_within_limits [numD b v] = .ok (.sh (.tup [.int (nm b v), .int (ex b v)])) := hl
      have hp : M_plus [.int b, .tup [.int n, .int e], .tup [.int m, .int f]] = .ok (.sh (.tup [.int (nm b v), .int (ex b v)])) := by
        unfold M_plus
        rw [body_eq]
        simp [r, s1, hl]
      refine ⟨.sh (.tup [.int (nm b v), .int (ex b v)]), ?_, by rw [t]; rfl⟩
      unfold M_law_got_v2
      rw [body_eq]
      simp [mTry, eDoor_def, door_0, hp]
    · have hl : M_within_limits [numD b v] = .exc "LimitExceeded" (.int k) := hl
      have hp : M_plus [.int b, .tup [.int n, .int e], .tup [.int m, .int f]] = .exc "LimitExceeded" (.int k) := by
        unfold M_plus
        rw [body_eq]
        simp [r, s1, hl]
      refine ⟨.sh (.lst [.str "limit", .int k]), ?_, by rw [t]; rfl⟩
      unfold M_law_got_v2
      rw [body_eq]
      simp [mTry, mHandle, behind, DL.clean, cleanS, mErrFld, mErrIsi, eDoor_def, door_0, hp]
  · generalize n * W b e + (-m : Int) * W b f = v at *
    rcases l2 with ⟨t, hl⟩ | ⟨k, t, hl⟩
    · have hl : M_within_limits [numD b v] = .ok (.sh (.tup [.int (nm b v), .int (ex b v)])) := hl
      have hp : M_minus [.int b, .tup [.int n, .int e], .tup [.int m, .int f]] = .ok (.sh (.tup [.int (nm b v), .int (ex b v)])) := by
        unfold M_minus
        rw [body_eq]
        simp [r, ng, s2, hl]
      refine ⟨.sh (.tup [.int (nm b v), .int (ex b v)]), ?_, by rw [t]; rfl⟩
      unfold M_law_got_v2
      rw [body_eq]
      simp [mTry, eDoor_def, door_1, hp]
    · have hl : M_within_limits [numD b v] = .exc "LimitExceeded" (.int k) := hl
      have hp : M_minus [.int b, .tup [.int n, .int e], .tup [.int m, .int f]] = .exc "LimitExceeded" (.int k) := by
        unfold M_minus
        rw [body_eq]
        simp [r, ng, s2, hl]
      refine ⟨.sh (.lst [.str "limit", .int k]), ?_, by rw [t]; rfl⟩
      unfold M_law_got_v2
      rw [body_eq]
      simp [mTry, mHandle, behind, DL.clean, cleanS, mErrFld, mErrIsi, eDoor_def, door_1, hp]
/-- scaled -/
theorem got_scaled {n e : Int} (h : PtOk b n e) (k : Int) : ∃ s, M_law_got_v2 [.int 2, .int b, .tup [.int n, .int e], .int k] = .ok s ∧ slotD s = .ok (told3 (if n = 0 then 0 else n) (if n = 0 then 0 else e + k)) := by
  have r := req0 hb (x := .tup [.int n, .int e]) rfl h.1
  have fm : IsForm b n (e + k) (if n = 0 then 0 else n) (if n = 0 then 0 else e + k) := by
    by_cases h0 : n = 0
    · rw [if_pos h0, if_pos h0]; exact .inl ⟨h0, rfl, rfl⟩
    · rw [if_neg h0, if_neg h0]
      refine .inr ⟨h0, 0, by rw [Int.pow_zero, Int.mul_one], ?_, by simp⟩
      have hx : (decide (-1000 ≤ e ∧ e ≤ 1000) && (if n = 0 then decide (e = 0) else decide (n % b ≠ 0) && few n)) = true := h.1
      rw [if_neg h0] at hx
      simp only [Bool.and_eq_true, decide_eq_true_iff] at hx
      exact hx.2.1
  have mk := make_eq hb hb2 (n := n) (e := e + k) (Nat.lt_of_lt_of_le h.2.1 (Nat.pow_le_pow_right (by decide) (by decide))) fm
  generalize (if n = 0 then 0 else n) = n' at *
  generalize (if n = 0 then 0 else e + k) = e' at *
  have q0 : gLt (.int 2) (.int 2) = some (.val (.bl false)) := rfl
  rcases lim_told hb hb2 (M := fun _ => M_make_number [.int b, .int n, .int (e + k)]) (x := .non) mk with ⟨t, hl⟩ | ⟨j, t, hl⟩
  · have hl : M_make_number [.int b, .int n, .int (e + k)] = .ok (.sh (.tup [.int n', .int e'])) := hl
    have hp : M_scaled [.int b, .tup [.int n, .int e], .int k] = .ok (.sh (.tup [.int n', .int e'])) := by
      unfold M_scaled
      rw [body_eq]
      simp [r, hl]
    refine ⟨.sh (.tup [.int n', .int e']), ?_, by rw [t]; rfl⟩
    unfold M_law_got_v2
    rw [body_eq]
    simp [mTry, hp]
  · have hl : M_make_number [.int b, .int n, .int (e + k)] = .exc "LimitExceeded" (.int j) := hl
    have hp : M_scaled [.int b, .tup [.int n, .int e], .int k] = .exc "LimitExceeded" (.int j) := by
      unfold M_scaled
      rw [body_eq]
      simp [r, hl]
    refine ⟨.sh (.lst [.str "limit", .int j]), ?_, by rw [t]; rfl⟩
    unfold M_law_got_v2
    rw [body_eq]
    simp [mTry, mHandle, behind, DL.clean, cleanS, mErrFld, mErrIsi, hp]
theorem big_floor {n : Int} (hn : n.natAbs < 2 ^ 300) {c : Nat} (hc : c ≤ 2000) : (n * b ^ c).natAbs < 10 ^ 4300 := by
  rw [Int.natAbs_mul]
  have h1 : (b ^ c).natAbs ≤ 36 ^ 2000 := Nat.le_trans (pow36 (by omega) hb2 c) (Nat.pow_le_pow_right (by decide) hc)
  have h2 : n.natAbs * (b ^ c).natAbs ≤ 2 ^ 300 * 36 ^ 2000 := Nat.mul_le_mul (Nat.le_of_lt hn) h1
  exact Nat.lt_of_le_of_lt h2 (by decide +kernel)
/-- floor_at, and the law's -/
theorem got_floor {n e p : Int} (h : PtOk b n e) (h1 : (e - p).natAbs ≤ 2000) :
    ∃ i : Int, i.natAbs < 10 ^ 4300 ∧ M_law_got_v2 [.int 3, .int b, .tup [.int n, .int e], .int p] = .ok (.sh (.int i)) ∧ M_law_floor [.int b, .tup [.int n, .int e], .int p] = .ok (.sh (.int i)) := by
  have r := req0 hb (x := .tup [.int n, .int e]) rfl h.1
  have i0 : gIx (.tup [.int n, .int e]) (.int 0) = some (.val (.int n)) := rfl
  have i1 : gIx (.tup [.int n, .int e]) (.int 1) = some (.val (.int e)) := rfl
  have hn9 : n.natAbs < 2 ^ 300 := h.2.1
  by_cases c1 : e < p
  · obtain ⟨c, hc, hc2⟩ : ∃ c : Nat, p - e = (c : Int) ∧ c ≤ 2000 := ⟨(p - e).toNat, by omega, by omega⟩
    have pw := power_of_eq (b := b) (by omega) hb2 (c := c) (by omega)
    have lw := law_power_eq (b := b) (by omega) hb2 (c := c) hc2
    have pos : 0 < b ^ c := Int.pow_pos (by omega)
    have dv : gDiv (.int n) (.int (b ^ c)) = some (.val (.int (n / b ^ c))) := by
      rw [gDiv_int, giv_pos ⟨pos, .inr (Nat.lt_of_lt_of_le hn9 (Nat.pow_le_pow_right (by decide) (by decide)))⟩]
    have small : (n / b ^ c).natAbs < 10 ^ 4300 := Nat.lt_of_le_of_lt (Int.natAbs_ediv_le_natAbs n (b ^ c)) (Nat.lt_of_lt_of_le hn9 (by decide +kernel))
    have cg : ¬ p ≤ e := by omega
    generalize b ^ c = P at *
    generalize n / P = i at *
    have fl : M_floor_at [.int b, .tup [.int n, .int e], .int p] = .ok (.sh (.int i)) := by
      have un : M_units [.int b, .tup [.int n, .int e], .int p] = .ok (.sh (.int i)) := by
        unfold M_units
        rw [body_eq]
        simp [c1, hc, pw, dv]
      unfold M_floor_at
      rw [body_eq]
      simp [r, un]
    refine ⟨i, small, ?_, ?_⟩
    · unfold M_law_got_v2
      rw [body_eq]
      simp [mTry, fl]
    · unfold M_law_floor
      rw [body_eq]
      simp [i0, i1, cg, hc, lw, dv]
  · obtain ⟨c, hc, hc2⟩ : ∃ c : Nat, e - p = (c : Int) ∧ c ≤ 2000 := ⟨(e - p).toNat, by omega, by omega⟩
    have pw := power_of_eq (b := b) (by omega) hb2 (c := c) (by omega)
    have lw := law_power_eq (b := b) (by omega) hb2 (c := c) hc2
    have ml : gMul (.int n) (.int (b ^ c)) = some (.val (.int (n * b ^ c))) := mul_ok hn9 (bd_pow (m := 12001) (by omega) hb2 (by omega)) (by decide) (by decide) (by decide)
    have small := big_floor hb hb2 hn9 hc2
    have cg : p ≤ e := by omega
    generalize b ^ c = P at *
    generalize n * P = i at *
    have fl : M_floor_at [.int b, .tup [.int n, .int e], .int p] = .ok (.sh (.int i)) := by
      have un : M_units [.int b, .tup [.int n, .int e], .int p] = .ok (.sh (.int i)) := by
        unfold M_units
        rw [body_eq]
        simp [c1, hc, pw, ml]
      unfold M_floor_at
      rw [body_eq]
      simp [r, un]
    refine ⟨i, small, ?_, ?_⟩
    · unfold M_law_got_v2
      rw [body_eq]
      simp [mTry, fl]
    · unfold M_law_floor
      rw [body_eq]
      simp [i0, i1, cg, hc, lw, ml]
theorem floors_turn1 {n e p : Int} (h : PtOk b n e) (h1 : (e - p).natAbs ≤ 2000) (s2 s3 : DL.Slot) : B_law_floors_ok_1 [.sh (.int b), .sh (.tup [.int n, .int e]), s2, s3, .sh (.int p)] = .nx [.sh (.int b), .sh (.tup [.int n, .int e]), s2, s3, .sh (.int p)] := by
  obtain ⟨i, hi, g1, g2⟩ := got_floor hb hb2 h h1
  have rp := reprW_of hi
  unfold B_law_floors_ok_1
  simp [g1, g2, rp]
theorem floors_turn2 {n e p : Int} (h : PtOk b n e) (h1 : (e - p).natAbs ≤ 2000) (s1 s3 : DL.Slot) : B_law_floors_ok_2 [.sh (.int b), s1, .sh (.tup [.int n, .int e]), s3, .sh (.int p)] = .nx [.sh (.int b), s1, .sh (.tup [.int n, .int e]), s3, .sh (.int p)] := by
  obtain ⟨i, hi, g1, g2⟩ := got_floor hb hb2 h h1
  have rp := reprW_of hi
  unfold B_law_floors_ok_2
  simp [g1, g2, rp]
theorem floors_eq {n e m f d : Int} (h1 : PtOk b n e) (h2 : PtOk b m f) (he : -1000 ≤ e ∧ e ≤ 1000) : M_law_floors_ok [.int b, .tup [.int n, .int e], .tup [.int m, .int f], .int d] = .ok (.sh (.bl true)) := by
  have d0 := Int.emod_nonneg d (show (9 : Int) ≠ 0 by decide)
  have d1 := Int.emod_lt_of_pos d (show (0 : Int) < 9 by decide)
  have i1 : gIx (.tup [.int m, .int f]) (.int 1) = some (.val (.int f)) := rfl
  have t1 : ∀ p : Int, -6 ≤ p → p ≤ 7 → B_law_floors_ok_1 [.sh (.int b), .sh (.tup [.int n, .int e]), .sh (.tup [.int m, .int f]), .sh (.int d), .sh (.int p)] = .nx [.sh (.int b), .sh (.tup [.int n, .int e]), .sh (.tup [.int m, .int f]), .sh (.int d), .sh (.int p)] := fun p p0 p1 => floors_turn1 hb hb2 h1 (by omega) _ _
  have t2 : ∀ p : Int, -1000 ≤ p → p ≤ 1000 → B_law_floors_ok_2 [.sh (.int b), .sh (.tup [.int n, .int e]), .sh (.tup [.int m, .int f]), .sh (.int d), .sh (.int p)] = .nx [.sh (.int b), .sh (.tup [.int n, .int e]), .sh (.tup [.int m, .int f]), .sh (.int d), .sh (.int p)] := fun p p0 p1 => floors_turn2 hb hb2 h2 (by have := h2.2.2; omega) _ _
  have hf := h2.2.2
  obtain ⟨p4, hp4, q0, q1⟩ : ∃ p4, (if f - d % 9 > -1000 then f - d % 9 else -1000) = p4 ∧ -1000 ≤ p4 ∧ p4 ≤ 1000 := ⟨_, rfl, by split <;> omega, by split <;> omega⟩
  have u1 := t1 (-6) (by decide) (by decide)
  have u2 := t1 (-5) (by decide) (by decide)
  have u3 := t1 (-4) (by decide) (by decide)
  have u4 := t1 (-3) (by decide) (by decide)
  have u5 := t1 (-2) (by decide) (by decide)
  have u6 := t1 (-1) (by decide) (by decide)
  have u7 := t1 0 (by decide) (by decide)
  have u8 := t1 1 (by decide) (by decide)
  have u9 := t1 2 (by decide) (by decide)
  have u10 := t1 3 (by decide) (by decide)
  have u11 := t1 4 (by decide) (by decide)
  have u12 := t1 5 (by decide) (by decide)
  have u13 := t1 6 (by decide) (by decide)
  have v1 := t2 1000 (by decide) (by decide)
  have v2 := t2 (-1000) (by decide) (by decide)
  have v3 := t2 f hf.1 hf.2
  have v4 := t2 p4 q0 q1
  have ar : rangeD (-6) 13 = [.int (-6), .int (-5), .int (-4), .int (-3), .int (-2), .int (-1), .int 0, .int 1, .int 2, .int 3, .int 4, .int 5, .int 6] := rfl
  generalize D.tup [.int n, .int e] = N at *
  generalize D.tup [.int m, .int f] = F at *
  unfold M_law_floors_ok
  rw [body_eq]
  simp [ar, i1, hp4, DL.forM, u1, u2, u3, u4, u5, u6, u7, u8, u9, u10, u11, u12, u13, v1, v2, v3, v4]
/-- an odd value at a door -/
theorem got_odd {d : D} (hf : fair d = true) (hn : isNum b d = false) {t : Str} (ht : gRepr d = some (.val (.str t))) (x : D) {k : Int} (h0 : 0 ≤ k) (h4 : k < 4) : M_law_got_v2 [.int k, .int b, d, x] = .ok (.sh (odd3 t)) := by
  have r := fun r => req1 hb hf r hn
  have r1 := r []
  have r2 := r [x]
  have pl : M_plus [.int b, d, x] = .exc "InvalidNumber" d := by unfold M_plus; rw [body_eq]; simp [r2]
  have mi : M_minus [.int b, d, x] = .exc "InvalidNumber" d := by unfold M_minus; rw [body_eq]; simp [r2]
  have sc : M_scaled [.int b, d, x] = .exc "InvalidNumber" d := by unfold M_scaled; rw [body_eq]; simp [r1]
  have fl : M_floor_at [.int b, d, x] = .exc "InvalidNumber" d := by unfold M_floor_at; rw [body_eq]; simp [r1]
  have : k = 0 ∨ k = 1 ∨ k = 2 ∨ k = 3 := by omega
  unfold M_law_got_v2 odd3
  rw [body_eq]
  rcases this with rfl | rfl | rfl | rfl
  · simp [mTry, mHandle, behind, DL.clean, cleanS, mErrFld, mErrIsi, eDoor_def, door_0, pl, ht]
  · simp [mTry, mHandle, behind, DL.clean, cleanS, mErrFld, mErrIsi, eDoor_def, door_1, mi, ht]
  · simp [mTry, mHandle, behind, DL.clean, cleanS, mErrFld, mErrIsi, sc, ht]
  · simp [mTry, mHandle, behind, DL.clean, cleanS, mErrFld, mErrIsi, fl, ht]
theorem got_odd2 {n e : Int} (h : PtOk b n e) {d : D} (hf : fair d = true) (hn : isNum b d = false) {t : Str} (ht : gRepr d = some (.val (.str t))) {k : Int} (h0 : 0 ≤ k) (h4 : k < 2) : M_law_got_v2 [.int k, .int b, .tup [.int n, .int e], d] = .ok (.sh (odd3 t)) := by
  have r2 := req2 hb (x := .tup [.int n, .int e]) rfl hf h.1
  rw [hn, if_neg (by simp)] at r2
  have pl : M_plus [.int b, .tup [.int n, .int e], d] = .exc "InvalidNumber" d := by unfold M_plus; rw [body_eq]; simp [r2]
  have mi : M_minus [.int b, .tup [.int n, .int e], d] = .exc "InvalidNumber" d := by unfold M_minus; rw [body_eq]; simp [r2]
  have : k = 0 ∨ k = 1 := by omega
  unfold M_law_got_v2 odd3
  rw [body_eq]
  rcases this with rfl | rfl
  · simp [mTry, mHandle, behind, DL.clean, cleanS, mErrFld, mErrIsi, eDoor_def, door_0, pl, ht]
  · simp [mTry, mHandle, behind, DL.clean, cleanS, mErrFld, mErrIsi, eDoor_def, door_1, mi, ht]
end
theorem odd3_smp {t : Str} (h : (PyData.str t).canLay0 = true) : Smp (odd3 t) := by
  have hs : (PyData.str "number").canLay0 = true := by decide +kernel
  refine ⟨?_, ?_, ?_, rfl⟩
  · unfold odd3 DL.plain plainAll plainAll plainAll plainAll plainAll DL.plain; rfl
  · unfold odd3 py pyAll pyAll pyAll pyAll pyAll py
    simp only [PyData.canLay0, PyData.canLayAll0, Bool.and_true]
    simp only [PyData.canLay0] at h hs
    rw [h, hs]; rfl
  · unfold odd3 py pyAll pyAll pyAll pyAll pyAll py
    simp [PyData.depth, PyData.depthAll]
/-- a value that is no number -/
structure OddV (b : Int) (d : D) (t : Str) : Prop where
  fr : fair d = true
  no : isNum b d = false
  rp : gRepr d = some (.val (.str t))
  rw_ : gReprW d = some (.val (.str t))
  cl : (PyData.str t).canLay0 = true
theorem odd_of {b : Int} {d : D} (h1 : fair d = true) (h2 : isNum b d = false) (h3 : textOk d = true) : OddV b d (txt d) := by
  refine ⟨h1, h2, txt_repr h3, ?_, (textOk_iff.mp h3).2.2.2.2⟩
  by_cases hi : ∃ i, d = .int i
  · obtain ⟨i, rfl⟩ := hi
    refine reprW_of ?_
    have hs := (textOk_iff.mp h3).2.1
    have hs : i.natAbs.log2 < 1920 := by
      have e : pyR (.int i) = .int i := by show py (.int i) = _; unfold py; rfl
      rw [e] at hs
      simpa [PyData.showable] using hs
    have : i.natAbs < 2 ^ 1920 := by
      by_cases h0 : i.natAbs = 0
      · rw [h0]; exact Nat.two_pow_pos _
      · exact (Nat.log2_lt h0).mp hs
    exact Nat.lt_of_lt_of_le this (by decide +kernel)
  · rw [reprW_eq fun i z => hi ⟨i, z⟩]
    exact txt_repr h3
theorem base_txt : ∀ k : Fin 37, textOk (.tup [.int ((k.1 : Nat) : Int), .int 0]) = true := by decide +kernel
theorem odd_pick {b : Int} (hb : 2 ≤ b) (hb2 : b ≤ 36) (d : Int) : ∃ x t, gIx (.lst [.non, .tup [.int b, .int 0], .tup [.int 1, .int 1001], .tup [.int 0, .int 1], .lst [.int 1, .int 0], .tup [.bl true, .int 0], .str "1", .tup [.int 1], .int 5]) (.int (d % 9)) = some (.val x) ∧ OddV b x t := by
  have h0 := Int.emod_nonneg d (show (9 : Int) ≠ 0 by decide)
  have h1 := Int.emod_lt_of_pos d (show (0 : Int) < 9 by decide)
  have bt : textOk (.tup [.int b, .int 0]) = true := by
    have := base_txt ⟨b.toNat, by omega⟩
    rwa [Int.toNat_of_nonneg (by omega)] at this
  have bn : isNum b (.tup [.int b, .int 0]) = false := by
    show (decide (-1000 ≤ (0 : Int) ∧ (0 : Int) ≤ 1000) && (if b = 0 then decide ((0 : Int) = 0) else decide (b % b ≠ 0) && few b)) = false
    rw [if_neg (by omega), Int.emod_self]; simp
  have b1 : isNum b (.tup [.int 1, .int 1001]) = false := rfl
  have b2 : isNum b (.tup [.int 0, .int 1]) = false := rfl
  have : d % 9 = 0 ∨ d % 9 = 1 ∨ d % 9 = 2 ∨ d % 9 = 3 ∨ d % 9 = 4 ∨ d % 9 = 5 ∨ d % 9 = 6 ∨ d % 9 = 7 ∨ d % 9 = 8 := by omega
  rcases this with h | h | h | h | h | h | h | h | h <;> rw [h]
  · exact ⟨_, _, rfl, odd_of rfl rfl (by decide +kernel)⟩
  · exact ⟨_, _, rfl, odd_of rfl bn bt⟩
  · exact ⟨_, _, rfl, odd_of rfl b1 (by decide +kernel)⟩
  · exact ⟨_, _, rfl, odd_of rfl b2 (by decide +kernel)⟩
  · exact ⟨_, _, rfl, odd_of rfl rfl (by decide +kernel)⟩
  · exact ⟨_, _, rfl, odd_of rfl rfl (by decide +kernel)⟩
  · exact ⟨_, _, rfl, odd_of rfl rfl (by decide +kernel)⟩
  · exact ⟨_, _, rfl, odd_of rfl rfl (by decide +kernel)⟩
  · exact ⟨_, _, rfl, odd_of rfl rfl (by decide +kernel)⟩
section
variable {b : Int} (hb : 2 ≤ b) (hb2 : b ≤ 36)
include hb hb2
theorem ptOk_num {v : Rat} (h : NumV b v) (hn : (nm b v).natAbs < 2 ^ 300) : PtOk b (nm b v) (ex b v) := ⟨isNum_numD hb h, hn, h.2.2.1, h.2.2.2⟩
theorem ptOk_zero : PtOk b 0 0 := ⟨rfl, by decide, by decide, by decide⟩
omit hb2 in
theorem ptOk_neg {n e : Int} (h : PtOk b n e) : PtOk b (0 - n) e := by
  obtain ⟨h1, h2, h3, h4⟩ := h
  refine ⟨?_, by rw [Int.zero_sub, Int.natAbs_neg]; exact h2, h3, h4⟩
  have hx : (decide (-1000 ≤ e ∧ e ≤ 1000) && (if n = 0 then decide (e = 0) else decide (n % b ≠ 0) && few n)) = true := h1
  show (decide (-1000 ≤ e ∧ e ≤ 1000) && (if 0 - n = 0 then decide (e = 0) else decide ((0 - n) % b ≠ 0) && few (0 - n))) = true
  by_cases h0 : n = 0
  · subst h0; exact hx
  · rw [if_neg h0] at hx
    rw [if_neg (by omega)]
    simp only [Bool.and_eq_true, decide_eq_true_iff] at hx ⊢
    refine ⟨hx.1, ?_, ?_⟩
    · intro z
      apply hx.2.1
      have d1 : b ∣ 0 - n := Int.dvd_of_emod_eq_zero z
      rw [Int.zero_sub] at d1
      exact Int.emod_eq_zero_of_dvd (Int.dvd_neg.mp d1)
    · have := hx.2.2
      unfold few at this ⊢
      have := of_decide_eq_true this
      refine decide_eq_true ?_
      generalize (10 : Int) ^ 300 = L at *
      split <;> split at this <;> omega
/-- the far number -/
theorem far_eq {n e : Int} (h : PtOk b n e) (d : Int) : ∃ e', M_law_far [.int b, .tup [.int n, .int e], .int d] = .ok (.sh (.tup [.int n, .int e'])) ∧ PtOk b n e' ∧ (n = 0 → e' = 0) ∧ (n ≠ 0 → gIx (.lst [.int 1000, .int (-1000), .int 997, .int (-996)]) (.int (d % 4)) = some (.val (.int e'))) := by
  have h0 := Int.emod_nonneg d (show (4 : Int) ≠ 0 by decide)
  have h1 := Int.emod_lt_of_pos d (show (0 : Int) < 4 by decide)
  have i0 : gIx (.tup [.int n, .int e]) (.int 0) = some (.val (.int n)) := rfl
  have hx : (decide (-1000 ≤ e ∧ e ≤ 1000) && (if n = 0 then decide (e = 0) else decide (n % b ≠ 0) && few n)) = true := h.1
  by_cases hn : n = 0
  · subst hn
    have he : e = 0 := by
      rw [if_pos rfl] at hx
      simp only [Bool.and_eq_true, decide_eq_true_iff] at hx
      exact hx.2
    subst he
    refine ⟨0, ?_, h, fun _ => rfl, fun z => absurd rfl z⟩
    unfold M_law_far
    rw [body_eq]
    simp [i0]
  · obtain ⟨f, hf, f0, f1⟩ : ∃ f : Int, gIx (.lst [.int 1000, .int (-1000), .int 997, .int (-996)]) (.int (d % 4)) = some (.val (.int f)) ∧ -1000 ≤ f ∧ f ≤ 1000 := by
      have : d % 4 = 0 ∨ d % 4 = 1 ∨ d % 4 = 2 ∨ d % 4 = 3 := by omega
      rcases this with h | h | h | h <;> rw [h]
      · exact ⟨_, rfl, by decide, by decide⟩
      · exact ⟨_, rfl, by decide, by decide⟩
      · exact ⟨_, rfl, by decide, by decide⟩
      · exact ⟨_, rfl, by decide, by decide⟩
    refine ⟨f, ?_, ⟨?_, h.2.1, f0, f1⟩, fun z => absurd z hn, fun _ => hf⟩
    · unfold M_law_far
      rw [body_eq]
      simp [i0, hn, hf]
    · rw [if_neg hn] at hx
      show (decide (-1000 ≤ f ∧ f ≤ 1000) && (if n = 0 then decide (f = 0) else decide (n % b ≠ 0) && few n)) = true
      rw [if_neg hn]
      simp only [Bool.and_eq_true, decide_eq_true_iff] at hx ⊢
      exact ⟨⟨f0, f1⟩, hx.2⟩
/-- a pair of numbers, not too far apart -/
def PairOk (b : Int) (d : D) : Prop := ∃ n e m f, d = .tup [.tup [.int n, .int e], .tup [.int m, .int f]] ∧ PtOk b n e ∧ PtOk b m f ∧ (e - f).natAbs ≤ 1400
theorem pair_turn {n e m f : Int} (h1 : PtOk b n e) (h2 : PtOk b m f) (hd : (e - f).natAbs ≤ 1400) (s0 s1 s2 s3 s5 s6 s7 s8 s11 s12 s13 s14 s15 s16 : DL.Slot) : ∃ y11 y12,
    B_law_K03_1 [s0, s1, s2, s3, .sh (.int b), s5, s6, s7, s8, .sh (.tup [.int n, .int e]), .sh (.tup [.int m, .int f]), s11, s12, s13, s14, s15, s16] =
      .nx [s0, s1, s2, s3, .sh (.int b), s5, s6, s7, s8, .sh (.tup [.int n, .int e]), .sh (.tup [.int m, .int f]), y11, y12, s13, s14, s15, s16] := by
  obtain ⟨⟨g0, a0, b0⟩, ⟨g1, a1, b1⟩⟩ := got_sum hb hb2 h1 h2 hd
  have c0 := law_sum1_pt hb hb2 (n1 := n) (e1 := e) (n2 := m) (e2 := f) (Nat.lt_of_lt_of_le h1.2.1 (Nat.pow_le_pow_right (by decide) (by decide))) (Nat.lt_of_lt_of_le h2.2.1 (Nat.pow_le_pow_right (by decide) (by decide))) (by omega)
  have c1 := law_sum1_pt hb hb2 (n1 := n) (e1 := e) (n2 := 0 - m) (e2 := f) (Nat.lt_of_lt_of_le h1.2.1 (Nat.pow_le_pow_right (by decide) (by decide))) (Nat.lt_of_lt_of_le (ptOk_neg hb h2).2.1 (Nat.pow_le_pow_right (by decide) (by decide))) (by omega)
  rw [show (0 - m : Int) = -m by omega] at c1
  have ms : (0 : Int) - m = -m := by omega
  obtain ⟨x0, u0, w0⟩ := limited_told (nm b (n * W b e + m * W b f)) (ex b (n * W b e + m * W b f))
  obtain ⟨x1, u1, w1⟩ := limited_told (nm b (n * W b e + (-m : Int) * W b f)) (ex b (n * W b e + (-m : Int) * W b f))
  have u0 : M_law_limited [numD b (n * W b e + m * W b f)] = .ok x0 := u0
  have u1 : M_law_limited [numD b (n * W b e + (-m : Int) * W b f)] = .ok x1 := u1
  obtain ⟨t, ht⟩ := told3_repr2 (nm b (n * W b e + m * W b f)) (ex b (n * W b e + m * W b f)) (nm b (n * W b e + (-m : Int) * W b f)) (ex b (n * W b e + (-m : Int) * W b f))
  generalize told3 (nm b (n * W b e + m * W b f)) (ex b (n * W b e + m * W b f)) = A at *
  generalize told3 (nm b (n * W b e + (-m : Int) * W b f)) (ex b (n * W b e + (-m : Int) * W b f)) = B at *
  generalize numD b (n * W b e + m * W b f) = V at *
  generalize numD b (n * W b e + (-m : Int) * W b f) = V2 at *
  have i0 : gIx (.tup [.int m, .int f]) (.int 0) = some (.val (.int m)) := rfl
  have i1 : gIx (.tup [.int m, .int f]) (.int 1) = some (.val (.int f)) := rfl
  have r2 : rangeD 0 2 = [.int 0, .int 1] := rfl
  generalize D.tup [.int n, .int e] = N at *
  generalize hF : D.tup [.int m, .int f] = F at *
  refine ⟨.sh (.tup [.int (-m), .int f]), .sh (.lst [A, B]), ?_⟩
  unfold B_law_K03_1
  simp [i0, i1, ms, c0, c1, u0, u1, w0, w1, r2, mcomp_eq, wipeE, compM, C_law_K03_1, a0, a1, b0, b1, ht, noX]
theorem scaled_turn {n e : Int} (h : PtOk b n e) (k : Int) (s0 s1 s2 s3 s5 s6 s7 s8 s9 s10 s11 s12 s13 s16 : DL.Slot) : ∃ y12,
    B_law_K03_2 [s0, s1, s2, s3, .sh (.int b), s5, s6, s7, s8, s9, s10, s11, s12, s13, .sh (.tup [.int n, .int e]), .sh (.int k), s16] =
      .nx [s0, s1, s2, s3, .sh (.int b), s5, s6, s7, s8, s9, s10, s11, y12, s13, .sh (.tup [.int n, .int e]), .sh (.int k), s16] := by
  obtain ⟨g, a0, b0⟩ := got_scaled hb hb2 h k
  obtain ⟨x0, u0, w0⟩ := limited_told (if n = 0 then 0 else n) (if n = 0 then 0 else e + k)
  obtain ⟨t, ht⟩ := told3_repr (if n = 0 then 0 else n) (if n = 0 then 0 else e + k)
  have i0 : gIx (.tup [.int n, .int e]) (.int 0) = some (.val (.int n)) := rfl
  have i1 : gIx (.tup [.int n, .int e]) (.int 1) = some (.val (.int e)) := rfl
  generalize told3 (if n = 0 then 0 else n) (if n = 0 then 0 else e + k) = A at *
  generalize hN : D.tup [.int n, .int e] = N at *
  by_cases h0 : n = 0
  · rw [if_pos h0, if_pos h0] at u0
    refine ⟨.sh (.tup [.int 0, .int 0]), ?_⟩
    unfold B_law_K03_2
    simp [i0, i1, h0, a0, b0, u0, w0, ht]
  · rw [if_neg h0, if_neg h0] at u0
    refine ⟨.sh (.tup [.int n, .int (e + k)]), ?_⟩
    unfold B_law_K03_2
    simp [i0, i1, h0, a0, b0, u0, w0, ht]
theorem scaled_loop {n e : Int} (h : PtOk b n e) (s0 s1 s2 s3 s5 s6 s7 s8 s9 s10 s11 s13 s16 : DL.Slot) : ∀ (ks : List Int) (s12 s15 : DL.Slot), ∃ y12 y15,
    DL.forM (bName 15) B_law_K03_2 (ks.map .int) [s0, s1, s2, s3, .sh (.int b), s5, s6, s7, s8, s9, s10, s11, s12, s13, .sh (.tup [.int n, .int e]), s15, s16] =
      .nx [s0, s1, s2, s3, .sh (.int b), s5, s6, s7, s8, s9, s10, s11, y12, s13, .sh (.tup [.int n, .int e]), y15, s16]
  | [], s12, s15 => ⟨s12, s15, rfl⟩
  | k :: ks, s12, s15 => by
    obtain ⟨z12, t⟩ := scaled_turn hb hb2 h k s0 s1 s2 s3 s5 s6 s7 s8 s9 s10 s11 s12 s13 s16
    obtain ⟨y12, y15, ih⟩ := scaled_loop h s0 s1 s2 s3 s5 s6 s7 s8 s9 s10 s11 s13 s16 ks z12 (.sh (.int k))
    refine ⟨y12, y15, ?_⟩
    show DL.forM _ _ (.int k :: ks.map .int) _ = _
    rw [forM_cons _ _ _ _ _ [s0, s1, s2, s3, .sh (.int b), s5, s6, s7, s8, s9, s10, s11, s12, s13, .sh (.tup [.int n, .int e]), .sh (.int k), s16] rfl, t]
    exact ih
theorem number_turn {n e : Int} (h : PtOk b n e) {dl : D} {a c : Int} (g16 : gIx dl (.int 16) = some (.val (.int a))) (g17 : gIx dl (.int 17) = some (.val (.int c))) (s0 s1 s2 s5 s6 s7 s8 s9 s10 s11 s12 s13 s15 s16 : DL.Slot) : ∃ y12 y15,
    B_law_K03_3 [s0, s1, s2, .sh dl, .sh (.int b), s5, s6, s7, s8, s9, s10, s11, s12, s13, .sh (.tup [.int n, .int e]), s15, s16] =
      .nx [s0, s1, s2, .sh dl, .sh (.int b), s5, s6, s7, s8, s9, s10, s11, y12, s13, .sh (.tup [.int n, .int e]), y15, s16] := by
  obtain ⟨y12, y15, ih⟩ := scaled_loop hb hb2 h s0 s1 s2 (.sh dl) s5 s6 s7 s8 s9 s10 s11 s13 s16 [a % 9 - 4, c % 60 - 30, 0, 2000, -2001] s12 s15
  refine ⟨y12, y15, ?_⟩
  simp only [List.map_cons, List.map_nil] at ih
  unfold B_law_K03_3
  simp [g16, g17, ih]
end
theorem turn03 (ns : List Int) (k : Nat) (c : Int) (r : En) (hk : k < 1000) (hr : r.length = 14) : ∃ r', r'.length = 14 ∧
    B_law_K03_5 (.sh (.scr ns) :: .sh (.int (k : Int)) :: .sh (.int c) :: r) = .nx (.sh (.scr ns) :: .sh (.int (k : Int)) :: .sh (.int c) :: r') := by
  match r, hr with
  | [x3, x4, x5, x6, x7, x8, x9, x10, x11, x12, x13, x14, x15, x16], _ =>
  obtain ⟨ds, hd, en⟩ := numbers_ok c (300 + (k : Int)) (by omega) (by omega) 420 (by decide) (by decide) 30 (by decide)
  have mr : gMul (.lst [.int 420]) (.int 30) = some (.newL (List.replicate 30 (.int 420))) := mul_rep (.int 420) 30 (by decide)
  generalize List.replicate 30 (D.int 420) = R at mr en
  obtain ⟨g0, p0, _⟩ := hd.at_ (k := 0) (by decide)
  have g0 : gIx (.lst (ds.map .int)) (.int 0) = some (.val (.int (dg ds 0))) := g0
  have g15 : gIx (.lst (ds.map .int)) (.int 15) = some (.val (.int (dg ds 15))) := (hd.at_ (k := 15) (by decide)).1
  have g16 : gIx (.lst (ds.map .int)) (.int 16) = some (.val (.int (dg ds 16))) := (hd.at_ (k := 16) (by decide)).1
  have g17 : gIx (.lst (ds.map .int)) (.int 17) = some (.val (.int (dg ds 17))) := (hd.at_ (k := 17) (by decide)).1
  have g18 : gIx (.lst (ds.map .int)) (.int 18) = some (.val (.int (dg ds 18))) := (hd.at_ (k := 18) (by decide)).1
  have g19 : gIx (.lst (ds.map .int)) (.int 19) = some (.val (.int (dg ds 19))) := (hd.at_ (k := 19) (by decide)).1
  have sl1 : gSl (some 1) none (.lst (ds.map .int)) = some (.newL ((ds.drop 1).map .int)) := hd.from_ (k := 1) (by decide)
  have sl8 : gSl (some 8) none (.lst (ds.map .int)) = some (.newL ((ds.drop 8).map .int)) := hd.from_ (k := 8) (by decide)
  obtain ⟨b, hB, b2, b36⟩ := base_eq p0
  obtain ⟨v1, o1, z1, m1⟩ := number2_val b2 b36 (hd.drop 1) (by decide)
  obtain ⟨v2, o2, z2, m2⟩ := number2_val b2 b36 (hd.drop 8) (by decide)
  have P1 := ptOk_num b2 b36 (numV_of b2 z1 (by decide) (by decide) (by decide)) m1
  have P2 := ptOk_num b2 b36 (numV_of b2 z2 (by decide) (by decide) (by decide)) m2
  have x1 := (box b2 b36 z1).2
  have x2 := (box b2 b36 z2).2
  have o1 : M_law_number_v2 [.int b, .lst ((ds.drop 1).map .int)] = .ok (.sh (.tup [.int (nm b v1), .int (ex b v1)])) := o1
  have o2 : M_law_number_v2 [.int b, .lst ((ds.drop 8).map .int)] = .ok (.sh (.tup [.int (nm b v2), .int (ex b v2)])) := o2
  generalize (ds.drop 1).map D.int = w1 at *
  generalize (ds.drop 8).map D.int = w8 at *
  generalize ds.map D.int = dl at *
  generalize nm b v1 = n1 at *
  generalize ex b v1 = e1 at *
  generalize nm b v2 = n2 at *
  generalize ex b v2 = e2 at *
  obtain ⟨f1, F1, Q1, fz1, fn1⟩ := far_eq b2 b36 P1 (dg ds 15)
  obtain ⟨f2, F2, Q2, fz2, fn2⟩ := far_eq b2 b36 P2 (dg ds 15)
  have df : (f1 - f2).natAbs ≤ 1400 := by
    have a1 := Q1.2.2
    have a2 := Q2.2.2
    by_cases h1 : n1 = 0
    · have := fz1 h1; omega
    · by_cases h2 : n2 = 0
      · have := fz2 h2; omega
      · have q := (fn1 h1).symm.trans (fn2 h2)
        cases q
        omega
  have Z := ptOk_zero b2 b36
  have N1 := ptOk_neg b2 P1
  have NF := ptOk_neg b2 Q1
  have u0 : gIx (.tup [.int n1, .int e1]) (.int 0) = some (.val (.int n1)) := rfl
  have u1 : gIx (.tup [.int n1, .int e1]) (.int 1) = some (.val (.int e1)) := rfl
  have w0 : gIx (.tup [.int n1, .int f1]) (.int 0) = some (.val (.int n1)) := rfl
  have w2 : gIx (.tup [.int n1, .int f1]) (.int 1) = some (.val (.int f1)) := rfl
  -- the pairs
  obtain ⟨pairs, hp, hpl, hpa⟩ : ∃ pairs : List D, pairs = [.tup [.tup [.int n1, .int e1], .tup [.int n2, .int e2]], .tup [.tup [.int n2, .int e2], .tup [.int n1, .int e1]], .tup [.tup [.int n1, .int e1], .tup [.int n1, .int e1]], .tup [.tup [.int n1, .int e1], .tup [.int 0, .int 0]], .tup [.tup [.int n1, .int e1], .tup [.int (0 - n1), .int e1]], .tup [.tup [.int n1, .int f1], .tup [.int n1, .int f1]], .tup [.tup [.int n1, .int f1], .tup [.int (0 - n1), .int f1]], .tup [.tup [.int n1, .int f1], .tup [.int n2, .int f2]]] ++ (if 0 < f1 then [.tup [.tup [.int n1, .int f1], .tup [.int n2, .int e2]]] else []) ∧ pairs.length < 100 ∧ ∀ d ∈ pairs, PairOk b d := by
    refine ⟨_, rfl, by split <;> simp, fun d hd => ?_⟩
    rcases List.mem_append.mp hd with hd | hd
    · simp only [List.mem_cons, List.not_mem_nil, or_false] at hd
      rcases hd with rfl | rfl | rfl | rfl | rfl | rfl | rfl | rfl
      · exact ⟨_, _, _, _, rfl, P1, P2, by omega⟩
      · exact ⟨_, _, _, _, rfl, P2, P1, by omega⟩
      · exact ⟨_, _, _, _, rfl, P1, P1, by omega⟩
      · exact ⟨_, _, _, _, rfl, P1, Z, by omega⟩
      · exact ⟨_, _, _, _, rfl, P1, N1, by omega⟩
      · exact ⟨_, _, _, _, rfl, Q1, Q1, by omega⟩
      · exact ⟨_, _, _, _, rfl, Q1, NF, by omega⟩
      · exact ⟨_, _, _, _, rfl, Q1, Q2, df⟩
    · split at hd
      · rw [List.mem_singleton.mp hd]
        have := Q1.2.2
        exact ⟨_, _, _, _, rfl, Q1, P2, by omega⟩
      · cases hd
  obtain ⟨od, t, od1, odv⟩ := odd_pick b2 b36 (dg ds 19)
  -- the loops
  obtain ⟨Γ1, l1, y9, y10, y11, y12, rfl⟩ := forM_inv (g := bOfTup [bName 9, bName 10]) (b := B_law_K03_1) (fun _ Γ => ∃ y9 y10 y11 y12, Γ = [.sh (.scr ns), .sh (.int (k : Int)), .sh (.int c), .sh (.lst dl), .sh (.int b), .sh (.tup [.int n1, .int e1]), .sh (.tup [.int n2, .int e2]), .sh (.lst pairs), .sh (.tup [.int n1, .int f1]), y9, y10, y11, y12, x13, x14, x15, x16])
    pairs 0 [.sh (.scr ns), .sh (.int (k : Int)), .sh (.int c), .sh (.lst dl), .sh (.int b), .sh (.tup [.int n1, .int e1]), .sh (.tup [.int n2, .int e2]), .sh (.lst pairs), .sh (.tup [.int n1, .int f1]), x9, x10, x11, x12, x13, x14, x15, x16] ⟨_, _, _, _, rfl⟩ (by
      rintro i x Γ hx ⟨y9, y10, y11, y12, rfl⟩
      obtain ⟨n, e, m, f, rfl, h1, h2, h3⟩ := hpa x (List.mem_of_getElem? hx)
      obtain ⟨z11, z12, h⟩ := pair_turn b2 b36 h1 h2 h3 (.sh (.scr ns)) (.sh (.int (k : Int))) (.sh (.int c)) (.sh (.lst dl)) (.sh (.tup [.int n1, .int e1])) (.sh (.tup [.int n2, .int e2])) (.sh (.lst pairs)) (.sh (.tup [.int n1, .int f1])) y11 y12 x13 x14 x15 x16
      exact ⟨_, _, rfl, .inl h, _, _, _, _, rfl⟩)
  obtain ⟨nums, hn, hnl, hna⟩ : ∃ nums : List D, nums = [.tup [.int n1, .int e1], .tup [.int n2, .int e2], .tup [.int n1, .int f1], .tup [.int 0, .int 0]] ∧ nums.length < 100 ∧ ∀ d ∈ nums, ∃ n e, d = .tup [.int n, .int e] ∧ PtOk b n e := by
    refine ⟨_, rfl, by simp, fun d hd => ?_⟩
    simp only [List.mem_cons, List.not_mem_nil, or_false] at hd
    rcases hd with rfl | rfl | rfl | rfl
    · exact ⟨_, _, rfl, P1⟩
    · exact ⟨_, _, rfl, P2⟩
    · exact ⟨_, _, rfl, Q1⟩
    · exact ⟨_, _, rfl, Z⟩
  obtain ⟨Γ2, l2, q12, q14, q15, rfl⟩ := forM_inv (g := bName 14) (b := B_law_K03_3) (fun _ Γ => ∃ q12 q14 q15, Γ = [.sh (.scr ns), .sh (.int (k : Int)), .sh (.int c), .sh (.lst dl), .sh (.int b), .sh (.tup [.int n1, .int e1]), .sh (.tup [.int n2, .int e2]), .sh (.lst pairs), .sh (.tup [.int n1, .int f1]), y9, y10, y11, q12, x13, q14, q15, x16])
    nums 0 [.sh (.scr ns), .sh (.int (k : Int)), .sh (.int c), .sh (.lst dl), .sh (.int b), .sh (.tup [.int n1, .int e1]), .sh (.tup [.int n2, .int e2]), .sh (.lst pairs), .sh (.tup [.int n1, .int f1]), y9, y10, y11, y12, x13, x14, x15, x16] ⟨_, _, _, rfl⟩ (by
      rintro i x Γ hx ⟨q12, q14, q15, rfl⟩
      obtain ⟨n, e, rfl, h1⟩ := hna x (List.mem_of_getElem? hx)
      obtain ⟨z12, z15, h⟩ := number_turn b2 b36 h1 g16 g17 (.sh (.scr ns)) (.sh (.int (k : Int))) (.sh (.int c)) (.sh (.tup [.int n1, .int e1])) (.sh (.tup [.int n2, .int e2])) (.sh (.lst pairs)) (.sh (.tup [.int n1, .int f1])) y9 y10 y11 q12 x13 q15 x16
      exact ⟨_, _, rfl, .inl h, _, _, _, rfl⟩)
  have fl := floors_eq b2 b36 P1 Q1 (d := dg ds 18) P1.2.2
  have os := odd3_smp odv.cl
  have ne1 : gNe (odd3 t) (odd3 t) = some (.val (.bl false)) := gNe_same (eqOk_lst (xs := [.str "number", .str t, .bl true, .bl false]) fun x hx => by
    simp only [List.mem_cons, List.not_mem_nil, or_false] at hx
    rcases hx with rfl | rfl | rfl | rfl
    · exact Smp.str (by decide +kernel)
    · exact Smp.str odv.cl
    · exact Smp.bl _
    · exact Smp.bl _)
  have ne2 : gNe (.lst [odd3 t, odd3 t]) (.lst [odd3 t, odd3 t]) = some (.val (.bl false)) := gNe_same (eqOk_lst fun x hx => by
    simp only [List.mem_cons, List.not_mem_nil, or_false] at hx
    rcases hx with rfl | rfl <;> exact os)
  have m2' : gMul (.lst [odd3 t]) (.int 2) = some (.newL [odd3 t, odd3 t]) := mul_rep (odd3 t) 2 (by decide)
  have od0 := got_odd b2 b36 odv.fr odv.no odv.rp (.int 3) (k := 0) (by decide) (by decide)
  have od1' := got_odd b2 b36 odv.fr odv.no odv.rp (.int 3) (k := 1) (by decide) (by decide)
  have od2 := got_odd b2 b36 odv.fr odv.no odv.rp (.int 3) (k := 2) (by decide) (by decide)
  have od3 := got_odd b2 b36 odv.fr odv.no odv.rp (.int 3) (k := 3) (by decide) (by decide)
  have oe0 := got_odd2 b2 b36 Q1 odv.fr odv.no odv.rp (k := 0) (by decide) (by decide)
  have oe1 := got_odd2 b2 b36 Q1 odv.fr odv.no odv.rp (k := 1) (by decide) (by decide)
  have orp := odv.rw_
  have r4 : rangeD 0 4 = [.int 0, .int 1, .int 2, .int 3] := rfl
  have r2 : rangeD 0 2 = [.int 0, .int 1] := rfl
  have oo : odd3 t = .lst [.str "number", .str t, .bl true, .bl false] := rfl
  refine ⟨[.sh (.lst dl), .sh (.int b), .sh (.tup [.int n1, .int e1]), .sh (.tup [.int n2, .int e2]), .sh (.lst pairs), .sh (.tup [.int n1, .int f1]), y9, y10, y11, q12, .sh (.int 3), q14, q15, .sh od], rfl, ?_⟩
  unfold B_law_K03_5
  refine seq_step (by simp [mr, en] <;> with_reducible rfl) ?_
  refine seq_step (by simp [g0, hB] <;> with_reducible rfl) ?_
  refine seq_step (by simp [sl1, sl8, o1, o2] <;> with_reducible rfl) ?_
  refine seq_step (by simp [u0, u1] <;> with_reducible rfl) ?_
  refine seq_step (by simp [g15, F1] <;> with_reducible rfl) ?_
  refine seq_step (by simp [g15, F2, w0, w2, gAdd] <;> with_reducible rfl) ?_
  refine seq_step (Γ' := [.sh (.scr ns), .sh (.int (k : Int)), .sh (.int c), .sh (.lst dl), .sh (.int b), .sh (.tup [.int n1, .int e1]), .sh (.tup [.int n2, .int e2]), .own pairs, .sh (.tup [.int n1, .int f1]), x9, x10, x11, x12, x13, x14, x15, x16]) (by
    by_cases h : 0 < f1
    · rw [if_pos h] at hp
      simp [w2, h, hp]
    · rw [if_neg h, List.append_nil] at hp
      simp [w2, h, hp]) ?_
  refine seq_step (by simp [frz, l1] <;> with_reducible rfl) ?_
  have hn4 : nums.length ≤ 1000 := by omega
  refine seq_step (by simp [← hn, hn4, l2] <;> with_reducible rfl) ?_
  refine seq_step (by simp [g18, fl] <;> with_reducible rfl) ?_
  refine seq_step (by simp [g19, od1] <;> with_reducible rfl) ?_
  refine seq_step (by simp [r4, DL.forM, B_law_K03_4, od0, od1', od2, od3, orp, ← oo, ne1] <;> with_reducible rfl) ?_
  simp [r2, mcomp_eq, wipeE, compM, C_law_K03_2, oe0, oe1, orp, ← oo, m2', ne2, noX]
theorem law_true_K03 : LawTrue M_law_K03 := law_loop (N := 8) (m := 14) (by decide) rfl turn03
end PM

namespace K03
open PySem L2 GL DL PM
theorem all_mk {l : PySem.W.OpenLaw} {w : World} {fa : Addr} {K : PySem.W.Frag} {h : Heap} {mg : Str → Option Value} (X : K.In h) (G : h.Ns mainGlobals mg) (hfa : mg "law" = some (.ref fa))
  {f_is_whole : Addr} {od_is_whole an_is_whole : Option Addr} {sl_is_whole : Array (Option Value)} {oc_is_whole kV_is_whole dc_is_whole pm_is_whole cd_is_whole ct_is_whole : Value}
  {f_is_within : Addr} {od_is_within an_is_within : Option Addr} {sl_is_within : Array (Option Value)} {oc_is_within kV_is_within dc_is_within pm_is_within cd_is_within ct_is_within : Value}
  {f_is_place : Addr} {od_is_place an_is_place : Option Addr} {sl_is_place : Array (Option Value)} {oc_is_place kV_is_place dc_is_place pm_is_place cd_is_place ct_is_place : Value}
  {f_power_of : Addr} {od_power_of an_power_of : Option Addr} {sl_power_of : Array (Option Value)} {oc_power_of kV_power_of dc_power_of pm_power_of cd_power_of ct_power_of : Value}
  {f_is_number : Addr} {od_is_number an_is_number : Option Addr} {sl_is_number : Array (Option Value)} {oc_is_number kV_is_number dc_is_number pm_is_number cd_is_number ct_is_number : Value}
  {f_make_number : Addr} {od_make_number an_make_number : Option Addr} {sl_make_number : Array (Option Value)} {oc_make_number kV_make_number dc_make_number pm_make_number cd_make_number ct_make_number : Value}
  {f_plus : Addr} {od_plus an_plus : Option Addr} {sl_plus : Array (Option Value)} {oc_plus kV_plus dc_plus pm_plus cd_plus ct_plus : Value}
  {f_minus : Addr} {od_minus an_minus : Option Addr} {sl_minus : Array (Option Value)} {oc_minus kV_minus dc_minus pm_minus cd_minus ct_minus : Value}
  {f_scaled : Addr} {od_scaled an_scaled : Option Addr} {sl_scaled : Array (Option Value)} {oc_scaled kV_scaled dc_scaled pm_scaled cd_scaled ct_scaled : Value}
  {f_floor_at : Addr} {od_floor_at an_floor_at : Option Addr} {sl_floor_at : Array (Option Value)} {oc_floor_at kV_floor_at dc_floor_at pm_floor_at cd_floor_at ct_floor_at : Value}
  {f_units : Addr} {od_units an_units : Option Addr} {sl_units : Array (Option Value)} {oc_units kV_units dc_units pm_units cd_units ct_units : Value}
  {f_negative : Addr} {od_negative an_negative : Option Addr} {sl_negative : Array (Option Value)} {oc_negative kV_negative dc_negative pm_negative cd_negative ct_negative : Value}
  {f_form_of : Addr} {od_form_of an_form_of : Option Addr} {sl_form_of : Array (Option Value)} {oc_form_of kV_form_of dc_form_of pm_form_of cd_form_of ct_form_of : Value}
  {f_sum_of : Addr} {od_sum_of an_sum_of : Option Addr} {sl_sum_of : Array (Option Value)} {oc_sum_of kV_sum_of dc_sum_of pm_sum_of cd_sum_of ct_sum_of : Value}
  {f_within_limits : Addr} {od_within_limits an_within_limits : Option Addr} {sl_within_limits : Array (Option Value)} {oc_within_limits kV_within_limits dc_within_limits pm_within_limits cd_within_limits ct_within_limits : Value}
  {f_require_numbers : Addr} {od_require_numbers an_require_numbers : Option Addr} {sl_require_numbers : Array (Option Value)} {oc_require_numbers kV_require_numbers dc_require_numbers pm_require_numbers cd_require_numbers ct_require_numbers : Value}
  {f_has_few_digits : Addr} {od_has_few_digits an_has_few_digits : Option Addr} {sl_has_few_digits : Array (Option Value)} {oc_has_few_digits kV_has_few_digits dc_has_few_digits pm_has_few_digits cd_has_few_digits ct_has_few_digits : Value}
  {f_without_factors : Addr} {od_without_factors an_without_factors : Option Addr} {sl_without_factors : Array (Option Value)} {oc_without_factors kV_without_factors dc_without_factors pm_without_factors cd_without_factors ct_without_factors : Value}
  {f_law_numbers : Addr} {od_law_numbers an_law_numbers : Option Addr} {sl_law_numbers : Array (Option Value)} {oc_law_numbers kV_law_numbers dc_law_numbers pm_law_numbers cd_law_numbers ct_law_numbers : Value}
  {f_law_power : Addr} {od_law_power an_law_power : Option Addr} {sl_law_power : Array (Option Value)} {oc_law_power kV_law_power dc_law_power pm_law_power cd_law_power ct_law_power : Value}
  {f_law_form : Addr} {od_law_form an_law_form : Option Addr} {sl_law_form : Array (Option Value)} {oc_law_form kV_law_form dc_law_form pm_law_form cd_law_form ct_law_form : Value}
  {f_law_sum : Addr} {od_law_sum an_law_sum : Option Addr} {sl_law_sum : Array (Option Value)} {oc_law_sum kV_law_sum dc_law_sum pm_law_sum cd_law_sum ct_law_sum : Value}
  {f_law_base : Addr} {od_law_base an_law_base : Option Addr} {sl_law_base : Array (Option Value)} {oc_law_base kV_law_base dc_law_base pm_law_base cd_law_base ct_law_base : Value}
  {f_law_integer : Addr} {od_law_integer an_law_integer : Option Addr} {sl_law_integer : Array (Option Value)} {oc_law_integer kV_law_integer dc_law_integer pm_law_integer cd_law_integer ct_law_integer : Value}
  {f_law_number : Addr} {od_law_number an_law_number : Option Addr} {sl_law_number : Array (Option Value)} {oc_law_number kV_law_number dc_law_number pm_law_number cd_law_number ct_law_number : Value}
  {f_law_got : Addr} {od_law_got an_law_got : Option Addr} {sl_law_got : Array (Option Value)} {oc_law_got kV_law_got dc_law_got pm_law_got cd_law_got ct_law_got : Value}
  {f_law_limited : Addr} {od_law_limited an_law_limited : Option Addr} {sl_law_limited : Array (Option Value)} {oc_law_limited kV_law_limited dc_law_limited pm_law_limited cd_law_limited ct_law_limited : Value}
  {f_law_floor : Addr} {od_law_floor an_law_floor : Option Addr} {sl_law_floor : Array (Option Value)} {oc_law_floor kV_law_floor dc_law_floor pm_law_floor cd_law_floor ct_law_floor : Value}
  {f_law_far : Addr} {od_law_far an_law_far : Option Addr} {sl_law_far : Array (Option Value)} {oc_law_far kV_law_far dc_law_far pm_law_far cd_law_far ct_law_far : Value}
  {f_law_floors_ok : Addr} {od_law_floors_ok an_law_floors_ok : Option Addr} {sl_law_floors_ok : Array (Option Value)} {oc_law_floors_ok kV_law_floors_ok dc_law_floors_ok pm_law_floors_ok cd_law_floors_ok ct_law_floors_ok : Value}
  {f_law : Addr} {od_law an_law : Option Addr} {sl_law : Array (Option Value)} {oc_law kV_law dc_law pm_law cd_law ct_law : Value}
  {C_InvalidNumber I_InvalidNumber N_InvalidNumber : Addr} {nm_InvalidNumber q_InvalidNumber : Str} {bs_InvalidNumber bm_InvalidNumber sub_InvalidNumber : List Value} {sn_InvalidNumber : List Str} {ab_InvalidNumber : Bool} {col_InvalidNumber : Option Bool} {dd_InvalidNumber : Option Addr} {m0_InvalidNumber m1_InvalidNumber m2_InvalidNumber m3_InvalidNumber m5_InvalidNumber : Option Value}
  {od_InvalidNumber an_InvalidNumber : Option Addr} {sl_InvalidNumber : Array (Option Value)} {oc_InvalidNumber dc_InvalidNumber pm_InvalidNumber cd_InvalidNumber cv_InvalidNumber : Value}
  {C_InvalidState I_InvalidState N_InvalidState : Addr} {nm_InvalidState q_InvalidState : Str} {bs_InvalidState bm_InvalidState sub_InvalidState : List Value} {sn_InvalidState : List Str} {ab_InvalidState : Bool} {col_InvalidState : Option Bool} {dd_InvalidState : Option Addr} {m0_InvalidState m1_InvalidState m2_InvalidState m3_InvalidState m5_InvalidState : Option Value}
  {od_InvalidState an_InvalidState : Option Addr} {sl_InvalidState : Array (Option Value)} {oc_InvalidState dc_InvalidState pm_InvalidState cd_InvalidState cv_InvalidState : Value}
  {C_LimitExceeded I_LimitExceeded N_LimitExceeded : Addr} {nm_LimitExceeded q_LimitExceeded : Str} {bs_LimitExceeded bm_LimitExceeded sub_LimitExceeded : List Value} {sn_LimitExceeded : List Str} {ab_LimitExceeded : Bool} {col_LimitExceeded : Option Bool} {dd_LimitExceeded : Option Addr} {m0_LimitExceeded m1_LimitExceeded m2_LimitExceeded m3_LimitExceeded m5_LimitExceeded : Option Value}
  {od_LimitExceeded an_LimitExceeded : Option Addr} {sl_LimitExceeded : Array (Option Value)} {oc_LimitExceeded dc_LimitExceeded pm_LimitExceeded cd_LimitExceeded cv_LimitExceeded : Value}
  {C_HeadError : Addr}
  {t_MAX_PLACE : Tok}
  {t_MAX_DIGITS : Tok}
  (a_is_whole : PySem.W.nsIn K mainGlobals "is_whole" = some (some (.ref f_is_whole)))
  (l_is_whole : K.lookup f_is_whole = some ⟨oc_is_whole, od_is_whole, .func (PySem.W.fnOf "is_whole" "is_whole" (defArgs s_is_whole) (defBody s_is_whole) (defScope s_is_whole) .none kV_is_whole dc_is_whole pm_is_whole an_is_whole cd_is_whole ct_is_whole), sl_is_whole⟩)
  (c_is_whole : PySem.W.codeIn K cd_is_whole "is_whole" = true)
  (k_is_whole : PySem.W.keepIn K (.ref f_is_whole) = true)
  (a_is_within : PySem.W.nsIn K mainGlobals "is_within" = some (some (.ref f_is_within)))
  (l_is_within : K.lookup f_is_within = some ⟨oc_is_within, od_is_within, .func (PySem.W.fnOf "is_within" "is_within" (defArgs s_is_within) (defBody s_is_within) (defScope s_is_within) .none kV_is_within dc_is_within pm_is_within an_is_within cd_is_within ct_is_within), sl_is_within⟩)
  (c_is_within : PySem.W.codeIn K cd_is_within "is_within" = true)
  (k_is_within : PySem.W.keepIn K (.ref f_is_within) = true)
  (a_is_place : PySem.W.nsIn K mainGlobals "is_place" = some (some (.ref f_is_place)))
  (l_is_place : K.lookup f_is_place = some ⟨oc_is_place, od_is_place, .func (PySem.W.fnOf "is_place" "is_place" (defArgs s_is_place) (defBody s_is_place) (defScope s_is_place) .none kV_is_place dc_is_place pm_is_place an_is_place cd_is_place ct_is_place), sl_is_place⟩)
  (c_is_place : PySem.W.codeIn K cd_is_place "is_place" = true)
  (k_is_place : PySem.W.keepIn K (.ref f_is_place) = true)
  (a_power_of : PySem.W.nsIn K mainGlobals "power_of" = some (some (.ref f_power_of)))
  (l_power_of : K.lookup f_power_of = some ⟨oc_power_of, od_power_of, .func (PySem.W.fnOf "power_of" "power_of" (defArgs s_power_of) (defBody s_power_of) (defScope s_power_of) .none kV_power_of dc_power_of pm_power_of an_power_of cd_power_of ct_power_of), sl_power_of⟩)
  (c_power_of : PySem.W.codeIn K cd_power_of "power_of" = true)
  (k_power_of : PySem.W.keepIn K (.ref f_power_of) = true)
  (a_is_number : PySem.W.nsIn K mainGlobals "is_number" = some (some (.ref f_is_number)))
  (l_is_number : K.lookup f_is_number = some ⟨oc_is_number, od_is_number, .func (PySem.W.fnOf "is_number" "is_number" (defArgs s_is_number) (defBody s_is_number) (defScope s_is_number) .none kV_is_number dc_is_number pm_is_number an_is_number cd_is_number ct_is_number), sl_is_number⟩)
  (c_is_number : PySem.W.codeIn K cd_is_number "is_number" = true)
  (k_is_number : PySem.W.keepIn K (.ref f_is_number) = true)
  (a_make_number : PySem.W.nsIn K mainGlobals "make_number" = some (some (.ref f_make_number)))
  (l_make_number : K.lookup f_make_number = some ⟨oc_make_number, od_make_number, .func (PySem.W.fnOf "make_number" "make_number" (defArgs s_make_number) (defBody s_make_number) (defScope s_make_number) .none kV_make_number dc_make_number pm_make_number an_make_number cd_make_number ct_make_number), sl_make_number⟩)
  (c_make_number : PySem.W.codeIn K cd_make_number "make_number" = true)
  (k_make_number : PySem.W.keepIn K (.ref f_make_number) = true)
  (a_plus : PySem.W.nsIn K mainGlobals "plus" = some (some (.ref f_plus)))
  (l_plus : K.lookup f_plus = some ⟨oc_plus, od_plus, .func (PySem.W.fnOf "plus" "plus" (defArgs s_plus) (defBody s_plus) (defScope s_plus) .none kV_plus dc_plus pm_plus an_plus cd_plus ct_plus), sl_plus⟩)
  (c_plus : PySem.W.codeIn K cd_plus "plus" = true)
  (k_plus : PySem.W.keepIn K (.ref f_plus) = true)
  (a_minus : PySem.W.nsIn K mainGlobals "minus" = some (some (.ref f_minus)))
  (l_minus : K.lookup f_minus = some ⟨oc_minus, od_minus, .func (PySem.W.fnOf "minus" "minus" (defArgs s_minus) (defBody s_minus) (defScope s_minus) .none kV_minus dc_minus pm_minus an_minus cd_minus ct_minus), sl_minus⟩)
  (c_minus : PySem.W.codeIn K cd_minus "minus" = true)
  (k_minus : PySem.W.keepIn K (.ref f_minus) = true)
  (a_scaled : PySem.W.nsIn K mainGlobals "scaled" = some (some (.ref f_scaled)))
  (l_scaled : K.lookup f_scaled = some ⟨oc_scaled, od_scaled, .func (PySem.W.fnOf "scaled" "scaled" (defArgs s_scaled) (defBody s_scaled) (defScope s_scaled) .none kV_scaled dc_scaled pm_scaled an_scaled cd_scaled ct_scaled), sl_scaled⟩)
  (c_scaled : PySem.W.codeIn K cd_scaled "scaled" = true)
  (k_scaled : PySem.W.keepIn K (.ref f_scaled) = true)
  (a_floor_at : PySem.W.nsIn K mainGlobals "floor_at" = some (some (.ref f_floor_at)))
  (l_floor_at : K.lookup f_floor_at = some ⟨oc_floor_at, od_floor_at, .func (PySem.W.fnOf "floor_at" "floor_at" (defArgs s_floor_at) (defBody s_floor_at) (defScope s_floor_at) .none kV_floor_at dc_floor_at pm_floor_at an_floor_at cd_floor_at ct_floor_at), sl_floor_at⟩)
  (c_floor_at : PySem.W.codeIn K cd_floor_at "floor_at" = true)
  (k_floor_at : PySem.W.keepIn K (.ref f_floor_at) = true)
  (a_units : PySem.W.nsIn K mainGlobals "units" = some (some (.ref f_units)))
  (l_units : K.lookup f_units = some ⟨oc_units, od_units, .func (PySem.W.fnOf "units" "units" (defArgs s_units) (defBody s_units) (defScope s_units) .none kV_units dc_units pm_units an_units cd_units ct_units), sl_units⟩)
  (c_units : PySem.W.codeIn K cd_units "units" = true)
  (k_units : PySem.W.keepIn K (.ref f_units) = true)
  (a_negative : PySem.W.nsIn K mainGlobals "negative" = some (some (.ref f_negative)))
  (l_negative : K.lookup f_negative = some ⟨oc_negative, od_negative, .func (PySem.W.fnOf "negative" "negative" (defArgs s_negative) (defBody s_negative) (defScope s_negative) .none kV_negative dc_negative pm_negative an_negative cd_negative ct_negative), sl_negative⟩)
  (c_negative : PySem.W.codeIn K cd_negative "negative" = true)
  (k_negative : PySem.W.keepIn K (.ref f_negative) = true)
  (a_form_of : PySem.W.nsIn K mainGlobals "form_of" = some (some (.ref f_form_of)))
  (l_form_of : K.lookup f_form_of = some ⟨oc_form_of, od_form_of, .func (PySem.W.fnOf "form_of" "form_of" (defArgs s_form_of) (defBody s_form_of) (defScope s_form_of) .none kV_form_of dc_form_of pm_form_of an_form_of cd_form_of ct_form_of), sl_form_of⟩)
  (c_form_of : PySem.W.codeIn K cd_form_of "form_of" = true)
  (k_form_of : PySem.W.keepIn K (.ref f_form_of) = true)
  (a_sum_of : PySem.W.nsIn K mainGlobals "sum_of" = some (some (.ref f_sum_of)))
  (l_sum_of : K.lookup f_sum_of = some ⟨oc_sum_of, od_sum_of, .func (PySem.W.fnOf "sum_of" "sum_of" (defArgs s_sum_of) (defBody s_sum_of) (defScope s_sum_of) .none kV_sum_of dc_sum_of pm_sum_of an_sum_of cd_sum_of ct_sum_of), sl_sum_of⟩)
  (c_sum_of : PySem.W.codeIn K cd_sum_of "sum_of" = true)
  (k_sum_of : PySem.W.keepIn K (.ref f_sum_of) = true)
  (a_within_limits : PySem.W.nsIn K mainGlobals "within_limits" = some (some (.ref f_within_limits)))
  (l_within_limits : K.lookup f_within_limits = some ⟨oc_within_limits, od_within_limits, .func (PySem.W.fnOf "within_limits" "within_limits" (defArgs s_within_limits) (defBody s_within_limits) (defScope s_within_limits) .none kV_within_limits dc_within_limits pm_within_limits an_within_limits cd_within_limits ct_within_limits), sl_within_limits⟩)
  (c_within_limits : PySem.W.codeIn K cd_within_limits "within_limits" = true)
  (k_within_limits : PySem.W.keepIn K (.ref f_within_limits) = true)
  (a_require_numbers : PySem.W.nsIn K mainGlobals "require_numbers" = some (some (.ref f_require_numbers)))
  (l_require_numbers : K.lookup f_require_numbers = some ⟨oc_require_numbers, od_require_numbers, .func (PySem.W.fnOf "require_numbers" "require_numbers" (defArgs s_require_numbers) (defBody s_require_numbers) (defScope s_require_numbers) .none kV_require_numbers dc_require_numbers pm_require_numbers an_require_numbers cd_require_numbers ct_require_numbers), sl_require_numbers⟩)
  (c_require_numbers : PySem.W.codeIn K cd_require_numbers "require_numbers" = true)
  (k_require_numbers : PySem.W.keepIn K (.ref f_require_numbers) = true)
  (a_has_few_digits : PySem.W.nsIn K mainGlobals "has_few_digits" = some (some (.ref f_has_few_digits)))
  (l_has_few_digits : K.lookup f_has_few_digits = some ⟨oc_has_few_digits, od_has_few_digits, .func (PySem.W.fnOf "has_few_digits" "has_few_digits" (defArgs s_has_few_digits) (defBody s_has_few_digits) (defScope s_has_few_digits) .none kV_has_few_digits dc_has_few_digits pm_has_few_digits an_has_few_digits cd_has_few_digits ct_has_few_digits), sl_has_few_digits⟩)
  (c_has_few_digits : PySem.W.codeIn K cd_has_few_digits "has_few_digits" = true)
  (k_has_few_digits : PySem.W.keepIn K (.ref f_has_few_digits) = true)
  (a_without_factors : PySem.W.nsIn K mainGlobals "without_factors" = some (some (.ref f_without_factors)))
  (l_without_factors : K.lookup f_without_factors = some ⟨oc_without_factors, od_without_factors, .func (PySem.W.fnOf "without_factors" "without_factors" (defArgs s_without_factors) (defBody s_without_factors) (defScope s_without_factors) .none kV_without_factors dc_without_factors pm_without_factors an_without_factors cd_without_factors ct_without_factors), sl_without_factors⟩)
  (c_without_factors : PySem.W.codeIn K cd_without_factors "without_factors" = true)
  (k_without_factors : PySem.W.keepIn K (.ref f_without_factors) = true)
  (a_law_numbers : PySem.W.nsIn K mainGlobals "_law_numbers" = some (some (.ref f_law_numbers)))
  (l_law_numbers : K.lookup f_law_numbers = some ⟨oc_law_numbers, od_law_numbers, .func (PySem.W.fnOf "_law_numbers" "_law_numbers" (defArgs s_law_numbers) (defBody s_law_numbers) (defScope s_law_numbers) .none kV_law_numbers dc_law_numbers pm_law_numbers an_law_numbers cd_law_numbers ct_law_numbers), sl_law_numbers⟩)
  (c_law_numbers : PySem.W.codeIn K cd_law_numbers "_law_numbers" = true)
  (k_law_numbers : PySem.W.keepIn K (.ref f_law_numbers) = true)
  (a_law_power : PySem.W.nsIn K mainGlobals "_law_power" = some (some (.ref f_law_power)))
  (l_law_power : K.lookup f_law_power = some ⟨oc_law_power, od_law_power, .func (PySem.W.fnOf "_law_power" "_law_power" (defArgs s_law_power) (defBody s_law_power) (defScope s_law_power) .none kV_law_power dc_law_power pm_law_power an_law_power cd_law_power ct_law_power), sl_law_power⟩)
  (c_law_power : PySem.W.codeIn K cd_law_power "_law_power" = true)
  (k_law_power : PySem.W.keepIn K (.ref f_law_power) = true)
  (a_law_form : PySem.W.nsIn K mainGlobals "_law_form" = some (some (.ref f_law_form)))
  (l_law_form : K.lookup f_law_form = some ⟨oc_law_form, od_law_form, .func (PySem.W.fnOf "_law_form" "_law_form" (defArgs s_law_form) (defBody s_law_form) (defScope s_law_form) .none kV_law_form dc_law_form pm_law_form an_law_form cd_law_form ct_law_form), sl_law_form⟩)
  (c_law_form : PySem.W.codeIn K cd_law_form "_law_form" = true)
  (k_law_form : PySem.W.keepIn K (.ref f_law_form) = true)
  (a_law_sum : PySem.W.nsIn K mainGlobals "_law_sum" = some (some (.ref f_law_sum)))
  (l_law_sum : K.lookup f_law_sum = some ⟨oc_law_sum, od_law_sum, .func (PySem.W.fnOf "_law_sum" "_law_sum" (defArgs s_law_sum) (defBody s_law_sum) (defScope s_law_sum) .none kV_law_sum dc_law_sum pm_law_sum an_law_sum cd_law_sum ct_law_sum), sl_law_sum⟩)
  (c_law_sum : PySem.W.codeIn K cd_law_sum "_law_sum" = true)
  (k_law_sum : PySem.W.keepIn K (.ref f_law_sum) = true)
  (a_law_base : PySem.W.nsIn K mainGlobals "_law_base" = some (some (.ref f_law_base)))
  (l_law_base : K.lookup f_law_base = some ⟨oc_law_base, od_law_base, .func (PySem.W.fnOf "_law_base" "_law_base" (defArgs s_law_base) (defBody s_law_base) (defScope s_law_base) .none kV_law_base dc_law_base pm_law_base an_law_base cd_law_base ct_law_base), sl_law_base⟩)
  (c_law_base : PySem.W.codeIn K cd_law_base "_law_base" = true)
  (k_law_base : PySem.W.keepIn K (.ref f_law_base) = true)
  (a_law_integer : PySem.W.nsIn K mainGlobals "_law_integer" = some (some (.ref f_law_integer)))
  (l_law_integer : K.lookup f_law_integer = some ⟨oc_law_integer, od_law_integer, .func (PySem.W.fnOf "_law_integer" "_law_integer" (defArgs s_law_integer) (defBody s_law_integer) (defScope s_law_integer) .none kV_law_integer dc_law_integer pm_law_integer an_law_integer cd_law_integer ct_law_integer), sl_law_integer⟩)
  (c_law_integer : PySem.W.codeIn K cd_law_integer "_law_integer" = true)
  (k_law_integer : PySem.W.keepIn K (.ref f_law_integer) = true)
  (a_law_number : PySem.W.nsIn K mainGlobals "_law_number" = some (some (.ref f_law_number)))
  (l_law_number : K.lookup f_law_number = some ⟨oc_law_number, od_law_number, .func (PySem.W.fnOf "_law_number" "_law_number" (defArgs s_law_number) (defBody s_law_number) (defScope s_law_number) .none kV_law_number dc_law_number pm_law_number an_law_number cd_law_number ct_law_number), sl_law_number⟩)
  (c_law_number : PySem.W.codeIn K cd_law_number "_law_number" = true)
  (k_law_number : PySem.W.keepIn K (.ref f_law_number) = true)
  (a_law_got : PySem.W.nsIn K mainGlobals "_law_got" = some (some (.ref f_law_got)))
  (l_law_got : K.lookup f_law_got = some ⟨oc_law_got, od_law_got, .func (PySem.W.fnOf "_law_got" "_law_got" (defArgs s_law_got) (defBody s_law_got) (defScope s_law_got) .none kV_law_got dc_law_got pm_law_got an_law_got cd_law_got ct_law_got), sl_law_got⟩)
  (c_law_got : PySem.W.codeIn K cd_law_got "_law_got" = true)
  (k_law_got : PySem.W.keepIn K (.ref f_law_got) = true)
  (a_law_limited : PySem.W.nsIn K mainGlobals "_law_limited" = some (some (.ref f_law_limited)))
  (l_law_limited : K.lookup f_law_limited = some ⟨oc_law_limited, od_law_limited, .func (PySem.W.fnOf "_law_limited" "_law_limited" (defArgs s_law_limited) (defBody s_law_limited) (defScope s_law_limited) .none kV_law_limited dc_law_limited pm_law_limited an_law_limited cd_law_limited ct_law_limited), sl_law_limited⟩)
  (c_law_limited : PySem.W.codeIn K cd_law_limited "_law_limited" = true)
  (k_law_limited : PySem.W.keepIn K (.ref f_law_limited) = true)
  (a_law_floor : PySem.W.nsIn K mainGlobals "_law_floor" = some (some (.ref f_law_floor)))
  (l_law_floor : K.lookup f_law_floor = some ⟨oc_law_floor, od_law_floor, .func (PySem.W.fnOf "_law_floor" "_law_floor" (defArgs s_law_floor) (defBody s_law_floor) (defScope s_law_floor) .none kV_law_floor dc_law_floor pm_law_floor an_law_floor cd_law_floor ct_law_floor), sl_law_floor⟩)
  (c_law_floor : PySem.W.codeIn K cd_law_floor "_law_floor" = true)
  (k_law_floor : PySem.W.keepIn K (.ref f_law_floor) = true)
  (a_law_far : PySem.W.nsIn K mainGlobals "_law_far" = some (some (.ref f_law_far)))
  (l_law_far : K.lookup f_law_far = some ⟨oc_law_far, od_law_far, .func (PySem.W.fnOf "_law_far" "_law_far" (defArgs s_law_far) (defBody s_law_far) (defScope s_law_far) .none kV_law_far dc_law_far pm_law_far an_law_far cd_law_far ct_law_far), sl_law_far⟩)
  (c_law_far : PySem.W.codeIn K cd_law_far "_law_far" = true)
  (k_law_far : PySem.W.keepIn K (.ref f_law_far) = true)
  (a_law_floors_ok : PySem.W.nsIn K mainGlobals "_law_floors_ok" = some (some (.ref f_law_floors_ok)))
  (l_law_floors_ok : K.lookup f_law_floors_ok = some ⟨oc_law_floors_ok, od_law_floors_ok, .func (PySem.W.fnOf "_law_floors_ok" "_law_floors_ok" (defArgs s_law_floors_ok) (defBody s_law_floors_ok) (defScope s_law_floors_ok) .none kV_law_floors_ok dc_law_floors_ok pm_law_floors_ok an_law_floors_ok cd_law_floors_ok ct_law_floors_ok), sl_law_floors_ok⟩)
  (c_law_floors_ok : PySem.W.codeIn K cd_law_floors_ok "_law_floors_ok" = true)
  (k_law_floors_ok : PySem.W.keepIn K (.ref f_law_floors_ok) = true)
  (a_law : PySem.W.nsIn K mainGlobals "law" = some (some (.ref f_law)))
  (l_law : K.lookup f_law = some ⟨oc_law, od_law, .func (PySem.W.fnOf "law" "law" (defArgs s_law) (defBody s_law) (defScope s_law) .none kV_law dc_law pm_law an_law cd_law ct_law), sl_law⟩)
  (c_law : PySem.W.codeIn K cd_law "law" = true)
  (k_law : PySem.W.keepIn K (.ref f_law) = true)
  (a_InvalidNumber : PySem.W.nsIn K mainGlobals "InvalidNumber" = some (some (.ref C_InvalidNumber)))
  (x_InvalidNumber : K.lookup C_InvalidNumber = some (excClassObj nm_InvalidNumber q_InvalidNumber C_InvalidNumber N_InvalidNumber bs_InvalidNumber bm_InvalidNumber true sn_InvalidNumber sub_InvalidNumber ab_InvalidNumber col_InvalidNumber dd_InvalidNumber m0_InvalidNumber m1_InvalidNumber m2_InvalidNumber m3_InvalidNumber m5_InvalidNumber "Exception.__new__"))
  (xt_InvalidNumber : PySem.W.excTail [.type "Exception", .type "BaseException", .type "object"] bm_InvalidNumber = true)
  (ov_InvalidNumber : PySem.W.excOver K C_InvalidNumber [.type "Exception", .type "BaseException", .type "object"] = true)
  (sa_InvalidNumber : PySem.W.findIn K (.ref C_InvalidNumber) "__setattr__" = some (some (.builtin "object.__setattr__")))
  (ga_InvalidNumber : PySem.W.findIn K (.ref C_InvalidNumber) "__getattribute__" = some (some (.builtin "BaseException.__getattribute__")))
  (gg_InvalidNumber : PySem.W.findIn K (.ref C_InvalidNumber) "__getattr__" = some none)
  (nn_InvalidNumber : PySem.W.findIn K (.ref C_InvalidNumber) "value" = some none)
  (ii_InvalidNumber : PySem.W.findIn K (.ref C_InvalidNumber) "__init__" = some (some (.ref I_InvalidNumber)))
  (cc_InvalidNumber : PySem.W.findIn K (.ref C_InvalidNumber) "__class__" = some (some (.builtin "object.__class__")))
  (ti_InvalidNumber : PySem.W.typeIn K (.ref I_InvalidNumber) = some (.type "function"))
  (kc_InvalidNumber : PySem.W.keepIn K (.ref C_InvalidNumber) = true)
  (ex_InvalidNumber : PySem.W.subIn K (.ref C_InvalidNumber) (.type "BaseException") = some true)
  (tc_InvalidNumber : PySem.W.typeIn K (.ref C_InvalidNumber) = some (.type "type"))
  (hd_InvalidNumber : PySem.W.hasDictIn K C_InvalidNumber = true)
  (te_InvalidNumber : PySem.W.exmOne K (.ref C_InvalidNumber) (.ref C_InvalidNumber) = some true)
  (cn_InvalidNumber : PySem.W.specialIn K (.builtin "object.__class__") "__get__" = some (some (.builtin "getset_descriptor.__get__")))
  (ct_InvalidNumber : PySem.W.takesIn K (.builtin "object.__class__") = some true)
  (cm_InvalidNumber : PySem.W.mroIn K C_InvalidNumber (.type "object") = some true)
  (li_InvalidNumber : K.lookup I_InvalidNumber = some ⟨oc_InvalidNumber, od_InvalidNumber, .func (PySem.W.fnOf "__init__" "InvalidNumber.__init__" (defArgs (inClass (top 2) 0)) (defBody (inClass (top 2) 0)) (defScope (inClass (top 2) 0)) .none .none dc_InvalidNumber pm_InvalidNumber an_InvalidNumber cd_InvalidNumber cv_InvalidNumber), sl_InvalidNumber⟩)
  (ci_InvalidNumber : PySem.W.codeIn K cd_InvalidNumber "InvalidNumber.__init__" = true)
  (a_InvalidState : PySem.W.nsIn K mainGlobals "InvalidState" = some (some (.ref C_InvalidState)))
  (x_InvalidState : K.lookup C_InvalidState = some (excClassObj nm_InvalidState q_InvalidState C_InvalidState N_InvalidState bs_InvalidState bm_InvalidState true sn_InvalidState sub_InvalidState ab_InvalidState col_InvalidState dd_InvalidState m0_InvalidState m1_InvalidState m2_InvalidState m3_InvalidState m5_InvalidState "Exception.__new__"))
  (xt_InvalidState : PySem.W.excTail [.type "Exception", .type "BaseException", .type "object"] bm_InvalidState = true)
  (ov_InvalidState : PySem.W.excOver K C_InvalidState [.type "Exception", .type "BaseException", .type "object"] = true)
  (sa_InvalidState : PySem.W.findIn K (.ref C_InvalidState) "__setattr__" = some (some (.builtin "object.__setattr__")))
  (ga_InvalidState : PySem.W.findIn K (.ref C_InvalidState) "__getattribute__" = some (some (.builtin "BaseException.__getattribute__")))
  (gg_InvalidState : PySem.W.findIn K (.ref C_InvalidState) "__getattr__" = some none)
  (nn_InvalidState : PySem.W.findIn K (.ref C_InvalidState) "value" = some none)
  (ii_InvalidState : PySem.W.findIn K (.ref C_InvalidState) "__init__" = some (some (.ref I_InvalidState)))
  (cc_InvalidState : PySem.W.findIn K (.ref C_InvalidState) "__class__" = some (some (.builtin "object.__class__")))
  (ti_InvalidState : PySem.W.typeIn K (.ref I_InvalidState) = some (.type "function"))
  (kc_InvalidState : PySem.W.keepIn K (.ref C_InvalidState) = true)
  (ex_InvalidState : PySem.W.subIn K (.ref C_InvalidState) (.type "BaseException") = some true)
  (tc_InvalidState : PySem.W.typeIn K (.ref C_InvalidState) = some (.type "type"))
  (hd_InvalidState : PySem.W.hasDictIn K C_InvalidState = true)
  (te_InvalidState : PySem.W.exmOne K (.ref C_InvalidState) (.ref C_InvalidState) = some true)
  (cn_InvalidState : PySem.W.specialIn K (.builtin "object.__class__") "__get__" = some (some (.builtin "getset_descriptor.__get__")))
  (ct_InvalidState : PySem.W.takesIn K (.builtin "object.__class__") = some true)
  (cm_InvalidState : PySem.W.mroIn K C_InvalidState (.type "object") = some true)
  (li_InvalidState : K.lookup I_InvalidState = some ⟨oc_InvalidState, od_InvalidState, .func (PySem.W.fnOf "__init__" "InvalidState.__init__" (defArgs (inClass (top 3) 0)) (defBody (inClass (top 3) 0)) (defScope (inClass (top 3) 0)) .none .none dc_InvalidState pm_InvalidState an_InvalidState cd_InvalidState cv_InvalidState), sl_InvalidState⟩)
  (ci_InvalidState : PySem.W.codeIn K cd_InvalidState "InvalidState.__init__" = true)
  (a_LimitExceeded : PySem.W.nsIn K mainGlobals "LimitExceeded" = some (some (.ref C_LimitExceeded)))
  (x_LimitExceeded : K.lookup C_LimitExceeded = some (excClassObj nm_LimitExceeded q_LimitExceeded C_LimitExceeded N_LimitExceeded bs_LimitExceeded bm_LimitExceeded true sn_LimitExceeded sub_LimitExceeded ab_LimitExceeded col_LimitExceeded dd_LimitExceeded m0_LimitExceeded m1_LimitExceeded m2_LimitExceeded m3_LimitExceeded m5_LimitExceeded "OverflowError.__new__"))
  (xt_LimitExceeded : PySem.W.excTail [.type "OverflowError", .type "ArithmeticError", .type "Exception", .type "BaseException", .type "object"] bm_LimitExceeded = true)
  (ov_LimitExceeded : PySem.W.excOver K C_LimitExceeded [.type "OverflowError", .type "ArithmeticError", .type "Exception", .type "BaseException", .type "object"] = true)
  (sa_LimitExceeded : PySem.W.findIn K (.ref C_LimitExceeded) "__setattr__" = some (some (.builtin "object.__setattr__")))
  (ga_LimitExceeded : PySem.W.findIn K (.ref C_LimitExceeded) "__getattribute__" = some (some (.builtin "BaseException.__getattribute__")))
  (gg_LimitExceeded : PySem.W.findIn K (.ref C_LimitExceeded) "__getattr__" = some none)
  (nn_LimitExceeded : PySem.W.findIn K (.ref C_LimitExceeded) "limit" = some none)
  (ii_LimitExceeded : PySem.W.findIn K (.ref C_LimitExceeded) "__init__" = some (some (.ref I_LimitExceeded)))
  (cc_LimitExceeded : PySem.W.findIn K (.ref C_LimitExceeded) "__class__" = some (some (.builtin "object.__class__")))
  (ti_LimitExceeded : PySem.W.typeIn K (.ref I_LimitExceeded) = some (.type "function"))
  (kc_LimitExceeded : PySem.W.keepIn K (.ref C_LimitExceeded) = true)
  (ex_LimitExceeded : PySem.W.subIn K (.ref C_LimitExceeded) (.type "BaseException") = some true)
  (tc_LimitExceeded : PySem.W.typeIn K (.ref C_LimitExceeded) = some (.type "type"))
  (hd_LimitExceeded : PySem.W.hasDictIn K C_LimitExceeded = true)
  (te_LimitExceeded : PySem.W.exmOne K (.ref C_LimitExceeded) (.ref C_LimitExceeded) = some true)
  (cn_LimitExceeded : PySem.W.specialIn K (.builtin "object.__class__") "__get__" = some (some (.builtin "getset_descriptor.__get__")))
  (ct_LimitExceeded : PySem.W.takesIn K (.builtin "object.__class__") = some true)
  (cm_LimitExceeded : PySem.W.mroIn K C_LimitExceeded (.type "object") = some true)
  (li_LimitExceeded : K.lookup I_LimitExceeded = some ⟨oc_LimitExceeded, od_LimitExceeded, .func (PySem.W.fnOf "__init__" "LimitExceeded.__init__" (defArgs (inClass (top 4) 0)) (defBody (inClass (top 4) 0)) (defScope (inClass (top 4) 0)) .none .none dc_LimitExceeded pm_LimitExceeded an_LimitExceeded cd_LimitExceeded cv_LimitExceeded), sl_LimitExceeded⟩)
  (ci_LimitExceeded : PySem.W.codeIn K cd_LimitExceeded "LimitExceeded.__init__" = true)
  (a_HeadError : PySem.W.nsIn K mainGlobals "HeadError" = some (some (.ref C_HeadError)))
  (n_MAX_PLACE : PySem.W.nsIn K mainGlobals "MAX_PLACE" = some (some (.int 1000 t_MAX_PLACE)))
  (n_MAX_DIGITS : PySem.W.nsIn K mainGlobals "MAX_DIGITS" = some (some (.int 300 t_MAX_DIGITS)))
  (z_abs : PySem.W.nsIn K mainGlobals "abs" = some none)
  (z_bool : PySem.W.nsIn K mainGlobals "bool" = some none)
  (z_enumerate : PySem.W.nsIn K mainGlobals "enumerate" = some none)
  (z_int : PySem.W.nsIn K mainGlobals "int" = some none)
  (z_isinstance : PySem.W.nsIn K mainGlobals "isinstance" = some none)
  (z_len : PySem.W.nsIn K mainGlobals "len" = some none)
  (z_max : PySem.W.nsIn K mainGlobals "max" = some none)
  (z_min : PySem.W.nsIn K mainGlobals "min" = some none)
  (z_range : PySem.W.nsIn K mainGlobals "range" = some none)
  (z_repr : PySem.W.nsIn K mainGlobals "repr" = some none)
  (z_reversed : PySem.W.nsIn K mainGlobals "reversed" = some none)
  (z_sorted : PySem.W.nsIn K mainGlobals "sorted" = some none)
  (z_tuple : PySem.W.nsIn K mainGlobals "tuple" = some none)
  (x_kit_InvalidNumber_HeadError : PySem.W.kitOne K (.ref C_InvalidNumber) (.ref C_HeadError) = some true)
  (x_kit_InvalidNumber_InvalidState : PySem.W.kitOne K (.ref C_InvalidNumber) (.ref C_InvalidState) = some false)
  (x_exm_InvalidState_InvalidNumber : PySem.W.exmOne K (.ref C_InvalidState) (.ref C_InvalidNumber) = some false)
  (x_exm_LimitExceeded_InvalidNumber : PySem.W.exmOne K (.ref C_LimitExceeded) (.ref C_InvalidNumber) = some false)
  (x_exm_InvalidNumber_LimitExceeded : PySem.W.exmOne K (.ref C_InvalidNumber) (.ref C_LimitExceeded) = some false)
  (x_exm_InvalidState_LimitExceeded : PySem.W.exmOne K (.ref C_InvalidState) (.ref C_LimitExceeded) = some false)

    : ∃ fd : FuncData, (∀ (s : Shared) (v : Value), BindsTo s fd ⟨[v], []⟩ [("_law_script", v)]) ∧ ∀ base : Heap, K.In base → base.Ns mainGlobals mg → base.NoDigits → FnG l.prog w K mg base (L2.CX l.prog w) 10 fa fd ["_law_script"] (sp_law K) := by
  have e := hfa.symm.trans (PySem.W.mg_of X G a_law)
  cases e
  exact ⟨_, fun s v => .of_eq rfl, fun base _ _ nd => law_sp (PM.law_true_K03) (ok_law (P := l.prog) (w := w) (base := base) (mkTx X G a_is_whole l_is_whole c_is_whole k_is_whole a_is_within l_is_within c_is_within k_is_within a_is_place l_is_place c_is_place k_is_place a_power_of l_power_of c_power_of k_power_of a_is_number l_is_number c_is_number k_is_number a_make_number l_make_number c_make_number k_make_number a_plus l_plus c_plus k_plus a_minus l_minus c_minus k_minus a_scaled l_scaled c_scaled k_scaled a_floor_at l_floor_at c_floor_at k_floor_at a_units l_units c_units k_units a_negative l_negative c_negative k_negative a_form_of l_form_of c_form_of k_form_of a_sum_of l_sum_of c_sum_of k_sum_of a_within_limits l_within_limits c_within_limits k_within_limits a_require_numbers l_require_numbers c_require_numbers k_require_numbers a_has_few_digits l_has_few_digits c_has_few_digits k_has_few_digits a_without_factors l_without_factors c_without_factors k_without_factors a_law_numbers l_law_numbers c_law_numbers k_law_numbers a_law_power l_law_power c_law_power k_law_power a_law_form l_law_form c_law_form k_law_form a_law_sum l_law_sum c_law_sum k_law_sum a_law_base l_law_base c_law_base k_law_base a_law_integer l_law_integer c_law_integer k_law_integer a_law_number l_law_number c_law_number k_law_number a_law_got l_law_got c_law_got k_law_got a_law_limited l_law_limited c_law_limited k_law_limited a_law_floor l_law_floor c_law_floor k_law_floor a_law_far l_law_far c_law_far k_law_far a_law_floors_ok l_law_floors_ok c_law_floors_ok k_law_floors_ok a_law l_law c_law k_law a_InvalidNumber x_InvalidNumber xt_InvalidNumber ov_InvalidNumber sa_InvalidNumber ga_InvalidNumber gg_InvalidNumber nn_InvalidNumber ii_InvalidNumber cc_InvalidNumber ti_InvalidNumber kc_InvalidNumber ex_InvalidNumber tc_InvalidNumber hd_InvalidNumber te_InvalidNumber cn_InvalidNumber ct_InvalidNumber cm_InvalidNumber li_InvalidNumber ci_InvalidNumber a_InvalidState x_InvalidState xt_InvalidState ov_InvalidState sa_InvalidState ga_InvalidState gg_InvalidState nn_InvalidState ii_InvalidState cc_InvalidState ti_InvalidState kc_InvalidState ex_InvalidState tc_InvalidState hd_InvalidState te_InvalidState cn_InvalidState ct_InvalidState cm_InvalidState li_InvalidState ci_InvalidState a_LimitExceeded x_LimitExceeded xt_LimitExceeded ov_LimitExceeded sa_LimitExceeded ga_LimitExceeded gg_LimitExceeded nn_LimitExceeded ii_LimitExceeded cc_LimitExceeded ti_LimitExceeded kc_LimitExceeded ex_LimitExceeded tc_LimitExceeded hd_LimitExceeded te_LimitExceeded cn_LimitExceeded ct_LimitExceeded cm_LimitExceeded li_LimitExceeded ci_LimitExceeded a_HeadError n_MAX_PLACE n_MAX_DIGITS z_abs z_bool z_enumerate z_int z_isinstance z_len z_max z_min z_range z_repr z_reversed z_sorted z_tuple x_kit_InvalidNumber_HeadError x_kit_InvalidNumber_InvalidState x_exm_InvalidState_InvalidNumber x_exm_LimitExceeded_InvalidNumber x_exm_InvalidNumber_LimitExceeded x_exm_InvalidState_LimitExceeded) nd)⟩
end K03
open PySem PySem.W PyProof.Rows
set_option maxRecDepth 100000 in
set_option maxHeartbeats 0 in
theorem PySem.Challenge.cw_abacushead_k03_sums_of_numbers_holds : PySem.Challenge.rw_abacushead_k03_sums_of_numbers.Holds := by
  w_on; o_law; k_head; (case hw => w_witness2)
  k_fill
  refine DL.walkD (k := 10) (x := "_law_script") (l := PySem.Challenge.rw_abacushead_k03_sums_of_numbers) rfl rfl ⟨rfl, by decide, by decide⟩ (fun w h Y => PySem.W.kIn_of Y) ?F
  case F =>
    intro w mg fa h KX G hmg
    refine' K03.all_mk KX G hmg ?a_is_whole ?l_is_whole ?c_is_whole ?k_is_whole ?a_is_within ?l_is_within ?c_is_within ?k_is_within ?a_is_place ?l_is_place ?c_is_place ?k_is_place ?a_power_of ?l_power_of ?c_power_of ?k_power_of ?a_is_number ?l_is_number ?c_is_number ?k_is_number ?a_make_number ?l_make_number ?c_make_number ?k_make_number ?a_plus ?l_plus ?c_plus ?k_plus ?a_minus ?l_minus ?c_minus ?k_minus ?a_scaled ?l_scaled ?c_scaled ?k_scaled ?a_floor_at ?l_floor_at ?c_floor_at ?k_floor_at ?a_units ?l_units ?c_units ?k_units ?a_negative ?l_negative ?c_negative ?k_negative ?a_form_of ?l_form_of ?c_form_of ?k_form_of ?a_sum_of ?l_sum_of ?c_sum_of ?k_sum_of ?a_within_limits ?l_within_limits ?c_within_limits ?k_within_limits ?a_require_numbers ?l_require_numbers ?c_require_numbers ?k_require_numbers ?a_has_few_digits ?l_has_few_digits ?c_has_few_digits ?k_has_few_digits ?a_without_factors ?l_without_factors ?c_without_factors ?k_without_factors ?a_law_numbers ?l_law_numbers ?c_law_numbers ?k_law_numbers ?a_law_power ?l_law_power ?c_law_power ?k_law_power ?a_law_form ?l_law_form ?c_law_form ?k_law_form ?a_law_sum ?l_law_sum ?c_law_sum ?k_law_sum ?a_law_base ?l_law_base ?c_law_base ?k_law_base ?a_law_integer ?l_law_integer ?c_law_integer ?k_law_integer ?a_law_number ?l_law_number ?c_law_number ?k_law_number ?a_law_got ?l_law_got ?c_law_got ?k_law_got ?a_law_limited ?l_law_limited ?c_law_limited ?k_law_limited ?a_law_floor ?l_law_floor ?c_law_floor ?k_law_floor ?a_law_far ?l_law_far ?c_law_far ?k_law_far ?a_law_floors_ok ?l_law_floors_ok ?c_law_floors_ok ?k_law_floors_ok ?a_law ?l_law ?c_law ?k_law ?a_InvalidNumber ?x_InvalidNumber ?xt_InvalidNumber ?ov_InvalidNumber ?sa_InvalidNumber ?ga_InvalidNumber ?gg_InvalidNumber ?nn_InvalidNumber ?ii_InvalidNumber ?cc_InvalidNumber ?ti_InvalidNumber ?kc_InvalidNumber ?ex_InvalidNumber ?tc_InvalidNumber ?hd_InvalidNumber ?te_InvalidNumber ?cn_InvalidNumber ?ct_InvalidNumber ?cm_InvalidNumber ?li_InvalidNumber ?ci_InvalidNumber ?a_InvalidState ?x_InvalidState ?xt_InvalidState ?ov_InvalidState ?sa_InvalidState ?ga_InvalidState ?gg_InvalidState ?nn_InvalidState ?ii_InvalidState ?cc_InvalidState ?ti_InvalidState ?kc_InvalidState ?ex_InvalidState ?tc_InvalidState ?hd_InvalidState ?te_InvalidState ?cn_InvalidState ?ct_InvalidState ?cm_InvalidState ?li_InvalidState ?ci_InvalidState ?a_LimitExceeded ?x_LimitExceeded ?xt_LimitExceeded ?ov_LimitExceeded ?sa_LimitExceeded ?ga_LimitExceeded ?gg_LimitExceeded ?nn_LimitExceeded ?ii_LimitExceeded ?cc_LimitExceeded ?ti_LimitExceeded ?kc_LimitExceeded ?ex_LimitExceeded ?tc_LimitExceeded ?hd_LimitExceeded ?te_LimitExceeded ?cn_LimitExceeded ?ct_LimitExceeded ?cm_LimitExceeded ?li_LimitExceeded ?ci_LimitExceeded ?a_HeadError ?n_MAX_PLACE ?n_MAX_DIGITS ?z_abs ?z_bool ?z_enumerate ?z_int ?z_isinstance ?z_len ?z_max ?z_min ?z_range ?z_repr ?z_reversed ?z_sorted ?z_tuple ?x_kit_InvalidNumber_HeadError ?x_kit_InvalidNumber_InvalidState ?x_exm_InvalidState_InvalidNumber ?x_exm_LimitExceeded_InvalidNumber ?x_exm_InvalidNumber_LimitExceeded ?x_exm_InvalidState_LimitExceeded
    (case a_is_whole => first | k_is | rfl | decide +kernel)
    (case l_is_whole => first | k_is | rfl | decide +kernel)
    (case c_is_whole => first | k_is | rfl | decide +kernel)
    (case k_is_whole => first | k_is | rfl | decide +kernel)
    (case a_is_within => first | k_is | rfl | decide +kernel)
    (case l_is_within => first | k_is | rfl | decide +kernel)
    (case c_is_within => first | k_is | rfl | decide +kernel)
    (case k_is_within => first | k_is | rfl | decide +kernel)
    (case a_is_place => first | k_is | rfl | decide +kernel)
    (case l_is_place => first | k_is | rfl | decide +kernel)
    (case c_is_place => first | k_is | rfl | decide +kernel)
    (case k_is_place => first | k_is | rfl | decide +kernel)
    (case a_power_of => first | k_is | rfl | decide +kernel)
    (case l_power_of => first | k_is | rfl | decide +kernel)
    (case c_power_of => first | k_is | rfl | decide +kernel)
    (case k_power_of => first | k_is | rfl | decide +kernel)
    (case a_is_number => first | k_is | rfl | decide +kernel)
    (case l_is_number => first | k_is | rfl | decide +kernel)
    (case c_is_number => first | k_is | rfl | decide +kernel)
    (case k_is_number => first | k_is | rfl | decide +kernel)
    (case a_make_number => first | k_is | rfl | decide +kernel)
    (case l_make_number => first | k_is | rfl | decide +kernel)
    (case c_make_number => first | k_is | rfl | decide +kernel)
    (case k_make_number => first | k_is | rfl | decide +kernel)
    (case a_plus => first | k_is | rfl | decide +kernel)
    (case l_plus => first | k_is | rfl | decide +kernel)
    (case c_plus => first | k_is | rfl | decide +kernel)
    (case k_plus => first | k_is | rfl | decide +kernel)
    (case a_minus => first | k_is | rfl | decide +kernel)
    (case l_minus => first | k_is | rfl | decide +kernel)
    (case c_minus => first | k_is | rfl | decide +kernel)
    (case k_minus => first | k_is | rfl | decide +kernel)
    (case a_scaled => first | k_is | rfl | decide +kernel)
    (case l_scaled => first | k_is | rfl | decide +kernel)
    (case c_scaled => first | k_is | rfl | decide +kernel)
    (case k_scaled => first | k_is | rfl | decide +kernel)
    (case a_floor_at => first | k_is | rfl | decide +kernel)
    (case l_floor_at => first | k_is | rfl | decide +kernel)
    (case c_floor_at => first | k_is | rfl | decide +kernel)
    (case k_floor_at => first | k_is | rfl | decide +kernel)
    (case a_units => first | k_is | rfl | decide +kernel)
    (case l_units => first | k_is | rfl | decide +kernel)
    (case c_units => first | k_is | rfl | decide +kernel)
    (case k_units => first | k_is | rfl | decide +kernel)
    (case a_negative => first | k_is | rfl | decide +kernel)
    (case l_negative => first | k_is | rfl | decide +kernel)
    (case c_negative => first | k_is | rfl | decide +kernel)
    (case k_negative => first | k_is | rfl | decide +kernel)
    (case a_form_of => first | k_is | rfl | decide +kernel)
    (case l_form_of => first | k_is | rfl | decide +kernel)
    (case c_form_of => first | k_is | rfl | decide +kernel)
    (case k_form_of => first | k_is | rfl | decide +kernel)
    (case a_sum_of => first | k_is | rfl | decide +kernel)
    (case l_sum_of => first | k_is | rfl | decide +kernel)
    (case c_sum_of => first | k_is | rfl | decide +kernel)
    (case k_sum_of => first | k_is | rfl | decide +kernel)
    (case a_within_limits => first | k_is | rfl | decide +kernel)
    (case l_within_limits => first | k_is | rfl | decide +kernel)
    (case c_within_limits => first | k_is | rfl | decide +kernel)
    (case k_within_limits => first | k_is | rfl | decide +kernel)
    (case a_require_numbers => first | k_is | rfl | decide +kernel)
    (case l_require_numbers => first | k_is | rfl | decide +kernel)
    (case c_require_numbers => first | k_is | rfl | decide +kernel)
    (case k_require_numbers => first | k_is | rfl | decide +kernel)
    (case a_has_few_digits => first | k_is | rfl | decide +kernel)
    (case l_has_few_digits => first | k_is | rfl | decide +kernel)
    (case c_has_few_digits => first | k_is | rfl | decide +kernel)
    (case k_has_few_digits => first | k_is | rfl | decide +kernel)
    (case a_without_factors => first | k_is | rfl | decide +kernel)
    (case l_without_factors => first | k_is | rfl | decide +kernel)
    (case c_without_factors => first | k_is | rfl | decide +kernel)
    (case k_without_factors => first | k_is | rfl | decide +kernel)
    (case a_law_numbers => first | k_is | rfl | decide +kernel)
    (case l_law_numbers => first | k_is | rfl | decide +kernel)
    (case c_law_numbers => first | k_is | rfl | decide +kernel)
    (case k_law_numbers => first | k_is | rfl | decide +kernel)
    (case a_law_power => first | k_is | rfl | decide +kernel)
    (case l_law_power => first | k_is | rfl | decide +kernel)
    (case c_law_power => first | k_is | rfl | decide +kernel)
    (case k_law_power => first | k_is | rfl | decide +kernel)
    (case a_law_form => first | k_is | rfl | decide +kernel)
    (case l_law_form => first | k_is | rfl | decide +kernel)
    (case c_law_form => first | k_is | rfl | decide +kernel)
    (case k_law_form => first | k_is | rfl | decide +kernel)
    (case a_law_sum => first | k_is | rfl | decide +kernel)
    (case l_law_sum => first | k_is | rfl | decide +kernel)
    (case c_law_sum => first | k_is | rfl | decide +kernel)
    (case k_law_sum => first | k_is | rfl | decide +kernel)
    (case a_law_base => first | k_is | rfl | decide +kernel)
    (case l_law_base => first | k_is | rfl | decide +kernel)
    (case c_law_base => first | k_is | rfl | decide +kernel)
    (case k_law_base => first | k_is | rfl | decide +kernel)
    (case a_law_integer => first | k_is | rfl | decide +kernel)
    (case l_law_integer => first | k_is | rfl | decide +kernel)
    (case c_law_integer => first | k_is | rfl | decide +kernel)
    (case k_law_integer => first | k_is | rfl | decide +kernel)
    (case a_law_number => first | k_is | rfl | decide +kernel)
    (case l_law_number => first | k_is | rfl | decide +kernel)
    (case c_law_number => first | k_is | rfl | decide +kernel)
    (case k_law_number => first | k_is | rfl | decide +kernel)
    (case a_law_got => first | k_is | rfl | decide +kernel)
    (case l_law_got => first | k_is | rfl | decide +kernel)
    (case c_law_got => first | k_is | rfl | decide +kernel)
    (case k_law_got => first | k_is | rfl | decide +kernel)
    (case a_law_limited => first | k_is | rfl | decide +kernel)
    (case l_law_limited => first | k_is | rfl | decide +kernel)
    (case c_law_limited => first | k_is | rfl | decide +kernel)
    (case k_law_limited => first | k_is | rfl | decide +kernel)
    (case a_law_floor => first | k_is | rfl | decide +kernel)
    (case l_law_floor => first | k_is | rfl | decide +kernel)
    (case c_law_floor => first | k_is | rfl | decide +kernel)
    (case k_law_floor => first | k_is | rfl | decide +kernel)
    (case a_law_far => first | k_is | rfl | decide +kernel)
    (case l_law_far => first | k_is | rfl | decide +kernel)
    (case c_law_far => first | k_is | rfl | decide +kernel)
    (case k_law_far => first | k_is | rfl | decide +kernel)
    (case a_law_floors_ok => first | k_is | rfl | decide +kernel)
    (case l_law_floors_ok => first | k_is | rfl | decide +kernel)
    (case c_law_floors_ok => first | k_is | rfl | decide +kernel)
    (case k_law_floors_ok => first | k_is | rfl | decide +kernel)
    (case a_law => first | k_is | rfl | decide +kernel)
    (case l_law => first | k_is | rfl | decide +kernel)
    (case c_law => first | k_is | rfl | decide +kernel)
    (case k_law => first | k_is | rfl | decide +kernel)
    (case a_InvalidNumber => first | k_is | rfl | decide +kernel)
    (case x_InvalidNumber => first | k_is | rfl | decide +kernel)
    (case xt_InvalidNumber => first | k_is | rfl | decide +kernel)
    (case ov_InvalidNumber => first | k_is | rfl | decide +kernel)
    (case sa_InvalidNumber => first | k_is | rfl | decide +kernel)
    (case ga_InvalidNumber => first | k_is | rfl | decide +kernel)
    (case gg_InvalidNumber => first | k_is | rfl | decide +kernel)
    (case nn_InvalidNumber => first | k_is | rfl | decide +kernel)
    (case ii_InvalidNumber => first | k_is | rfl | decide +kernel)
    (case cc_InvalidNumber => first | k_is | rfl | decide +kernel)
    (case ti_InvalidNumber => first | k_is | rfl | decide +kernel)
    (case kc_InvalidNumber => first | k_is | rfl | decide +kernel)
    (case ex_InvalidNumber => first | k_is | rfl | decide +kernel)
    (case tc_InvalidNumber => first | k_is | rfl | decide +kernel)
    (case hd_InvalidNumber => first | k_is | rfl | decide +kernel)
    (case te_InvalidNumber => first | k_is | rfl | decide +kernel)
    (case cn_InvalidNumber => first | k_is | rfl | decide +kernel)
    (case ct_InvalidNumber => first | k_is | rfl | decide +kernel)
    (case cm_InvalidNumber => first | k_is | rfl | decide +kernel)
    (case li_InvalidNumber => first | k_is | rfl | decide +kernel)
    (case ci_InvalidNumber => first | k_is | rfl | decide +kernel)
    (case a_InvalidState => first | k_is | rfl | decide +kernel)
    (case x_InvalidState => first | k_is | rfl | decide +kernel)
    (case xt_InvalidState => first | k_is | rfl | decide +kernel)
    (case ov_InvalidState => first | k_is | rfl | decide +kernel)
    (case sa_InvalidState => first | k_is | rfl | decide +kernel)
    (case ga_InvalidState => first | k_is | rfl | decide +kernel)
    (case gg_InvalidState => first | k_is | rfl | decide +kernel)
    (case nn_InvalidState => first | k_is | rfl | decide +kernel)
    (case ii_InvalidState => first | k_is | rfl | decide +kernel)
    (case cc_InvalidState => first | k_is | rfl | decide +kernel)
    (case ti_InvalidState => first | k_is | rfl | decide +kernel)
    (case kc_InvalidState => first | k_is | rfl | decide +kernel)
    (case ex_InvalidState => first | k_is | rfl | decide +kernel)
    (case tc_InvalidState => first | k_is | rfl | decide +kernel)
    (case hd_InvalidState => first | k_is | rfl | decide +kernel)
    (case te_InvalidState => first | k_is | rfl | decide +kernel)
    (case cn_InvalidState => first | k_is | rfl | decide +kernel)
    (case ct_InvalidState => first | k_is | rfl | decide +kernel)
    (case cm_InvalidState => first | k_is | rfl | decide +kernel)
    (case li_InvalidState => first | k_is | rfl | decide +kernel)
    (case ci_InvalidState => first | k_is | rfl | decide +kernel)
    (case a_LimitExceeded => first | k_is | rfl | decide +kernel)
    (case x_LimitExceeded => first | k_is | rfl | decide +kernel)
    (case xt_LimitExceeded => first | k_is | rfl | decide +kernel)
    (case ov_LimitExceeded => first | k_is | rfl | decide +kernel)
    (case sa_LimitExceeded => first | k_is | rfl | decide +kernel)
    (case ga_LimitExceeded => first | k_is | rfl | decide +kernel)
    (case gg_LimitExceeded => first | k_is | rfl | decide +kernel)
    (case nn_LimitExceeded => first | k_is | rfl | decide +kernel)
    (case ii_LimitExceeded => first | k_is | rfl | decide +kernel)
    (case cc_LimitExceeded => first | k_is | rfl | decide +kernel)
    (case ti_LimitExceeded => first | k_is | rfl | decide +kernel)
    (case kc_LimitExceeded => first | k_is | rfl | decide +kernel)
    (case ex_LimitExceeded => first | k_is | rfl | decide +kernel)
    (case tc_LimitExceeded => first | k_is | rfl | decide +kernel)
    (case hd_LimitExceeded => first | k_is | rfl | decide +kernel)
    (case te_LimitExceeded => first | k_is | rfl | decide +kernel)
    (case cn_LimitExceeded => first | k_is | rfl | decide +kernel)
    (case ct_LimitExceeded => first | k_is | rfl | decide +kernel)
    (case cm_LimitExceeded => first | k_is | rfl | decide +kernel)
    (case li_LimitExceeded => first | k_is | rfl | decide +kernel)
    (case ci_LimitExceeded => first | k_is | rfl | decide +kernel)
    (case a_HeadError => first | k_is | rfl | decide +kernel)
    (case n_MAX_PLACE => first | k_is | rfl | decide +kernel)
    (case n_MAX_DIGITS => first | k_is | rfl | decide +kernel)
    (case z_abs => first | k_is | rfl | decide +kernel)
    (case z_bool => first | k_is | rfl | decide +kernel)
    (case z_enumerate => first | k_is | rfl | decide +kernel)
    (case z_int => first | k_is | rfl | decide +kernel)
    (case z_isinstance => first | k_is | rfl | decide +kernel)
    (case z_len => first | k_is | rfl | decide +kernel)
    (case z_max => first | k_is | rfl | decide +kernel)
    (case z_min => first | k_is | rfl | decide +kernel)
    (case z_range => first | k_is | rfl | decide +kernel)
    (case z_repr => first | k_is | rfl | decide +kernel)
    (case z_reversed => first | k_is | rfl | decide +kernel)
    (case z_sorted => first | k_is | rfl | decide +kernel)
    (case z_tuple => first | k_is | rfl | decide +kernel)
    (case x_kit_InvalidNumber_HeadError => first | k_is | rfl | decide +kernel)
    (case x_kit_InvalidNumber_InvalidState => first | k_is | rfl | decide +kernel)
    (case x_exm_InvalidState_InvalidNumber => first | k_is | rfl | decide +kernel)
    (case x_exm_LimitExceeded_InvalidNumber => first | k_is | rfl | decide +kernel)
    (case x_exm_InvalidNumber_LimitExceeded => first | k_is | rfl | decide +kernel)
    (case x_exm_InvalidState_LimitExceeded => first | k_is | rfl | decide +kernel)

