import PyProof.Rows.All
import Wide.All
import OpenK.AllK
import Wide.FinOn
import HandS.ForExc
import HandS.Wide
import HandS.IsInst
import HandS.ExcIs
import KE.KExcInit
import KE.KExcIs
import HandS.ForMost
import HandS.WideMore
import HandS.WideBits
import HandS.RevRange
import HandS.Rev
import HandS.NoneIn
import HandS.TupMul
import PyProof.ListMulRight
import PyProof.ReprBulk
import HandS.OwnEq
import HandS.Exc
import HandS.ExcOwn
import HandS.Base
import HandS.Call
import HandS.List
import HandS.Dict
import HandS.Words
import HandS.Comp
import HandS.Iter
import HandS.SortInts
import HandS.Strs
import PyProof.Rows.StrOr
import HandS.Text
import HandS.MakeKwOnly
import HandS.Property
import HandS.ClsMeth
import HandS.SortKw
import HandS.More
import HandS.TupSets
import KE.DataMinMax
import HandS.Star
import HandS.TryOnly
import HandS.HeadHook3
import HandS.Style
import PyProof.Draws
import KE.GoesMore
import KE.GoesEnum
import HandS.TupAny
import HandS.WordsDict
import KE.SortData
import HandS.Sort
import KE.BitLaws
import PySem.Challenge.RW_abacushead_k16_distances_of_large_number
set_option Elab.async false
set_option linter.all false
set_option maxRecDepth 100000
set_option exponentiation.threshold 100
namespace GL
open PySem L2 PySem.Spec PyProof.Rows
/-- nothing is being shown -/
abbrev Quiet (A : Around) : Prop := A.guards = some []
/-- a def's promise, asked only where nothing is being shown -/
structure FnG (P : Program) (w : World) (K : PySem.W.Frag) (mg : Str → Option Value) (base : Heap) (cx : CXT) (k : Nat) (f : Addr)
    (fd : FuncData) (ps : List Str) (sp : Sp) : Prop where
  len : ∀ vs H Q E, sp vs H Q E → vs.length = ps.length
  go : ∀ {A : Around} {outer : List Env} {s : Shared} {H : Hp} {args : Args} {us : List Value} {vs : List V} {Q : VK} {E : XK},
    Quiet A → Room k A → Env0 P w K mg base A outer s H → BindsTo s fd args (ps.zip us) → Vals vs us → sp vs H Q E →
    codeAny (model P w) A (.call (.ref f) args) (CR cx outer P w H s Q E) s
section
variable {P : Program} {w : World} {K : PySem.W.Frag} {mg : Str → Option Value} {base : Heap} {cx : CXT} {k : Nat} {f : Addr}
  {fd : FuncData} {ps : List Str} {sp : Sp}
theorem FnG.of (F : FnOk P w K mg base cx k f fd ps sp) : FnG P w K mg base cx k f fd ps sp :=
  ⟨F.len, fun _ hr e b v h => F.run _ _ _ _ _ _ _ _ _ hr e b v h⟩
/-- a def by its body -/
theorem FnG.mkX {N : List Str} {x qual : Str} {st : Stmt} (F : Fun K x qual st f fd) (S : FnScope N ps (defScope st))
    (len : ∀ vs H Q E, sp vs H Q E → vs.length = ps.length)
    (body : ∀ (cdv : Value) (A : Around) (outer : List Env) (s : Shared) (H : Hp) (vs : List V) (Q : VK) (E : XK),
      Quiet A → Room k (A.deeper (envOfC qual (defScope st) s.heap.objs.size f cdv)) → sp vs H Q E →
      ∃ t, PSs (cxOf cx P w K mg base N qual (defScope st) f cdv A outer s H E) (defBody st) t ∧
        t { nx := fun _ H' => Q .non H', rt := Q } (start N vs) H) : FnG P w K mg base cx (k + 1) f fd ps sp := by
  obtain ⟨oc, od, kV, doc, pm, an, cdv, ct, osl, rfl, lk, hcd⟩ := F.ex
  constructor
  · exact len
  · intro A outer s H args us vs Q E quiet hr e0 hb rv hsp
    have h1 := len _ _ _ _ hsp
    have KX : K.In s.heap := fun b o e => (e0.bs b o (e0.mod.kin b o e)).1
    have lim : s.heap.NoLimit := e0.mod.nolimit.keeps fun b o e => (e0.bs b o e).1
    obtain ⟨t, ht, hq⟩ := body cdv A outer s H vs Q E quiet (hr.deeper _) hsp
    refine codeAny_call_function hr.depth (KX _ _ lk) rfl S.co S.gen rfl (PySem.W.codeRec_of KX hcd) ?_
    refine hb _ _ _ _ (wpAny_newFunctionEnv_cells S.kind ?_ ?_)
    · rintro ⟨n, v⟩ hy
      have hp := (List.of_mem_zip hy).1
      cases S.par n hp with
      | inl q => exact Or.inl q
      | inr q => exact Or.inr ⟨q, PySem.W.cellsFrom_some _ _ _ (Or.inl q)⟩
    · intro env he s1 ic
      cases he
      refine ⟨lim.keeps ic.toInCall.keep, codeAny_func (wpAny_mono (ht.run [] s1 (start N vs) H _
        (inv_start S hr.hd e0 h1 rv ic) hq) ?_ fun _ _ z => z)⟩
      intro fl s' hs
      cases fl with
      | next =>
        obtain ⟨σ', H', J, q⟩ := hs
        exact ⟨V.non, H', J.os, J.bare, J.base, J.hok, rfl, q⟩
      | ret u =>
        obtain ⟨v, σ', H', J, r', q⟩ := hs
        exact ⟨v, H', J.os, J.bare, J.base, J.hok, r', q⟩
      | brk =>
        obtain ⟨_, _, _, q⟩ := hs
        exact (q : False).elim
      | cont =>
        obtain ⟨_, _, _, q⟩ := hs
        exact (q : False).elim
end
section
variable {P : Program} {w : World} {K : PySem.W.Frag} {mg mb : Str → Option Value} {cx : CXT} {k : Nat} {fa a : Addr} {fd : FuncData}
  {x : Str} {sp : Sp} {s₁ : Shared} {vs : List Value} {ns : List Int}
theorem law_goes (H : Hp) (hO : Only H) (hS : SqL K H a (ns.map V.int)) (hok : HOk P w H s₁.heap) (hA : ∀ b, H b ≠ none → b = a)
    (hK : H a ≠ none → K.lookup a = none)
    (KX : K.In s₁.heap) (hns : s₁.heap.Ns mainGlobals mg) (hb : s₁.heap.Ns builtinsNs mb)
    (hbb : ∀ x : Str, x ≠ "__name__" → mb x = bootBuiltins x) (hlim : s₁.heap.NoLimit) (hdig : s₁.heap.NoDigits) (hg : s₁.gens = #[])
    (ha : s₁.heap.get? a = some { cls := .type "list", data := .seq vs.toArray }) (hr : Room k callerA)
    (F : ∀ base : Heap, K.In base → base.Ns mainGlobals mg → base.NoDigits → FnG P w K mg base cx k fa fd [x] sp)
    (hbind : ∀ (s : Shared) (u : Value), BindsTo s fd ⟨[u], []⟩ [(x, u)])
    (hsp : sp [.ref a] H (fun v _ => v = .bl true) fun _ _ _ => False)
    (hcx : ∀ e s', cx [] H s₁ (fun _ _ _ => False) e s' → False) :
    codeAny (model P w) callerA (.call (.ref fa) ⟨[.ref a], []⟩)
      (fun r s' => r = .ok (.ret (.bool true)) ∧ OldK s₁.heap s'.heap ∧ s'.os = s₁.os ∧ AllBare s'.gens) s₁ := by
  have dictFree : ∀ b o es ep, s₁.heap.get? b = some o → o.data = .dict es ep → H b = none := by
    intro b o es ep e d
    by_cases q : H b = none
    · exact q
    · have := hA b q
      rw [this, ha] at e
      cases e
      cases (d : Data.seq vs.toArray _ = Data.dict es ep)
  have nsB : ∀ {b : Addr} {m : Str → Option Value}, s₁.heap.Ns b m → (hidT s₁.heap H).Ns b m := by
    rintro b m ⟨o, es, ep, e, d, r⟩
    exact ⟨o, es, ep, hidT_get e (dictFree b o es ep e d), d, r⟩
  have kB : K.In (hidT s₁.heap H) := by
    intro b o e
    refine hidT_get (KX b o e) ?_
    by_cases q : H b = none
    · exact q
    · have z := hA b q
      subst z
      rw [hK q] at e
      cases e
  obtain ⟨mc, l1, l2⟩ := hlim
  obtain ⟨md, d1, d2⟩ := hdig
  have M : Mod K mg (hidT s₁.heap H) := ⟨kB, nsB hns, ⟨mb, nsB hb, hbb⟩, mc, nsB l1, l2⟩
  have none0 : ∀ b : Addr, b ∉ frs ([] : List Env) := fun b z => by cases z
  have e0 : Env0 P w K mg (hidT s₁.heap H) callerA [] s₁ H :=
    ⟨rfl, M, fun b o e => of_hidT e, Nat.le_of_eq (hidT_size _ _), trivial, fun b z => (none0 b z).elim, hok, .of_eq hg⟩
  have main := (F _ kB (nsB hns) ⟨md, nsB d1, d2⟩).go (A := callerA) (outer := []) (H := H) (args := ⟨[.ref a], []⟩) (us := [.ref a]) rfl hr e0 (hbind s₁ (.ref a))
    (vs := [.ref a]) (.cons rfl .nil) hsp
  refine codeAny_mono main ?_
  intro res s' hs
  cases res with
  | error e => exact (hcx e s' hs).elim
  | ok fl =>
    cases fl with
    | next => exact (hs : False).elim
    | brk => exact (hs : False).elim
    | cont => exact (hs : False).elim
    | ret u =>
      obtain ⟨v, H', os, bare, un, hok', r', q⟩ := hs
      cases (q : v = .bl true)
      cases (r' : u = Value.bool true)
      refine ⟨rfl, OldK.of_keep ?_, os, bare⟩
      intro b o e
      cases hO b with
      | inl q => exact un.keep b o e q (none0 b) (by simp)
      | inr q =>
        obtain ⟨ob, xs, z⟩ := q
        have f1 := (hok b _ z).1
        have f2 := (hok' b _ (un.frzs b ob _ z)).1
        rw [f1] at e
        cases e
        exact f2
theorem law_callG (KX : K.In s₁.heap) (hns : s₁.heap.Ns mainGlobals mg) (hb : s₁.heap.Ns builtinsNs mb)
    (hbb : ∀ x : Str, x ≠ "__name__" → mb x = bootBuiltins x) (hlim : s₁.heap.NoLimit) (hdig : s₁.heap.NoDigits) (hg : s₁.gens = #[])
    (ha : s₁.heap.get? a = some { cls := .type "list", data := .seq vs.toArray }) (hi : IntsAre vs ns) (hl : ns.length ≤ sizeLine) (hr : Room k callerA)
    (F : ∀ base : Heap, K.In base → base.Ns mainGlobals mg → base.NoDigits → FnG P w K mg base cx k fa fd [x] sp)
    (hbind : ∀ (s : Shared) (u : Value), BindsTo s fd ⟨[u], []⟩ [(x, u)])
    (hsp : ∀ H : Hp, Only H → SqL K H a (ns.map V.int) → sp [.ref a] H (fun v _ => v = .bl true) fun _ _ _ => False)
    (hcx : ∀ H e s', cx [] H s₁ (fun _ _ _ => False) e s' → False) :
    codeAny (model P w) callerA (.call (.ref fa) ⟨[.ref a], []⟩)
      (fun r s' => r = .ok (.ret (.bool true)) ∧ OldK s₁.heap s'.heap ∧ s'.os = s₁.os ∧ AllBare s'.gens) s₁ := by
  have rv := vals_ints hi
  cases hk : K.lookup a with
  | some o =>
    have e := KX a o hk
    rw [ha] at e
    cases e
    have hS : SqL K (fun _ => none) a (ns.map V.int) :=
      .inr ⟨_, vs.toArray, _, hk, rfl, rfl, rfl, by rw [List.size_toArray, hi.length]; exact hl, by simpa using rv⟩
    have hO : Only fun _ => none := fun _ => .inl rfl
    exact law_goes (fun _ => none) hO hS (fun b u z => nomatch z) (fun b z => (z rfl).elim) (fun z => (z rfl).elim) KX hns hb hbb hlim hdig hg ha hr F hbind
      (hsp _ hO hS) (hcx _)
  | none =>
    let G : Hp := upd (fun _ => none) a (.frz { cls := .type "list", data := .seq vs.toArray } (.lst (ns.map V.int)))
    have atA : G a = some (.frz { cls := .type "list", data := .seq vs.toArray } (.lst (ns.map V.int))) := upd_same
    have off : ∀ b, b ≠ a → G b = none := fun b h => upd_ne h
    have hS : SqL K G a (ns.map V.int) := .inl (.inr ⟨_, atA⟩)
    have hO : Only G := fun b => by
      by_cases q : b = a
      · subst q
        exact .inr ⟨_, _, atA⟩
      · exact .inl (off b q)
    have hok : HOk P w G s₁.heap := by
      intro b u z
      by_cases q : b = a
      · subst q
        rw [atA] at z
        cases z
        exact ⟨ha, by rw [List.length_map]; exact hl, vs, _, rv, ha⟩
      · rw [off b q] at z
        cases z
    have hA : ∀ b, G b ≠ none → b = a := fun b z => by
      by_cases q : b = a
      · exact q
      · exact (z (off b q)).elim
    exact law_goes G hO hS hok hA (fun _ => hk) KX hns hb hbb hlim hdig hg ha hr F hbind (hsp _ hO hS) (hcx _)
end
/-- a law's row by its def's promise -/
theorem walkG {l : PySem.W.OpenLaw} {n k : Nat} {q : Program} {loose : List Str} {XP : (Str → Option Value) → Heap → Prop}
    {YP : World → Heap → Prop} {d : DefRec} {K : Params → PySem.W.Frag} {cx : World → CXT} {sp : World → Sp} {x : Str}
    (hn : l.most = some n) (hn2 : n ≤ sizeLine) (hdf : d.params.defaults = []) (hr : Room k callerA)
    (hY : ∀ (w : World) (h : Heap), YP w h → (K w.params).In h)
    (F : ∀ (w : World) (mg : Str → Option Value) (fa : Addr) (h : Heap), (K w.params).In h → h.Ns mainGlobals mg → mg d.name = some (.ref fa) →
      ∃ fd : FuncData, (∀ (s : Shared) (u : Value), BindsTo s fd ⟨[u], []⟩ [(x, u)]) ∧
        ∀ base : Heap, (K w.params).In base → base.Ns mainGlobals mg → base.NoDigits → FnG l.prog w (K w.params) mg base (cx w) k fa fd [x] (sp w))
    (hsp : ∀ (w : World) (H : Hp) (a : Addr) (ns : List Int), ns.length ≤ n → Only H → SqL (K w.params) H a (ns.map V.int) →
      sp w [.ref a] H (fun v _ => v = .bl true) fun _ _ _ => False)
    (hcx : ∀ (w : World) (H : Hp) (s : Shared) (e : Value) (s' : Shared), cx w [] H s (fun _ _ _ => False) e s' → False) :
    PySem.W.WalkO q loose XP YP l.row.toRowW d [] (fun f vs => PySem.call f vs) := by
  apply Att.attach_call hn hdf
  intro w s₀ s₁ mg mb fa o pm cd doc a vs ns G Y ho hd hcd hmg hobj hints hlen hgens
  have KX := hY w _ Y
  obtain ⟨fd, hb, hF⟩ := F w mg fa _ KX G.T.g hmg
  exact law_callG KX G.T.g G.T.b G.T.builtins G.T.nolimit G.T.nodigits hgens hobj hints (Nat.le_trans hlen hn2) hr hF hb
    (fun H hO hS => hsp w H a ns hlen hO hS) fun H e s' => hcx w H s₁ e s'
/-- a key as data -/
def kD : Key → PyData
  | .inl i => .int i
  | .inr x => .str x
/-- a value that is no object, as data -/
def flatD : V → PyData
  | .bl b => .bool b
  | .int i => .int i
  | .str x => .str x
  | _ => .none
def isFlat : V → Bool
  | .non | .bl _ | .int _ | .str _ => true
  | _ => false
/-- an item that is no object, or a dict of values that are no objects -/
inductive Mix1 (H : Hp) : V → PyData → Prop
  | flat {v : V} : isFlat v = true → Mix1 H v (flatD v)
  | dic {a : Addr} {kvs : List (Key × V)} : H a = some (.dK kvs) → (kvs.all fun p => isFlat p.2) = true → Mix1 H (.ref a) (.dict (kvs.map fun p => (kD p.1, flatD p.2)))
inductive MixAll (H : Hp) : List V → List PyData → Prop
  | nil : MixAll H [] []
  | cons {v : V} {vs : List V} {d : PyData} {ds : List PyData} : Mix1 H v d → MixAll H vs ds → MixAll H (v :: vs) (d :: ds)
/-- what stands at a value: data, or a dict of values that are no objects, or a tuple with such dicts -/
inductive ShD (K : PySem.W.Frag) (H : Hp) : V → PyData → Prop
  | data {v : V} {d : PyData} : Dp K H v d → ShD K H v d
  | mix {v : V} {d : PyData} : Mix1 H v d → ShD K H v d
  | tup {a : Addr} {xs : List V} {ds : List PyData} : SqT K H a xs → MixAll H xs ds → ShD K H (.ref a) (.tuple ds)
end GL
namespace GL
open PySem L2 PySem.Spec PyProof.Rows PySem.W Builtin Builtin.ObjectAttr
section
variable {prog : Program} {w : World} {A : Around} {R : Result → Shared → Prop} {K : Frag} {B : String} {bmB : List Value}
/-- the first attribute of an error -/
theorem first_store {s : Shared} {name : Str} {tk : Tok} {v : Value} {x C t0 : Addr} (SF : StoreFacts B bmB "object.__setattr__" "object") (X : K.In s.heap)
    (hx : s.heap.get? x = some (HandSPX.excO C t0)) (over : excOver K C bmB = true) (tk0 : takerIn K C name = some none) (hd : hasDictIn K C = true)
    (hq : ∀ h' tk' dx, (∀ b o, b ≠ x → s.heap.get? b = some o → h'.get? b = some o) → s.heap.objs.size ≤ dx → dx ≠ x →
      h'.get? x = some { cls := .ref C, dict := some dx, data := .fields #[.ref t0, .none, .none, .none, .bool false, .none] } →
      h'.Ns1 dx (fun y => if y = name then some v else none) → R (.ok (.ret .none)) { s with heap := h', toks := tk' }) :
    codeAny (model prog w) A (.call (.builtin "object.__setattr__") ⟨[.ref x, .str name tk, v], []⟩) R s := by
  refine osa_openX (ox := HandSPX.excO C t0) (od := none) SF X ⟨hx, rfl, rfl, trivial⟩ over tk0 fun b => ?_
  unfold hasDictIn at hd
  obtain ⟨cd, hc, hd'⟩ := any_some hd
  have small : x < s.heap.objs.size := Heap.lt_size hx
  have ne : x ≠ s.heap.objs.size := Nat.ne_of_lt small
  obtain ⟨hp, g, d, t, os⟩ := s
  refine wpAny_bind (wpAny_pure (wpAny_bind (instanceDict_exc (t := t0) (c2 := .none) hx (looks_clsIn X hc) hd' ?_)))
  show wpAny _ _ (storeInDict hp.objs.size (.str name tk) name v) _ _ _
  refine HandSPX.store_in_new ?_ ?_
  · exact ⟨_, #[], _, (Heap.get?_update_ne _ _ _ _ ne.symm).trans (Heap.get?_push_at rfl rfl), rfl, fun e he => absurd he (by simp), fun _ => rfl⟩
  · intro h' tk' hn same
    refine hq h' tk' hp.objs.size (fun b o hb ho => ?_) (Nat.le_refl _) ne.symm ?_ hn
    · exact (same.2 b (Nat.ne_of_lt (Heap.lt_size ho))).trans ((Heap.get?_update_ne _ _ _ _ hb).trans (Heap.get?_push_of_some _ ho))
    · exact (same.2 x ne).trans (Heap.get?_update_self _ (Heap.get?_push_of_some _ hx) rfl)
end
/-- the shape of __init__: the one parameter is stored under its own name -/
structure Init1 (st : Stmt) (qual fld : Str) : Prop where
  body : ∃ q1 q2 q3 q4, defBody st = [.Assign [.Attribute (.Name "self" q1) fld q2] (.Name fld q3) q4]
  n1 : List.lookup (Str.ofString "self") (defScope st).names = some NameKind.local
  n2 : List.lookup fld (defScope st).names = some NameKind.local
  kind : (defScope st).kind = .function
  co : (defScope st).isCoroutine = false
  gen : (defScope st).isGenerator = false
  ne : fld ≠ "self"
  dbg : (fld == ("__debug__" : Str)) = false
  bind : ∀ (doc pm : Value) (an : Option Addr) (cdv ct a v : Value), bindArgs (fnOf "__init__" qual (defArgs st) (defBody st) (defScope st) .none .none doc pm an cdv ct) ⟨[a, v], []⟩ = pure [(Str.ofString "self", a), (fld, v)]
  k1 : ∀ (L f : Addr) (cd : Value), (envOfC qual (defScope st) L f cd).kindOf "self" = some .local
  k2 : ∀ (L f : Addr) (cd : Value), (envOfC qual (defScope st) L f cd).kindOf fld = some .local
  sw : ∀ (L f : Addr) (cd : Value) (q1 q2 q3 q4 : Pos), swapsWith (.Name fld q3) (some (.Attribute (.Name "self" q1) fld q2)) q4.line (envOfC qual (defScope st) L f cd) = pure false
/-- what the text says of an error class x with the one field fld, over the built-in class B -/
structure ErrTxt (K : Frag) (mg : Str → Option Value) (C fI : Addr) (x fld : Str) (B newId : String) (bmB : List Value) : Prop where
  gC : mg x = some (.ref C)
  cls : ∃ nm q N bs bm sn sub ab col dd k0 k1 k2 k3 k5, K.lookup C = some (excClassObj nm q C N bs bm true sn sub ab col dd k0 k1 k2 k3 k5 newId) ∧ excTail bmB bm = true
  FB : ∃ initId, ExcBaseFacts B newId initId bmB
  SF : StoreFacts B bmB "object.__setattr__" "object"
  over : excOver K C bmB = true
  sa : findIn K (.ref C) "__setattr__" = some (some (.builtin "object.__setattr__"))
  ga : findIn K (.ref C) "__getattribute__" = some (some (.builtin "BaseException.__getattribute__"))
  gg : findIn K (.ref C) "__getattr__" = some none
  noN : findIn K (.ref C) fld = some none
  iC : findIn K (.ref C) "__init__" = some (some (.ref fI))
  tC : typeIn K (.ref fI) = some (.type "function")
  kC : keepIn K (.ref C) = true
  exC : subIn K (.ref C) (.type "BaseException") = some true
  tyC : typeIn K (.ref C) = some (.type "type")
  hdC : hasDictIn K C = true
  te : exmOne K (.ref C) (.ref C) = some true
  cc : findIn K (.ref C) "__class__" = some (some (.builtin "object.__class__"))
  cn : specialIn K (.builtin "object.__class__") "__get__" = some (some (.builtin "getset_descriptor.__get__"))
  ct : takesIn K (.builtin "object.__class__") = some true
  cm : mroIn K C (.type "object") = some true
  fn : ∃ (oc : Value) (od : Option Addr) (doc pm : Value) (an : Option Addr) (cdv ct : Value) (osl : Array (Option Value)) (st : Stmt) (qual : Str),
    K.lookup fI = some ⟨oc, od, .func (fnOf "__init__" qual (defArgs st) (defBody st) (defScope st) .none .none doc pm an cdv ct), osl⟩ ∧ codeIn K cdv qual = true ∧ Init1 st qual fld
theorem one_le (v : Value) : [v].length ≤ sizeLine := by
  rw [sizeLine_eq]
  exact (by decide : 1 ≤ 16777216)
/-- what __init__ leaves -/
structure InitLeft (h h' : Heap) (x C dx t1 : Addr) (fld : Str) (v : Value) : Prop where
  keep : ∀ b o, b ≠ x → h.get? b = some o → h'.get? b = some o
  obj : h'.get? x = some { cls := .ref C, dict := some dx, data := .fields #[.ref t1, .none, .none, .none, .bool false, .none] }
  dbig : h.objs.size ≤ dx
  dne : dx ≠ x
  ns : h'.Ns1 dx (fun y => if y = fld then some v else none)
/-- a made error -/
structure ErrMade (h h' : Heap) (e C d : Addr) (fld : Str) (v : Value) : Prop where
  keep : ∀ b o, h.get? b = some o → h'.get? b = some o
  new : h.objs.size ≤ e
  obj : ∃ oe vs, h'.get? e = some oe ∧ oe.cls = .ref C ∧ oe.dict = some d ∧ oe.data = .fields vs ∧ vs[1]? = some .none
  dbig : h.objs.size ≤ d
  dne : d ≠ e
  ns : h'.Ns1 d (fun y => if y = fld then some v else none)
section
variable {prog : Program} {w : World} {A : Around} {E : Value → Shared → Prop} {R : Result → Shared → Prop} {s : Shared} {K : Frag} {mg : Str → Option Value} {C fI : Addr}
  {x fld : Str} {B newId : String} {bmB : List Value}
theorem ld_local {M : Model} {name : Str} {scope : Scope} {L a : Addr} {cd : Value} {m : Str → Option Value} {y : Str} {pos : Pos} {v : Value} {Q : Value → Shared → Prop}
    (hn : s.heap.Ns L m) (hv : m y = some v) (h : Q v s) (hk : scope.kind = .function) (hl : (envOfC name scope L a cd).kindOf y = some .local) (hd : (y == ("__debug__" : Str)) = false) :
    wpAny M A (eval (.Name y pos) (envOfC name scope L a cd)) Q E s := wpAny_Name (wpAny_loadName_local hk hl hn hv h) hd
theorem err_init (T : ErrTxt K mg C fI x fld B newId bmB) {e t0 : Addr} {v : Value} (X : K.In s.heap) (hlim : s.heap.NoLimit) (hx : s.heap.get? e = some (HandSPX.excO C t0))
    (hnx : K.lookup e = none) (hroom : A.depth < recursionLimit)
    (hq : ∀ h' tk dx, InitLeft s.heap h' e C dx t0 fld v → R (.ok (.ret .none)) { s with heap := h', toks := tk }) :
    codeAny (model prog w) A (.call (.ref fI) ⟨[.ref e, v], []⟩) R s := by
  obtain ⟨oc, od, doc, pm, an, cdv, ct, osl, st, qual, ho, hcd, S⟩ := T.fn
  obtain ⟨q1, q2, q3, q4, hbody⟩ := S.body
  refine Att.call_fn (binds := [(Str.ofString "self", .ref e), (fld, v)]) X hlim ho hcd hroom (BindsTo.of_eq (S.bind doc pm an cdv ct (.ref e) v)) ?_ (fun s₁ IC => ?_) S.co S.gen S.kind
  · simp [S.n1, S.n2]
  obtain ⟨h₁, tk₁, rfl⟩ := IC.toInCall.same
  have k : ∀ b o, s.heap.get? b = some o → h₁.get? b = some o := IC.toInCall.keep
  have hn := IC.toInCall.ns
  have neL : s.heap.objs.size ≠ e := Nat.ne_of_gt (Heap.lt_size hx)
  have X₁ : K.In h₁ := X.keeps k
  have hx₁ := k _ _ hx
  rw [hbody]
  refine wpAny_execs_cons (plainObj_wpAny_Assign_Attribute ?_ (S.sw _ _ _ _ _ _ _))
  refine ld_local (v := v) hn ?_ (ld_local (v := .ref e) hn ?_ ?_ S.kind (S.k1 _ _ _) (by decide)) S.kind (S.k2 _ _ _) S.dbg
  · simp [bindL, S.k1, S.k2]
  · simp [bindL, S.k1, S.k2, Ne.symm S.ne]
  refine set_plain X₁ (ox := HandSPX.excO C t0) (od := none) ⟨hx₁, rfl, rfl, trivial⟩ T.sa ?_
  refine first_store (s := ⟨h₁, s.gens, s.drawn, tk₁ + 1, s.os⟩) T.SF X₁ hx₁ T.over (by unfold takerIn; rw [T.noN]; rfl) T.hdC (fun h₃ tk₃ dx k₃ dn dne hx₃ hn₃ => ?_)
  show wpAny _ _ (execs _ _) _ _ _
  have z : s.heap.objs.size < h₁.objs.size := hn.lt
  exact wpAny_execs_nil (hq h₃ tk₃ dx ⟨fun b o hb q => k₃ b o hb (k b o q), hx₃, Nat.le_of_lt (Nat.lt_of_lt_of_le z dn), dne, hn₃⟩)
theorem err_made (T : ErrTxt K mg C fI x fld B newId bmB) {v : Value} (X : K.In s.heap) (hlim : s.heap.NoLimit) (hroom : A.depth + 1 < recursionLimit)
    (hq : ∀ h' tk e d, ErrMade s.heap h' e C d fld v → R (.ok (.ret (.ref e))) { s with heap := h', toks := tk }) :
    codeAny (model prog w) A (.call (.ref C) ⟨[v], []⟩) R s := by
  obtain ⟨nm, q, N, bs, bm, sn, sub, ab, col, dd, k0, k1, k2, k3, k5, hC, hbm⟩ := T.cls
  obtain ⟨initId, FB⟩ := T.FB
  obtain ⟨hp, g, dr, tk, os⟩ := s
  have k : ∀ b o, hp.get? b = some o → ((hp.push (kdv_tup [v])).push (HandSPX.excO C hp.objs.size)).get? b = some o := fun b o q =>
    Heap.get?_push_of_some _ (Heap.get?_push_of_some _ q)
  have here : ((hp.push (kdv_tup [v])).push (HandSPX.excO C hp.objs.size)).get? (hp.objs.size + 1) = some (HandSPX.excO C hp.objs.size) := by heap_get
  have fresh : K.lookup (hp.objs.size + 1) = none := by
    cases q : K.lookup (hp.objs.size + 1) with
    | none => rfl
    | some o => exact absurd (Nat.lt_of_succ_lt (Heap.lt_size (X _ _ q : hp.get? (hp.objs.size + 1) = some o))) (Nat.lt_irrefl _)
  refine HandSPX.call_own FB (fun Y => excTail_contains Y bm hbm) (X _ _ hC) (looks_findIn X T.iC) (fun self => bind_fn X self T.tC) (one_le v) ?_
  refine err_init (s := ⟨(hp.push (kdv_tup [v])).push (HandSPX.excO C hp.objs.size), g, dr, tk, os⟩) T (X.keeps k) (hlim.keeps k) here fresh ?_ ?_
  · exact hroom
  · rintro h' tk' dx ⟨k', hx, dn, dne, hns⟩
    have big : hp.objs.size + 1 + 1 ≤ dx := by
      have q := dn
      rw [Heap.size_push, Heap.size_push] at q
      exact q
    refine ⟨rfl, hq h' tk' (hp.objs.size + 1) dx ⟨fun b o q => ?_, Nat.le_succ _, ⟨_, _, hx, rfl, rfl, rfl, rfl⟩, Nat.le_trans (Nat.le_trans (Nat.le_succ _) (Nat.le_succ _)) big, dne, hns⟩⟩
    exact k' b o (Nat.ne_of_lt (Nat.lt_succ_of_lt (Heap.lt_size q))) (k b o q)
end
theorem relO_one {fld : Str} {v : V} {v' : Value} (r : RelV v v') (f : Str) : RelO (List.lookup f [(fld, v)]) (if f = fld then some v' else none) := by
  by_cases hw : f = fld
  · subst hw
    rw [if_pos rfl]
    simp only [List.lookup, BEq.rfl]
    exact r
  · rw [if_neg hw]
    have q : (f == fld) = false := by simpa using hw
    simp only [List.lookup, q]
    trivial
section
variable {X : Cx} {C fI : Addr} {x fld : Str} {B newId : String} {bmB : List Value}
/-- x(e), an error's making -/
def tErr (C : Addr) (fld : Str) (ta : TA) : L2.St → Hp → XK → Prop := fun σ H Q => ta σ H fun vs H1 => ∃ v, vs = [v] ∧ ∀ d, H1 d = none → Q (.ref C) (some d) (upd H1 d (.xd [(fld, v)]))
theorem pmk_err {a : Expr} {ta : TA} {p pos : Pos} {k : Nat} (T : ErrTxt X.K X.mg C fI x fld B newId bmB) (hr : Room k X.A) (ha : PA X [a] ta) (hg : Gl X x := by rfl)
    (hdb : (x == ("__debug__" : Str)) = false := by decide)
    (he : starEach (a :: []) X.env = (false, eval a X.env) :: starEach [] X.env := by rfl) (hpl : (backTo pos (starEach [] X.env)).any (·.1) = false := by rfl) :
    PMk X (.Call (.Name x p) [a] [] pos) (tErr C fld ta) := by
  intro pins s σ H Q I h
  refine wpAny_Call_Name_kw (ld_glob I hg T.gC ?_ hdb)
  refine callWith_K (h₀ := X.base) I.ok.mod.kin T.kC (thn (ha.run pos pins s σ H _ I h) ?_) he hpl
  rintro us s1 ⟨vs, H1, I1, r1, v, ev, q1⟩
  subst ev
  refine ⟨I1.kIn, ?_⟩
  obtain ⟨v', rfl, rv⟩ := vals1 r1
  show wpAny _ _ (call (.ref C) [v']) _ _ _
  have hlim := I1.nolimit
  have room : X.A.depth + 1 < recursionLimit := by
    have := hr.dp
    omega
  obtain ⟨hp, g, dr, tk, os⟩ := s1
  refine wpAny_call (err_made T I1.kIn hlim room ?_)
  intro h' tk' e d M
  show MkP X pins σ Q (.ref e) ⟨h', g, dr, tk', os⟩
  obtain ⟨oe, fv, hoe, hc, hd, hdat, h1⟩ := M.obj
  obtain ⟨G', g1, g2⟩ := restrict h' fun b => decide (b ≠ e)
  have gk : ∀ b, b ≠ e → G'.get? b = h'.get? b := fun b hb => g1 b (decide_eq_true hb)
  have ge : G'.get? e = none := g2 e (by simp)
  have old : ∀ b o, hp.get? b = some o → G'.get? b = some o := fun b o q =>
    (gk b (Nat.ne_of_lt (Nat.lt_of_lt_of_le (Heap.lt_size q) M.new))).trans (M.keep b o q)
  have hns := M.ns
  have laid : ObjOk X.prog X.w (upd H1 d (.xd [(fld, v)])) G' d (.xd [(fld, v)]) :=
    ⟨_, hns.at (fun o q => (gk d M.dne).trans q), fun f => relO_one rv f⟩
  have J : Inv X pins σ (upd H1 d (.xd [(fld, v)])) ⟨G', g, dr, tk', os⟩ := I1.laid (t' := tk') old M.dbig laid
  refine ⟨e, oe, fv, ⟨G', g, dr, tk', os⟩, _, .ref C, some d, rfl, J, ?_, ge, hoe, ⟨hc, hd⟩, hdat, h1, ?_, rfl, I1.bare, raises_own T.exC T.tyC, q1 d (I1.hok.fresh M.dbig)⟩
  · intro b o q
    have q' : G'.get? b = some o := q
    by_cases hb : b = e
    · rw [hb, ge] at q'
      cases q'
    · exact (gk b hb).symm.trans q'
  · rw [upd_ne (Ne.symm M.dne)]
    exact I1.hok.fresh M.new
/-- raise x(e) -/
def tRaiseErr (C : Addr) (fld : Str) (W : WX) (ta : TA) : TS := fun _ σ H => tErr C fld ta σ H fun cls d H' => W cls d σ H'
theorem ps_raiseErr {a : Expr} {ta : TA} {W : WX} {p pos pos2 : Pos} {k : Nat} (hc : X.calm = true) (T : ErrTxt X.K X.mg C fI x fld B newId bmB) (hr : Room k X.A)
    (tk : Takes X W) (ha : PA X [a] ta) (hg : Gl X x := by rfl) (hdb : (x == ("__debug__" : Str)) = false := by decide)
    (he : starEach (a :: []) X.env = (false, eval a X.env) :: starEach [] X.env := by rfl) (hpl : (backTo pos (starEach [] X.env)).any (·.1) = false := by rfl) :
    PS X (.Raise (some (.Call (.Name x p) [a] [] pos)) none pos2) (tRaiseErr C fld W ta) := ps_raise hc tk (pmk_err T hr ha hg hdb he hpl)
end
end GL
namespace GL
open PySem L2 PySem.Spec PyProof.Rows
/-- a def of the text: where it stands, what its name holds, how its arguments bind -/
structure Df (K : PySem.W.Frag) (mg : Str → Option Value) (x : Str) (st : Stmt) (ps : List Str) (f : Addr) (fd : FuncData) : Prop where
  F : Fun K x x st f fd
  g : mg x = some (.ref f)
  b : Binds K fd ps []
section
variable {X : Cx}
theorem iop_mulW : OpR X (inplaceOp .Mult) (rI CMulW fun i j => .int (i * j)) := opI fun _ _ _ _ _ _ _ hc q => imul_int q hc.ok
/-- i ** j, together below 2 ^ 27 bits -/
def CPowW (i j : Int) : Prop := 0 ≤ j ∧ (Builtin.Int.intBits i : Int) * j ≤ 2 ^ 27
theorem op_powW : OpR X (binaryOp .Pow) (rI CPowW fun i j => .int (i ^ j.toNat)) := opI fun _ _ _ _ _ _ _ hc q => pow_int hc.1 hc.2 q
end
/-- what stands at a value, as far as isinstance(.., int), (.., bool), (.., tuple) see it; an integer's value -/
inductive Kd (K : PySem.W.Frag) (H : Hp) : V → Option Int → Prop
  | non : Kd K H .non none
  | bl (b : Bool) : Kd K H (.bl b) none
  | int (i : Int) : Kd K H (.int i) (some i)
  | str (x : Str) : Kd K H (.str x) none
  | lst {a : Addr} {xs : List V} : SqL K H a xs → Kd K H (.ref a) none
  | tup {a : Addr} {xs : List V} : SqT K H a xs → Kd K H (.ref a) none
  | dic {a : Addr} {kvs : List (Key × V)} : H a = some (.dK kvs) → Kd K H (.ref a) none
theorem tyx_lst {K : PySem.W.Frag} {H : Hp} {a : Addr} {xs : List V} (h : SqL K H a xs) : TyX K H (.ref a) (.type "list") := by
  rcases h with (h | ⟨o, h⟩) | ⟨o, its, n, h1, h2, _⟩
  · exact .base (.lst h)
  · exact .base (.frz h)
  · exact .kList h1 h2
theorem tyx_tup {K : PySem.W.Frag} {H : Hp} {a : Addr} {xs : List V} (h : SqT K H a xs) : TyX K H (.ref a) (.type "tuple") := by
  rcases h with (h | ⟨o, h⟩) | ⟨o, its, n, h1, h2, _⟩
  · exact .base (.tup h)
  · exact .fTuple h
  · exact .kTuple h1 h2
/-- the two questions of «an integer that is no bool» -/
theorem Kd.ask {K : PySem.W.Frag} {H : Hp} {v : V} {o : Option Int} (h : Kd K H v o) : ∃ t b1 b2, TyX K H v (.type t) ∧ kitB t "int" = some b1 ∧ kitB t "bool" = some b2 ∧ (b1 && !b2) = o.isSome := by
  cases h with
  | non => exact ⟨"NoneType", false, false, .base .non, by decide +kernel, by decide +kernel, rfl⟩
  | bl b => exact ⟨"bool", true, true, .base (.bl b), by decide +kernel, by decide +kernel, rfl⟩
  | int i => exact ⟨"int", true, false, .base (.int i), by decide +kernel, by decide +kernel, rfl⟩
  | str x => exact ⟨"str", false, false, .base (.str x), by decide +kernel, by decide +kernel, rfl⟩
  | lst h => exact ⟨"list", false, false, tyx_lst h, by decide +kernel, by decide +kernel, rfl⟩
  | tup h => exact ⟨"tuple", false, false, tyx_tup h, by decide +kernel, by decide +kernel, rfl⟩
  | dic h => exact ⟨"dict", false, false, .base (.dK h), by decide +kernel, by decide +kernel, rfl⟩
theorem Kd.int_of {K : PySem.W.Frag} {H : Hp} {v : V} {i : Int} (h : Kd K H v (some i)) : v = .int i := by cases h; rfl
theorem same_new {H H' : Hp} {p : Addr} {o : HO} (s : Same H H') (h : H p = none) : Same H (upd H' p o) := fun b u e => by
  rw [upd_ne (fun z => by rw [z, h] at e; cases e)]
  exact s b u e
section
variable {X : Cx}
/-- xs != [], xs == [] -/
def rNeNil (K : PySem.W.Frag) : R2 := fun x y H Q => ∃ a b xs, x = .ref a ∧ y = .ref b ∧ SqL K H a xs ∧ SqL K H b [] ∧ Q (.bl (!xs.isEmpty)) H
def rEqNil (K : PySem.W.Frag) : R2 := fun x y H Q => ∃ a b xs, x = .ref a ∧ y = .ref b ∧ SqL K H a xs ∧ SqL K H b [] ∧ Q (.bl xs.isEmpty) H
theorem op_neNil (hu : X.A.units + 1 < cLine) : OpR X (compareOp .NotEq) (rNeNil X.K) := by
  intro pins s σ H x y v u Q I rx ry h
  obtain ⟨a, b, xs, rfl, rfl, ha, hb, q⟩ := h
  cases rx
  cases ry
  obtain ⟨its, rv, ⟨o, n, ho, hc, _, hd⟩, _⟩ := I.list ha
  obtain ⟨its2, rv2, ⟨o2, n2, ho2, hc2, _, hd2⟩, _⟩ := I.list hb
  cases rv2
  have l1 : s.heap.IsList a its.toArray := ⟨_, ho, hc, n, hd⟩
  have l2 : s.heap.IsList b #[] := ⟨_, ho2, hc2, n2, hd2⟩
  cases rv with
  | nil => exact SeqAt.RcNeAt.lists l1 l2 rfl (by omega) (e := fun _ => true) (fun j h => absurd h (by simp)) _ _ _ _ ⟨.bl _, H, I, rfl, q⟩
  | cons r t => exact SeqAt.RcNeAt.lists_lengths l1 l2 (by simp) (by omega) _ _ _ _ ⟨.bl _, H, I, rfl, q⟩
theorem op_eqNil (hu : X.A.units + 1 < cLine) : OpR X (compareOp .Eq) (rEqNil X.K) := by
  intro pins s σ H x y v u Q I rx ry h
  obtain ⟨a, b, xs, rfl, rfl, ha, hb, q⟩ := h
  cases rx
  cases ry
  obtain ⟨its, rv, ⟨o, n, ho, hc, _, hd⟩, _⟩ := I.list ha
  obtain ⟨its2, rv2, ⟨o2, n2, ho2, hc2, _, hd2⟩, _⟩ := I.list hb
  cases rv2
  have l1 : s.heap.IsList a its.toArray := ⟨_, ho, hc, n, hd⟩
  have l2 : s.heap.IsList b #[] := ⟨_, ho2, hc2, n2, hd2⟩
  cases rv with
  | nil => exact SeqAt.eq_listAt l1 l2 rfl (by omega) (e := fun _ => true) (fun j h => absurd h (by simp)) ⟨.bl _, H, I, rfl, q⟩
  | cons r t => exact SeqAt.eq_list_lengthsAt l1 l2 (by simp) (by omega) ⟨.bl _, H, I, rfl, q⟩
end
section
variable {c A B : Prop} [Decidable c]
theorem ifD (hc : c) (h : A) : if decide c = true then A else B := by
  rw [decide_eq_true hc]
  exact iteT h
theorem ifDn (hc : ¬ c) (h : B) : if decide c = true then A else B := by
  rw [decide_eq_false hc]
  exact iteF h
theorem ifN (hc : ¬ c) (h : A) : if (!decide c) = true then A else B := by
  rw [decide_eq_false hc]
  exact iteT h
theorem ifNn (hc : c) (h : B) : if (!decide c) = true then A else B := by
  rw [decide_eq_true hc]
  exact iteF h
end
theorem vI {i j : Int} (h : i = j) : V.int i = V.int j := congrArg _ h
end GL
namespace GL
open PySem L2 PySem.Spec PyProof.Rows
section
variable {X : Cx}
def rRepR : R2 := fun x y H Q => rRep y x H Q
theorem op_repR : OpR X (binaryOp .Mult) rRepR := by
  intro pins s σ H x y v u Q I rx ry g
  obtain ⟨l, k, xs, rfl, rfl, hH, k1, k2, room, q⟩ := g
  cases ry
  obtain ⟨t, rfl⟩ := rx
  obtain ⟨z, its, n, r, hl, e⟩ := I.lstM hH
  have room' : its.toArray.size * k.toNat ≤ sizeLine := by simpa [List.size_toArray, ← hl] using room
  have cap : ¬ its.toArray.size * k.toNat > (2 ^ 63 - 1) / 8 := Nat.not_lt.mpr (Nat.le_trans room' (by decide))
  have fit : ¬ (!Builtin.List.listFitsIndex k) = true := by simp [fitsIndex_both k1 k2]
  have long : ¬ Builtin.List.listTooLong (its.toArray.size * k.toNat) = true := by rw [notLongL room']; exact Bool.false_ne_true
  have new : (List.replicate (if its.toArray.isEmpty = true then 0 else k.toNat) its.toArray).foldl (· ++ ·) #[] = (List.replicate k.toNat its).flatten.toArray :=
    (size_rep its _).trans (by cases its <;> simp)
  have ans := AutoListH.list___mul___list_int_3 l its.toArray n k t fit cap long
  have road := int___mul___int_list k t l its.toArray n
  have ty : s.TypeIs (.ref l) "list" := ⟨_, e, rfl⟩
  apply lm_binaryOp_repeat_right (T := "list") (U := "int") (by decide) (fun w => typeIs_int w k t) ty F.fills_int_mul noFill_list_mul F.slot_int_mul lm_noRepeat_int repeat_list F.slot_int_index.lookup
  apply call_meets F.slot_int_mul (typeIs_int s k t) F.entry_int_mul (F.args_int_mul_2 _ _) road
  refine ⟨e, rfl, ty, ?_⟩
  apply call_meets F.slot_list_mul ty F.entry_list_mul (F.args_list_mul_2 _ _) ans
  refine ⟨e, ?_⟩
  rw [new]
  have len : (List.replicate k.toNat xs).flatten.length ≤ sizeLine := by
    rw [lm_len_rep_flat, Nat.mul_comm]; exact room
  exact ⟨.ref _, _, I.lnew (t' := s.toks) (r.rep k.toNat) len, rfl, q _ I.fresh⟩
end
end GL
namespace GL
open PySem L2 PySem.Spec PyProof.Rows
/-- shown within the line: its depth and its bulk -/
structure Sw (d : PyData) (k b : Nat) : Prop where
  sh : d.showable = true
  lf : d.leavesShort 1921 = true
  dp : d.depth ≤ k
  bk : d.bulk ≤ b
structure SwAll (ds : List PyData) (k b : Nat) : Prop where
  sh : PyData.showableAll ds = true
  lf : PyData.leavesShortAll 1921 ds = true
  dp : PyData.depthAll ds ≤ k
  bk : PyData.bulkAll ds ≤ b
theorem Sw.none : Sw .none 0 0 := ⟨rfl, rfl, Nat.le_refl _, Nat.le_refl _⟩
theorem Sw.bool (b : Bool) : Sw (.bool b) 0 0 := ⟨rfl, rfl, Nat.le_refl _, Nat.le_refl _⟩
theorem Sw.int {i : Int} (h : i.natAbs < 2 ^ 1900) : Sw (.int i) 0 0 := by
  have l : i.natAbs.log2 < 1920 := Nat.lt_of_lt_of_le (PySem.Flt.log2_lt_of (by decide) h) (by decide)
  refine ⟨?_, ?_, Nat.le_refl _, Nat.le_refl _⟩
  · simpa only [PyData.showable, decide_eq_true_eq] using l
  · exact decide_eq_true (int_text_len_1921 l)
theorem Sw.str {x : Str} (h : (x.cps.toList.all fun c => decide (c < 16 ^ 8)) = true) : Sw (.str x) 0 x.cps.size := ⟨rfl, h, Nat.le_refl _, Nat.le_refl _⟩
theorem SwAll.nil : SwAll [] 0 0 := ⟨rfl, rfl, Nat.le_refl _, Nat.le_refl _⟩
theorem SwAll.cons {d : PyData} {ds : List PyData} {k b k' b' : Nat} (h : Sw d k b) (t : SwAll ds k' b') : SwAll (d :: ds) (max k k') (b + 1 + b') := by
  refine ⟨?_, ?_, ?_, ?_⟩
  · simp only [PyData.showableAll, h.sh, t.sh, Bool.and_self]
  · simp only [PyData.leavesShortAll, h.lf, t.lf, Bool.and_self]
  · have h1 := h.dp
    have h2 := t.dp
    simp only [PyData.depthAll]
    omega
  · have h1 := h.bk
    have h2 := t.bk
    simp only [PyData.bulkAll]
    omega
theorem Sw.tuple {ds : List PyData} {k b : Nat} (t : SwAll ds k b) : Sw (.tuple ds) (k + 1) b := by
  refine ⟨?_, ?_, ?_, ?_⟩
  · simpa only [PyData.showable] using t.sh
  · simpa only [PyData.leavesShort] using t.lf
  · have h := t.dp
    simp only [PyData.depth]
    omega
  · simpa only [PyData.bulk] using t.bk
theorem Sw.list {ds : List PyData} {k b : Nat} (t : SwAll ds k b) : Sw (.list ds) (k + 1) b := by
  refine ⟨?_, ?_, ?_, ?_⟩
  · simpa only [PyData.showable] using t.sh
  · simpa only [PyData.leavesShort] using t.lf
  · have h := t.dp
    simp only [PyData.depth]
    omega
  · simpa only [PyData.bulk] using t.bk
theorem Sw.up {d : PyData} {k b k' b' : Nat} (h : Sw d k b) (hk : k ≤ k') (hb : b ≤ b') : Sw d k' b' := ⟨h.sh, h.lf, Nat.le_trans h.dp hk, Nat.le_trans h.bk hb⟩
theorem Sw.len {d : PyData} {k b : Nat} (h : Sw d k b) (hb : b ≤ 5000) : d.shown.length ≤ sizeLine := by
  have e := PyData.shown_le_bulk 1921 (by decide) d h.lf
  have e2 := h.bk
  have e3 : (1921 + 2) * d.bulk ≤ (1921 + 2) * 5000 := Nat.mul_le_mul_left _ (Nat.le_trans e2 hb)
  rw [sizeLine_eq]
  omega
/-- a value that repr shows -/
def Good (K : PySem.W.Frag) (H : Hp) (v : V) : Prop := ∃ d k b, ShD K H v d ∧ Sw d k b ∧ k ≤ 60 ∧ b ≤ 5000
end GL
namespace NM
open PySem
theorem natAbs_pow (b : Int) : ∀ n : Nat, (b ^ n).natAbs = b.natAbs ^ n
  | 0 => by simp
  | n + 1 => by rw [Int.pow_succ, Int.natAbs_mul, natAbs_pow b n, Nat.pow_succ]
/-- a power of a base up to 36 is small in bits -/
theorem pow_small {b : Int} (h0 : 0 ≤ b) (h : b ≤ 36) (n : Nat) : (b ^ n).natAbs < 2 ^ (6 * n + 1) := by
  rw [natAbs_pow]
  have h1 : b.natAbs ≤ 2 ^ 6 := by omega
  have h2 : b.natAbs ^ n ≤ (2 ^ 6) ^ n := Nat.pow_le_pow_left h1 n
  rw [← Nat.pow_mul] at h2
  calc b.natAbs ^ n ≤ 2 ^ (6 * n) := h2
    _ < 2 ^ (6 * n + 1) := Nat.pow_lt_pow_right (by decide) (by omega)
/-- the bits of a natural number -/
theorem lt_bits (n : Nat) : n < 2 ^ Builtin.Int.intBits (n : Int) := by
  unfold Builtin.Int.intBits
  by_cases h : n = 0
  · subst h
    decide
  · have : ((n : Int) == 0) = false := by simp; omega
    rw [this, if_neg Bool.false_ne_true]
    show n < 2 ^ ((n : Int).natAbs.log2 + 1)
    rw [Int.natAbs_natCast]
    exact Nat.lt_log2_self
theorem bits_le {n m : Nat} (h : n < 2 ^ m) : Builtin.Int.intBits (n : Int) ≤ m := by
  unfold Builtin.Int.intBits
  split
  · omega
  · rename_i h0
    have hn : n ≠ 0 := by
      intro z
      subst z
      exact h0 rfl
    show ((n : Int).natAbs.log2 + 1) ≤ m
    rw [Int.natAbs_natCast]
    exact Nat.succ_le_of_lt ((Nat.log2_lt hn).mpr h)
/-- squaring step: from c >> (k + 1) to c >> k -/
theorem shift_step (c k : Nat) : c / 2 ^ k = 2 * (c / 2 ^ (k + 1)) + c / 2 ^ k % 2 := by
  have : c / 2 ^ (k + 1) = c / 2 ^ k / 2 := by rw [Nat.pow_succ, Nat.div_div_eq_div_mul]
  omega
theorem pow_two_mul (b : Int) (n : Nat) : b ^ n * b ^ n = b ^ (2 * n) := by
  rw [← Int.pow_add]
  congr 1
  omega
theorem sq_succ (b : Int) (m : Nat) : b ^ 2 ^ m * b ^ 2 ^ m = b ^ 2 ^ (m + 1) := by
  rw [← Int.pow_add, Nat.pow_succ]
  congr 1
  omega
theorem pow_pos {b : Int} (h : 2 ≤ b) (e : Nat) : 0 < b ^ e := Int.pow_pos (by omega)
theorem two_pow_le {b : Int} (h : 2 ≤ b) (e : Nat) : 2 ^ e ≤ (b ^ e).natAbs := by
  rw [natAbs_pow]
  exact Nat.pow_le_pow_left (by omega) e
theorem lt_two_pow_13 {m : Nat} (h : 2 ^ m < 8900) : m ≤ 13 := by
  by_cases q : m ≤ 13
  · exact q
  · have : 2 ^ 14 ≤ 2 ^ m := Nat.pow_le_pow_right (by decide) (by omega)
    omega
/-- n is s times b ^ (f * 2 ^ J), and s no more divisible by b ^ 2 ^ J -/
structure Left (b n s : Int) (f J : Nat) : Prop where
  eq : n = s * b ^ (f * 2 ^ J)
  no : s % b ^ 2 ^ J ≠ 0
theorem Left.ne {b n s : Int} {f J : Nat} (L : Left b n s f J) : s ≠ 0 := fun z => L.no (by rw [z]; exact Int.zero_emod _)
theorem Left.le {b n s : Int} {f J : Nat} (hb : 2 ≤ b) (L : Left b n s f J) : s.natAbs ≤ n.natAbs := by
  rw [L.eq, Int.natAbs_mul]
  exact Nat.le_mul_of_pos_right _ (by have := pow_pos hb (f * 2 ^ J); omega)
theorem Left.keep {b n s : Int} {f J : Nat} (L : Left b n s f (J + 1)) (h : s % b ^ 2 ^ J ≠ 0) : Left b n s (f * 2) J := by
  refine ⟨?_, h⟩
  have e : f * 2 * 2 ^ J = f * 2 ^ (J + 1) := by rw [Nat.pow_succ, Nat.mul_assoc, Nat.mul_comm 2]
  rw [e]
  exact L.eq
theorem Left.take {b n s : Int} {f J : Nat} (hb : 2 ≤ b) (L : Left b n s f (J + 1)) (h : s % b ^ 2 ^ J = 0) : Left b n (s / b ^ 2 ^ J) (f * 2 + 1) J := by
  have hp := pow_pos hb (2 ^ J)
  have hs : s = s / b ^ 2 ^ J * b ^ 2 ^ J := (Int.ediv_mul_cancel (Int.dvd_of_emod_eq_zero h)).symm
  constructor
  · have e : (f * 2 + 1) * 2 ^ J = 2 ^ J + f * 2 ^ (J + 1) := by
      rw [Nat.add_mul, Nat.one_mul, Nat.pow_succ, Nat.mul_assoc, Nat.mul_comm 2, Nat.add_comm]
    rw [e, Int.pow_add, ← Int.mul_assoc, ← hs]
    exact L.eq
  · intro z
    apply L.no
    have z2 : s / b ^ 2 ^ J = s / b ^ 2 ^ J / b ^ 2 ^ J * b ^ 2 ^ J := (Int.ediv_mul_cancel (Int.dvd_of_emod_eq_zero z)).symm
    rw [← sq_succ]
    apply Int.emod_eq_zero_of_dvd
    refine ⟨s / b ^ 2 ^ J / b ^ 2 ^ J, ?_⟩
    calc s = s / b ^ 2 ^ J * b ^ 2 ^ J := hs
      _ = s / b ^ 2 ^ J / b ^ 2 ^ J * b ^ 2 ^ J * b ^ 2 ^ J := by rw [← z2]
      _ = _ := by rw [Int.mul_comm, Int.mul_comm (s / b ^ 2 ^ J / b ^ 2 ^ J), Int.mul_assoc]
/-- the form of a number is one: what is left, and how many factors -/
theorem one_form {b n s t : Int} {f g : Nat} (hb : 2 ≤ b) (h1 : n = s * b ^ f) (h2 : s % b ≠ 0) (h3 : n = t * b ^ g) (h4 : t % b ≠ 0) : s = t ∧ f = g := by
  have key : ∀ (s t : Int) (f d : Nat), s * b ^ f = t * b ^ (f + d) → s % b ≠ 0 → d = 0 ∧ s = t := by
    intro s t f d e hs
    rw [Int.pow_add, Int.mul_comm (b ^ f), ← Int.mul_assoc] at e
    have e2 : s = t * b ^ d := Int.eq_of_mul_eq_mul_right (by have := pow_pos hb f; omega) e
    cases d with
    | zero => exact ⟨rfl, by simpa using e2⟩
    | succ d =>
      exfalso
      apply hs
      rw [e2, Int.pow_succ, ← Int.mul_assoc]
      exact Int.mul_emod_left _ _
  rcases Nat.le_total f g with h | h
  · obtain ⟨d, rfl⟩ := Nat.exists_eq_add_of_le h
    obtain ⟨h5, h6⟩ := key s t f d (h1.symm.trans h3) h2
    subst h5
    exact ⟨h6, rfl⟩
  · obtain ⟨d, rfl⟩ := Nat.exists_eq_add_of_le h
    obtain ⟨h5, h6⟩ := key t s g d (h3.symm.trans h1) h4
    subst h5
    exact ⟨h6.symm, rfl⟩
end NM
namespace GL
open PySem L2 PySem.Spec PyProof.Rows
/-- an exception of the body that has been noted, while the clauses are asked: sI the state without it, s' and h3 the one with it -/
structure Air (X : Cx) (pins : List (Addr × Obj)) (σ : L2.St) (H : Hp) (cls : Value) (d : Option Addr) (a : Addr) (B : Heap) (sI s' : Shared) (h3 : Heap) : Prop where
  ok : X.Ok
  st : X.stack = X.env :: X.outer
  fr : X.env.frame = some X.env.locals
  inv : Inv X pins σ H sI
  ground : ∀ b o, sI.heap.get? b = some o → b ∉ frs X.stack → B.get? b = some o
  up : sI.heap.UpToSlots h3
  fly : HandSPX.FlyingZ B (X.env :: X.outer) a (Zc cls d) h3
  na : H a = none
  os : s'.os = sI.os
  ag : AllBare s'.gens
section
variable {X : Cx} {pins : List (Addr × Obj)} {σ : L2.St} {H : Hp} {cls : Value} {d : Option Addr} {a : Addr} {B : Heap} {sI s' : Shared} {h3 : Heap}
/-- the same a step on: the flight renewed -/
theorem Air.on (A : Air X pins σ H cls d a B sI s' h3) {h4 : Heap} (fl : HandSPX.FlyingZ B (X.env :: X.outer) a (Zc cls d) h4) (up : h3.UpToSlots h4) : Air X pins σ H cls d a B sI s' h4 :=
  { A with up := A.up.trans up, fly := fl }
theorem Air.now (A : Air X pins σ H cls d a B sI s' h3) : Inv X pins σ H { s' with heap := h3 } :=
  A.inv.landed (s' := { s' with heap := h3 }) A.ground A.fly.1 A.up A.os A.ag
/-- the error's object: neither the locals nor a frame's -/
theorem Air.apart (A : Air X pins σ H cls d a B sI s' h3) : a ≠ X.env.locals ∧ a ∉ X.fs := by
  obtain ⟨oe, vs, he, _, hd⟩ := A.fly.there
  have none_of_them : ∀ e ∈ X.env :: X.outer, ∀ L, e.frame = some L → a ≠ L := by
    intro e he' L hL z
    obtain ⟨_, o, e1, nf⟩ := A.fly.2.2.1.mem (List.mem_filterMap.mpr ⟨e, he', by rw [hL, ← z]⟩)
    rw [he] at e1
    cases e1
    exact nf _ hd
  refine ⟨none_of_them _ List.mem_cons_self _ A.fr, fun hm => ?_⟩
  obtain ⟨e, he', q⟩ := List.mem_filterMap.mp hm
  exact none_of_them e (List.mem_cons_of_mem _ he') a q rfl
/-- .. as the suites of clauses see it -/
theorem Air.inside (A : Air X pins σ H cls d a B sI s' h3) : ∃ oe, Zc cls d oe ∧ (∃ vs, oe.data = .fields vs) ∧ h3.get? a = some oe ∧ Inv (X.suite a ((a, oe) :: (X.pn ++ pins))) [] σ H { s' with heap := h3 } := by
  obtain ⟨oe, vs, he, hz, hd⟩ := A.fly.there
  exact ⟨oe, hz, ⟨vs, hd⟩, he, A.now.suite he hd A.na A.apart.1 A.apart.2⟩
/-- no clause is left: it goes on -/
theorem Air.passes {Wout : WX} {D : Ends} (A : Air X pins σ H cls d a B sI s' h3) (tk : Takes X Wout) (w : Wout cls d σ H) :
    wpAny (model X.prog X.w) X.A (handleBy (.ref a) X.env []) (SP X pins D) X.xe { s' with heap := h3 } := by
  have up : wpAny (model X.prog X.w) X.A (setFlight (.ref a) X.env.frame) (fun _ s4 => wpAny (model X.prog X.w) X.A (throw (.ref a) : Sem Flow) (SP X pins D) X.xe s4) X.xe { s' with heap := h3 } := by
    rw [A.fr]
    refine HandSPX.setFlight_upZ A.fly fun h4 held up4 => wpAny_throw (tk _ _ ?_)
    exact ⟨a, B, sI, pins, σ, H, cls, d, rfl, A.inv, A.ground, A.up.trans up4, .inr (.inr (by rw [A.st]; exact held)), A.na, A.os, A.ag, w⟩
  refine wpAny_handleBy_nil ?_
  obtain ⟨_, _, _, oe, vs, T, oT, ts, he, _, hd, h1, _⟩ := id A.fly
  unfold PySem.passOn
  refine wpAny_bind (wpAny_field he hd h1 ?_)
  rw [if_neg (by simp)]
  first
    | exact wpAny_bind (wpAny_pure (wpAny_bind up))
    | exact wpAny_bind up
/-- one clause is asked -/
theorem Air.asks {x n : Str} {c : Value} {i : Nat} {suite : List Stmt} {b₀ : Stmt} {np pos : Pos} {hds : List ExceptHandler} {ts : Addr → Value → Option Addr → TS} {W : WX} {D : Ends} (A : Air X pins σ H cls d a B sI s' h3)
    (hN : X.N.Nodup) (hi : X.N[i]? = some n) (hln : X.env.kindOf n = some .local) (hc : Names X x c)
    (hsu : ∀ (a : Addr) (oe : Obj) (cls : Value) (d : Option Addr) (pn : List (Addr × Obj)), Zc cls d oe → (∃ vs, oe.data = .fields vs) → PSs (X.suite a ((a, oe) :: pn)) (b₀ :: suite) (ts a cls d))
    (w : wAs X.K c i ts W D cls d σ H) (next : W cls d σ H → wpAny (model X.prog X.w) X.A (handleBy (.ref a) X.env hds) (SP X pins D) X.xe { s' with heap := h3 }) :
    wpAny (model X.prog X.w) X.A (handleBy (.ref a) X.env (.ExceptHandler (some (.Name x np)) (some n) (b₀ :: suite) pos :: hds)) (SP X pins D) X.xe { s' with heap := h3 } := by
  obtain ⟨b, hb, yes, no⟩ := w
  obtain ⟨oe, hz, hf, he, S⟩ := A.inside
  refine wpAny_handleBy_cons (codeAny_handlers_test ?_) (by intro q; cases q)
  -- the class's name is read
  have read : ∀ {Q : Value → Shared → Prop} {E : Value → Shared → Prop}, Q c { s' with heap := h3 } → wpAny (model X.prog X.w) (X.A.mark (some (.ref a))) (eval (.Name x np) X.env) Q E { s' with heap := h3 } := fun q => by
    obtain ⟨g, db, m | ⟨m, v, nn⟩⟩ := hc
    · exact ld_glob (X := X.suite a ((a, oe) :: (X.pn ++ pins))) S g m q db
    · exact ld_blt (X := X.suite a ((a, oe) :: (X.pn ++ pins))) S g m v q nn db
  have kind : PySem.W.Looks (model X.prog X.w) h3 (typeOf (.ref a)) cls := fun _ _ _ _ k q => wpAny_typeOf_ref (k _ _ he) (by rw [hz.1]; exact q)
  refine read ((PySem.W.exm_one (M := model X.prog X.w) A.now.kIn kind hb).here ?_)
  cases b with
  | false => exact next (no rfl)
  | true =>
    refine codeAny_handlers_suite_as ?_
    refine HandSPX.lands_againZ A.fly fun h4 fl4 up4 => ?_
    have A4 := A.on fl4 up4
    obtain ⟨oe4, hz4, hf4, _, S4⟩ := A4.inside
    refine store_ok (X := X.suite a ((a, oe4) :: (X.pn ++ pins))) (v := .ref a) S4 hN hi (.inl hln) rfl (fun s5 S5 => ?_) (.inr hln)
    refine wpAny_mono ((hsu a oe4 cls d (X.pn ++ pins) hz4 hf4).run [] s5 _ H _ S5 (yes rfl a A.na)) (fun f s6 end_ => ?_) (fun _ _ z => False.elim z)
    -- the name goes
    have drop : ∀ {σ6 : L2.St} {H6 : Hp} {Q : Shared → Prop}, Inv (X.suite a ((a, oe4) :: (X.pn ++ pins))) [] σ6 H6 s6 → (∀ s7, Inv X pins (σ6.set i none) H6 s7 → Q s7) →
        wpAny (model X.prog X.w) X.A (do bindName X.env n .none; unbindBehindTheSuite X.env n pos) (fun _ s7 => Q s7) X.xe s6 := fun S6 q => gone_ok (S6.unsuite A.ok) hN hi hln q
    match f, end_ with
    | .next, ⟨_, _, S6, q⟩ => exact drop S6 fun _ J => ⟨_, _, J, q⟩
    | .brk, ⟨_, _, S6, q⟩ => exact drop S6 fun _ J => ⟨_, _, J, q⟩
    | .cont, ⟨_, _, S6, q⟩ => exact drop S6 fun _ J => ⟨_, _, J, q⟩
    | .ret u, ⟨_, _, _, S6, r, q⟩ => exact drop S6 fun _ J => ⟨_, _, _, J, r, q⟩
end
/-- what the clauses wish of an exception, each behind the one before -/
def wNamed (K : PySem.W.Frag) (Wout : WX) (D : Ends) : List (Value × Nat × (Addr → Value → Option Addr → TS)) → WX
  | [] => Wout
  | (c, i, ts) :: r => wAs K c i ts (wNamed K Wout D r) D
/-- the clauses and their readings -/
inductive Named (X : Cx) : List ExceptHandler → List (Value × Nat × (Addr → Value → Option Addr → TS)) → Prop
  | nil : Named X [] []
  | cons {x n : Str} {c : Value} {i : Nat} {ts : Addr → Value → Option Addr → TS} {b₀ : Stmt} {suite : List Stmt} {np pos : Pos} {hds : List ExceptHandler} {l : List (Value × Nat × (Addr → Value → Option Addr → TS))}
      (hi : X.N[i]? = some n) (hln : X.env.kindOf n = some .local) (hc : Names X x c)
      (hsu : ∀ (a : Addr) (oe : Obj) (cls : Value) (d : Option Addr) (pn : List (Addr × Obj)), Zc cls d oe → (∃ vs, oe.data = .fields vs) → PSs (X.suite a ((a, oe) :: pn)) (b₀ :: suite) (ts a cls d)) (r : Named X hds l) :
      Named X (.ExceptHandler (some (.Name x np)) (some n) (b₀ :: suite) pos :: hds) ((c, i, ts) :: l)
theorem Air.all {X : Cx} {pins : List (Addr × Obj)} {σ : L2.St} {H : Hp} {cls : Value} {d : Option Addr} {a : Addr} {B : Heap} {sI s' : Shared} {h3 : Heap} {Wout : WX} {D : Ends} (A : Air X pins σ H cls d a B sI s' h3) (hN : X.N.Nodup) (tk : Takes X Wout) :
    ∀ {hds : List ExceptHandler} {l : List (Value × Nat × (Addr → Value → Option Addr → TS))}, Named X hds l → wNamed X.K Wout D l cls d σ H → wpAny (model X.prog X.w) X.A (handleBy (.ref a) X.env hds) (SP X pins D) X.xe { s' with heap := h3 }
  | _, _, .nil, w => A.passes tk w
  | _, _, .cons hi hln hc hsu r, w => A.asks hN hi hln hc hsu w fun w' => Air.all A hN tk r w'
end GL
namespace GL
open PySem L2 PySem.Spec PyProof.Rows
/-- f is a def that keeps sp, and may be called here; E: what is wished of its exceptions, by the slots -/
def Callee (X : Cx) (f : Addr) (sp : Sp) (E : L2.St → XK) : Prop := PySem.W.keepIn X.K (.ref f) = true ∧ ∃ (cx : CXT) (k : Nat) (fd : FuncData) (ps : List Str), FnOk X.prog X.w X.K X.mg X.base cx k f fd ps sp ∧ Room k X.A ∧ Binds X.K fd ps [] ∧ ∀ σ, PassesAt cx X σ (E σ)
theorem Callee.of {X : Cx} {f : Addr} {sp : Sp} {E : L2.St → XK} {cx : CXT} {k : Nat} {fd : FuncData} {ps : List Str} (hk : PySem.W.keepIn X.K (.ref f) = true) (F : FnOk X.prog X.w X.K X.mg X.base cx k f fd ps sp) (hr : Room k X.A) (hb : Binds X.K fd ps []) (hx : ∀ σ, PassesAt cx X σ (E σ)) : Callee X f sp E :=
  ⟨hk, cx, k, fd, ps, F, hr, hb, hx⟩
end GL
namespace DL
open PySem L2 PySem.Spec PyProof.Rows
/-- data: what a value is, with all that hangs on it; an instance by its class and its attributes -/
inductive D where
  | non
  | bl (b : Bool)
  | int (i : Int)
  | str (x : Str)
  | tup (xs : List D)
  | lst (xs : List D)
  /-- the law's own argument: it is only read -/
  | scr (ns : List Int)
  | dic (ks : List Key) (vs : List D)
  | obj (C : Addr) (ns : List Str) (vs : List D)
  deriving Inhabited
theorem seqT_same {K : PySem.W.Frag} {H H' : Hp} {a : Addr} {xs : List V} (e : Same H H') (h : SqT K H a xs) : SqT K H' a xs := by
  rcases h with (h | ⟨o, h⟩) | h
  · exact .inl (.inl (e _ _ h))
  · exact .inl (.inr ⟨o, e _ _ h⟩)
  · exact .inr h
theorem same_upd' {H H' : Hp} {p : Addr} {o : HO} (s : Same H H') (h : H p = none) : Same H (upd H' p o) := fun b u e => by
  rw [upd_ne (fun z => by rw [z, h] at e; cases e)]
  exact s b u e
mutual
/-- the value v stands for the data d in H -/
inductive Rep (K : PySem.W.Frag) (H : Hp) : V → D → Prop
  | non : Rep K H .non .non
  | bl (b : Bool) : Rep K H (.bl b) (.bl b)
  | int (i : Int) : Rep K H (.int i) (.int i)
  | str (x : Str) : Rep K H (.str x) (.str x)
  | tup {a : Addr} {vs : List V} {ds : List D} : SqT K H a vs → RepAll K H vs ds → Rep K H (.ref a) (.tup ds)
  | lst {a : Addr} {vs : List V} {ds : List D} : H a = some (.lst vs) → RepAll K H vs ds → Rep K H (.ref a) (.lst ds)
  | scr {a : Addr} {ns : List Int} : SqL K H a (ns.map V.int) → Rep K H (.ref a) (.scr ns)
  | dic {a : Addr} {kvs : List (Key × V)} {ks : List Key} {ds : List D} : H a = some (.dK kvs) → kvs.map (·.1) = ks → RepAll K H (kvs.map (·.2)) ds → Rep K H (.ref a) (.dic ks ds)
  | obj {a C dx : Addr} {fs : List (Str × V)} {ns : List Str} {ds : List D} : H a = some (.ins C dx fs) → fs.map (·.1) = ns → RepAll K H (fs.map (·.2)) ds → Rep K H (.ref a) (.obj C ns ds)
inductive RepAll (K : PySem.W.Frag) (H : Hp) : List V → List D → Prop
  | nil : RepAll K H [] []
  | cons {v : V} {vs : List V} {d : D} {ds : List D} : Rep K H v d → RepAll K H vs ds → RepAll K H (v :: vs) (d :: ds)
end
theorem Rep.same {K : PySem.W.Frag} {H H' : Hp} (e : Same H H') {v : V} {d : D} (h : Rep K H v d) : Rep K H' v d := by
  induction h using Rep.rec (motive_2 := fun vs ds _ => RepAll K H' vs ds) with
  | non => exact .non
  | bl b => exact .bl b
  | int i => exact .int i
  | str x => exact .str x
  | tup h _ ih => exact .tup (seqT_same e h) ih
  | lst h _ ih => exact .lst (e _ _ h) ih
  | scr h => exact .scr (e.seq h)
  | dic h k _ ih => exact .dic (e _ _ h) k ih
  | obj h k _ ih => exact .obj (e _ _ h) k ih
  | nil => exact .nil
  | cons _ _ h1 h2 => exact .cons h1 h2
theorem RepAll.same {K : PySem.W.Frag} {H H' : Hp} (e : Same H H') : ∀ {vs : List V} {ds : List D}, RepAll K H vs ds → RepAll K H' vs ds
  | _, _, .nil => .nil
  | _, _, .cons h t => .cons (h.same e) (RepAll.same e t)
section
variable {K : PySem.W.Frag} {H : Hp}
theorem RepAll.len : ∀ {vs : List V} {ds : List D}, RepAll K H vs ds → vs.length = ds.length
  | _, _, .nil => rfl
  | _, _, .cons _ t => congrArg Nat.succ t.len
theorem RepAll.app : ∀ {vs ws : List V} {ds es : List D}, RepAll K H vs ds → RepAll K H ws es → RepAll K H (vs ++ ws) (ds ++ es)
  | _, _, _, _, .nil, s => s
  | _, _, _, _, .cons r t, s => .cons r (t.app s)
theorem RepAll.get : ∀ {vs : List V} {ds : List D} {i : Nat} {d : D}, RepAll K H vs ds → ds[i]? = some d → ∃ v, vs[i]? = some v ∧ Rep K H v d
  | _, _, _, _, .nil, e => by simp at e
  | _, _, 0, _, .cons r _, e => by simp at e; subst e; exact ⟨_, rfl, r⟩
  | _, _, i + 1, d, .cons _ t, e => by
    obtain ⟨v, h1, h2⟩ := t.get (i := i) (d := d) (by simpa using e)
    exact ⟨v, by simpa using h1, h2⟩
theorem RepAll.take (n : Nat) : ∀ {vs : List V} {ds : List D}, RepAll K H vs ds → RepAll K H (vs.take n) (ds.take n)
  | _, _, .nil => by simp; exact .nil
  | _, _, .cons r t => by
    cases n with
    | zero => simp; exact .nil
    | succ n => simp only [List.take_succ_cons]; exact .cons r (t.take n)
theorem RepAll.drop : ∀ (n : Nat) {vs : List V} {ds : List D}, RepAll K H vs ds → RepAll K H (vs.drop n) (ds.drop n)
  | 0, _, _, h => h
  | n + 1, _, _, .nil => by simp; exact .nil
  | n + 1, _, _, .cons _ t => by simp only [List.drop_succ_cons]; exact t.drop n
theorem RepAll.set {v : V} {d : D} (h : Rep K H v d) : ∀ {vs : List V} {ds : List D} (i : Nat), RepAll K H vs ds → RepAll K H (vs.set i v) (ds.set i d)
  | _, _, _, .nil => .nil
  | _, _, 0, .cons _ t => .cons h t
  | _, _, i + 1, .cons q t => .cons q (t.set h i)
theorem RepAll.ints : ∀ (ns : List Int), RepAll K H (ns.map V.int) (ns.map D.int)
  | [] => .nil
  | n :: ns => .cons (.int n) (RepAll.ints ns)
theorem RepAll.ofInts : ∀ {vs : List V} {ns : List Int}, RepAll K H vs (ns.map D.int) → vs = ns.map V.int
  | _, [], .nil => rfl
  | _, n :: ns, .cons r t => by cases r; rw [t.ofInts]; rfl
end
structure Step (H H0 H' H0' : Hp) : Prop where
  big : Same H H'
  small : Same H0 H0'
  sub : Same H0' H'
  apart : ∀ a o, H a = some o → H0 a = none → H0' a = none
theorem Step.refl {H H0 : Hp} (s : Same H0 H) : Step H H0 H H0 := ⟨Same.refl _, Same.refl _, s, fun _ _ _ e => e⟩
theorem Step.trans {A A0 B B0 C C0 : Hp} (h : Step A A0 B B0) (g : Step B B0 C C0) : Step A A0 C C0 :=
  ⟨Same.trans h.big g.big, Same.trans h.small g.small, g.sub, fun a o e n => g.apart a o (h.big a o e) (h.apart a o e n)⟩
theorem none_sub {H H0 : Hp} (s : Same H0 H) {p : Addr} (h : H p = none) : H0 p = none := by
  cases q : H0 p with
  | none => rfl
  | some o => rw [s p o q] at h; cases h
theorem same_upd {H : Hp} {p : Addr} {o : HO} (h : H p = none) : Same H (upd H p o) := same_upd' (Same.refl _) h
theorem same_both {H0 H : Hp} {p : Addr} {o : HO} (s : Same H0 H) : Same (upd H0 p o) (upd H p o) := fun b u e => by
  by_cases hb : b = p
  · subst hb; rw [upd_same] at e ⊢; exact e
  · rw [upd_ne hb] at e ⊢; exact s b u e
/-- a new object, shared -/
theorem Step.new {H H0 : Hp} {p : Addr} {o : HO} (s : Same H0 H) (h : H p = none) : Step H H0 (upd H p o) (upd H0 p o) :=
  ⟨same_upd h, same_upd (none_sub s h), same_both s, fun a u e n => by
    by_cases hb : a = p
    · subst hb; rw [h] at e; cases e
    · rw [upd_ne hb]; exact n⟩
/-- a new object, not shared -/
theorem Step.own {H H0 : Hp} {p : Addr} {o : HO} (s : Same H0 H) (h : H p = none) : Step H H0 (upd H p o) H0 :=
  ⟨same_upd h, Same.refl _, Same.trans s (same_upd h), fun _ _ _ n => n⟩
/-- an object that is not shared becomes shared -/
theorem Step.share {H H0 H' H0' : Hp} {p : Addr} {o : HO} (z0 : Same H0 H) (s : Step H H0 H' H0') (h : H p = none) (e : H' p = some o) (n0 : H0' p = none) : Step H H0 H' (upd H0' p o) :=
  ⟨s.big, same_upd' s.small (none_sub z0 h), fun b u q => by
    by_cases hb : b = p
    · subst hb; rw [upd_same] at q; cases q; exact e
    · rw [upd_ne hb] at q; exact s.sub b u q, fun a u q n => by
    have hb : a ≠ p := fun z => by subst z; rw [h] at q; cases q
    rw [upd_ne hb]; exact s.apart a u q n⟩
/-- an expression's answer: data, an error of the text's own (its class by name, what it holds), or nothing known -/
inductive Res (α : Type) where
  | ok (a : α)
  | exc (x : String) (d : D)
  | stuck
def Res.bind {α β : Type} : Res α → (α → Res β) → Res β
  | .ok a, k => k a
  | .exc x d, _ => .exc x d
  | .stuck, _ => .stuck
/-- c is asked here -/
def need {α : Type} (c : Prop) [Decidable c] (r : Res α) : Res α := if c then r else .stuck
/-- a local name: nothing known, shared data, a list or a dict that nothing else holds, an error that a suite has caught -/
inductive Slot where
  | un
  | sh (d : D)
  | own (xs : List D)
  | ownD (ks : List Key) (vs : List D)
  | ownO (p C : Addr) (ns : List Str) (vs : List D)
  | er (x : String) (d : D)
  | lk (ks : List Key) (vs : List D)
  deriving Inhabited
abbrev En := List Slot
/-- the error classes: by name the class and its one field -/
abbrev ET := String → Option (Addr × Str)
/-- the caught error, where a suite runs: its object, its class, its dict -/
abbrev Caught := Option (Addr × Value × Option Addr)
/-- what a slot is known to hold -/
def Holds (K : PySem.W.Frag) (et : ET) (ce : Caught) (Hs H H0 : Hp) : Option (Option V) → Slot → Prop
  | _, .un => True
  | some (some v), .sh d => Rep K H0 v d
  | some (some v), .own xs => ∃ p vs, v = .ref p ∧ Hs p = none ∧ H p = some (.lst vs) ∧ H0 p = none ∧ RepAll K H0 vs xs
  | some (some v), .ownD ks xs => ∃ p kvs, v = .ref p ∧ Hs p = none ∧ H p = some (.dK kvs) ∧ H0 p = none ∧ kvs.map (·.1) = ks ∧ RepAll K H0 (kvs.map (·.2)) xs
  | some (some v), .ownO p C ns xs => v = .ref p ∧ ∃ dx fs, Hs p = none ∧ H p = some (.ins C dx fs) ∧ H0 p = none ∧ fs.map (·.1) = ns ∧ RepAll K H0 (fs.map (·.2)) xs
  | some (some v), .er x d => ∃ a C fld dd w, ce = some (a, .ref C, some dd) ∧ et x = some (C, fld) ∧ v = .ref a ∧ H0 dd = some (.xd [(fld, w)]) ∧ Rep K H0 w d
  | some (some v), .lk ks xs => ∃ p od kvs, ce = some (p, .none, none) ∧ v = .ref p ∧ H p = some (.frz od (.dK kvs)) ∧ H0 p = none ∧ kvs.map (·.1) = ks ∧ RepAll K H0 (kvs.map (·.2)) xs
  | _, _ => False
/-- is it a thing that nothing else holds? -/
def Slot.alone : Slot → Bool
  | .own _ | .ownD _ _ | .ownO _ _ _ _ => true
  | _ => false
/-- where a def stands: Hs, H0s its start; the slots and heaps now -/
structure Stn (K : PySem.W.Frag) (et : ET) (ce : Caught) (Hs H0s : Hp) (σ : L2.St) (H H0 : Hp) (Γ : En) : Prop where
  z : Same H0s Hs
  st : Step Hs H0s H H0
  len : Γ.length ≤ σ.length
  at_ : ∀ (i : Nat) (s : Slot), Γ[i]? = some s → Holds K et ce Hs H H0 σ[i]? s
  one : ∀ (i j : Nat) (s t : Slot) (p : Addr), Γ[i]? = some s → Γ[j]? = some t → s.alone = true → t.alone = true → σ[i]? = some (some (.ref p)) → σ[j]? = some (some (.ref p)) → i = j
theorem Holds.step {K : PySem.W.Frag} {et : ET} {ce : Caught} {Hs H H0 H' H0' : Hp} (s : Step H H0 H' H0') {v : Option (Option V)} {sl : Slot} (h : Holds K et ce Hs H H0 v sl) : Holds K et ce Hs H' H0' v sl := by
  cases sl with
  | un => cases v <;> trivial
  | sh d =>
    match v, h with
    | some (some v), h => exact Rep.same s.small h
  | own xs =>
    match v, h with
    | some (some v), ⟨p, vs, e, hs, hp, h0, r⟩ => exact ⟨p, vs, e, hs, s.big _ _ hp, s.apart _ _ hp h0, r.same s.small⟩
  | ownD ks xs =>
    match v, h with
    | some (some v), ⟨p, kvs, e, hs, hp, h0, k, r⟩ => exact ⟨p, kvs, e, hs, s.big _ _ hp, s.apart _ _ hp h0, k, r.same s.small⟩
  | ownO p C ns xs =>
    match v, h with
    | some (some v), ⟨e, dx, fs, hs, hp, h0, k, r⟩ => exact ⟨e, dx, fs, hs, s.big _ _ hp, s.apart _ _ hp h0, k, r.same s.small⟩
  | er x d =>
    match v, h with
    | some (some v), ⟨a, C, fld, dd, w, e, t, ev, hd, r⟩ => exact ⟨a, C, fld, dd, w, e, t, ev, s.small _ _ hd, r.same s.small⟩
  | lk ks xs =>
    match v, h with
    | some (some v), ⟨p, od, kvs, e, ev, hp, h0, k, r⟩ => exact ⟨p, od, kvs, e, ev, s.big _ _ hp, s.apart _ _ hp h0, k, r.same s.small⟩
section
variable {K : PySem.W.Frag} {et : ET} {ce : Caught} {Hs H0s H H0 H' H0' : Hp} {σ : L2.St} {Γ : En}
theorem Stn.sub (c : Stn K et ce Hs H0s σ H H0 Γ) : Same H0 H := c.st.sub
theorem Stn.step (c : Stn K et ce Hs H0s σ H H0 Γ) (s : Step H H0 H' H0') : Stn K et ce Hs H0s σ H' H0' Γ :=
  ⟨c.z, c.st.trans s, c.len, fun i sl e => (c.at_ i sl e).step s, c.one⟩
/-- a slot holds shared data from now on -/
theorem Stn.put (c : Stn K et ce Hs H0s σ H H0 Γ) (i : Nat) {v : V} {d : D} (h : Rep K H0 v d) : Stn K et ce Hs H0s (σ.set i (some v)) H H0 (Γ.set i (.sh d)) := by
  refine ⟨c.z, c.st, by simpa using c.len, fun j s e => ?_, fun j k s t p ej ek aj ak hj hk => ?_⟩
  · by_cases hj : i = j
    · subst hj
      have hi : i < Γ.length := by
        have := (List.getElem?_eq_some_iff.mp e).1
        simpa using this
      rw [List.getElem?_set_self hi] at e
      cases e
      rw [List.getElem?_set_self (Nat.lt_of_lt_of_le hi c.len)]
      exact h
    · rw [List.getElem?_set_ne hj] at e ⊢
      exact c.at_ j s e
  · have nj : i ≠ j := fun z => by
      subst z
      have hi : i < Γ.length := by
        have := (List.getElem?_eq_some_iff.mp ej).1
        simpa using this
      rw [List.getElem?_set_self hi] at ej; cases ej; cases aj
    have nk : i ≠ k := fun z => by
      subst z
      have hi : i < Γ.length := by
        have := (List.getElem?_eq_some_iff.mp ek).1
        simpa using this
      rw [List.getElem?_set_self hi] at ek; cases ek; cases ak
    rw [List.getElem?_set_ne nj] at ej hj
    rw [List.getElem?_set_ne nk] at ek hk
    exact c.one j k s t p ej ek aj ak hj hk
/-- nothing is known of a slot any more -/
theorem Stn.forget (c : Stn K et ce Hs H0s σ H H0 Γ) (i : Nat) (x : Option V) : Stn K et ce Hs H0s (σ.set i x) H H0 (Γ.set i .un) := by
  have no : ∀ {j : Nat} {s : Slot}, (Γ.set i .un)[j]? = some s → s.alone = true → i ≠ j := fun {j s} e a z => by
    subst z
    have hi : i < Γ.length := by
      have := (List.getElem?_eq_some_iff.mp e).1
      simpa using this
    rw [List.getElem?_set_self hi] at e; cases e; cases a
  refine ⟨c.z, c.st, by simpa using c.len, fun j s e => ?_, fun j k s t p ej ek aj ak hj hk => ?_⟩
  · by_cases hj : i = j
    · subst hj
      have hi : i < Γ.length := by
        have := (List.getElem?_eq_some_iff.mp e).1
        simpa using this
      rw [List.getElem?_set_self hi] at e
      cases e
      cases (σ.set i x)[i]? <;> trivial
    · rw [List.getElem?_set_ne hj] at e ⊢
      exact c.at_ j s e
  · have nj := no ej aj
    have nk := no ek ak
    rw [List.getElem?_set_ne nj] at ej hj
    rw [List.getElem?_set_ne nk] at ek hk
    exact c.one j k s t p ej ek aj ak hj hk
end
end DL
namespace DL
open PySem L2 PySem.Spec PyProof.Rows
/-- how an answer stands for what was said: the heap ahead, the heap behind, its shared part behind -/
abbrev Rl (α β : Type) := Hp → Hp → Hp → β → α → Prop
def RD (K : PySem.W.Frag) : Rl D V := fun _ _ H0 v d => Rep K H0 v d
/-- a thing that is read where it stands: a list or dict may be one that nothing else holds -/
def RepO (K : PySem.W.Frag) (H H0 : Hp) (v : V) : D → Prop
  | .lst xs => ∃ a vs, v = .ref a ∧ H a = some (.lst vs) ∧ RepAll K H0 vs xs
  | .dic ks xs => ∃ a kvs, v = .ref a ∧ H a = some (.dK kvs) ∧ kvs.map (·.1) = ks ∧ RepAll K H0 (kvs.map (·.2)) xs
  | d => Rep K H0 v d
def RO (K : PySem.W.Frag) : Rl D V := fun _ H' H0 v d => RepO K H' H0 v d
def RA (K : PySem.W.Frag) : Rl (List D) (List V) := fun _ _ H0 vs ds => RepAll K H0 vs ds
def RB : Rl Bool Bool := fun _ _ _ b a => b = a
/-- a new list that nothing else holds -/
def RF (K : PySem.W.Frag) : Rl (List D) V := fun H H' H0 v xs => ∃ p vs, v = .ref p ∧ H p = none ∧ H' p = some (.lst vs) ∧ H0 p = none ∧ RepAll K H0 vs xs
/-- a new dict that nothing else holds -/
def RFD (K : PySem.W.Frag) : Rl (List Key × List D) V := fun H H' H0 v xs => ∃ p kvs, v = .ref p ∧ H p = none ∧ H' p = some (.dK kvs) ∧ H0 p = none ∧ kvs.map (·.1) = xs.1 ∧ RepAll K H0 (kvs.map (·.2)) xs.2
/-- what the heap ahead is: an earlier one will do -/
def Back {α β : Type} (R : Rl α β) : Prop := ∀ H G H' H0 b a, Same H G → R G H' H0 b a → R H H' H0 b a
theorem back_D {K : PySem.W.Frag} : Back (RD K) := fun _ _ _ _ _ _ _ h => h
theorem back_A {K : PySem.W.Frag} : Back (RA K) := fun _ _ _ _ _ _ _ h => h
theorem back_B : Back RB := fun _ _ _ _ _ _ _ h => h
theorem back_F {K : PySem.W.Frag} : Back (RF K) := fun _ _ _ _ _ _ s ⟨p, vs, e, h, r⟩ => ⟨p, vs, e, none_sub s h, r⟩
def Post {α β : Type} (K : PySem.W.Frag) (et : ET) (W : WX) (R : Rl α β) (σ : L2.St) (H H0 : Hp) (Q : β → Hp → Prop) : Res α → Prop
  | .ok a => ∀ b H' H0', Step H H0 H' H0' → R H H' H0' b a → Q b H'
  | .exc x d => ∀ C fld dd w H' H0', et x = some (C, fld) → Step H H0 H' H0' → H0' dd = some (.xd [(fld, w)]) → Rep K H0' w d → W (.ref C) (some dd) σ H'
  | .stuck => False
theorem Post.step {α β : Type} {K : PySem.W.Frag} {et : ET} {W : WX} {R : Rl α β} (hR : Back R) {σ : L2.St} {H H0 G G0 : Hp} {Q : β → Hp → Prop} {r : Res α} (s : Step H H0 G G0) (h : Post K et W R σ H H0 Q r) : Post K et W R σ G G0 Q r := by
  cases r with
  | ok a => exact fun b H' H0' t q => h b H' H0' (s.trans t) (hR _ _ _ _ _ _ s.big q)
  | exc x d => exact fun C fld dd w H' H0' e t => h C fld dd w H' H0' e (s.trans t)
  | stuck => exact h
/-- the reading t does what m says -/
def Good {α β : Type} (K : PySem.W.Frag) (et : ET) (ce : Caught) (W : WX) (R : Rl α β) (t : L2.St → Hp → (β → Hp → Prop) → Prop) (m : En → Res α) : Prop :=
  ∀ Hs H0s σ H H0 Γ Q, Stn K et ce Hs H0s σ H H0 Γ → Post K et W R σ H H0 Q (m Γ) → t σ H Q
section
variable {α β γ δ : Type} {K : PySem.W.Frag} {et : ET} {ce : Caught} {W : WX} {σ : L2.St} {H H0 : Hp}
/-- one behind the other -/
theorem Post.next {R : Rl α β} {R2 : Rl γ δ} {Q : δ → Hp → Prop} {Q1 : β → Hp → Prop} {r : Res α} {k : α → Res γ} (h : Post K et W R2 σ H H0 Q (r.bind k))
    (hq : ∀ a b H' H0', r = .ok a → Step H H0 H' H0' → R H H' H0' b a → Post K et W R2 σ H H0 Q (k a) → Q1 b H') : Post K et W R σ H H0 Q1 r := by
  cases r with
  | ok a => exact fun b H' H0' s q => hq a b H' H0' rfl s q h
  | exc x d => exact h
  | stuck => exact h
theorem need_if {c : Prop} [Decidable c] {r : Res α} {R : Rl α β} {Q : β → Hp → Prop} (h : Post K et W R σ H H0 Q (need c r)) : c ∧ Post K et W R σ H H0 Q r := by
  unfold need at h
  split at h
  · rename_i hc; exact ⟨hc, h⟩
  · exact h.elim
end
section
variable (X : Cx) (et : ET) (ce : Caught) (W : WX)
structure DE (e : Expr) (m : En → Res D) : Prop where ex : ∃ t, PE X e t ∧ Good X.K et ce W (RD X.K) t m
structure DO (e : Expr) (m : En → Res D) : Prop where ex : ∃ t, PE X e t ∧ Good X.K et ce W (RO X.K) t m
structure DF (e : Expr) (m : En → Res (List D)) : Prop where ex : ∃ t, PE X e t ∧ Good X.K et ce W (RF X.K) t m
structure DFD (e : Expr) (m : En → Res (List Key × List D)) : Prop where ex : ∃ t, PE X e t ∧ Good X.K et ce W (RFD X.K) t m
structure DA (es : List Expr) (m : En → Res (List D)) : Prop where ex : ∃ t, PA X es t ∧ Good X.K et ce W (RA X.K) t m
structure DT (e : Expr) (m : En → Res Bool) : Prop where ex : ∃ t, PT X e t ∧ Good X.K et ce W RB t m
structure DW (e : Expr) (m : En → Res Bool) : Prop where ex : ∃ t, PW X e t ∧ Good X.K et ce W RB t m
end
/-- what a built-in operation gives: data that stands, a new list, a new tuple -/
inductive Giv where
  | val (d : D)
  | newL (ds : List D)
  | newT (ds : List D)
def Giv.d : Giv → D
  | .val d => d
  | .newL ds => .lst ds
  | .newT ds => .tup ds
def toR : Option Giv → Res D
  | none => .stuck
  | some g => .ok g.d
def toF : Option Giv → Res (List D)
  | some (.newL ds) => .ok ds
  | _ => .stuck
def Asked (K : PySem.W.Frag) (H H0 : Hp) (Q : VK) : Option Giv → Prop
  | none => False
  | some (.val d) => ∀ v, Rep K H0 v d → Q v H
  | some (.newL ds) => ∀ p vs, H p = none → RepAll K H0 vs ds → Q (.ref p) (upd H p (.lst vs))
  | some (.newT ds) => ∀ p vs, H p = none → RepAll K H0 vs ds → Q (.ref p) (upd H p (.tup vs))
section
variable {K : PySem.W.Frag} {et : ET} {W : WX} {σ : L2.St} {H H0 : Hp}
theorem asked {Q : VK} {g : Option Giv} (s : Same H0 H) (h : Post K et W (RD K) σ H H0 Q (toR g)) : Asked K H H0 Q g := by
  match g, h with
  | none, h => exact h
  | some (.val d), h => exact fun v r => h v H H0 (Step.refl s) r
  | some (.newL ds), h => exact fun p vs n r => h _ _ _ (Step.new s n) (Rep.lst upd_same (r.same (same_upd' (Same.refl _) (none_sub s n))))
  | some (.newT ds), h => exact fun p vs n r => h _ _ _ (Step.new s n) (Rep.tup (SqT.of upd_same) (r.same (same_upd' (Same.refl _) (none_sub s n))))
theorem askedF {Q : VK} {g : Option Giv} (s : Same H0 H) (h : Post K et W (RF K) σ H H0 Q (toF g)) : Asked K H H0 Q g := by
  match g, h with
  | none, h => exact h.elim
  | some (.val d), h => exact h.elim
  | some (.newT ds), h => exact h.elim
  | some (.newL ds), h => exact fun p vs n r => h _ _ _ (Step.own s n) ⟨p, vs, rfl, n, upd_same, none_sub s n, r⟩
end
def r1D (K : PySem.W.Frag) (g : D → Option Giv) : V → Hp → VK → Prop := fun x H Q => ∃ H0 d, Same H0 H ∧ RepO K H H0 x d ∧ Asked K H H0 Q (g d)
def r2D (K : PySem.W.Frag) (g : D → D → Option Giv) : R2 := fun x y H Q => ∃ H0 d e, Same H0 H ∧ RepO K H H0 x d ∧ RepO K H H0 y e ∧ Asked K H H0 Q (g d e)
theorem RepO.same {K : PySem.W.Frag} {H H0 H' H0' : Hp} {v : V} {d : D} (s : Step H H0 H' H0') (h : RepO K H H0 v d) : RepO K H' H0' v d := by
  cases d with
  | lst xs => obtain ⟨a, vs, e, q, r⟩ := h; exact ⟨a, vs, e, s.big _ _ q, r.same s.small⟩
  | dic ks xs => obtain ⟨a, kvs, e, q, k, r⟩ := h; exact ⟨a, kvs, e, s.big _ _ q, k, r.same s.small⟩
  | _ => exact Rep.same s.small h
theorem Rep.toO {K : PySem.W.Frag} {H H0 : Hp} {v : V} {d : D} (s : Same H0 H) (h : Rep K H0 v d) : RepO K H H0 v d := by
  cases d with
  | lst xs => cases h with | lst q r => exact ⟨_, _, rfl, s _ _ q, r⟩
  | dic ks xs => cases h with | dic q k r => exact ⟨_, _, rfl, s _ _ q, k, r⟩
  | _ => exact h
section
variable {X : Cx} {et : ET} {ce : Caught} {W : WX} {e a b : Expr} {es : List Expr} {m ma mb : En → Res D} {pos : Pos}
theorem DE.o (h : DE X et ce W e m) : DO X et ce W e m := by
  obtain ⟨t, p, g⟩ := h
  refine ⟨t, p, fun Hs H0s σ H H0 Γ Q c q => g _ _ _ _ _ _ _ c ?_⟩
  revert q
  cases m Γ with
  | ok d => exact fun q v H' H0' s r => q v H' H0' s (r.toO s.sub)
  | exc x d => exact fun q => q
  | stuck => exact fun q => q
/-- a new thing is shared at once -/
theorem DF.all {m : En → Res (List D)} (h : DF X et ce W e m) : DE X et ce W e (fun Γ => (m Γ).bind fun xs => .ok (.lst xs)) := by
  obtain ⟨t, p, g⟩ := h
  refine ⟨t, p, fun Hs H0s σ H H0 Γ Q c q => g _ _ _ _ _ _ _ c ?_⟩
  refine Post.next q fun xs v H' H0' _ s ⟨p, vs, e, hp, hp', h0, r⟩ k => ?_
  subst e
  exact k _ H' _ (Step.share c.sub s hp hp' h0) (.lst upd_same (r.same (same_upd' (Same.refl _) h0)))
theorem DFD.all {m : En → Res (List Key × List D)} (h : DFD X et ce W e m) : DE X et ce W e (fun Γ => (m Γ).bind fun xs => .ok (.dic xs.1 xs.2)) := by
  obtain ⟨t, p, g⟩ := h
  refine ⟨t, p, fun Hs H0s σ H H0 Γ Q c q => g _ _ _ _ _ _ _ c ?_⟩
  refine Post.next q fun xs v H' H0' _ s ⟨p, vs, e, hp, hp', h0, ks, r⟩ k => ?_
  subst e
  exact k _ H' _ (Step.share c.sub s hp hp' h0) (.dic upd_same ks (r.same (same_upd' (Same.refl _) h0)))
def getS (Γ : En) (i : Nat) : Res D := match Γ[i]? with
  | some (.sh d) => .ok d
  | _ => .stuck
/-- where it is only read -/
def getO (Γ : En) (i : Nat) : Res D := match Γ[i]? with
  | some (.sh d) => .ok d
  | some (.own xs) => .ok (.lst xs)
  | some (.ownD ks xs) => .ok (.dic ks xs)
  | _ => .stuck
theorem d_var {i : Nat} (h : PE X e (tVar i)) : DE X et ce W e (fun Γ => getS Γ i) := by
  refine ⟨_, h, fun Hs H0s σ H H0 Γ Q c q => ?_⟩
  unfold getS at q
  dsimp only at q
  split at q
  · rename_i d e
    have z := c.at_ i _ e
    match hv : σ[i]?, z with
    | some (some v), z => exact ⟨v, hv, q v H H0 (Step.refl c.sub) z⟩
  · exact q.elim
theorem d_varO {i : Nat} (h : PE X e (tVar i)) : DO X et ce W e (fun Γ => getO Γ i) := by
  refine ⟨_, h, fun Hs H0s σ H H0 Γ Q c q => ?_⟩
  unfold getO at q
  dsimp only at q
  split at q
  · rename_i d e
    have z := c.at_ i _ e
    match hv : σ[i]?, z with
    | some (some v), z => exact ⟨v, hv, q v H H0 (Step.refl c.sub) (Rep.toO c.sub z)⟩
  · rename_i xs e
    have z := c.at_ i _ e
    match hv : σ[i]?, z with
    | some (some v), ⟨p, vs, ev, hs, hp, h0, r⟩ => exact ⟨v, hv, q v H H0 (Step.refl c.sub) ⟨p, vs, ev, hp, r⟩⟩
  · rename_i ks xs e
    have z := c.at_ i _ e
    match hv : σ[i]?, z with
    | some (some v), ⟨p, kvs, ev, hs, hp, h0, k, r⟩ => exact ⟨v, hv, q v H H0 (Step.refl c.sub) ⟨p, kvs, ev, hp, k, r⟩⟩
  · exact q.elim
theorem d_con {v : V} {d : D} (h : PE X e (tC v)) (r : ∀ H, Rep X.K H v d) : DE X et ce W e (fun _ => .ok d) :=
  ⟨_, h, fun Hs H0s σ H H0 Γ Q c q => q v H H0 (Step.refl c.sub) (r _)⟩
theorem d_int {i : Int} (h : PE X e (tC (.int i))) : DE X et ce W e (fun _ => .ok (.int i)) := d_con h fun _ => .int i
theorem d_bl {i : Bool} (h : PE X e (tC (.bl i))) : DE X et ce W e (fun _ => .ok (.bl i)) := d_con h fun _ => .bl i
theorem d_non (h : PE X e (tC .non)) : DE X et ce W e (fun _ => .ok .non) := d_con h fun _ => .non
theorem da_nil : DA X et ce W [] (fun _ => .ok []) := ⟨_, pa_nil, fun _ _ _ H H0 _ _ c q => q [] H H0 (Step.refl c.sub) .nil⟩
theorem da_cons {ms : En → Res (List D)} (h : DE X et ce W e m) (hs : DA X et ce W es ms) (hst : starEach (e :: es) X.env = (false, eval e X.env) :: starEach es X.env := by rfl) :
    DA X et ce W (e :: es) (fun Γ => (m Γ).bind fun d => (ms Γ).bind fun ds => .ok (d :: ds)) := by
  obtain ⟨t, p, g⟩ := h
  obtain ⟨t2, p2, g2⟩ := hs
  refine ⟨_, pa_cons p p2 hst, fun Hs H0s σ H H0 Γ Q c q => g _ _ _ _ _ _ _ c ?_⟩
  refine Post.next q fun d v H1 H01 _ s r q => g2 _ _ _ _ _ _ _ (c.step s) ?_
  refine Post.next (q.step back_A s) fun ds vs H2 H02 _ s2 r2 q => ?_
  exact q _ _ _ s2 (.cons (r.same s2.small) r2)
theorem d_tup {ms : En → Res (List D)} {x1} (h : DA X et ce W es ms) : DE X et ce W (.Tuple es x1 pos) (fun Γ => (ms Γ).bind fun ds => need (ds.length ≤ 1000) (.ok (.tup ds))) := by
  obtain ⟨t, p, g⟩ := h
  refine ⟨_, pe_tup p, fun Hs H0s σ H H0 Γ Q c q => g _ _ _ _ _ _ _ c ?_⟩
  refine Post.next q fun ds vs H1 H01 _ s r q => ?_
  obtain ⟨hl, q⟩ := need_if q
  refine ⟨by rw [r.len]; exact Nat.le_of_lt (small1000 hl), fun p n => ?_⟩
  exact q _ _ _ (s.trans (Step.new s.sub n)) (.tup (SqT.of upd_same) (r.same (same_upd' (Same.refl _) (none_sub s.sub n))))
theorem d_lst {ms : En → Res (List D)} (h : DA X et ce W es ms) : DF X et ce W (.List es pos) (fun Γ => (ms Γ).bind fun ds => need (ds.length ≤ 1000) (.ok ds)) := by
  obtain ⟨t, p, g⟩ := h
  refine ⟨_, pe_lst p, fun Hs H0s σ H H0 Γ Q c q => g _ _ _ _ _ _ _ c ?_⟩
  refine Post.next q fun ds vs H1 H01 _ s r q => ?_
  obtain ⟨hl, q⟩ := need_if q
  refine ⟨by rw [r.len]; exact Nat.le_of_lt (small1000 hl), fun p n => ?_⟩
  exact q _ _ _ (s.trans (Step.own s.sub n)) ⟨p, vs, rfl, none_sub s.big n, upd_same, none_sub s.sub n, r⟩
theorem good_op {r : R2} {ta tb : TE} {g : D → D → Option Giv} (ga : Good X.K et ce W (RO X.K) ta ma) (gb : Good X.K et ce W (RO X.K) tb mb) :
    Good X.K et ce W (RD X.K) (tOp (r2D X.K g) ta tb) (fun Γ => (ma Γ).bind fun x => (mb Γ).bind fun y => toR (g x y)) := by
  intro Hs H0s σ H H0 Γ Q c q
  refine ga _ _ _ _ _ _ _ c (Post.next q fun d v H1 H01 _ s r q => gb _ _ _ _ _ _ _ (c.step s) ?_)
  refine Post.next (q.step back_D s) fun d2 v2 H2 H02 _ s2 r2 q => ?_
  exact ⟨H02, d, d2, s2.sub, r.same s2, r2, asked (σ := σ) s2.sub (q.step back_D s2)⟩
theorem d_op {op : Operator} {g : D → D → Option Giv} (ho : OpR X (binaryOp op) (r2D X.K g)) (ha : DO X et ce W a ma) (hb : DO X et ce W b mb) :
    DE X et ce W (.BinOp a op b pos) (fun Γ => (ma Γ).bind fun x => (mb Γ).bind fun y => toR (g x y)) := by
  obtain ⟨t, p, ga⟩ := ha
  obtain ⟨t2, p2, gb⟩ := hb
  exact ⟨_, pe_op ho p p2, good_op (r := r2D X.K g) ga gb⟩
theorem d_cmp {op : CmpOp} {g : D → D → Option Giv} (ho : OpR X (compareOp op) (r2D X.K g)) (ha : DO X et ce W a ma) (hb : DO X et ce W b mb) (hm : behindInMarks op b = false) :
    DE X et ce W (.Compare a [op] [b] pos) (fun Γ => (ma Γ).bind fun x => (mb Γ).bind fun y => toR (g x y)) := by
  obtain ⟨t, p, ga⟩ := ha
  obtain ⟨t2, p2, gb⟩ := hb
  exact ⟨_, pe_cmpR ho p p2 hm, good_op (r := r2D X.K g) ga gb⟩
def toB : Res D → Res Bool
  | .ok (.bl b) => .ok b
  | .exc x d => .exc x d
  | _ => .stuck
theorem post_B {K : PySem.W.Frag} {σ : L2.St} {H H0 : Hp} {Q : Bool → Hp → Prop} {r : Res D} (h : Post K et W RB σ H H0 Q (toB r)) : Post K et W (RD K) σ H H0 (fun x H' => ∃ k, x = .bl k ∧ Q k H') r := by
  match r, h with
  | .ok (.bl k), h => exact fun v H' H0' s q => by cases (show Rep K H0' v (.bl k) from q) with | bl => exact ⟨k, rfl, h k H' H0' s rfl⟩
  | .exc x d, h => exact h
theorem dt_cmp {op : CmpOp} {g : D → D → Option Giv} (ho : OpR X (compareOp op) (r2D X.K g)) (ha : DO X et ce W a ma) (hb : DO X et ce W b mb) (hm : behindInMarks op b = false) :
    DT X et ce W (.Compare a [op] [b] pos) (fun Γ => toB ((ma Γ).bind fun x => (mb Γ).bind fun y => toR (g x y))) := by
  obtain ⟨t, p, ga⟩ := ha
  obtain ⟨t2, p2, gb⟩ := hb
  exact ⟨_, pt_cmpR ho p p2 hm, fun Hs H0s σ H H0 Γ Q c q => good_op (r := r2D X.K g) ga gb _ _ _ _ _ _ _ c (post_B q)⟩
/-- an expression that gives a bool, as a test -/
theorem dt_val (h : DE X et ce W e m) (hp : ∀ t, PE X e t → PT X e (tB t)) : DT X et ce W e (fun Γ => toB (m Γ)) := by
  obtain ⟨t, p, g⟩ := h
  exact ⟨_, hp t p, fun Hs H0s σ H H0 Γ Q c q => g _ _ _ _ _ _ _ c (post_B q)⟩
theorem d_un {op : UnaryOp} {g : D → Option Giv} (ho : UnR X (unaryOp op) (r1D X.K g)) (ha : DO X et ce W a ma) : DE X et ce W (.UnaryOp op a pos) (fun Γ => (ma Γ).bind fun x => toR (g x)) := by
  obtain ⟨t, p, ga⟩ := ha
  refine ⟨_, pe_un ho p, fun Hs H0s σ H H0 Γ Q c q => ga _ _ _ _ _ _ _ c (Post.next q fun d v H1 H01 _ s r q => ?_)⟩
  exact ⟨H01, d, s.sub, r, asked (σ := σ) s.sub (q.step back_D s)⟩
end
end DL
namespace DL
open PySem L2 PySem.Spec PyProof.Rows
/-- where a statement ends -/
inductive Out where
  | nx (Γ : En)
  | rt (s : Slot)
  | bk (Γ : En)
  | ct (Γ : En)
  | exc (x : String) (d : D) (Γ : En)
  | stuck
def PostS (K : PySem.W.Frag) (et : ET) (ce : Caught) (W : WX) (Hs H0s H0 : Hp) (E : Ends) : Out → Prop
  | .nx Γ => ∀ σ H G, Stn K et ce Hs H0s σ H G Γ → Same H0 G → E.nx σ H
  | .bk Γ => ∀ σ H G, Stn K et ce Hs H0s σ H G Γ → Same H0 G → E.bk σ H
  | .ct Γ => ∀ σ H G, Stn K et ce Hs H0s σ H G Γ → Same H0 G → E.ct σ H
  | .rt s => ∀ v H G, Step Hs H0s H G → Holds K et none Hs H G (some (some v)) s → E.rt v H
  | .exc x d Γ => ∀ C fld dd w σ H G, et x = some (C, fld) → Stn K et ce Hs H0s σ H G Γ → Same H0 G → G dd = some (.xd [(fld, w)]) → Rep K G w d → W (.ref C) (some dd) σ H
  | .stuck => False
theorem PostS.up {K : PySem.W.Frag} {et : ET} {ce : Caught} {W : WX} {Hs H0s H0 G0 : Hp} {E : Ends} {o : Out} (s : Same H0 G0) (h : PostS K et ce W Hs H0s H0 E o) : PostS K et ce W Hs H0s G0 E o := by
  cases o with
  | nx Γ => exact fun σ H G c g => h σ H G c (Same.trans s g)
  | bk Γ => exact fun σ H G c g => h σ H G c (Same.trans s g)
  | ct Γ => exact fun σ H G c g => h σ H G c (Same.trans s g)
  | rt s => exact h
  | exc x d Γ => exact fun C fld dd w σ H G e c g => h C fld dd w σ H G e c (Same.trans s g)
  | stuck => exact h
def GoodS (K : PySem.W.Frag) (et : ET) (ce : Caught) (W : WX) (t : TS) (m : En → Out) : Prop :=
  ∀ Hs H0s σ H H0 Γ E, Stn K et ce Hs H0s σ H H0 Γ → PostS K et ce W Hs H0s H0 E (m Γ) → t E σ H
structure DS (X : Cx) (et : ET) (ce : Caught) (W : WX) (st : Stmt) (m : En → Out) : Prop where ex : ∃ t, PS X st t ∧ GoodS X.K et ce W t m
structure DSs (X : Cx) (et : ET) (ce : Caught) (W : WX) (st : List Stmt) (m : En → Out) : Prop where ex : ∃ t, PSs X st t ∧ GoodS X.K et ce W t m
def mTo {α : Type} (r : Res α) (Γ : En) (k : α → Out) : Out := match r with
  | .ok a => k a
  | .exc x d => .exc x d Γ
  | .stuck => .stuck
section
variable {α β : Type} {K : PySem.W.Frag} {et : ET} {ce : Caught} {W : WX} {σ : L2.St} {Hs H0s H H0 : Hp} {Γ : En} {E : Ends}
theorem PostS.to {R : Rl α β} {Q1 : β → Hp → Prop} {r : Res α} {k : α → Out} (c : Stn K et ce Hs H0s σ H H0 Γ) (h : PostS K et ce W Hs H0s H0 E (mTo r Γ k))
    (hq : ∀ a b H' G, r = .ok a → Step H H0 H' G → R H H' G b a → PostS K et ce W Hs H0s H0 E (k a) → Q1 b H') : Post K et W R σ H H0 Q1 r := by
  cases r with
  | ok a => exact fun b H' G s q => hq a b H' G rfl s q h
  | exc x d => exact fun C fld dd w H' G e s hd r => h C fld dd w σ H' G e (c.step s) s.small hd r
  | stuck => exact h
end
section
variable {X : Cx} {et : ET} {ce : Caught} {W : WX} {st : Stmt} {sts : List Stmt} {e a b c : Expr} {es : List Expr} {m ma mb : En → Res D} {pos : Pos} {ms mr : En → Out}
def mSeq (ms mr : En → Out) (Γ : En) : Out := match ms Γ with
  | .nx Γ' => mr Γ'
  | o => o
theorem ds_nil : DSs X et ce W [] (fun Γ => .nx Γ) := ⟨_, pss_nil, fun _ _ σ H H0 Γ E c q => q σ H H0 c (Same.refl _)⟩
theorem ds_one (h : DS X et ce W st ms) : DSs X et ce W [st] ms := by
  obtain ⟨t, p, g⟩ := h
  exact ⟨_, pss_one p, g⟩
theorem ds_cons (h : DS X et ce W st ms) (hr : DSs X et ce W sts mr) : DSs X et ce W (st :: sts) (mSeq ms mr) := by
  obtain ⟨t, p, g⟩ := h
  obtain ⟨t2, p2, g2⟩ := hr
  refine ⟨_, pss_cons p p2, fun Hs H0s σ H H0 Γ E c q => g _ _ _ _ _ _ _ c ?_⟩
  unfold mSeq at q
  revert q
  cases ms Γ with
  | nx Γ' => exact fun q σ' H' G c' s => g2 _ _ _ _ _ _ _ c' (q.up s)
  | bk Γ' => exact fun q => q
  | ct Γ' => exact fun q => q
  | rt s => exact fun q => q
  | exc x d Γ' => exact fun q => q
  | stuck => exact fun q => q
/-- the places of vs alone are other -/
def OnlyAt (vs : List Nat) (σ σ' : L2.St) : Prop := σ'.length = σ.length ∧ ∀ j, j ∉ vs → σ'[j]? = σ[j]?
theorem OnlyAt.refl {vs : List Nat} {σ : L2.St} : OnlyAt vs σ σ := ⟨rfl, fun _ _ => rfl⟩
theorem OnlyAt.trans {vs : List Nat} {σ τ υ : L2.St} (h : OnlyAt vs σ τ) (g : OnlyAt vs τ υ) : OnlyAt vs σ υ := ⟨g.1.trans h.1, fun j hj => (g.2 j hj).trans (h.2 j hj)⟩
theorem OnlyAt.set {vs : List Nat} {σ : L2.St} {i : Nat} {x : Option V} (h : i ∈ vs) : OnlyAt vs σ (σ.set i x) := ⟨by simp, fun j hj => List.getElem?_set_ne (fun z => hj (by rw [← z]; exact h))⟩
structure GoodG (K : PySem.W.Frag) (et : ET) (ce : Caught) (vs : List Nat) (g : TG) (mg : D → En → Option En) : Prop where
  go : ∀ Hs H0s σ H H0 Γ x d Γ' (Q : L2.St → Hp → Prop), Stn K et ce Hs H0s σ H H0 Γ → Rep K H0 x d → mg d Γ = some Γ' → (∀ σ', OnlyAt vs σ σ' → Stn K et ce Hs H0s σ' H H0 Γ' → Q σ' H) → g x σ H Q
def bName (i : Nat) (d : D) (Γ : En) : Option En := some (Γ.set i (.sh d))
theorem good_name {K : PySem.W.Frag} {i : Nat} {vs : List Nat} (h : i ∈ vs) : GoodG K et ce vs (gName i) (bName i) :=
  ⟨fun Hs H0s σ H H0 Γ x d Γ' Q c r e k => by cases e; exact k _ (OnlyAt.set h) (c.put i r)⟩
/-- names for the items of a tuple -/
def bTup : List (D → En → Option En) → List D → En → Option En
  | [], [], Γ => some Γ
  | f :: fs, d :: ds, Γ => (f d Γ).bind fun Γ' => bTup fs ds Γ'
  | _, _, _ => none
inductive GoodGL (K : PySem.W.Frag) (et : ET) (ce : Caught) (vs : List Nat) : TGs → List (D → En → Option En) → Prop
  | nil : GoodGL K et ce vs gNil []
  | cons {g : TG} {gs : TGs} {f : D → En → Option En} {fs : List (D → En → Option En)} : GoodG K et ce vs g f → GoodGL K et ce vs gs fs → GoodGL K et ce vs (gCons g gs) (f :: fs)
theorem GoodGL.len {K : PySem.W.Frag} : ∀ {fs : List (D → En → Option En)} {ds : List D} {Γ Γ' : En}, bTup fs ds Γ = some Γ' → ds.length = fs.length
  | [], [], _, _, _ => rfl
  | f :: fs, d :: ds, Γ, Γ', e => by
    unfold bTup at e
    cases h : f d Γ with
    | none => rw [h] at e; cases e
    | some Γ1 => rw [h] at e; exact congrArg Nat.succ (GoodGL.len (K := K) e)
  | [], _ :: _, _, _, e => by cases e
  | _ :: _, [], _, _, e => by cases e
theorem GoodGL.go {K : PySem.W.Frag} {vs : List Nat} {g : TGs} {fs : List (D → En → Option En)} (h : GoodGL K et ce vs g fs) : ∀ {Hs H0s σ H H0 Γ xs ds Γ'} {Q : L2.St → Hp → Prop}, Stn K et ce Hs H0s σ H H0 Γ → RepAll K H0 xs ds → bTup fs ds Γ = some Γ' →
    (∀ σ', OnlyAt vs σ σ' → Stn K et ce Hs H0s σ' H H0 Γ' → Q σ' H) → g xs σ H Q := by
  induction h with
  | nil =>
    intro Hs H0s σ H H0 Γ xs ds Γ' Q c r e k
    cases r with
    | nil => cases e; exact ⟨rfl, k _ OnlyAt.refl c⟩
    | cons _ _ => cases e
  | @cons g gs f fs hg _ ih =>
    intro Hs H0s σ H H0 Γ xs ds Γ' Q c r e k
    cases r with
    | nil => cases e
    | @cons v vs' d ds r rt =>
      unfold bTup at e
      cases h : f d Γ with
      | none => rw [h] at e; cases e
      | some Γ1 =>
        rw [h] at e
        exact ⟨_, _, rfl, hg.go _ _ _ _ _ _ _ _ _ _ c r h fun σ1 o1 c1 => ih c1 rt e fun σ2 o2 c2 => k σ2 (OnlyAt.trans o1 o2) c2⟩
def bOfTup (fs : List (D → En → Option En)) (d : D) (Γ : En) : Option En := match d with
  | .tup ds => bTup fs ds Γ
  | _ => none
theorem good_tup {K : PySem.W.Frag} {vs : List Nat} {g : TGs} {fs : List (D → En → Option En)} {n : Nat} (h : GoodGL K et ce vs g fs) (hn : n = fs.length) : GoodG K et ce vs (gTup K n g) (bOfTup fs) := by
  refine ⟨fun Hs H0s σ H H0 Γ x d Γ' Q c r e k => ?_⟩
  cases r with
  | tup hs ra =>
    have e : bTup fs _ Γ = some Γ' := e
    exact ⟨_, _, rfl, seqT_same c.sub hs, by rw [ra.len, GoodGL.len (K := K) e, hn], h.go c ra e k⟩
  | _ => cases e
def mSet (i : Nat) (m : En → Res D) (Γ : En) : Out := mTo (m Γ) Γ fun d => .nx (Γ.set i (.sh d))
def mSetF (i : Nat) (m : En → Res (List D)) (Γ : En) : Out := mTo (m Γ) Γ fun d => .nx (Γ.set i (.own d))
def mSetFD (i : Nat) (m : En → Res (List Key × List D)) (Γ : En) : Out := mTo (m Γ) Γ fun d => .nx (Γ.set i (.ownD d.1 d.2))
def mAsg (mg : D → En → Option En) (m : En → Res D) (Γ : En) : Out := mTo (m Γ) Γ fun d => match mg d Γ with
  | some Γ' => .nx Γ'
  | none => .stuck
theorem ds_asg {g : TG} {mg : D → En → Option En} {vs : List Nat} (hp : ∀ te, PE X e te → PS X st (tAsg te g)) (hg : GoodG X.K et ce vs g mg) (h : DE X et ce W e m) : DS X et ce W st (mAsg mg m) := by
  obtain ⟨t, p, ge⟩ := h
  refine ⟨_, hp t p, fun Hs H0s σ H H0 Γ E c q => ge _ _ _ _ _ _ _ c ?_⟩
  refine PostS.to c q fun d v H' G _ s r q => ?_
  cases hm : mg d Γ with
  | none => rw [hm] at q; exact q.elim
  | some Γ' =>
    rw [hm] at q
    exact hg.go _ _ _ _ _ _ _ _ _ _ (c.step s) r hm fun σ' _ c' => q σ' H' G c' s.small
theorem ds_set {i : Nat} (hp : ∀ te, PE X e te → PS X st (tAsg te (gName i))) (h : DE X et ce W e m) : DS X et ce W st (mSet i m) := by
  obtain ⟨t, p, ge⟩ := h
  refine ⟨_, hp t p, fun Hs H0s σ H H0 Γ E c q => ge _ _ _ _ _ _ _ c ?_⟩
  exact PostS.to c q fun d v H' G _ s r q => q _ H' G ((c.step s).put i r) s.small
end
end DL
namespace DL
open PySem L2 PySem.Spec PyProof.Rows
section
variable {K : PySem.W.Frag} {et : ET} {ce : Caught} {Hs H0s H H0 H' G : Hp} {σ : L2.St} {Γ : En}
theorem get_lt {α : Type} {l : List α} {i : Nat} {x y : α} (h : (l.set i x)[i]? = some y) : i < l.length := by
  have := (List.getElem?_eq_some_iff.mp h).1
  simpa using this
theorem Stn.none_of (c : Stn K et ce Hs H0s σ H H0 Γ) {p : Addr} (h : H p = none) : Hs p = none := none_sub c.st.big h
/-- what stands alone in a slot is tracked -/
theorem Stn.tracked (c : Stn K et ce Hs H0s σ H H0 Γ) {i : Nat} {s : Slot} {p : Addr} (e : Γ[i]? = some s) (a : s.alone = true) (v : σ[i]? = some (some (.ref p))) : ∃ o, H p = some o ∧ H0 p = none := by
  have z := c.at_ i s e
  rw [v] at z
  cases s with
  | own xs => obtain ⟨q, vs, ev, _, hp, h0, _⟩ := z; cases ev; exact ⟨_, hp, h0⟩
  | ownD ks xs => obtain ⟨q, vs, ev, _, hp, h0, _⟩ := z; cases ev; exact ⟨_, hp, h0⟩
  | ownO q C ns xs => obtain ⟨ev, dx, fs, _, hp, h0, _⟩ := z; cases ev; exact ⟨_, hp, h0⟩
  | _ => cases a
/-- .. and no locked dict -/
theorem Stn.unfrz (c : Stn K et ce Hs H0s σ H H0 Γ) {i : Nat} {s : Slot} {p : Addr} (e : Γ[i]? = some s) (a : s.alone = true) (v : σ[i]? = some (some (.ref p))) {q : Addr} {od : Obj} {u : HO} (hq : H q = some (.frz od u)) : q ≠ p := fun zq => by
  subst zq
  have z := c.at_ i s e
  rw [v] at z
  cases s with
  | own xs => obtain ⟨q', vs, ev, _, hp, _⟩ := z; cases ev; rw [hp] at hq; cases hq
  | ownD ks xs => obtain ⟨q', vs, ev, _, hp, _⟩ := z; cases ev; rw [hp] at hq; cases hq
  | ownO q' C ns xs => obtain ⟨ev, dx, fs, _, hp, _⟩ := z; cases ev; rw [hp] at hq; cases hq
  | _ => cases a
/-- a new thing that nothing else holds comes into a slot -/
theorem Stn.putNew (c : Stn K et ce Hs H0s σ H H0 Γ) (st : Step H H0 H' G) (i : Nat) {p : Addr} {s : Slot} (hn : H p = none) (h : Holds K et ce Hs H' G (some (some (.ref p))) s) :
    Stn K et ce Hs H0s (σ.set i (some (.ref p))) H' G (Γ.set i s) := by
  have c' := c.step st
  refine ⟨c.z, c'.st, by simpa using c.len, fun j t e => ?_, fun j k t u q ej ek aj ak hj hk => ?_⟩
  · by_cases hj : i = j
    · subst hj
      have hi := get_lt e
      rw [List.getElem?_set_self hi] at e
      cases e
      rw [List.getElem?_set_self (Nat.lt_of_lt_of_le hi c.len)]
      exact h
    · rw [List.getElem?_set_ne hj] at e ⊢
      exact c'.at_ j t e
  · have other : ∀ {k : Nat} {u : Slot}, i ≠ k → (Γ.set i s)[k]? = some u → u.alone = true → (σ.set i (some (.ref p)))[k]? = some (some (.ref p)) → False := fun {k u} ne ek ak hk => by
      rw [List.getElem?_set_ne ne] at ek hk
      obtain ⟨o, ho, _⟩ := c.tracked ek ak hk
      rw [hn] at ho; cases ho
    by_cases nj : i = j
    · by_cases nk : i = k
      · exact nj.symm.trans nk
      · subst nj
        have hi := get_lt ej
        rw [List.getElem?_set_self (Nat.lt_of_lt_of_le hi c.len)] at hj
        cases hj
        exact (other nk ek ak hk).elim
    · by_cases nk : i = k
      · subst nk
        have hi := get_lt ek
        rw [List.getElem?_set_self (Nat.lt_of_lt_of_le hi c.len)] at hk
        cases hk
        exact (other nj ej aj hj).elim
      · rw [List.getElem?_set_ne nj] at ej hj
        rw [List.getElem?_set_ne nk] at ek hk
        exact c.one j k t u q ej ek aj ak hj hk
/-- a thing that stands alone in a slot is written -/
theorem Stn.write (c : Stn K et ce Hs H0s σ H H0 Γ) {i : Nat} {s t : Slot} {p : Addr} {o : HO} (e : Γ[i]? = some s) (a : s.alone = true) (v : σ[i]? = some (some (.ref p))) (hs : Hs p = none)
    (h : Holds K et ce Hs (upd H p o) H0 (some (some (.ref p))) t) : Stn K et ce Hs H0s σ (upd H p o) H0 (Γ.set i t) := by
  obtain ⟨o0, hp, h0⟩ := c.tracked e a v
  have sub : Same H0 (upd H p o) := fun b u q => by
    rw [upd_ne (fun z => by rw [z, h0] at q; cases q)]
    exact c.sub b u q
  refine ⟨c.z, ⟨fun b u q => ?_, c.st.small, sub, c.st.apart⟩, by simpa using c.len, fun j u e' => ?_, fun j k u w q ej ek aj ak hj hk => ?_⟩
  · rw [upd_ne (fun z => by rw [z, hs] at q; cases q)]
    exact c.st.big b u q
  · by_cases hj : i = j
    · subst hj
      rw [List.getElem?_set_self (get_lt e')] at e'
      cases e'
      rw [v]
      exact h
    · rw [List.getElem?_set_ne hj] at e'
      have z := c.at_ j u e'
      have ne : ∀ {q : Addr}, u.alone = true → σ[j]? = some (some (.ref q)) → q ≠ p := fun {q} au hq z => by
        subst z
        exact hj (c.one i j s u q e e' a au v hq)
      cases u with
      | un => cases σ[j]? <;> trivial
      | sh d =>
        match hv : σ[j]?, z with
        | some (some w), z => exact z
      | own xs =>
        match hv : σ[j]?, z with
        | some (some w), ⟨q, vs, ew, hsq, hq, h0q, r⟩ =>
          subst ew
          exact ⟨q, vs, rfl, hsq, by rw [upd_ne (ne rfl hv)]; exact hq, h0q, r⟩
      | ownD ks xs =>
        match hv : σ[j]?, z with
        | some (some w), ⟨q, vs, ew, hsq, hq, h0q, r⟩ =>
          subst ew
          exact ⟨q, vs, rfl, hsq, by rw [upd_ne (ne rfl hv)]; exact hq, h0q, r⟩
      | ownO q C ns xs =>
        match hv : σ[j]?, z with
        | some (some w), ⟨ew, dx, fs, hsq, hq, h0q, r⟩ =>
          subst ew
          exact ⟨rfl, dx, fs, hsq, by rw [upd_ne (ne rfl hv)]; exact hq, h0q, r⟩
      | er x d =>
        match hv : σ[j]?, z with
        | some (some w), z => exact z
      | lk ks xs =>
        match hv : σ[j]?, z with
        | some (some w), ⟨q, od, kvs, e1, ew, hq, h0q, k, r⟩ => exact ⟨q, od, kvs, e1, ew, by rw [upd_ne (c.unfrz e a v hq)]; exact hq, h0q, k, r⟩
  · have old : ∀ {k : Nat} {w : Slot}, (Γ.set i t)[k]? = some w → w.alone = true → ∃ w', Γ[k]? = some w' ∧ (i ≠ k → w' = w) := fun {k w} ek _ => by
      by_cases nk : i = k
      · subst nk
        exact ⟨s, e, fun z => absurd rfl z⟩
      · rw [List.getElem?_set_ne nk] at ek
        exact ⟨w, ek, fun _ => rfl⟩
    by_cases nj : i = j
    · by_cases nk : i = k
      · exact nj.symm.trans nk
      · subst nj
        rw [List.getElem?_set_ne nk] at ek
        exact c.one i k s w q e ek a ak hj hk
    · by_cases nk : i = k
      · subst nk
        rw [List.getElem?_set_ne nj] at ej
        exact c.one j i u s q ej e aj a hj hk
      · rw [List.getElem?_set_ne nj] at ej
        rw [List.getElem?_set_ne nk] at ek
        exact c.one j k u w q ej ek aj ak hj hk
/-- it becomes shared -/
theorem Stn.freeze (c : Stn K et ce Hs H0s σ H H0 Γ) {i : Nat} {s : Slot} {p : Addr} {o : HO} {d : D} (e : Γ[i]? = some s) (a : s.alone = true) (v : σ[i]? = some (some (.ref p))) (hs : Hs p = none) (hp : H p = some o)
    (r : Rep K (upd H0 p o) (.ref p) d) : Stn K et ce Hs H0s σ H (upd H0 p o) (Γ.set i (.sh d)) := by
  obtain ⟨_, _, h0⟩ := c.tracked e a v
  have up : Same H0 (upd H0 p o) := same_upd' (Same.refl _) h0
  refine ⟨c.z, Step.share c.z c.st hs hp h0, by simpa using c.len, fun j u e' => ?_, fun j k u w q ej ek aj ak hj hk => ?_⟩
  · by_cases hj : i = j
    · subst hj
      rw [List.getElem?_set_self (get_lt e')] at e'
      cases e'
      rw [v]
      exact r
    · rw [List.getElem?_set_ne hj] at e'
      have z := c.at_ j u e'
      have ne : ∀ {q : Addr}, u.alone = true → σ[j]? = some (some (.ref q)) → q ≠ p := fun {q} au hq z => by
        subst z
        exact hj (c.one i j s u q e e' a au v hq)
      cases u with
      | un => cases σ[j]? <;> trivial
      | sh d =>
        match hv : σ[j]?, z with
        | some (some w), z => exact Rep.same up z
      | own xs =>
        match hv : σ[j]?, z with
        | some (some w), ⟨q, vs, ew, hsq, hq, h0q, r⟩ =>
          subst ew
          exact ⟨q, vs, rfl, hsq, hq, by rw [upd_ne (ne rfl hv)]; exact h0q, r.same up⟩
      | ownD ks xs =>
        match hv : σ[j]?, z with
        | some (some w), ⟨q, vs, ew, hsq, hq, h0q, k, r⟩ =>
          subst ew
          exact ⟨q, vs, rfl, hsq, hq, by rw [upd_ne (ne rfl hv)]; exact h0q, k, r.same up⟩
      | ownO q C ns xs =>
        match hv : σ[j]?, z with
        | some (some w), ⟨ew, dx, fs, hsq, hq, h0q, k, r⟩ =>
          subst ew
          exact ⟨rfl, dx, fs, hsq, hq, by rw [upd_ne (ne rfl hv)]; exact h0q, k, r.same up⟩
      | er x d =>
        match hv : σ[j]?, z with
        | some (some w), ⟨a, C, fld, dd, w2, e1, e2, e3, e4, r⟩ => exact ⟨a, C, fld, dd, w2, e1, e2, e3, up _ _ e4, r.same up⟩
      | lk ks xs =>
        match hv : σ[j]?, z with
        | some (some w), ⟨q, od, kvs, e1, ew, hq, h0q, k, r⟩ => exact ⟨q, od, kvs, e1, ew, hq, by rw [upd_ne (c.unfrz e a v hq)]; exact h0q, k, r.same up⟩
  · have nj : i ≠ j := fun z => by subst z; rw [List.getElem?_set_self (get_lt ej)] at ej; cases ej; cases aj
    have nk : i ≠ k := fun z => by subst z; rw [List.getElem?_set_self (get_lt ek)] at ek; cases ek; cases ak
    rw [List.getElem?_set_ne nj] at ej
    rw [List.getElem?_set_ne nk] at ek
    exact c.one j k u w q ej ek aj ak hj hk
end
/-- a thing that stood alone is shared from here on -/
def frz (i : Nat) (Γ : En) : En := match Γ[i]? with
  | some (.own xs) => Γ.set i (.sh (.lst xs))
  | some (.ownD ks xs) => Γ.set i (.sh (.dic ks xs))
  | _ => Γ
theorem frz_stn {K : PySem.W.Frag} {et : ET} {ce : Caught} {Hs H0s H H0 : Hp} {σ : L2.St} {Γ : En} (i : Nat) (c : Stn K et ce Hs H0s σ H H0 Γ) : ∃ G, Same H0 G ∧ Stn K et ce Hs H0s σ H G (frz i Γ) := by
  unfold frz
  split
  · rename_i xs e
    have z := c.at_ i _ e
    match hv : σ[i]?, z with
    | some (some v), ⟨p, vs, ev, hs, hp, h0, r⟩ =>
      subst ev
      exact ⟨_, same_upd' (Same.refl _) h0, c.freeze e rfl hv hs hp (.lst upd_same (r.same (same_upd' (Same.refl _) h0)))⟩
  · rename_i ks xs e
    have z := c.at_ i _ e
    match hv : σ[i]?, z with
    | some (some v), ⟨p, kvs, ev, hs, hp, h0, k, r⟩ =>
      subst ev
      exact ⟨_, same_upd' (Same.refl _) h0, c.freeze e rfl hv hs hp (.dic upd_same k (r.same (same_upd' (Same.refl _) h0)))⟩
  · exact ⟨H0, Same.refl _, c⟩
section
variable {X : Cx} {et : ET} {ce : Caught} {W : WX} {st : Stmt} {sts : List Stmt} {e a b : Expr} {es : List Expr} {m ma mb : En → Res D} {mt : En → Res Bool} {pos : Pos} {ms mr : En → Out}
theorem ds_frz (i : Nat) (h : DS X et ce W st ms) : DS X et ce W st (fun Γ => ms (frz i Γ)) := by
  obtain ⟨t, p, g⟩ := h
  refine ⟨t, p, fun Hs H0s σ H H0 Γ E c q => ?_⟩
  obtain ⟨G, s, c'⟩ := frz_stn i c
  exact g _ _ _ _ _ _ _ c' (q.up s)
theorem ds_setF {i : Nat} {m : En → Res (List D)} (hp : ∀ te, PE X e te → PS X st (tAsg te (gName i))) (h : DF X et ce W e m) : DS X et ce W st (mSetF i m) := by
  obtain ⟨t, p, ge⟩ := h
  refine ⟨_, hp t p, fun Hs H0s σ H H0 Γ E c q => ge _ _ _ _ _ _ _ c ?_⟩
  refine PostS.to c q fun xs v H' G _ s ⟨p, vs, ev, hn, hp', h0, r⟩ q => ?_
  subst ev
  exact q _ H' G (c.putNew s i hn ⟨p, vs, rfl, c.none_of hn, hp', h0, r⟩) s.small
theorem ds_setFD {i : Nat} {m : En → Res (List Key × List D)} (hp : ∀ te, PE X e te → PS X st (tAsg te (gName i))) (h : DFD X et ce W e m) : DS X et ce W st (mSetFD i m) := by
  obtain ⟨t, p, ge⟩ := h
  refine ⟨_, hp t p, fun Hs H0s σ H H0 Γ E c q => ge _ _ _ _ _ _ _ c ?_⟩
  refine PostS.to c q fun xs v H' G _ s ⟨p, vs, ev, hn, hp', h0, k, r⟩ q => ?_
  subst ev
  exact q _ H' G (c.putNew s i hn ⟨p, vs, rfl, c.none_of hn, hp', h0, k, r⟩) s.small
def mRet (m : En → Res D) (Γ : En) : Out := mTo (m Γ) Γ fun d => .rt (.sh d)
def mRetF (m : En → Res (List D)) (Γ : En) : Out := mTo (m Γ) Γ fun d => .rt (.own d)
/-- return of a name whose thing nothing else holds -/
def mRetO (i : Nat) (Γ : En) : Out := match Γ[i]? with
  | some (.own xs) => .rt (.own xs)
  | some (.ownD ks xs) => .rt (.ownD ks xs)
  | some (.sh d) => .rt (.sh d)
  | _ => .stuck
theorem ds_ret (h : DE X et ce W e m) : DS X et ce W (.Return (some e) pos) (mRet m) := by
  obtain ⟨t, p, ge⟩ := h
  refine ⟨_, ps_ret p, fun Hs H0s σ H H0 Γ E c q => ge _ _ _ _ _ _ _ c ?_⟩
  exact PostS.to c q fun d v H' G _ s r q => q v H' G (c.st.trans s) r
theorem ds_retF {m : En → Res (List D)} (h : DF X et ce W e m) : DS X et ce W (.Return (some e) pos) (mRetF m) := by
  obtain ⟨t, p, ge⟩ := h
  refine ⟨_, ps_ret p, fun Hs H0s σ H H0 Γ E c q => ge _ _ _ _ _ _ _ c ?_⟩
  exact PostS.to c q fun xs v H' G _ s ⟨p, vs, ev, hn, hp', h0, r⟩ q => q v H' G (c.st.trans s) ⟨p, vs, ev, c.none_of hn, hp', h0, r⟩
theorem ds_retO {i : Nat} (h : PE X e (tVar i)) : DS X et ce W (.Return (some e) pos) (mRetO i) := by
  refine ⟨_, ps_ret h, fun Hs H0s σ H H0 Γ E c q => ?_⟩
  unfold mRetO at q
  split at q
  · rename_i xs e
    have z := c.at_ i _ e
    match hv : σ[i]?, z with
    | some (some v), z => exact ⟨v, hv, q v H H0 c.st z⟩
  · rename_i ks xs e
    have z := c.at_ i _ e
    match hv : σ[i]?, z with
    | some (some v), z => exact ⟨v, hv, q v H H0 c.st z⟩
  · rename_i d e
    have z := c.at_ i _ e
    match hv : σ[i]?, z with
    | some (some v), z => exact ⟨v, hv, q v H H0 c.st z⟩
  · exact q.elim
def mIf (mt : En → Res Bool) (ms mr : En → Out) (Γ : En) : Out := mTo (mt Γ) Γ fun b => if b = true then ms Γ else mr Γ
theorem ds_if {c : Expr} {x y : List Stmt} (hc : DT X et ce W c mt) (ha : DSs X et ce W x ms) (hb : DSs X et ce W y mr) : DS X et ce W (.If c x y pos) (mIf mt ms mr) := by
  obtain ⟨t, p, g⟩ := hc
  obtain ⟨t1, p1, g1⟩ := ha
  obtain ⟨t2, p2, g2⟩ := hb
  refine ⟨_, ps_if p p1 p2, fun Hs H0s σ H H0 Γ E c q => g _ _ _ _ _ _ _ c ?_⟩
  refine PostS.to c q fun b b' H' G _ s r q => ?_
  cases (r : b' = b)
  cases b with
  | true => exact iteT (g1 _ _ _ _ _ _ _ (c.step s) (q.up s.small))
  | false => exact iteF (g2 _ _ _ _ _ _ _ (c.step s) (q.up s.small))
def mApp (i : Nat) (m : En → Res D) (Γ : En) : Out := match Γ[i]? with
  | some (.own xs) => mTo (m Γ) Γ fun d => if xs.length < 1000000 then .nx (Γ.set i (.own (xs ++ [d]))) else .stuck
  | _ => .stuck
theorem big_line {n : Nat} (h : n < 1000000) : n < sizeLine := by rw [sizeLine_eq]; omega
theorem ds_app {i : Nat} (hp : ∀ te, PE X e te → PS X st (tDrop (tBM X.K "list" rAppend (tVar i) (tCons te tNil)))) (h : DE X et ce W e m) : DS X et ce W st (mApp i m) := by
  obtain ⟨t, p, ge⟩ := h
  refine ⟨_, hp t p, fun Hs H0s σ H H0 Γ E c q => ?_⟩
  unfold mApp at q
  split at q
  · rename_i xs e
    have z := c.at_ i _ e
    match hv : σ[i]?, z with
    | some (some v), ⟨p, vs, ev, hs, hp', h0, r⟩ =>
      subst ev
      refine ⟨_, hv, .inl ⟨rfl, vs, SqL.of hp'⟩, ge _ _ _ _ _ _ _ c (PostS.to c q fun d v H' G _ s rv q => ?_)⟩
      have c' := c.step s
      have hp2 := s.big _ _ hp'
      split at q
      · rename_i hl
        refine ⟨p, vs, v, rfl, rfl, hp2, big_line (by rw [r.len]; exact hl), ?_⟩
        exact q _ _ G (c'.write e rfl hv hs ⟨p, vs ++ [v], rfl, hs, upd_same, s.apart _ _ hp' h0, (r.same s.small).app (.cons rv .nil)⟩) s.small
      · exact q.elim
  · exact q.elim
/-- x op= e -/
def mAug (i : Nat) (g : D → D → Option Giv) (m : En → Res D) (Γ : En) : Out := mTo (getS Γ i) Γ fun x => mTo (m Γ) Γ fun y => mTo (toR (g x y)) Γ fun d => .nx (Γ.set i (.sh d))
theorem ds_aug {i : Nat} {g : D → D → Option Giv} (hp : ∀ te, PE X e te → PS X st (tAug i te (r2D X.K g))) (h : DE X et ce W e m) : DS X et ce W st (mAug i g m) := by
  obtain ⟨t, p, ge⟩ := h
  refine ⟨_, hp t p, fun Hs H0s σ H H0 Γ E c q => ?_⟩
  unfold mAug at q
  cases hx : getS Γ i with
  | exc x d =>
    unfold getS at hx
    split at hx <;> cases hx
  | stuck => rw [hx] at q; exact q.elim
  | ok x =>
    rw [hx] at q
    unfold getS at hx
    split at hx
    · rename_i d e
      cases hx
      have z := c.at_ i _ e
      match hv : σ[i]?, z with
      | some (some v), z =>
        refine ⟨v, hv, ge _ _ _ _ _ _ _ c (PostS.to c q fun y vy H' G _ s ry q => ?_)⟩
        have c' := c.step s
        have zr : Rep X.K G v x := Rep.same s.small z
        refine ⟨G, x, y, s.sub, zr.toO s.sub, Rep.toO s.sub ry, asked (W := W) (et := et) (σ := σ) s.sub (PostS.to c' (q.up s.small) fun w vw H2 G2 _ s2 rw q => ?_)⟩
        exact q _ _ G2 ((c'.step s2).put i rw) s2.small
    · cases hx
def mPar (i j : Nat) (ms : En → Res (List D)) (Γ : En) : Out := mTo (ms Γ) Γ fun ds => match ds with
  | [x, y] => .nx ((Γ.set i (.sh x)).set j (.sh y))
  | _ => .stuck
theorem ds_par {i j : Nat} {ms : En → Res (List D)} (hp : ∀ ta, PA X es ta → PS X st (tPar i j ta)) (h : DA X et ce W es ms) : DS X et ce W st (mPar i j ms) := by
  obtain ⟨t, p, ge⟩ := h
  refine ⟨_, hp t p, fun Hs H0s σ H H0 Γ E c q => ge _ _ _ _ _ _ _ c (PostS.to c q fun ds vs H' G _ s r q => ?_)⟩
  match ds, (show RepAll X.K G vs ds from r), q with
  | [x, y], .cons r1 (.cons r2 .nil), q => exact ⟨_, _, rfl, q _ _ G (((c.step s).put i r1).put j r2) s.small⟩
def whileM (mt : En → Res Bool) (ms : En → Out) : Nat → En → Out
  | 0, _ => .stuck
  | n + 1, Γ => mTo (mt Γ) Γ fun b => if b = true then (match ms Γ with
    | .nx Γ' => whileM mt ms n Γ'
    | .ct Γ' => whileM mt ms n Γ'
    | .bk Γ' => .nx Γ'
    | o => o) else .nx Γ
theorem ds_while {c : Expr} {body : List Stmt} (n : Nat) (hp : PassesOwn (model X.prog X.w) X.A X.env X.xe) (hc : DT X et ce W c mt) (hb : DSs X et ce W body ms) : DS X et ce W (.While c body [] pos) (whileM mt ms n) := by
  obtain ⟨tc, pc, gc⟩ := hc
  obtain ⟨tb, pb, gb⟩ := hb
  refine ⟨_, ps_while hp pc pb, fun Hs H0s σ H H0 Γ E c q => ?_⟩
  refine ⟨fun m σ H => ∃ G Γ, Stn X.K et ce Hs H0s σ H G Γ ∧ Same H0 G ∧ PostS X.K et ce W Hs H0s G E (whileM mt ms m Γ), ⟨n, H0, Γ, c, Same.refl _, q⟩, ?_⟩
  rintro m σ1 H1 ⟨G, Γ1, c1, s1, q1⟩
  cases m with
  | zero => exact q1.elim
  | succ m =>
    refine gc _ _ _ _ _ _ _ c1 (PostS.to c1 q1 fun b b' H' G' _ s r q => ?_)
    cases (r : b' = b)
    cases b with
    | false => exact iteF (q _ _ G' (c1.step s) s.small)
    | true =>
      refine iteT ⟨fun σ' H' => ∃ G2 Γ2, Stn X.K et ce Hs H0s σ' H' G2 Γ2 ∧ Same H0 G2 ∧ PostS X.K et ce W Hs H0s G2 E (whileM mt ms m Γ2), fun σ' H' z => ⟨m, Nat.lt_succ_self m, z⟩, gb _ _ _ _ _ _ _ (c1.step s) ?_⟩
      have sG := Same.trans s1 s.small
      have q := q.up s.small
      rw [if_pos rfl] at q
      revert q
      cases ms Γ1 with
      | nx Γ' => exact fun q σ' H2 G2 c2 s2 => ⟨G2, Γ', c2, Same.trans sG s2, q.up s2⟩
      | ct Γ' => exact fun q σ' H2 G2 c2 s2 => ⟨G2, Γ', c2, Same.trans sG s2, q.up s2⟩
      | bk Γ' => exact fun q => q
      | rt s => exact fun q => q
      | exc x d Γ' => exact fun q => q
      | stuck => exact fun q => q
structure Walks (K : PySem.W.Frag) (J : It) (H0l : Hp) (ds : List D) : Prop where
  go : ∀ i H G, i < ds.length → Same H0l G → Same G H → J.go i H ∧ ∀ x H', J.yld i H x H' → ∃ G' d, ds[i]? = some d ∧ Step H G H' G' ∧ Rep K G' x d
  stop : ∀ i H G, ds.length ≤ i → Same H0l G → Same G H → J.stop i H
def RI (K : PySem.W.Frag) : Rl (List D) It := fun _ _ H0 J ds => Walks K J H0 ds
structure DI (X : Cx) (et : ET) (ce : Caught) (W : WX) (tg e : Expr) (m : En → Res (List D)) : Prop where ex : ∃ t, PI X tg e t ∧ Good X.K et ce W (RI X.K) t m
theorem walks_list {K : PySem.W.Frag} {H0 : Hp} {a : Addr} {vs : List V} {ds : List D} (hs : ∀ G H, Same H0 G → Same G H → SqL K H a vs) (r : RepAll K H0 vs ds) : Walks K (Itl K a) H0 ds := by
  constructor
  · intro i H G hi s1 s2
    have hl := hs G H s1 s2
    have hd : ds[i]? = some ds[i] := by simp [hi]
    obtain ⟨v, hv, rv⟩ := r.get hd
    refine ⟨⟨vs, v, hl, hv⟩, fun x H' y => ?_⟩
    obtain ⟨e, y⟩ := y
    subst e
    have := y vs hl
    rw [hv] at this
    cases this
    exact ⟨G, _, hd, Step.refl s2, rv.same s1⟩
  · intro i H G hi s1 s2
    exact ⟨vs, hs G H s1 s2, by rw [r.len]; exact hi⟩
end
end DL
namespace DL
open PySem L2 PySem.Spec PyProof.Rows GL
section
variable {X : Cx} {et : ET} {ce : Caught} {W : WX} {st : Stmt} {sts : List Stmt} {e a b tg : Expr} {es : List Expr} {m ma mb : En → Res D} {mt : En → Res Bool} {mi : En → Res (List D)} {mg : D → En → Option En} {vs : List Nat} {pos : Pos} {ms mr : En → Out}
def forM (mg : D → En → Option En) (ms : En → Out) : List D → En → Out
  | [], Γ => .nx Γ
  | x :: r, Γ => match mg x Γ with
    | none => .stuck
    | some Γ1 => match ms Γ1 with
      | .nx Γ' => forM mg ms r Γ'
      | .ct Γ' => forM mg ms r Γ'
      | .bk Γ' => .nx Γ'
      | o => o
def mFor (mi : En → Res (List D)) (mg : D → En → Option En) (ms : En → Out) (Γ : En) : Out := mTo (mi Γ) Γ fun xs => forM mg ms xs Γ
theorem ds_for {body : List Stmt} {g : TG} (hp : PassesOwn (model X.prog X.w) X.A X.env X.xe) (hc : X.calm = true) (hi : DI X et ce W tg e mi) (pg : PG X tg g) (hg : GoodG X.K et ce vs g mg) (hb : DSs X et ce W body ms)
    (hs : ∀ x, foldedSetIterable e X.env x = pure x := by intro _; rfl) : DS X et ce W (.For tg e body [] pos) (mFor mi mg ms) := by
  obtain ⟨ti, pi, gi⟩ := hi
  obtain ⟨tb, pb, gb⟩ := hb
  refine ⟨_, ps_for hp hc pi pg pb hs, fun Hs H0s σ H H0 Γ E c q => gi _ _ _ _ _ _ _ c (PostS.to c q fun ds J H1 G1 _ s wk q => ?_)⟩
  have wk : Walks X.K J G1 ds := wk
  refine ⟨fun i m σ H => i ≤ ds.length ∧ m = ds.length - i ∧ ∃ G Γ, Stn X.K et ce Hs H0s σ H G Γ ∧ Same G1 G ∧ PostS X.K et ce W Hs H0s G E (forM mg ms (ds.drop i) Γ),
    ⟨ds.length, Nat.zero_le _, rfl, G1, Γ, c.step s, Same.refl _, q.up s.small⟩, ?_⟩
  rintro i n σ1 H2 ⟨hi, rfl, G, Γ1, c1, s1, q1⟩
  by_cases hlt : i < ds.length
  · obtain ⟨go, yld⟩ := wk.go i H2 G hlt s1 c1.sub
    refine .inr ⟨go, fun σ' H' => ∃ G' Γ', Stn X.K et ce Hs H0s σ' H' G' Γ' ∧ Same G1 G' ∧ PostS X.K et ce W Hs H0s G' E (forM mg ms (ds.drop (i + 1)) Γ'),
      fun σ' H' z => ⟨ds.length - (i + 1), by omega, hlt, rfl, z⟩, fun x H' y => ?_⟩
    obtain ⟨G', d, hd, s2, rx⟩ := yld x H' y
    have he : ds.drop i = d :: ds.drop (i + 1) := by
      rw [List.drop_eq_getElem_cons hlt]
      congr 1
      rw [List.getElem?_eq_getElem hlt] at hd
      exact Option.some.inj hd
    rw [he] at q1
    unfold forM at q1
    cases hm : mg d Γ1 with
    | none => rw [hm] at q1; exact q1.elim
    | some Γ2 =>
      rw [hm] at q1
      refine hg.go _ _ _ _ _ _ _ _ _ _ (c1.step s2) rx hm fun σ2 _ c2 => gb _ _ _ _ _ _ _ c2 ?_
      have q2 := q1.up s2.small
      have s3 := Same.trans s1 s2.small
      revert q2
      dsimp only
      cases ms Γ2 with
      | nx Γ' => exact fun q σ' H2 G2 c2 z => ⟨G2, Γ', c2, Same.trans s3 z, q.up z⟩
      | ct Γ' => exact fun q σ' H2 G2 c2 z => ⟨G2, Γ', c2, Same.trans s3 z, q.up z⟩
      | bk Γ' => exact fun q => q
      | rt s => exact fun q => q
      | exc x d Γ' => exact fun q => q
      | stuck => exact fun q => q
  · have e : i = ds.length := by omega
    subst e
    rw [List.drop_length] at q1
    exact .inl ⟨wk.stop _ H2 G (Nat.le_refl _) s1 c1.sub, q1 _ _ G c1 (Same.refl _)⟩
def wipeE (Γ : En) : List Nat → En
  | [] => Γ
  | v :: vs => (wipeE Γ vs).set v .un
theorem Stn.wipe {K : PySem.W.Frag} {Hs H0s H H0 : Hp} {σ : L2.St} {Γ : En} (c : Stn K et ce Hs H0s σ H H0 Γ) : ∀ vs : List Nat, Stn K et ce Hs H0s (L2.wipe σ vs) H H0 (wipeE Γ vs)
  | [] => c
  | v :: vs => (c.wipe vs).forget v none
theorem wipe_at {σ : L2.St} : ∀ {vs : List Nat} {j : Nat}, j ∉ vs → (L2.wipe σ vs)[j]? = σ[j]?
  | [], _, _ => rfl
  | v :: vs, j, h => by
    have h1 : v ≠ j := fun z => h (by simp [z])
    show ((L2.wipe σ vs).set v none)[j]? = _
    rw [List.getElem?_set_ne h1]
    exact wipe_at fun z => h (by simp [z])
theorem wipe_in {σ : L2.St} : ∀ {vs : List Nat} {j : Nat}, j ∈ vs → (L2.wipe σ vs)[j]? = if j < σ.length then some none else none
  | v :: vs, j, h => by
    show ((L2.wipe σ vs).set v none)[j]? = _
    by_cases e : v = j
    · subst e
      by_cases hl : v < σ.length
      · rw [List.getElem?_set_self (by rw [wipe_length]; exact hl), if_pos hl]
      · rw [List.getElem?_eq_none (by rw [List.length_set, wipe_length]; omega), if_neg hl]
    · rw [List.getElem?_set_ne e]
      exact wipe_in (by simpa [Ne.symm e] using h)
theorem wipe_only {σ τ : L2.St} {vs : List Nat} (h : OnlyAt vs (L2.wipe σ vs) τ) : L2.wipe τ vs = L2.wipe σ vs := by
  have hl : τ.length = σ.length := by rw [h.1, wipe_length]
  apply List.ext_getElem?
  intro j
  by_cases hj : j ∈ vs
  · rw [wipe_in hj, wipe_in hj, hl]
  · rw [wipe_at hj, h.2 j hj]
/-- within a block nothing may be raised -/
def noX {α : Type} : Res α → Res α
  | .ok a => .ok a
  | _ => .stuck
abbrev W0 : WX := fun _ _ _ _ => False
def compM (mg : D → En → Option En) (mt : En → Res Bool) (m : En → Res D) (Γ : En) : List D → Res (List D)
  | [] => .ok []
  | x :: r => match mg x Γ with
    | none => .stuck
    | some Γ1 => (noX (mt Γ1)).bind fun b => if b = true then (noX (m Γ1)).bind fun d => (compM mg mt m Γ r).bind fun ds => .ok (d :: ds) else compM mg mt m Γ r
/-- every other form of a reading -/
def tEM {α β : Type} (K : PySem.W.Frag) (et : ET) (ce : Caught) (W : WX) (R : Rl α β) (m : En → Res α) : L2.St → Hp → (β → Hp → Prop) → Prop := fun σ H Q =>
  ∃ Hs H0s H0 Γ, Stn K et ce Hs H0s σ H H0 Γ ∧ Post K et W R σ H H0 Q (m Γ)
def tM (K : PySem.W.Frag) (et : ET) (ce : Caught) (W : WX) (m : En → Out) : TS := fun E σ H => ∃ Hs H0s H0 Γ, Stn K et ce Hs H0s σ H H0 Γ ∧ PostS K et ce W Hs H0s H0 E (m Γ)
theorem DE.can (h : DE X et ce W e m) : PE X e (tEM X.K et ce W (RD X.K) m) := by
  obtain ⟨t, p, g⟩ := h
  exact ⟨fun pins s σ H Q I ⟨Hs, H0s, H0, Γ, c, q⟩ => p.run pins s σ H Q I (g _ _ _ _ _ _ _ c q)⟩
theorem DT.can (h : DT X et ce W e mt) : PT X e (tEM X.K et ce W RB mt) := by
  obtain ⟨t, p, g⟩ := h
  exact ⟨fun pins s σ H Q I ⟨Hs, H0s, H0, Γ, c, q⟩ => p.run pins s σ H Q I (g _ _ _ _ _ _ _ c q)⟩
theorem DSs.can (h : DSs X et ce W sts ms) : PSs X sts (tM X.K et ce W ms) := by
  obtain ⟨t, p, g⟩ := h
  exact ⟨fun pins s σ H E I ⟨Hs, H0s, H0, Γ, c, q⟩ => p.run pins s σ H E I (g _ _ _ _ _ _ _ c q)⟩
theorem post_noX {α β : Type} {K : PySem.W.Frag} {R : Rl α β} {σ : L2.St} {H H0 : Hp} {Q : β → Hp → Prop} {r : Res α} {a : α} (h : noX r = .ok a) (q : ∀ b H' G, Step H H0 H' G → R H H' G b a → Q b H') : Post K et W0 R σ H H0 Q r := by
  cases r with
  | ok a' => cases h; exact q
  | exc x d => cases h
  | stuck => cases h
/-- a comprehension's tests -/
structure DTs (X : Cx) (et : ET) (ce : Caught) (ifs : List Expr) (mt : En → Res Bool) : Prop where ex : PTs X ifs (tEM X.K et ce W0 RB mt)
theorem dts_nil : DTs X et ce [] (fun _ => .ok true) :=
  ⟨⟨fun pins s σ H Q I ⟨Hs, H0s, H0, Γ, c, q⟩ => pts_nil.run pins s σ H Q I (q true H H0 (Step.refl c.sub) rfl)⟩⟩
theorem dts_one {c : Expr} (h : DT X et ce W0 c mt) : DTs X et ce [c] mt := ⟨pts_one h.can⟩
def mComp (vs : List Nat) (mi : En → Res (List D)) (mg : D → En → Option En) (mt : En → Res Bool) (m : En → Res D) (Γ : En) : Res (List D) := (mi Γ).bind fun xs => need (xs.length < 1000000) (compM mg mt m (wipeE Γ vs) xs)
theorem good_comp {wi : TI} {g : TG} (gi : Good X.K et ce W (RI X.K) wi mi) (hg : GoodG X.K et ce vs g mg) :
    Good X.K et ce W (RF X.K) (tLc wi g (tEM X.K et ce W0 RB mt) (tEM X.K et ce W0 (RD X.K) m) vs) (mComp vs mi mg mt m) := by
  intro Hs H0s σ H H0 Γ Q c q
  refine gi _ _ _ _ _ _ _ c (Post.next q fun ds J H1 G1 _ s wk q => ?_)
  have wk : Walks X.K J G1 ds := wk
  obtain ⟨hsz, q⟩ := need_if q
  intro L hL
  -- the end is reached
  cases hc : compM mg mt m (wipeE Γ vs) ds with
  | exc x d =>
    exfalso
    clear q
    have : ∀ (ds : List D) x d, compM mg mt m (wipeE Γ vs) ds ≠ .exc x d := by
      intro ds
      induction ds with
      | nil => intro x d z; cases z
      | cons y r ih =>
        intro x d z
        unfold compM at z
        split at z
        · cases z
        · rename_i Γ1 _
          cases h1 : noX (mt Γ1) with
          | exc x2 d2 => cases h2 : mt Γ1 <;> rw [h2] at h1 <;> cases h1
          | stuck => rw [h1] at z; cases z
          | ok bb =>
            rw [h1] at z
            simp only [Res.bind] at z
            split at z
            · cases h3 : noX (m Γ1) with
              | exc x2 d2 => cases h2 : m Γ1 <;> rw [h2] at h3 <;> cases h3
              | stuck => rw [h3] at z; cases z
              | ok dd =>
                rw [h3] at z
                cases h4 : compM mg mt m (wipeE Γ vs) r with
                | ok _ => rw [h4] at z; cases z
                | stuck => rw [h4] at z; cases z
                | exc x3 d3 => exact ih _ _ h4
            · exact ih _ _ z
    exact this _ _ _ hc
  | stuck => rw [hc] at q; exact q.elim
  | ok out =>
    rw [hc] at q
    have hL0 : G1 L = none := none_sub s.sub hL
    have c1 := c.step s
    refine ⟨fun i n H2 => i ≤ ds.length ∧ n = ds.length - i ∧ ∃ G acc accD rest, Step H1 G1 H2 G ∧ H2 L = some (.lst acc) ∧ G L = none ∧ RepAll X.K G acc accD ∧ accD.length ≤ i ∧
      compM mg mt m (wipeE Γ vs) (ds.drop i) = .ok rest ∧ accD ++ rest = out,
      ⟨ds.length, Nat.zero_le _, rfl, G1, [], [], out, Step.own s.sub hL, upd_same, hL0, .nil, Nat.le_refl _, hc, rfl⟩, ?_⟩
    rintro i n H2 ⟨hi, rfl, G, acc, accD, rest, sg, hacc, hG, ra, hal, hr, hout⟩
    by_cases hlt : i < ds.length
    · obtain ⟨go, yld⟩ := wk.go i H2 G hlt sg.small sg.sub
      refine .inr ⟨go, fun H3 => ∃ G acc accD rest, Step H1 G1 H3 G ∧ H3 L = some (.lst acc) ∧ G L = none ∧ RepAll X.K G acc accD ∧ accD.length ≤ i + 1 ∧
        compM mg mt m (wipeE Γ vs) (ds.drop (i + 1)) = .ok rest ∧ accD ++ rest = out, fun H3 z => ⟨ds.length - (i + 1), by omega, hlt, rfl, z⟩, fun x H3 y => ?_⟩
      obtain ⟨G3, d, hd, s3, rx⟩ := yld x H3 y
      have he : ds.drop i = d :: ds.drop (i + 1) := by
        rw [List.drop_eq_getElem_cons hlt]
        congr 1
        rw [List.getElem?_eq_getElem hlt] at hd
        exact Option.some.inj hd
      rw [he] at hr
      unfold compM at hr
      split at hr
      · cases hr
      · rename_i Γ1 hm
        have cw : Stn X.K et ce Hs H0s (L2.wipe σ vs) H3 G3 (wipeE Γ vs) := ((c1.step sg).step s3).wipe vs
        refine hg.go _ _ _ _ _ _ _ _ _ _ cw rx hm fun σ3 o3 c3 => ⟨wipe_only o3, ?_⟩
        cases h1 : noX (mt Γ1) with
        | exc x2 d2 => cases h2 : mt Γ1 <;> rw [h2] at h1 <;> cases h1
        | stuck => rw [h1] at hr; cases hr
        | ok bb =>
          rw [h1] at hr
          have hr : (if bb = true then (noX (m Γ1)).bind fun d => (compM mg mt m (wipeE Γ vs) (ds.drop (i + 1))).bind fun ds => .ok (d :: ds) else compM mg mt m (wipeE Γ vs) (ds.drop (i + 1))) = .ok rest := hr
          refine ⟨Hs, H0s, G3, Γ1, c3, post_noX h1 fun b' H4 G4 s4 eb => ?_⟩
          cases (eb : b' = bb)
          have s34 := s3.trans s4
          cases bb with
          | false =>
            rw [if_neg Bool.false_ne_true] at hr
            refine iteF ⟨G4, acc, accD, rest, sg.trans s34, s34.big _ _ hacc, s34.apart _ _ hacc hG, ra.same s34.small, Nat.le_succ_of_le hal, hr, hout⟩
          | true =>
            rw [if_pos rfl] at hr
            refine iteT ?_
            cases h3 : noX (m Γ1) with
            | exc x2 d2 => cases h2 : m Γ1 <;> rw [h2] at h3 <;> cases h3
            | stuck => rw [h3] at hr; cases hr
            | ok dd =>
              rw [h3] at hr
              refine ⟨Hs, H0s, G4, Γ1, c3.step s4, post_noX h3 fun v H5 G5 s5 rv => ?_⟩
              have hr : ((compM mg mt m (wipeE Γ vs) (ds.drop (i + 1))).bind fun ds => .ok (dd :: ds)) = .ok rest := hr
              have s345 := s34.trans s5
              have hacc5 := s345.big _ _ hacc
              have hG5 := s345.apart _ _ hacc hG
              have al : acc.length = accD.length := ra.len
              refine ⟨acc, hacc5, by rw [sizeLine_eq]; omega, ?_⟩
              cases h4 : compM mg mt m (wipeE Γ vs) (ds.drop (i + 1)) with
              | exc x2 d2 => rw [h4] at hr; cases hr
              | stuck => rw [h4] at hr; cases hr
              | ok rest2 =>
                rw [h4] at hr
                cases hr
                have sg5 := sg.trans s345
                refine ⟨G5, acc ++ [v], accD ++ [dd], rest2, ⟨fun b o q => ?_, sg5.small, fun b o q => ?_, sg5.apart⟩, upd_same, hG5, (ra.same s345.small).app (.cons rv .nil), by simp; omega, rfl, by simp [← hout]⟩
                · rw [upd_ne (fun z => by rw [z, hL] at q; cases q)]
                  exact sg5.big b o q
                · rw [upd_ne (fun z => by rw [z, hG5] at q; cases q)]
                  exact sg5.sub b o q
    · have e : i = ds.length := by omega
      subst e
      rw [List.drop_length] at hr
      cases hr
      refine .inl ⟨wk.stop _ H2 G (Nat.le_refl _) sg.small sg.sub, ?_⟩
      rw [List.append_nil] at hout
      subst hout
      exact q _ H2 G (s.trans sg) ⟨L, acc, rfl, none_sub s.big hL, hacc, hG, ra⟩
end
end DL
namespace DL
open PySem L2 PySem.Spec PyProof.Rows GL
section
variable {X : Cx} {et : ET} {ce : Caught} {W : WX} {st : Stmt} {sts : List Stmt} {e a b tg : Expr} {es : List Expr} {m ma mb : En → Res D} {mt : En → Res Bool} {mi : En → Res (List D)} {mg : D → En → Option En} {vs : List Nat} {pos : Pos} {ms mr : En → Out}
def mRaise (x : String) (m : En → Res D) (Γ : En) : Out := mTo (m Γ) Γ fun d => .exc x d Γ
theorem ds_raise {x : String} {C : Addr} {fld : Str} (hx : et x = some (C, fld)) (hp : ∀ ta, PA X [a] ta → PS X st (tRaiseErr C fld W ta)) (h : DE X et ce W a m) (hst : starEach (a :: []) X.env = (false, eval a X.env) :: starEach [] X.env := by rfl) : DS X et ce W st (mRaise x m) := by
  obtain ⟨t, p, g⟩ := h
  refine ⟨_, hp _ (pa_cons p pa_nil hst), fun Hs H0s σ H H0 Γ E c q => g _ _ _ _ _ _ _ c (PostS.to c q fun d v H' G _ s r q => ?_)⟩
  refine ⟨v, rfl, fun dd n => ?_⟩
  have s2 := s.trans (Step.new (o := .xd [(fld, v)]) s.sub n)
  exact q C fld dd v σ _ _ hx (c.step s2) s2.small upd_same (Rep.same (same_upd' (Same.refl _) (none_sub s.sub n)) r)
theorem takesF {X : Cx} : Takes X W0 := fun _ _ ⟨_, _, _, _, _, _, _, _, _, _, _, _, _, _, _, _, w⟩ => w.elim
/-- what a def does to data -/
def spD (K : PySem.W.Frag) (et : ET) (n : Nat) (M : List D → Res Slot) : Sp := fun vs H Q E => vs.length = n ∧ ∃ H0 ds, Same H0 H ∧ RepAll K H0 vs ds ∧ match M ds with
  | .ok s => ∀ v H' G, Step H H0 H' G → Holds K et none H H' G (some (some v)) s → Q v H'
  | .exc x d => ∀ C fld dd w H' G, et x = some (C, fld) → Step H H0 H' G → G dd = some (.xd [(fld, w)]) → Rep K G w d → E (.ref C) (some dd) H'
  | .stuck => False
def tCallW (sp : Sp) (W : WX) (t : TA) : TE := fun σ H Q => t σ H fun vs H1 => sp vs H1 Q fun c d H => W c d σ H
section
variable {k : Nat} {f : Addr} {fd : FuncData} {ps : List Str} {sp : Sp} {E : L2.St → XK}
theorem runGS {pins : List (Addr × Obj)} {σ : L2.St} {H : Hp} {s : Shared} {Q : VK} {us : List Value} {vs : List V} (F : FnG X.prog X.w X.K X.mg X.base (L2.CX X.prog X.w) k f fd ps sp) (quiet : Quiet X.A) (hr : Room k X.A) (hb : Binds X.K fd ps []) (tk : Takes X W)
    (I : Inv X pins σ H s) (r : Vals vs us) (h : sp vs H Q fun c d H => W c d σ H) : wpAny (model X.prog X.w) X.A (call (.ref f) us) (EP X pins σ Q) X.xe s := by
  have hl : us.length = ps.length := r.length.symm.trans (F.len _ _ _ _ h)
  have hbb := hb s us I.kIn (by rw [List.append_nil]; exact hl)
  rw [List.append_nil] at hbb
  refine wpAny_call (codeAny_mono (F.go quiet hr I.env0 hbb r h) ?_)
  intro res s' hq
  cases res with
  | error e => exact passAt tk σ _ _ _ _ _ I hq
  | ok fl =>
    cases fl with
    | ret u => exact I.after hq
    | next => exact (hq : False).elim
    | brk => exact (hq : False).elim
    | cont => exact (hq : False).elim
theorem pe_callW {x : Str} {p pos : Pos} {t : TA} (F : FnG X.prog X.w X.K X.mg X.base (L2.CX X.prog X.w) k f fd ps sp)
    (quiet : Quiet X.A) (hr : Room k X.A) (hg : Gl X x) (hm : X.mg x = some (.ref f)) (hk : PySem.W.keepIn X.K (.ref f) = true)
    (hb : Binds X.K fd ps []) (tk : Takes X W) (ha : PA X (e :: es) t)
    (hdb : (x == ("__debug__" : Str)) = false := by decide)
    (he : starEach (e :: es) X.env = (false, eval e X.env) :: starEach es X.env := by rfl)
    (hpl : (backTo pos (starEach es X.env)).any (·.1) = false := by rfl) : PE X (.Call (.Name x p) (e :: es) [] pos) (tCallW sp W t) := by
  constructor
  intro pins s σ H Q I h
  apply wpAny_Call_Name_kw
  apply ld_glob I hg hm _ hdb
  refine PySem.W.callWith_K (h₀ := X.base) I.ok.mod.kin hk ?_ he hpl
  refine thn (ha.run pos pins s σ H _ I h) ?_
  rintro us s1 ⟨vs, H1, I1, r, q⟩
  exact ⟨I1.kIn, runGS F quiet hr hb tk I1 r q⟩
/-- what a def hands back, as data -/
def slotD : Slot → Res D
  | .sh d => .ok d
  | .own xs => .ok (.lst xs)
  | .ownD ks xs => .ok (.dic ks xs)
  | _ => .stuck
def slotF : Slot → Res (List D)
  | .own xs => .ok xs
  | _ => .stuck
theorem good_call {n : Nat} {M : List D → Res Slot} {t : TA} {mas : En → Res (List D)} (ga : Good X.K et ce W (RA X.K) t mas) (hn : ∀ Γ ds, mas Γ = .ok ds → ds.length = n) :
    Good X.K et ce W (RD X.K) (tCallW (spD X.K et n M) W t) (fun Γ => (mas Γ).bind fun ds => (M ds).bind slotD) := by
  intro Hs H0s σ H H0 Γ Q c q
  refine ga _ _ _ _ _ _ _ c (Post.next q fun ds vs H1 G1 he s r q => ?_)
  have r : RepAll X.K G1 vs ds := r
  refine ⟨r.len.trans (hn _ _ he), G1, ds, s.sub, r, ?_⟩
  have q := q.step back_D s
  cases hM : M ds with
  | stuck => rw [hM] at q; exact q
  | exc x d => rw [hM] at q; exact q
  | ok sl =>
    rw [hM] at q
    intro v H' G st hv
    cases sl with
    | sh d => exact q v H' G st hv
    | own xs =>
      obtain ⟨p, ws, ev, hn, hp, h0, rr⟩ := hv
      exact q v H' _ (Step.share s.sub st hn hp h0) (by subst ev; exact .lst upd_same (rr.same (same_upd' (Same.refl _) h0)))
    | ownD ks xs =>
      obtain ⟨p, ws, ev, hn, hp, h0, hk, rr⟩ := hv
      exact q v H' _ (Step.share s.sub st hn hp h0) (by subst ev; exact .dic upd_same hk (rr.same (same_upd' (Same.refl _) h0)))
    | un => exact (q : False).elim
    | ownO p C ns xs => exact (q : False).elim
    | er x d => exact (q : False).elim
    | lk ks xs => exact (q : False).elim
theorem good_callF {n : Nat} {M : List D → Res Slot} {t : TA} {mas : En → Res (List D)} (ga : Good X.K et ce W (RA X.K) t mas) (hn : ∀ Γ ds, mas Γ = .ok ds → ds.length = n) :
    Good X.K et ce W (RF X.K) (tCallW (spD X.K et n M) W t) (fun Γ => (mas Γ).bind fun ds => (M ds).bind slotF) := by
  intro Hs H0s σ H H0 Γ Q c q
  refine ga _ _ _ _ _ _ _ c (Post.next q fun ds vs H1 G1 he s r q => ?_)
  have r : RepAll X.K G1 vs ds := r
  refine ⟨r.len.trans (hn _ _ he), G1, ds, s.sub, r, ?_⟩
  have q := q.step back_F s
  cases hM : M ds with
  | stuck => rw [hM] at q; exact q
  | exc x d => rw [hM] at q; exact q
  | ok sl =>
    rw [hM] at q
    intro v H' G st hv
    cases sl with
    | own xs =>
      obtain ⟨p, ws, ev, hn, hp, h0, rr⟩ := hv
      exact q v H' G st ⟨p, ws, ev, hn, hp, h0, rr⟩
    | sh d => exact (q : False).elim
    | ownD ks xs => exact (q : False).elim
    | ownO p C ns xs => exact (q : False).elim
    | un => exact (q : False).elim
    | er x d => exact (q : False).elim
    | lk ks xs => exact (q : False).elim
/-- a list of arguments of known length -/
structure DAn (X : Cx) (et : ET) (ce : Caught) (W : WX) (es : List Expr) (n : Nat) (m : En → Res (List D)) : Prop where
  a : DA X et ce W es m
  n : ∀ Γ ds, m Γ = .ok ds → ds.length = n
theorem dan_nil : DAn X et ce W [] 0 (fun _ => .ok []) := ⟨da_nil, fun _ _ h => by cases h; rfl⟩
theorem dan_cons {n : Nat} {mas : En → Res (List D)} (h : DE X et ce W e m) (hs : DAn X et ce W es n mas) (hst : starEach (e :: es) X.env = (false, eval e X.env) :: starEach es X.env := by rfl) :
    DAn X et ce W (e :: es) (n + 1) (fun Γ => (m Γ).bind fun d => (mas Γ).bind fun ds => .ok (d :: ds)) :=
  ⟨da_cons h hs.a hst, fun Γ ds z => by
    cases h1 : m Γ with
    | stuck => rw [h1] at z; cases z
    | exc x d => rw [h1] at z; cases z
    | ok d =>
      cases h2 : mas Γ with
      | stuck => rw [h1, h2] at z; cases z
      | exc x d => rw [h1, h2] at z; cases z
      | ok r => rw [h1, h2] at z; cases z; exact congrArg Nat.succ (hs.n _ _ h2)⟩
theorem d_call {n : Nat} {M : List D → Res Slot} {mas : En → Res (List D)} (hp : ∀ t, PA X es t → PE X e (tCallW (spD X.K et n M) W t)) (ha : DAn X et ce W es n mas) : DE X et ce W e (fun Γ => (mas Γ).bind fun ds => (M ds).bind slotD) := by
  obtain ⟨⟨t, p, g⟩, hn⟩ := ha
  exact ⟨_, hp t p, good_call g hn⟩
theorem d_callF {n : Nat} {M : List D → Res Slot} {mas : En → Res (List D)} (hp : ∀ t, PA X es t → PE X e (tCallW (spD X.K et n M) W t)) (ha : DAn X et ce W es n mas) : DF X et ce W e (fun Γ => (mas Γ).bind fun ds => (M ds).bind slotF) := by
  obtain ⟨⟨t, p, g⟩, hn⟩ := ha
  exact ⟨_, hp t p, good_callF g hn⟩
end
end
def startD (N : Nat) (ds : List D) : En := ds.map Slot.sh ++ List.replicate (N - ds.length) .un
def mBody (N : Nat) (mb : En → Out) (ds : List D) : Res Slot := match mb (startD N ds) with
  | .nx _ => .ok (.sh .non)
  | .rt s => .ok s
  | .exc x d _ => .exc x d
  | _ => .stuck
theorem start_stn {K : PySem.W.Frag} {et : ET} {H H0 : Hp} {N : List Str} {vs : List V} {ds : List D} (s : Same H0 H) (r : RepAll K H0 vs ds) : Stn K et none H H0 (L2.start N vs) H H0 (startD N.length ds) := by
  have hl := r.len
  refine ⟨s, Step.refl s, by unfold L2.start startD; simp [hl], fun i sl e => ?_, fun i j sl t p ei ej ai aj hi hj => ?_⟩
  · unfold startD at e
    by_cases hi : i < ds.length
    · rw [List.getElem?_append_left (by simpa using hi), List.getElem?_map, List.getElem?_eq_getElem hi] at e
      cases e
      obtain ⟨v, hv, rv⟩ := r.get (List.getElem?_eq_getElem hi)
      have : (L2.start N vs)[i]? = some (some v) := by
        unfold L2.start
        rw [List.getElem?_append_left (by rw [List.length_map, hl]; exact hi), List.getElem?_map, hv]; rfl
      rw [this]
      exact rv
    · rw [List.getElem?_append_right (by simpa using hi), List.getElem?_replicate] at e
      split at e
      · cases e; cases (L2.start N vs)[i]? <;> trivial
      · cases e
  · exfalso
    unfold startD at ei
    by_cases hi' : i < ds.length
    · rw [List.getElem?_append_left (by simpa using hi'), List.getElem?_map, List.getElem?_eq_getElem hi'] at ei
      cases ei; cases ai
    · rw [List.getElem?_append_right (by simpa using hi'), List.getElem?_replicate] at ei
      split at ei
      · cases ei; cases ai
      · cases ei
theorem fn_data {P : Program} {w : World} {K : PySem.W.Frag} {mg : Str → Option Value} {base : Heap} {k : Nat} {f : Addr} {fd : FuncData} {ps N : List Str} {x qual : Str} {st : Stmt} {et : ET} {mb : En → Out}
    (F : Fun K x qual st f fd) (S : FnScope N ps (defScope st))
    (body : ∀ (cdv : Value) (A : Around) (outer : List PySem.Env) (s : Shared) (H : Hp) (E : XK), Quiet A → Room k (A.deeper (envOfC qual (defScope st) s.heap.objs.size f cdv)) →
      DSs (cxOf (L2.CX P w) P w K mg base N qual (defScope st) f cdv A outer s H E) et none (fun c d _ H => E c d H) (defBody st) mb) :
    FnG P w K mg base (L2.CX P w) (k + 1) f fd ps (spD K et ps.length (mBody N.length mb)) := by
  refine FnG.mkX F S (fun vs H Q E h => h.1) fun cdv A outer s H vs Q E qu hr h => ?_
  obtain ⟨hl, H0, ds, sub, r, q⟩ := h
  obtain ⟨t, p, g⟩ := body cdv A outer s H E qu hr
  refine ⟨t, p, g H H0 _ _ _ _ _ (start_stn sub r) ?_⟩
  unfold mBody at q
  revert q
  cases mb (startD N.length ds) with
  | nx Γ => exact fun q σ' H' G c _ => q .non H' G c.st .non
  | rt s => exact fun q v H' G st hv => q v H' G st hv
  | exc x d Γ => exact fun q C fld dd w σ' H' G hx c _ hd r => q C fld dd w H' G hx c.st hd r
  | bk Γ => exact fun q => (q : False).elim
  | ct Γ => exact fun q => (q : False).elim
  | stuck => exact fun q => (q : False).elim
end DL
namespace DL
open PySem L2 PySem.Spec PyProof.Rows GL
def i2 (f : Int → Int → Option Giv) : D → D → Option Giv
  | .int i, .int j => f i j
  | _, _ => none
def giv (c : Prop) [Decidable c] (d : D) : Option Giv := if c then some (.val d) else none
theorem asked_giv {K : PySem.W.Frag} {H H0 : Hp} {Q : VK} {c : Prop} [Decidable c] {d : D} (h : Asked K H H0 Q (giv c d)) : c ∧ ∀ v, Rep K H0 v d → Q v H := by
  unfold giv at h
  split at h
  · rename_i hc; exact ⟨hc, h⟩
  · exact h.elim
section
variable {X : Cx}
theorem opr_imp {f : Value → Value → Sem Value} {r r' : R2} (ho : OpR X f r) (h : ∀ x y H Q, r' x y H Q → r x y H Q) : OpR X f r' := fun pins s σ H x y v u Q I rx ry q => ho pins s σ H x y v u Q I rx ry (h x y H Q q)
theorem unr_imp {f : Value → Sem Value} {r r' : V → Hp → VK → Prop} (ho : UnR X f r) (h : ∀ x H Q, r' x H Q → r x H Q) : UnR X f r' := fun pins s σ H x v Q I rx q => ho pins s σ H x v Q I rx (h x H Q q)
theorem callr_imp {f : Value} {r r' : List V → Hp → VK → Prop} (ho : CallR X f r) (h : ∀ x H Q, r' x H Q → r x H Q) : CallR X f r' := fun pins s σ H x v Q I rx q => ho pins s σ H x v Q I rx (h x H Q q)
theorem rep_int {K : PySem.W.Frag} {H : Hp} {x : V} {i : Int} (h : Rep K H x (.int i)) : x = .int i := by cases h; rfl
theorem rep_bl {K : PySem.W.Frag} {H : Hp} {x : V} {i : Bool} (h : Rep K H x (.bl i)) : x = .bl i := by cases h; rfl
theorem rep_str {K : PySem.W.Frag} {H : Hp} {x : V} {i : Str} (h : Rep K H x (.str i)) : x = .str i := by cases h; rfl
theorem rep_non {K : PySem.W.Frag} {H : Hp} {x : V} (h : Rep K H x .non) : x = .non := by cases h; rfl
theorem two_ints {K : PySem.W.Frag} {F : Int → Int → Option Giv} {x y : V} {H : Hp} {Q : VK} (h : r2D K (i2 F) x y H Q) : ∃ H0 i j, x = .int i ∧ y = .int j ∧ Asked K H H0 Q (F i j) := by
  obtain ⟨H0, d, e, sub, rd, re, q⟩ := h
  cases d with
  | int i => cases e with
    | int j => exact ⟨H0, i, j, rep_int rd, rep_int re, q⟩
    | _ => exact q.elim
  | _ => exact q.elim
theorem op_i2 {f : Value → Value → Sem Value} {C : Int → Int → Prop} {g : Int → Int → V} {F : Int → Int → Option Giv} (ho : OpR X f (rI C g))
    (h : ∀ i j H H0 Q, Asked X.K H H0 Q (F i j) → C i j ∧ Q (g i j) H) : OpR X f (r2D X.K (i2 F)) := opr_imp ho fun x y H Q q => by
  obtain ⟨H0, i, j, e1, e2, q⟩ := two_ints q
  obtain ⟨h1, h2⟩ := h _ _ _ _ _ q
  exact ⟨i, j, e1, e2, h1, h2⟩
theorem op_i0 {f : Value → Value → Sem Value} {g : Int → Int → V} {F : Int → Int → Option Giv} (ho : OpR X f (rI0 g)) (h : ∀ i j H H0 Q, Asked X.K H H0 Q (F i j) → Q (g i j) H) : OpR X f (r2D X.K (i2 F)) := opr_imp ho fun x y H Q q => by
  obtain ⟨H0, i, j, e1, e2, q⟩ := two_ints q
  exact ⟨i, j, e1, e2, h _ _ _ _ _ q⟩
def gSub : D → D → Option Giv := i2 fun i j => some (.val (.int (i - j)))
def gMulI : D → D → Option Giv := i2 fun i j => giv (i.natAbs.log2 + j.natAbs.log2 < 1000000) (.int (i * j))
def gDiv : D → D → Option Giv := i2 fun i j => giv (0 < j ∧ (j.natAbs.log2 < 9000 ∨ i.natAbs < 2 ^ 4400)) (.int (i / j))
def gMod : D → D → Option Giv := i2 fun i j => giv (0 < j) (.int (i % j))
def gPow : D → D → Option Giv := i2 fun i j => giv (0 ≤ j ∧ (Builtin.Int.intBits i : Int) * j ≤ 2 ^ 27) (.int (i ^ j.toNat))
def gShr : D → D → Option Giv := i2 fun i j => giv (0 ≤ j) (.int (i / 2 ^ j.toNat))
def gAnd : D → D → Option Giv := i2 fun i j => some (.val (.int (Builtin.bitAnd i j)))
def gAddI : D → D → Option Giv := i2 fun i j => some (.val (.int (i + j)))
def gLt : D → D → Option Giv := i2 fun i j => some (.val (.bl (decide (i < j))))
def gLe : D → D → Option Giv := i2 fun i j => some (.val (.bl (decide (i ≤ j))))
def gGt : D → D → Option Giv := i2 fun i j => some (.val (.bl (decide (j < i))))
def gGe : D → D → Option Giv := i2 fun i j => some (.val (.bl (decide (j ≤ i))))
theorem o_sub : OpR X (binaryOp .Sub) (r2D X.K gSub) := op_i0 op_sub fun i j H H0 Q q => q _ (.int _)
theorem noPylong_few {x y : Int} (h : x.natAbs < 2 ^ 4400) : Builtin.divisionGoesByPylong x y = false := by
  have key : (if (x == 0) = true then 0 else x.natAbs.log2 / 30 + 1) ≤ 150 := by
    by_cases hx : (x == 0) = true
    · rw [if_pos hx]; exact Nat.zero_le _
    · rw [if_neg hx]
      have h0 : x.natAbs ≠ 0 := fun z => hx (by simpa using z)
      have h30 : x.natAbs.log2 < 4400 := (Nat.log2_lt h0).mpr h
      omega
  unfold Builtin.divisionGoesByPylong
  simp only []
  rw [decide_eq_false (p := (if (x == 0) = true then 0 else x.natAbs.log2 / 30 + 1) > _) (by omega), Bool.and_false]
theorem noPylong_any {i j : Int} (h : 0 < j ∧ (j.natAbs.log2 < 9000 ∨ i.natAbs < 2 ^ 4400)) : Builtin.divisionGoesByPylong i j = false := by
  rcases h.2 with h | h
  · exact PyProof.noPylong_of_log2 h
  · exact noPylong_few h
theorem o_div : OpR X (binaryOp .FloorDiv) (r2D X.K gDiv) := op_i2 (C := fun i j => 0 < j ∧ (j.natAbs.log2 < 9000 ∨ i.natAbs < 2 ^ 4400)) (g := fun i j => .int (i / j)) (opI fun i j _ _ _ _ _ hc q => by
    have h1 : (0 : Int) < j := hc.1
    exact floordiv_int (by omega) (by rw [Int.fdiv_eq_ediv_of_nonneg i (by omega)]; exact q) (.inl (noPylong_any hc))) fun i j H H0 Q q => ⟨(asked_giv q).1, (asked_giv q).2 _ (.int _)⟩
theorem o_mod : OpR X (binaryOp .Mod) (r2D X.K gMod) := op_i2 op_mod fun i j H H0 Q q => ⟨(asked_giv q).1, (asked_giv q).2 _ (.int _)⟩
theorem o_pow : OpR X (binaryOp .Pow) (r2D X.K gPow) := op_i2 op_powW fun i j H H0 Q q => ⟨(asked_giv q).1, (asked_giv q).2 _ (.int _)⟩
theorem o_shr : OpR X (binaryOp .RShift) (r2D X.K gShr) := op_i2 op_shr fun i j H H0 Q q => ⟨(asked_giv q).1, (asked_giv q).2 _ (.int _)⟩
theorem o_and : OpR X (binaryOp .BitAnd) (r2D X.K gAnd) := op_i0 op_and fun i j H H0 Q q => q _ (.int _)
theorem o_lt : OpR X (compareOp .Lt) (r2D X.K gLt) := op_i0 op_lt fun i j H H0 Q q => q _ (.bl _)
theorem o_le : OpR X (compareOp .LtE) (r2D X.K gLe) := op_i0 op_le fun i j H H0 Q q => q _ (.bl _)
theorem o_gt : OpR X (compareOp .Gt) (r2D X.K gGt) := op_i0 op_gt fun i j H H0 Q q => q _ (.bl _)
theorem o_ge : OpR X (compareOp .GtE) (r2D X.K gGe) := op_i0 op_ge fun i j H H0 Q q => q _ (.bl _)
theorem q_add : OpR X (inplaceOp .Add) (r2D X.K gAddI) := op_i0 iop_add fun i j H H0 Q q => q _ (.int _)
theorem q_mul : OpR X (inplaceOp .Mult) (r2D X.K gMulI) := op_i2 iop_mulW fun i j H H0 Q q => ⟨(asked_giv q).1, (asked_giv q).2 _ (.int _)⟩
theorem q_div : OpR X (inplaceOp .FloorDiv) (r2D X.K gDiv) := op_i2 (C := fun i j => 0 < j ∧ (j.natAbs.log2 < 9000 ∨ i.natAbs < 2 ^ 4400)) (g := fun i j => .int (i / j)) (opI fun i j _ _ _ _ _ hc q => by
    have h1 : (0 : Int) < j := hc.1
    exact ifloordiv_int (by omega) (by rw [Int.fdiv_eq_ediv_of_nonneg i (by omega)]; exact q) (.inl (noPylong_any hc))) fun i j H H0 Q q => ⟨(asked_giv q).1, (asked_giv q).2 _ (.int _)⟩
def gNeg : D → Option Giv
  | .int i => some (.val (.int (-i)))
  | _ => none
theorem u_neg : UnR X (unaryOp .USub) (r1D X.K gNeg) := unr_imp un_neg fun x H Q q => by
  obtain ⟨H0, d, sub, rd, q⟩ := q
  cases d with
  | int i => exact ⟨i, rep_int rd, q _ (.int _)⟩
  | _ => exact q.elim
def gAdd : D → D → Option Giv
  | .int i, .int j => some (.val (.int (i + j)))
  | .str x, .str y => giv (x.length + y.length ≤ 1000000) (.str (x ++ y))
  | .lst xs, .lst ys => if xs.length + ys.length ≤ 1000000 then some (.newL (xs ++ ys)) else none
  | .tup xs, .tup ys => if 0 < xs.length ∧ 0 < ys.length ∧ xs.length + ys.length ≤ 1000000 then some (.newT (xs ++ ys)) else none
  | _, _ => none
theorem line_of {n : Nat} (h : n ≤ 1000000) : n ≤ sizeLine := by rw [sizeLine_eq]; omega
theorem opr_or {f : Value → Value → Sem Value} {r r' : R2} (h1 : OpR X f r) (h2 : OpR X f r') : OpR X f (fun x y H Q => r x y H Q ∨ r' x y H Q) := fun pins s σ H x y v u Q I rx ry q =>
  q.elim (fun q => h1 pins s σ H x y v u Q I rx ry q) (fun q => h2 pins s σ H x y v u Q I rx ry q)
theorem asked_if {K : PySem.W.Frag} {H H0 : Hp} {Q : VK} {c : Prop} [Decidable c] {g : Giv} (h : Asked K H H0 Q (if c then some g else none)) : c ∧ Asked K H H0 Q (some g) := by
  split at h
  · rename_i hc; exact ⟨hc, h⟩
  · exact h.elim
theorem o_add : OpR X (binaryOp .Add) (r2D X.K gAdd) := opr_imp (opr_or op_add (opr_or op_add_str (opr_or op_cat op_catT))) fun x y H Q q => by
  obtain ⟨H0, d, e, sub, rd, re, q⟩ := q
  cases d with
  | int i => cases e with
    | int j => exact .inl ⟨i, j, rep_int rd, rep_int re, q _ (.int _)⟩
    | _ => exact q.elim
  | str i => cases e with
    | str j =>
      obtain ⟨hc, q⟩ := asked_giv q
      exact .inr (.inl ⟨i, j, rep_str rd, rep_str re, line_of hc, q _ (.str _)⟩)
    | _ => exact q.elim
  | lst xs => cases e with
    | lst ys =>
      obtain ⟨hc, q⟩ := asked_if q
      obtain ⟨a, vs, ev, ha, ra⟩ := rd
      obtain ⟨b, ws, ew, hb, rb⟩ := re
      exact .inr (.inr (.inl ⟨a, b, vs, ws, ev, ew, ha, hb, by rw [ra.len, rb.len]; exact line_of hc, fun p n => q p _ n (ra.app rb)⟩))
    | _ => exact q.elim
  | tup xs => cases e with
    | tup ys =>
      obtain ⟨⟨h1, h2, hc⟩, q⟩ := asked_if q
      cases rd with | tup ha ra => cases re with | tup hb rb =>
        have l1 := ra.len
        have l2 := rb.len
        exact .inr (.inr (.inr ⟨_, _, _, _, rfl, rfl, seqT_same sub ha, seqT_same sub hb, fun z => by rw [z] at l1; simp at l1; omega, by rw [l1, l2]; exact line_of hc, fun z => by rw [z] at l2; simp at l2; omega, fun _ p n => q p _ n (ra.app rb)⟩))
    | _ => exact q.elim
  | _ => exact q.elim
/-- n copies of a list -/
def repD : Nat → List D → List D
  | 0, _ => []
  | n + 1, xs => xs ++ repD n xs
theorem rep_repD {K : PySem.W.Frag} {H : Hp} {vs : List V} {xs : List D} (r : RepAll K H vs xs) : ∀ n, RepAll K H (List.replicate n vs).flatten (repD n xs)
  | 0 => .nil
  | n + 1 => by
    rw [List.replicate_succ, List.flatten_cons]
    exact r.app (rep_repD r n)
def gMul : D → D → Option Giv
  | .int i, .int j => giv (i.natAbs.log2 + j.natAbs.log2 < 1000000) (.int (i * j))
  | .lst xs, .int k => if -1000000 ≤ k ∧ k ≤ 1000000 ∧ xs.length * k.toNat ≤ 1000000 then some (.newL (repD k.toNat xs)) else none
  | .int k, .lst xs => if -1000000 ≤ k ∧ k ≤ 1000000 ∧ xs.length * k.toNat ≤ 1000000 then some (.newL (repD k.toNat xs)) else none
  | _, _ => none
theorem o_mul : OpR X (binaryOp .Mult) (r2D X.K gMul) := opr_imp (opr_or op_mulW (opr_or op_rep op_repR)) fun x y H Q q => by
  obtain ⟨H0, d, e, sub, rd, re, q⟩ := q
  cases d with
  | int i => cases e with
    | int j =>
      obtain ⟨hc, q⟩ := asked_giv q
      exact .inl ⟨i, j, rep_int rd, rep_int re, hc, q _ (.int _)⟩
    | lst xs =>
      obtain ⟨⟨h1, h2, hc⟩, q⟩ := asked_if q
      obtain ⟨a, vs, ev, ha, ra⟩ := re
      exact .inr (.inr ⟨a, i, vs, ev, rep_int rd, ha, by omega, by omega, by rw [ra.len]; exact line_of hc, fun p n => q p _ n (rep_repD ra _)⟩)
    | _ => exact q.elim
  | lst xs => cases e with
    | int k =>
      obtain ⟨⟨h1, h2, hc⟩, q⟩ := asked_if q
      obtain ⟨a, vs, ev, ha, ra⟩ := rd
      exact .inr (.inl ⟨a, k, vs, ev, rep_int re, ha, by omega, by omega, by rw [ra.len]; exact line_of hc, fun p n => q p _ n (rep_repD ra _)⟩)
    | _ => exact q.elim
  | _ => exact q.elim
mutual
/-- as the library's data; nothing said of what plain refuses -/
def py : D → PyData
  | .non => .none
  | .bl b => .bool b
  | .int i => .int i
  | .str x => .str x
  | .tup xs => .tuple (pyAll xs)
  | .lst xs => .list (pyAll xs)
  | .scr ns => .list (ns.map .int)
  | .dic _ _ => .none
  | .obj _ _ _ => .none
def pyAll : List D → List PyData
  | [] => []
  | x :: xs => py x :: pyAll xs
end
mutual
def plain : D → Bool
  | .tup xs => plainAll xs
  | .lst xs => plainAll xs
  | .dic _ _ => false
  | .obj _ _ _ => false
  | _ => true
def plainAll : List D → Bool
  | [] => true
  | x :: xs => plain x && plainAll xs
end
theorem dp_ints {K : PySem.W.Frag} {H : Hp} : ∀ ns : List Int, DpAll K H (ns.map V.int) (ns.map PyData.int)
  | [] => .nil
  | n :: ns => .cons (.int n) (dp_ints ns)
theorem rep_dp {K : PySem.W.Frag} {H : Hp} {v : V} {d : D} (h : Rep K H v d) : plain d = true → Dp K H v (py d) := by
  induction h using Rep.rec (motive_2 := fun vs ds _ => plainAll ds = true → DpAll K H vs (pyAll ds)) with
  | non => exact fun _ => .non
  | bl b => exact fun _ => .bl b
  | int i => exact fun _ => .int i
  | str x => exact fun _ => .str x
  | tup h _ ih => exact fun p => by unfold plain at p; unfold py; exact .tup h (ih p)
  | lst h _ ih => exact fun p => by unfold plain at p; unfold py; exact .lst (SqL.of h) (ih p)
  | scr h => exact fun _ => by unfold py; exact .lst h (dp_ints _)
  | dic h k _ ih => exact fun p => by unfold plain at p; cases p
  | obj h k _ ih => exact fun p => by unfold plain at p; cases p
  | nil =>
    show DpAll K H [] (pyAll [])
    unfold pyAll
    exact .nil
  | cons _ _ h1 h2 =>
    rename_i p
    show DpAll K H _ (pyAll _)
    unfold plainAll at p
    rw [Bool.and_eq_true] at p
    unfold pyAll
    exact .cons (h1 p.1) (h2 p.2)
theorem repAll_dp {K : PySem.W.Frag} {H : Hp} : ∀ {vs : List V} {ds : List D}, RepAll K H vs ds → plainAll ds = true → DpAll K H vs (pyAll ds)
  | _, _, .nil, _ => by unfold pyAll; exact .nil
  | _, _, .cons h t, p => by
    unfold plainAll at p
    rw [Bool.and_eq_true] at p
    unfold pyAll
    exact .cons (rep_dp h p.1) (repAll_dp t p.2)
theorem repO_dp {K : PySem.W.Frag} {H H0 : Hp} {v : V} {d : D} (s : Same H0 H) (h : RepO K H H0 v d) (p : plain d = true) : Dp K H v (py d) := by
  cases d with
  | lst xs =>
    obtain ⟨a, vs, e, ha, r⟩ := h
    subst e
    unfold plain at p
    unfold py
    exact .lst (SqL.of ha) (repAll_dp (r.same s) p)
  | dic ks xs => unfold plain at p; cases p
  | _ => exact rep_dp (Rep.same s h) p
def eqOk (d : D) : Bool := plain d && SeqAt.shaped (py d)
def gEqD (d e : D) : Option Giv := giv (eqOk d = true ∧ eqOk e = true) (.bl (PyData.eqv (py d) (py e)))
def gNeD (d e : D) : Option Giv := giv (eqOk d = true ∧ eqOk e = true) (.bl (!PyData.eqv (py d) (py e)))
def gEq : D → D → Option Giv
  | .str x, .str y => some (.val (.bl (x == y)))
  | .lst xs, .lst [] => some (.val (.bl xs.isEmpty))
  | d, e => gEqD d e
def gNe : D → D → Option Giv
  | .str x, .str y => some (.val (.bl (!(x == y))))
  | .lst xs, .lst [] => some (.val (.bl (!xs.isEmpty)))
  | d, e => gNeD d e
theorem eqOk_of {d : D} (h : eqOk d = true) : plain d = true ∧ SeqAt.shaped (py d) = true := by
  unfold eqOk at h
  rw [Bool.and_eq_true] at h
  exact h
theorem rep_empty {K : PySem.W.Frag} {H : Hp} {vs : List V} {ds : List D} (r : RepAll K H vs ds) : vs.isEmpty = ds.isEmpty := by cases r <;> rfl
theorem repO_lst {K : PySem.W.Frag} {H H0 : Hp} {v : V} {xs : List D} (h : RepO K H H0 v (.lst xs)) : ∃ a vs, v = .ref a ∧ SqL K H a vs ∧ RepAll K H0 vs xs := by
  obtain ⟨a, vs, e, h, r⟩ := h
  exact ⟨a, vs, e, SqL.of h, r⟩
theorem o_eq (hu : X.A.units + 64 < cLine) : OpR X (compareOp .Eq) (r2D X.K gEq) := opr_imp (opr_or (opr_or op_eq (op_eqD hu)) (op_eqNil (by omega))) fun x y H Q q => by
  obtain ⟨H0, d, e, sub, rd, re, q⟩ := q
  have gen : Asked X.K H H0 Q (gEqD d e) → rEqD X.K x y H Q := fun q => by
    obtain ⟨⟨h1, h2⟩, q⟩ := asked_giv q
    exact ⟨_, _, repO_dp sub rd (eqOk_of h1).1, repO_dp sub re (eqOk_of h2).1, (eqOk_of h1).2, (eqOk_of h2).2, q _ (.bl _)⟩
  cases d with
  | str i => cases e with
    | str j =>
      have e1 := rep_str rd
      have e2 := rep_str re
      subst e1 e2
      exact .inl (.inl ⟨rfl, by rw [dec_str]; exact q _ (.bl _)⟩)
    | _ => exact .inl (.inr (gen q))
  | lst xs => cases e with
    | lst ys => cases ys with
      | nil =>
        obtain ⟨a, vs, rfl, h1, r1⟩ := repO_lst rd
        obtain ⟨b, ws, rfl, h2, r2⟩ := repO_lst re
        cases r2
        exact .inr ⟨a, b, vs, rfl, rfl, h1, h2, by rw [rep_empty r1]; exact q _ (.bl _)⟩
      | cons y ys => exact .inl (.inr (gen q))
    | _ => exact .inl (.inr (gen q))
  | _ => exact .inl (.inr (gen q))
theorem o_ne (hu : X.A.units + 64 < cLine) : OpR X (compareOp .NotEq) (r2D X.K gNe) := opr_imp (opr_or (opr_or op_ne (op_neD hu)) (op_neNil (by omega))) fun x y H Q q => by
  obtain ⟨H0, d, e, sub, rd, re, q⟩ := q
  have gen : Asked X.K H H0 Q (gNeD d e) → rNeD X.K x y H Q := fun q => by
    obtain ⟨⟨h1, h2⟩, q⟩ := asked_giv q
    exact ⟨_, _, repO_dp sub rd (eqOk_of h1).1, repO_dp sub re (eqOk_of h2).1, (eqOk_of h1).2, (eqOk_of h2).2, q _ (.bl _)⟩
  cases d with
  | str i => cases e with
    | str j =>
      have e1 := rep_str rd
      have e2 := rep_str re
      subst e1 e2
      exact .inl (.inl ⟨rfl, by rw [dec_str]; exact q _ (.bl _)⟩)
    | _ => exact .inl (.inr (gen q))
  | lst xs => cases e with
    | lst ys => cases ys with
      | nil =>
        obtain ⟨a, vs, rfl, h1, r1⟩ := repO_lst rd
        obtain ⟨b, ws, rfl, h2, r2⟩ := repO_lst re
        cases r2
        exact .inr ⟨a, b, vs, rfl, rfl, h1, h2, by rw [rep_empty r1]; exact q _ (.bl _)⟩
      | cons y ys => exact .inl (.inr (gen q))
    | _ => exact .inl (.inr (gen q))
  | _ => exact .inl (.inr (gen q))
def isNon : D → Bool
  | .non => true
  | _ => false
theorem repO_non {K : PySem.W.Frag} {H H0 : Hp} {v : V} {d : D} (h : RepO K H H0 v d) : decide (v = .non) = isNon d := by
  cases d with
  | lst xs => obtain ⟨a, vs, e, _⟩ := h; subst e; rfl
  | dic ks xs => obtain ⟨a, vs, e, _⟩ := h; subst e; rfl
  | _ => cases (show Rep K H0 v _ from h) <;> rfl
def gIsN (d e : D) : Option Giv := giv (isNon e = true) (.bl (isNon d))
def gNotN (d e : D) : Option Giv := giv (isNon e = true) (.bl (!isNon d))
theorem o_isN : OpR X (compareOp .Is) (r2D X.K gIsN) := opr_imp op_isN fun x y H Q q => by
  obtain ⟨H0, d, e, sub, rd, re, q⟩ := q
  obtain ⟨h, q⟩ := asked_giv q
  rw [repO_non rd]
  exact ⟨of_decide_eq_true ((repO_non re).trans h), q _ (.bl _)⟩
theorem o_notN : OpR X (compareOp .IsNot) (r2D X.K gNotN) := opr_imp op_notN fun x y H Q q => by
  obtain ⟨H0, d, e, sub, rd, re, q⟩ := q
  obtain ⟨h, q⟩ := asked_giv q
  rw [repO_non rd]
  exact ⟨of_decide_eq_true ((repO_non re).trans h), q _ (.bl _)⟩
/-- a value that is no object -/
def flat : D → Bool
  | .non | .bl _ | .int _ | .str _ => true
  | _ => false
def toV : D → V
  | .bl b => .bl b
  | .int i => .int i
  | .str x => .str x
  | _ => .non
theorem flat_rep {K : PySem.W.Frag} {H : Hp} {v : V} {d : D} (h : Rep K H v d) (f : flat d = true) : v = toV d ∧ flatV v = true := by
  cases h <;> first | exact ⟨rfl, rfl⟩ | cases f
theorem flat_all {K : PySem.W.Frag} {H : Hp} : ∀ {vs : List V} {ds : List D}, RepAll K H vs ds → ds.all flat = true → vs = ds.map toV ∧ vs.all flatV = true
  | _, _, .nil, _ => ⟨rfl, rfl⟩
  | _, _, .cons h t, f => by
    rw [List.all_cons, Bool.and_eq_true] at f
    obtain ⟨e1, f1⟩ := flat_rep h f.1
    obtain ⟨e2, f2⟩ := flat_all t f.2
    exact ⟨by rw [e1, e2]; rfl, by rw [List.all_cons, f1, f2]; rfl⟩
def inD (x : D) (xs : List D) : Bool := inV (toV x) (xs.map toV)
/-- is a text in a text? -/
def inS (x y : Str) : Bool := !(Builtin.Str.occurrences y x 0 y.length 1).isEmpty
def inStr (neg : Bool) : D → Str → Option Giv
  | .str x, y => some (.val (.bl (if neg then !inS x y else inS x y)))
  | _, _ => none
def gIn (neg : Bool) : D → D → Option Giv
  | x, .str y => inStr neg x y
  | x, .lst xs => giv (flat x = true ∧ xs.all flat = true) (.bl (if neg then !inD x xs else inD x xs))
  | x, .tup xs => giv (flat x = true ∧ xs.all flat = true) (.bl (if neg then !inD x xs else inD x xs))
  | _, _ => none
theorem flat_repO {K : PySem.W.Frag} {H H0 : Hp} {v : V} {d : D} (h : RepO K H H0 v d) (f : flat d = true) : v = toV d ∧ flatV v = true := by
  cases d with
  | lst xs => cases f
  | dic ks xs => cases f
  | _ => exact flat_rep h f
theorem in_of {neg : Bool} {x y : V} {H : Hp} {Q : VK} (q : r2D X.K (gIn neg) x y H Q) : rIn X.K neg x y H Q ∨ ∃ i j, x = .str i ∧ y = .str j ∧ Q (.bl (if neg then !inS i j else inS i j)) H := by
  obtain ⟨H0, d, e, sub, rd, re, q⟩ := q
  cases e with
  | lst xs =>
    obtain ⟨⟨h1, h2⟩, q⟩ := asked_giv q
    obtain ⟨a, vs, ev, ha, ra⟩ := re
    obtain ⟨e1, f1⟩ := flat_repO rd h1
    obtain ⟨e2, f2⟩ := flat_all ra h2
    exact .inl ⟨a, vs, ev, .inl (SqL.of ha), f1, f2, by rw [e1, e2]; exact q _ (.bl _)⟩
  | tup xs =>
    obtain ⟨⟨h1, h2⟩, q⟩ := asked_giv q
    cases re with | tup ha ra =>
      obtain ⟨e1, f1⟩ := flat_repO rd h1
      obtain ⟨e2, f2⟩ := flat_all ra h2
      exact .inl ⟨_, _, rfl, .inr (seqT_same sub ha), f1, f2, by rw [e1, e2]; exact q _ (.bl _)⟩
  | str z => cases d with
    | str w =>
      have e1 := rep_str rd
      have e2 := rep_str re
      subst e1 e2
      exact .inr ⟨w, z, rfl, rfl, q _ (.bl _)⟩
    | _ => exact q.elim
  | _ => exact q.elim
theorem o_notIn : OpR X (compareOp .NotIn) (r2D X.K (gIn true)) := opr_imp (opr_or op_notIn_seq op_notin_str) fun x y H Q q => in_of q
def gIx : D → D → Option Giv
  | .lst xs, .int i => (atI xs i).map .val
  | .tup xs, .int i => (atI xs i).map .val
  | .scr ns, .int i => (atI ns i).map fun n => .val (.int n)
  | .str z, .int i => if z.length ≤ 1000000 then (atI z.cps.toList i).map fun c => .val (.str ⟨#[c]⟩) else none
  | _, _ => none
theorem atI_rep {K : PySem.W.Frag} {H : Hp} {vs : List V} {ds : List D} {i : Int} {d : D} (r : RepAll K H vs ds) (h : atI ds i = some d) : ∃ v, atI vs i = some v ∧ Rep K H v d := by
  unfold atI at h ⊢
  rw [r.len]
  cases e : ixN ds.length i with
  | none => rw [e] at h; cases h
  | some j =>
    rw [e] at h
    exact r.get h
theorem asked_map {K : PySem.W.Frag} {H H0 : Hp} {Q : VK} {α : Type} {o : Option α} {f : α → D} (h : Asked K H H0 Q (o.map fun a => .val (f a))) : ∃ a, o = some a ∧ ∀ v, Rep K H0 v (f a) → Q v H := by
  cases o with
  | none => exact h.elim
  | some a => exact ⟨a, rfl, h⟩
theorem atI_map {α β : Type} {f : α → β} {xs : List α} {i : Int} {a : α} (h : atI xs i = some a) : atI (xs.map f) i = some (f a) := by
  unfold atI at h ⊢
  rw [List.length_map]
  cases e : ixN xs.length i with
  | none => rw [e] at h; cases h
  | some j =>
    rw [e] at h
    show (xs.map f)[j]? = _
    rw [List.getElem?_map]
    have h : xs[j]? = some a := h
    rw [h]; rfl
theorem ixr_imp {r r' : R2} (ho : IxR X r) (h : ∀ x y H Q, r' x y H Q → r x y H Q) : IxR X r' := fun a b pins s σ H x y v u Q I rx ry q hs => ho a b pins s σ H x y v u Q I rx ry (h x y H Q q) hs
theorem x_ix : IxR X (r2D X.K gIx) := ixr_imp ix_seq fun x y H Q q => by
  obtain ⟨H0, d, e, sub, rd, re, q⟩ := q
  cases e with
  | int i =>
    have ey := rep_int (show Rep X.K H0 y (.int i) from re)
    cases d with
    | lst xs =>
      obtain ⟨z, hz, q⟩ := asked_map (f := fun d => d) q
      obtain ⟨a, vs, ev, ha, ra⟩ := rd
      obtain ⟨v, hv, rv⟩ := atI_rep ra hz
      exact .inl ⟨a, vs, i, v, ev, ey, SqL.of ha, hv, q _ rv⟩
    | tup xs =>
      obtain ⟨z, hz, q⟩ := asked_map (f := fun d => d) q
      cases rd with | tup ha ra =>
        obtain ⟨v, hv, rv⟩ := atI_rep ra hz
        exact .inr (.inl ⟨_, _, i, v, rfl, ey, seqT_same sub ha, hv, q _ rv⟩)
    | scr ns =>
      obtain ⟨z, hz, q⟩ := asked_map q
      cases rd with | scr ha => exact .inl ⟨_, _, i, .int z, rfl, ey, sub.seq ha, atI_map hz, q _ (.int _)⟩
    | str z =>
      have q : Asked X.K H H0 Q (if z.length ≤ 1000000 then (atI z.cps.toList i).map fun c => .val (.str ⟨#[c]⟩) else none) := q
      split at q
      · rename_i hc
        obtain ⟨c, hz, q⟩ := asked_map q
        exact .inr (.inr ⟨z, i, c, rep_str rd, ey, line_of hc, hz, q _ (.str _)⟩)
      · exact q.elim
    | _ => exact q.elim
  | _ => cases d <;> exact q.elim
end
end DL
namespace DL
open PySem L2 PySem.Spec PyProof.Rows GL
section
variable {X : Cx} {et : ET} {ce : Caught} {W : WX} {e a b c tg : Expr} {es : List Expr} {m ma mb mc : En → Res D} {mt mu : En → Res Bool} {pos p2 : Pos}
theorem d_ix (ha : DO X et ce W a ma) (hb : DO X et ce W b mb) (hs : PlainIx b) : DE X et ce W (.Subscript a b pos) (fun Γ => (ma Γ).bind fun x => (mb Γ).bind fun y => toR (gIx x y)) := by
  obtain ⟨t, p, ga⟩ := ha
  obtain ⟨t2, p2, gb⟩ := hb
  exact ⟨_, pe_ix x_ix p p2 hs, good_op (r := r2D X.K gIx) ga gb⟩
def cutL {α : Type} (xs : List α) (lo hi : Option Int) : List α := (xs.drop (HT.sIx xs.length 0 lo)).take (HT.sIx xs.length xs.length hi - HT.sIx xs.length 0 lo)
theorem rep_cut {K : PySem.W.Frag} {H : Hp} {vs : List V} {ds : List D} (r : RepAll K H vs ds) (lo hi : Option Int) : RepAll K H (cutV vs lo hi) (cutL ds lo hi) := by
  unfold cutV cutL
  rw [r.len]
  exact (r.drop _).take _
def gSl (lo hi : Option Int) : D → Option Giv
  | .lst xs => some (.newL (cutL xs lo hi))
  | .scr ns => some (.newL (cutL (ns.map .int) lo hi))
  | .str z => giv (z.length ≤ 1000000) (.str (cutS z lo hi))
  | _ => none
theorem slr_imp {r r' : V → Option Int → Option Int → Hp → VK → Prop} (ho : SlR X r) (h : ∀ x lo hi H Q, r' x lo hi H Q → r x lo hi H Q) : SlR X r' := fun pins s σ H x v vl vu lo hi sl Q I rx hs pl pu q =>
  ho pins s σ H x v vl vu lo hi sl Q I rx hs pl pu (h x lo hi H Q q)
theorem x_sl : SlR X (fun x lo hi H Q => r1D X.K (gSl lo hi) x H Q) := slr_imp (sl_list.or sl_str) fun x lo hi H Q q => by
  obtain ⟨H0, d, sub, rd, q⟩ := q
  cases d with
  | lst xs =>
    obtain ⟨a, vs, ev, ha, ra⟩ := rd
    exact .inl ⟨a, vs, ev, SqL.of ha, fun p n => q p _ n (rep_cut ra lo hi)⟩
  | scr ns => cases rd with | scr ha => exact .inl ⟨_, _, rfl, sub.seq ha, fun p n => q p _ n (rep_cut (RepAll.ints ns) lo hi)⟩
  | str z =>
    obtain ⟨hc, q⟩ := asked_giv q
    exact .inr ⟨z, rep_str rd, line_of hc, q _ (.str _)⟩
  | _ => exact q.elim
def RP : Rl (Option Int) (Option Int) := fun _ _ _ b a => b = a
structure DP (X : Cx) (et : ET) (ce : Caught) (W : WX) (e : Option Expr) (m : En → Res (Option Int)) : Prop where ex : ∃ t, PO X e t ∧ Good X.K et ce W RP t m
theorem dp_none : DP X et ce W none (fun _ => .ok none) := ⟨_, po_none, fun Hs H0s σ H H0 Γ Q c q => q none H H0 (Step.refl c.sub) rfl⟩
def toI : D → Res (Option Int)
  | .int i => .ok (some i)
  | _ => .stuck
theorem dp_some (h : DO X et ce W e m) : DP X et ce W (some e) (fun Γ => (m Γ).bind toI) := by
  obtain ⟨t, p, g⟩ := h
  refine ⟨_, po_some p, fun Hs H0s σ H H0 Γ Q c q => g _ _ _ _ _ _ _ c (Post.next q fun d v H1 G _ s r q => ?_)⟩
  cases d with
  | int i => exact ⟨i, rep_int r, q _ H1 G s rfl⟩
  | _ => exact (q : False).elim
theorem good_sl {te : TE} {tl th : TO} {ml mh : En → Res (Option Int)} (ga : Good X.K et ce W (RO X.K) te ma) (gl : Good X.K et ce W RP tl ml) (gh : Good X.K et ce W RP th mh) :
    Good X.K et ce W (RF X.K) (tSl (fun x lo hi H Q => r1D X.K (gSl lo hi) x H Q) te tl th) (fun Γ => (ma Γ).bind fun x => (ml Γ).bind fun lo => (mh Γ).bind fun hi => toF (gSl lo hi x)) ∧
    Good X.K et ce W (RD X.K) (tSl (fun x lo hi H Q => r1D X.K (gSl lo hi) x H Q) te tl th) (fun Γ => (ma Γ).bind fun x => (ml Γ).bind fun lo => (mh Γ).bind fun hi => toR (gSl lo hi x)) := by
  constructor
  · intro Hs H0s σ H H0 Γ Q c q
    refine ga _ _ _ _ _ _ _ c (Post.next q fun d v H1 G1 _ s r q => gl _ _ _ _ _ _ _ (c.step s) (Post.next (q.step back_F s) fun lo lo' H2 G2 _ s2 e2 q => ?_))
    subst e2
    refine gh _ _ _ _ _ _ _ ((c.step s).step s2) (Post.next (q.step back_F s2) fun hi hi' H3 G3 _ s3 e3 q => ?_)
    subst e3
    exact ⟨G3, d, s3.sub, (r.same s2).same s3, askedF (σ := σ) s3.sub (q.step back_F s3)⟩
  · intro Hs H0s σ H H0 Γ Q c q
    refine ga _ _ _ _ _ _ _ c (Post.next q fun d v H1 G1 _ s r q => gl _ _ _ _ _ _ _ (c.step s) (Post.next (q.step back_D s) fun lo lo' H2 G2 _ s2 e2 q => ?_))
    subst e2
    refine gh _ _ _ _ _ _ _ ((c.step s).step s2) (Post.next (q.step back_D s2) fun hi hi' H3 G3 _ s3 e3 q => ?_)
    subst e3
    exact ⟨G3, d, s3.sub, (r.same s2).same s3, asked (σ := σ) s3.sub (q.step back_D s3)⟩
theorem d_sl {lo hi : Option Expr} {ml mh : En → Res (Option Int)} (h : DO X et ce W e m) (hl : DP X et ce W lo ml) (hh : DP X et ce W hi mh) :
    DE X et ce W (.Subscript e (.Slice lo hi none p2) pos) (fun Γ => (m Γ).bind fun x => (ml Γ).bind fun lo => (mh Γ).bind fun hi => toR (gSl lo hi x)) := by
  obtain ⟨t, p, g⟩ := h
  obtain ⟨tl, pl, gl⟩ := hl
  obtain ⟨th, ph, gh⟩ := hh
  exact ⟨_, pe_slice x_sl p pl ph, (good_sl g gl gh).2⟩
def rc1 (r : V → Hp → VK → Prop) : List V → Hp → VK → Prop := fun vs H Q => ∃ v, vs = [v] ∧ r v H Q
def rc2 (r : R2) : List V → Hp → VK → Prop := fun vs H Q => ∃ v w, vs = [v, w] ∧ r v w H Q
theorem good_c1 {te : TE} {g : D → Option Giv} (ga : Good X.K et ce W (RO X.K) te ma) : Good X.K et ce W (RD X.K) (tCB (rc1 (r1D X.K g)) (tCons te tNil)) (fun Γ => (ma Γ).bind fun x => toR (g x)) := by
  intro Hs H0s σ H H0 Γ Q c q
  refine ga _ _ _ _ _ _ _ c (Post.next q fun d v H1 G1 _ s r q => ?_)
  exact ⟨v, rfl, G1, d, s.sub, r, asked (σ := σ) s.sub (q.step back_D s)⟩
theorem good_c2 {ta tb : TE} {g : D → D → Option Giv} (ga : Good X.K et ce W (RO X.K) ta ma) (gb : Good X.K et ce W (RO X.K) tb mb) :
    Good X.K et ce W (RD X.K) (tCB (rc2 (r2D X.K g)) (tCons ta (tCons tb tNil))) (fun Γ => (ma Γ).bind fun x => (mb Γ).bind fun y => toR (g x y)) := by
  intro Hs H0s σ H H0 Γ Q c q
  refine ga _ _ _ _ _ _ _ c (Post.next q fun d v H1 G1 _ s r q => gb _ _ _ _ _ _ _ (c.step s) (Post.next (q.step back_D s) fun d2 v2 H2 G2 _ s2 r2 q => ?_))
  exact ⟨v, v2, rfl, G2, d, d2, s2.sub, r.same s2, r2, asked (σ := σ) s2.sub (q.step back_D s2)⟩
/-- f(a): hp by the rule of the layer for a call of that built-in -/
theorem d_c1 {g : D → Option Giv} (hp : ∀ t, PA X [a] t → PE X e (tCB (rc1 (r1D X.K g)) t)) (ha : DO X et ce W a ma) (hst : starEach (a :: []) X.env = (false, eval a X.env) :: starEach [] X.env := by rfl) : DE X et ce W e (fun Γ => (ma Γ).bind fun x => toR (g x)) := by
  obtain ⟨t, p, ga⟩ := ha
  exact ⟨_, hp _ (pa_cons p pa_nil hst), good_c1 ga⟩
theorem d_c2 {g : D → D → Option Giv} (hp : ∀ t, PA X [a, b] t → PE X e (tCB (rc2 (r2D X.K g)) t)) (ha : DO X et ce W a ma) (hb : DO X et ce W b mb) (hst : starEach (a :: [b]) X.env = (false, eval a X.env) :: starEach [b] X.env := by rfl)
    (hst2 : starEach (b :: []) X.env = (false, eval b X.env) :: starEach [] X.env := by rfl) : DE X et ce W e (fun Γ => (ma Γ).bind fun x => (mb Γ).bind fun y => toR (g x y)) := by
  obtain ⟨t, p, ga⟩ := ha
  obtain ⟨t2, p2, gb⟩ := hb
  exact ⟨_, hp _ (pa_cons p (pa_cons p2 pa_nil hst2) hst), good_c2 ga gb⟩
def gLen : D → Option Giv
  | .lst xs => some (.val (.int xs.length))
  | .tup xs => some (.val (.int xs.length))
  | .scr xs => some (.val (.int xs.length))
  | .str z => giv (z.length ≤ 1000000) (.int z.length)
  | _ => none
theorem b_len : CallR X (.builtin "len") (rc1 (r1D X.K gLen)) := callr_imp call_len fun vs H Q q => by
  obtain ⟨v, ev, H0, d, sub, rd, q⟩ := q
  subst ev
  cases d with
  | lst xs =>
    obtain ⟨a, vs, ev, ha, ra⟩ := rd
    subst ev
    exact ⟨_, _, rfl, .inl ⟨vs, SqL.of ha, rfl⟩, by rw [ra.len]; exact q _ (.int _)⟩
  | tup xs => cases rd with | tup ha ra => exact ⟨_, _, rfl, .inr ⟨_, seqT_same sub ha, rfl⟩, by rw [ra.len]; exact q _ (.int _)⟩
  | scr ns => cases rd with | scr ha => exact ⟨_, _, rfl, .inl ⟨_, sub.seq ha, rfl⟩, by rw [List.length_map]; exact q _ (.int _)⟩
  | str z =>
    obtain ⟨hc, q⟩ := asked_giv q
    have e := rep_str rd
    subst e
    exact ⟨_, _, rfl, ⟨line_of hc, rfl⟩, q _ (.int _)⟩
  | _ => exact q.elim
def gAbs : D → Option Giv
  | .int i => some (.val (.int (if i < 0 then -i else i)))
  | _ => none
theorem b_abs : CallR X (.builtin "abs") (rc1 (r1D X.K gAbs)) := callr_imp call_abs fun vs H Q q => by
  obtain ⟨v, ev, H0, d, sub, rd, q⟩ := q
  subst ev
  cases d with
  | int i => exact ⟨i, by rw [rep_int rd], q _ (.int _)⟩
  | _ => exact q.elim
def gInt : D → Option Giv
  | .int i => some (.val (.int i))
  | .bl k => some (.val (.int (if k then 1 else 0)))
  | _ => none
theorem b_int : CallR X (.type "int") (rc1 (r1D X.K gInt)) := callr_imp call_int1 fun vs H Q q => by
  obtain ⟨v, ev, H0, d, sub, rd, q⟩ := q
  subst ev
  cases d with
  | int i => exact .inl ⟨i, by rw [rep_int rd], q _ (.int _)⟩
  | bl i => exact .inr ⟨i, by rw [rep_bl rd], q _ (.int _)⟩
  | _ => exact q.elim
def gMax : D → D → Option Giv := i2 fun i j => some (.val (.int (if j > i then j else i)))
def gMin : D → D → Option Giv := i2 fun i j => some (.val (.int (if j < i then j else i)))
theorem b_max (hc : X.calm = true) : CallR X (.builtin "max") (rc2 (r2D X.K gMax)) := callr_imp (call_max2 hc) fun vs H Q q => by
  obtain ⟨v, w, ev, q⟩ := q
  obtain ⟨H0, i, j, e1, e2, k⟩ := two_ints q
  subst ev e1 e2
  exact ⟨i, j, rfl, k _ (.int _)⟩
theorem b_min (hc : X.calm = true) : CallR X (.builtin "min") (rc2 (r2D X.K gMin)) := callr_imp (call_min2 hc) fun vs H Q q => by
  obtain ⟨v, w, ev, q⟩ := q
  obtain ⟨H0, i, j, e1, e2, k⟩ := two_ints q
  subst ev e1 e2
  exact ⟨i, j, rfl, k _ (.int _)⟩
/-- the built-in types that are asked for -/
inductive Ty where
  | int | bool | str | tuple | list
def Ty.name : Ty → String
  | .int => "int"
  | .bool => "bool"
  | .str => "str"
  | .tuple => "tuple"
  | .list => "list"
def isi : Ty → D → Bool
  | .int, .int _ => true
  | .int, .bl _ => true
  | .bool, .bl _ => true
  | .str, .str _ => true
  | .tuple, .tup _ => true
  | .list, .lst _ => true
  | .list, .scr _ => true
  | _, _ => false
def noObj : D → Bool
  | .obj _ _ _ => false
  | _ => true
def gIsi (T : Ty) (d : D) : Option Giv := giv (noObj d = true) (.bl (isi T d))
theorem tyx_of {K : PySem.W.Frag} {H H0 : Hp} {v : V} {d : D} (s : Same H0 H) (h : RepO K H H0 v d) (n : noObj d = true) (T : Ty) : ∃ t, TyX K H v (.type t) ∧ kitB t T.name = some (isi T d) := by
  cases d with
  | lst xs =>
    obtain ⟨a, vs, e, ha, _⟩ := h
    subst e
    exact ⟨"list", .base (.lst ha), by cases T <;> first | (show kitB "list" _ = some true; decide +kernel) | (show kitB "list" _ = some false; decide +kernel)⟩
  | dic ks xs =>
    obtain ⟨a, vs, e, ha, _⟩ := h
    subst e
    exact ⟨"dict", .base (.dK ha), by cases T <;> first | (show kitB "dict" _ = some true; decide +kernel) | (show kitB "dict" _ = some false; decide +kernel)⟩
  | non => cases h; exact ⟨"NoneType", .base .non, by cases T <;> first | (show kitB "NoneType" _ = some true; decide +kernel) | (show kitB "NoneType" _ = some false; decide +kernel)⟩
  | bl b => cases h; exact ⟨"bool", .base (.bl b), by cases T <;> first | (show kitB "bool" _ = some true; decide +kernel) | (show kitB "bool" _ = some false; decide +kernel)⟩
  | int i => cases h; exact ⟨"int", .base (.int i), by cases T <;> first | (show kitB "int" _ = some true; decide +kernel) | (show kitB "int" _ = some false; decide +kernel)⟩
  | str x => cases h; exact ⟨"str", .base (.str x), by cases T <;> first | (show kitB "str" _ = some true; decide +kernel) | (show kitB "str" _ = some false; decide +kernel)⟩
  | tup xs => cases h with | tup ha _ => exact ⟨"tuple", tyx_tup (seqT_same s ha), by cases T <;> first | (show kitB "tuple" _ = some true; decide +kernel) | (show kitB "tuple" _ = some false; decide +kernel)⟩
  | scr ns => cases h with | scr ha => exact ⟨"list", tyx_lst (s.seq ha), by cases T <;> first | (show kitB "list" _ = some true; decide +kernel) | (show kitB "list" _ = some false; decide +kernel)⟩
  | obj C ns xs => cases n
theorem d_isi {T : Ty} {p : Pos} (hg : Gl X "isinstance") (hm : X.mg "isinstance" = none) (hb : PE X b (tC (.ty T.name))) (ha : DO X et ce W a ma)
    (hst : starEach (a :: [b]) X.env = (false, eval a X.env) :: starEach [b] X.env := by rfl) (hst2 : starEach (b :: []) X.env = (false, eval b X.env) :: starEach [] X.env := by rfl)
    (hpl : (backTo pos (starEach [b] X.env)).any (·.1) = false := by rfl) :
    DE X et ce W (.Call (.Name "isinstance" p) [a, b] [] pos) (fun Γ => (ma Γ).bind fun x => toR (gIsi T x)) := by
  obtain ⟨t, pa, ga⟩ := ha
  refine ⟨_, pe_callB call_isi hg hm (by decide +kernel) (pa_cons pa (pa_cons hb pa_nil hst2) hst) (by decide) (by decide) hst hpl, fun Hs H0s σ H H0 Γ Q c q => ga _ _ _ _ _ _ _ c (Post.next q fun d v H1 G1 _ s r q => ?_)⟩
  have q := asked (σ := σ) s.sub (q.step back_D s)
  obtain ⟨hn, q⟩ := asked_giv q
  obtain ⟨k, ty, hk⟩ := tyx_of s.sub r hn T
  exact ⟨v, .ty T.name, .type k, .type T.name, _, rfl, .ty _, ty, kit_ty hk, q _ (.bl _)⟩
end
end DL
namespace DL
open PySem L2 PySem.Spec PyProof.Rows GL
section
variable {X : Cx} {et : ET} {ce : Caught} {W : WX} {e a b c tg : Expr} {es : List Expr} {m ma mb mc : En → Res D} {mt mu : En → Res Bool} {pos p2 : Pos}
def asB : D → Res Bool
  | .bl b => .ok b
  | _ => .stuck
theorem d_not (h : DE X et ce W a m) : DE X et ce W (.UnaryOp .Not a pos) (fun Γ => (m Γ).bind fun d => (asB d).bind fun b => .ok (.bl (!b))) := by
  obtain ⟨t, p, g⟩ := h
  refine ⟨_, pe_not p, fun Hs H0s σ H H0 Γ Q c q => g _ _ _ _ _ _ _ c (Post.next q fun d v H1 G _ s r q => ?_)⟩
  cases d with
  | bl b => exact ⟨b, rep_bl r, q _ H1 G s (.bl _)⟩
  | _ => exact (q : False).elim
theorem d_one {op} (h : DE X et ce W a m) : DE X et ce W (.BoolOp op [a] pos) m := by
  obtain ⟨t, p, g⟩ := h
  exact ⟨t, pe_one p, g⟩
theorem d_and {rest : List Expr} (ha : DE X et ce W a ma) (hb : DE X et ce W (.BoolOp .And (b :: rest) pos) mb) :
    DE X et ce W (.BoolOp .And (a :: b :: rest) pos) (fun Γ => (ma Γ).bind fun d => (asB d).bind fun b => if b = true then mb Γ else .ok (.bl false)) := by
  obtain ⟨t, p, g⟩ := ha
  obtain ⟨t2, p2, g2⟩ := hb
  refine ⟨_, pe_and p p2, fun Hs H0s σ H H0 Γ Q c q => g _ _ _ _ _ _ _ c (Post.next q fun d v H1 G _ s r q => ?_)⟩
  cases d with
  | bl b =>
    refine ⟨b, rep_bl r, ?_⟩
    have q : Post X.K et W (RD X.K) σ H H0 Q (if b = true then mb Γ else .ok (.bl false)) := q
    cases b with
    | true => rw [if_pos rfl] at q; exact iteT (g2 _ _ _ _ _ _ _ (c.step s) (q.step back_D s))
    | false => rw [if_neg Bool.false_ne_true] at q; exact iteF (q _ H1 G s (.bl _))
  | _ => exact (q : False).elim
theorem d_or {rest : List Expr} (ha : DE X et ce W a ma) (hb : DE X et ce W (.BoolOp .Or (b :: rest) pos) mb) :
    DE X et ce W (.BoolOp .Or (a :: b :: rest) pos) (fun Γ => (ma Γ).bind fun d => (asB d).bind fun b => if b = true then .ok (.bl true) else mb Γ) := by
  obtain ⟨t, p, g⟩ := ha
  obtain ⟨t2, p2, g2⟩ := hb
  refine ⟨_, pe_or p p2, fun Hs H0s σ H H0 Γ Q c q => g _ _ _ _ _ _ _ c (Post.next q fun d v H1 G _ s r q => ?_)⟩
  cases d with
  | bl b =>
    refine ⟨b, rep_bl r, ?_⟩
    have q : Post X.K et W (RD X.K) σ H H0 Q (if b = true then .ok (.bl true) else mb Γ) := q
    cases b with
    | true => rw [if_pos rfl] at q; exact iteT (q _ H1 G s (.bl _))
    | false => rw [if_neg Bool.false_ne_true] at q; exact iteF (g2 _ _ _ _ _ _ _ (c.step s) (q.step back_D s))
  | _ => exact (q : False).elim
theorem d_if (hc : DT X et ce W c mt) (ha : DE X et ce W a ma) (hb : DE X et ce W b mb) : DE X et ce W (.IfExp c a b pos) (fun Γ => (mt Γ).bind fun k => if k = true then ma Γ else mb Γ) := by
  obtain ⟨t, p, g⟩ := hc
  obtain ⟨t1, p1, g1⟩ := ha
  obtain ⟨t2, p2, g2⟩ := hb
  refine ⟨_, pe_ifExp p p1 p2, fun Hs H0s σ H H0 Γ Q c q => g _ _ _ _ _ _ _ c (Post.next q fun k k' H1 G _ s r q => ?_)⟩
  cases (r : k' = k)
  cases k with
  | true => rw [if_pos rfl] at q; exact iteT (g1 _ _ _ _ _ _ _ (c.step s) (q.step back_D s))
  | false => rw [if_neg Bool.false_ne_true] at q; exact iteF (g2 _ _ _ _ _ _ _ (c.step s) (q.step back_D s))
theorem dt_not (h : DT X et ce W a mt) : DT X et ce W (.UnaryOp .Not a pos) (fun Γ => (mt Γ).bind fun b => .ok (!b)) := by
  obtain ⟨t, p, g⟩ := h
  refine ⟨_, pt_not p, fun Hs H0s σ H H0 Γ Q c q => g _ _ _ _ _ _ _ c (Post.next q fun k k' H1 G _ s r q => ?_)⟩
  cases (r : k' = k)
  exact q _ H1 G s rfl
theorem dt_w (h : DW X et ce W a mt) : DT X et ce W a mt := by
  obtain ⟨t, p, g⟩ := h
  exact ⟨t, p.pt, g⟩
theorem good_and {ta tb : TT} (ga : Good X.K et ce W RB ta mt) (gb : Good X.K et ce W RB tb mu) : Good X.K et ce W RB (tAnd ta tb) (fun Γ => (mt Γ).bind fun b => if b = true then mu Γ else .ok false) := by
  intro Hs H0s σ H H0 Γ Q c q
  refine ga _ _ _ _ _ _ _ c (Post.next q fun k k' H1 G _ s r q => ?_)
  cases (r : k' = k)
  cases k with
  | true => rw [if_pos rfl] at q; exact iteT (gb _ _ _ _ _ _ _ (c.step s) (q.step back_B s))
  | false => rw [if_neg Bool.false_ne_true] at q; exact iteF (q _ H1 G s rfl)
theorem good_or {ta tb : TT} (ga : Good X.K et ce W RB ta mt) (gb : Good X.K et ce W RB tb mu) : Good X.K et ce W RB (tOr ta tb) (fun Γ => (mt Γ).bind fun b => if b = true then .ok true else mu Γ) := by
  intro Hs H0s σ H H0 Γ Q c q
  refine ga _ _ _ _ _ _ _ c (Post.next q fun k k' H1 G _ s r q => ?_)
  cases (r : k' = k)
  cases k with
  | true => rw [if_pos rfl] at q; exact iteT (q _ H1 G s rfl)
  | false => rw [if_neg Bool.false_ne_true] at q; exact iteF (gb _ _ _ _ _ _ _ (c.step s) (q.step back_B s))
theorem dw_and {rest : List Expr} (ha : DT X et ce W a mt) (hb : DW X et ce W (.BoolOp .And (b :: rest) pos) mu) : DW X et ce W (.BoolOp .And (a :: b :: rest) pos) (fun Γ => (mt Γ).bind fun b => if b = true then mu Γ else .ok false) := by
  obtain ⟨t, p, g⟩ := ha
  obtain ⟨t2, p2, g2⟩ := hb
  exact ⟨_, pw_and p p2, good_and g g2⟩
theorem dw_or {rest : List Expr} (ha : DT X et ce W a mt) (hb : DW X et ce W (.BoolOp .Or (b :: rest) pos) mu) : DW X et ce W (.BoolOp .Or (a :: b :: rest) pos) (fun Γ => (mt Γ).bind fun b => if b = true then .ok true else mu Γ) := by
  obtain ⟨t, p, g⟩ := ha
  obtain ⟨t2, p2, g2⟩ := hb
  exact ⟨_, pw_or p p2, good_or g g2⟩
theorem dw_and1 (h : DT X et ce W a mt) : DW X et ce W (.BoolOp .And [a] pos) mt := by
  obtain ⟨t, p, g⟩ := h
  exact ⟨_, pw_and1 p, g⟩
theorem dw_or1 (h : DT X et ce W a mt) : DW X et ce W (.BoolOp .Or [a] pos) mt := by
  obtain ⟨t, p, g⟩ := h
  exact ⟨_, pw_or1 p, g⟩
/-- a op b op' c -/
theorem good_chain {ta tb tc : TE} {g g' : D → D → Option Giv} (ga : Good X.K et ce W (RO X.K) ta ma) (gb : Good X.K et ce W (RO X.K) tb mb) (gc : Good X.K et ce W (RO X.K) tc mc)
    (hb : ∀ d e r, g d e = some r → ∃ k, r = .val (.bl k)) :
    Good X.K et ce W (RD X.K) (tChain (r2D X.K g) (r2D X.K g') ta tb tc) (fun Γ => (ma Γ).bind fun x => (mb Γ).bind fun y => (toR (g x y)).bind fun z => (asB z).bind fun k => if k = true then (mc Γ).bind fun w => toR (g' y w) else .ok (.bl false)) := by
  intro Hs H0s σ H H0 Γ Q c q
  refine ga _ _ _ _ _ _ _ c (Post.next q fun x v H1 G1 _ s r q => gb _ _ _ _ _ _ _ (c.step s) (Post.next (q.step back_D s) fun y v2 H2 G2 _ s2 r2 q => ?_))
  refine ⟨G2, x, y, s2.sub, r.same s2, r2, ?_⟩
  cases hg : g x y with
  | none => rw [hg] at q; exact (q : False).elim
  | some rr =>
    obtain ⟨k, e⟩ := hb _ _ _ hg
    subst e
    rw [hg] at q
    have q : Post X.K et W (RD X.K) σ H1 G1 Q (if k = true then (mc Γ).bind fun w => toR (g' y w) else .ok (.bl false)) := q
    intro w rw_
    cases rep_bl rw_
    refine ⟨k, rfl, ?_⟩
    cases k with
    | false => rw [if_neg Bool.false_ne_true] at q; exact iteF (q _ H2 G2 s2 (.bl _))
    | true =>
      rw [if_pos rfl] at q
      refine iteT (gc _ _ _ _ _ _ _ ((c.step s).step s2) (Post.next (q.step back_D s2) fun z v3 H3 G3 _ s3 r3 q => ?_))
      exact ⟨G3, y, z, s3.sub, r2.same s3, r3, asked (σ := σ) s3.sub (q.step back_D s3)⟩
theorem d_chain {g g' : D → D → Option Giv} (ha : DO X et ce W a ma) (hb : DO X et ce W b mb) (hc : DO X et ce W c mc) (hk : ∀ d e r, g d e = some r → ∃ k, r = .val (.bl k))
    (hp : ∀ ta tb tc, PE X a ta → PE X b tb → PE X c tc → PE X e (tChain (r2D X.K g) (r2D X.K g') ta tb tc)) :
    DE X et ce W e (fun Γ => (ma Γ).bind fun x => (mb Γ).bind fun y => (toR (g x y)).bind fun z => (asB z).bind fun k => if k = true then (mc Γ).bind fun w => toR (g' y w) else .ok (.bl false)) := by
  obtain ⟨t, p, ga⟩ := ha
  obtain ⟨t2, p2, gb⟩ := hb
  obtain ⟨t3, p3, gc⟩ := hc
  exact ⟨_, hp _ _ _ p p2 p3, good_chain ga gb gc hk⟩
theorem le_bl : ∀ d e r, gLe d e = some r → ∃ k, r = Giv.val (.bl k) := fun d e r h => by
  unfold gLe i2 at h; split at h
  · cases h; exact ⟨_, rfl⟩
  · cases h
/-- a value's truth -/
def truth : D → Res Bool
  | .non => .ok false
  | .bl b => .ok b
  | .int i => .ok (i != 0)
  | .str z => need (z.length ≤ 1000000) (.ok ((z.length : Int) != 0))
  | .lst xs => .ok (!xs.isEmpty)
  | .tup xs => .ok (!xs.isEmpty)
  | .scr xs => .ok (!xs.isEmpty)
  | _ => .stuck
theorem isEmpty_rep {K : PySem.W.Frag} {H : Hp} {vs : List V} {ds : List D} (r : RepAll K H vs ds) : vs.isEmpty = ds.isEmpty := by cases r <;> rfl
theorem dt_truth (hp : ∀ t, PE X a t → PT X a (fun σ H Q => t σ H fun x H' => ∃ k, TruV X.K x H' k ∧ Q k H')) (h : DO X et ce W a m) : DT X et ce W a (fun Γ => (m Γ).bind truth) := by
  obtain ⟨t, p, g⟩ := h
  refine ⟨_, hp _ p, fun Hs H0s σ H H0 Γ Q c q => g _ _ _ _ _ _ _ c (Post.next q fun d v H1 G _ s r q => ?_)⟩
  cases d with
  | non => cases rep_non r; exact ⟨_, rfl, q _ H1 G s rfl⟩
  | bl b => cases rep_bl r; exact ⟨_, rfl, q _ H1 G s rfl⟩
  | int i => cases rep_int r; exact ⟨_, rfl, q _ H1 G s rfl⟩
  | str z => cases rep_str r; exact ⟨_, ⟨line_of (need_if q).1, rfl⟩, (need_if q).2 _ H1 G s rfl⟩
  | lst xs =>
    obtain ⟨p, vs, ev, ha, ra⟩ := r
    subst ev
    exact ⟨_, .inl ⟨vs, SqL.of ha, rfl⟩, by rw [isEmpty_rep ra]; exact q _ H1 G s rfl⟩
  | tup xs => cases r with | tup ha ra => exact ⟨_, .inr (.inl ⟨_, seqT_same s.sub ha, rfl⟩), by rw [isEmpty_rep ra]; exact q _ H1 G s rfl⟩
  | scr ns => cases r with | scr ha => exact ⟨_, .inl ⟨_, s.sub.seq ha, rfl⟩, by rw [show (ns.map V.int).isEmpty = ns.isEmpty by cases ns <;> rfl]; exact q _ H1 G s rfl⟩
  | _ => exact (q : False).elim
end
end DL
namespace DL
open PySem L2 PySem.Spec PyProof.Rows GL
section
variable {X : Cx} {et : ET} {ce : Caught} {W : WX} {e a b c tg : Expr} {es : List Expr} {m ma mb mc : En → Res D} {mt mu : En → Res Bool} {pos p2 : Pos}
theorem walks_lst {K : PySem.W.Frag} {H0 : Hp} {a : Addr} {vs : List V} {ds : List D} (h : H0 a = some (.lst vs)) (r : RepAll K H0 vs ds) : Walks K (Itl K a) H0 ds := walks_list (fun G H s1 s2 => SqL.of (s2 _ _ (s1 _ _ h))) r
theorem walks_tup {K : PySem.W.Frag} {H0 : Hp} {a : Addr} {vs : List V} {ds : List D} (h : SqT K H0 a vs) (r : RepAll K H0 vs ds) : Walks K (Itt K a) H0 ds := by
  constructor
  · intro i H G hi s1 s2
    have hl := seqT_same s2 (seqT_same s1 h)
    have hd : ds[i]? = some ds[i] := by simp [hi]
    obtain ⟨v, hv, rv⟩ := r.get hd
    refine ⟨⟨vs, v, hl, hv⟩, fun x H' y => ?_⟩
    obtain ⟨e, y⟩ := y
    subst e
    have := y vs hl
    rw [hv] at this
    cases this
    exact ⟨G, _, hd, Step.refl s2, rv.same s1⟩
  · intro i H G hi s1 s2
    exact ⟨vs, seqT_same s2 (seqT_same s1 h), by rw [r.len]; exact hi⟩
def asL : D → Res (List D)
  | .lst xs => .ok xs
  | _ => .stuck
def asT : D → Res (List D)
  | .tup xs => .ok xs
  | _ => .stuck
theorem di_list (h : DE X et ce W a m) : DI X et ce W tg a (fun Γ => (m Γ).bind asL) := by
  obtain ⟨t, p, g⟩ := h
  refine ⟨_, pi_list p, fun Hs H0s σ H H0 Γ Q c q => g _ _ _ _ _ _ _ c (Post.next q fun d v H1 G _ s r q => ?_)⟩
  cases d with
  | lst xs => cases r with | lst ha ra => exact ⟨_, rfl, ⟨_, SqL.of (s.sub _ _ ha)⟩, q _ H1 G s (walks_lst ha ra)⟩
  | _ => exact (q : False).elim
theorem di_tup (h : DE X et ce W a m) : DI X et ce W tg a (fun Γ => (m Γ).bind asT) := by
  obtain ⟨t, p, g⟩ := h
  refine ⟨_, pi_tup p, fun Hs H0s σ H H0 Γ Q c q => g _ _ _ _ _ _ _ c (Post.next q fun d v H1 G _ s r q => ?_)⟩
  cases d with
  | tup xs => cases r with | tup ha ra => exact ⟨_, rfl, ⟨_, seqT_same s.sub ha⟩, q _ H1 G s (walks_tup ha ra)⟩
  | _ => exact (q : False).elim
/-- i, i + 1, .., i + n - 1 -/
def rangeD (i : Int) : Nat → List D
  | 0 => []
  | n + 1 => .int i :: rangeD (i + 1) n
theorem rangeD_len (i : Int) (n : Nat) : (rangeD i n).length = n := by
  induction n generalizing i with
  | zero => rfl
  | succ n ih => exact congrArg Nat.succ (ih (i + 1))
theorem rangeD_get (i : Int) {n j : Nat} (h : j < n) : (rangeD i n)[j]? = some (.int (i + j)) := by
  induction n generalizing i j with
  | zero => omega
  | succ n ih =>
    cases j with
    | zero => simp [rangeD]
    | succ j =>
      show (rangeD (i + 1) n)[j]? = _
      rw [ih (i + 1) (by omega)]
      have : i + 1 + (j : Int) = i + ((j + 1 : Nat) : Int) := by omega
      rw [this]
theorem walks_range {K : PySem.W.Frag} {H0 : Hp} (lo : Int) (n : Nat) : Walks K (Itr lo n) H0 (rangeD lo n) := by
  constructor
  · intro i H G hi s1 s2
    rw [rangeD_len] at hi
    refine ⟨hi, fun x H' y => ?_⟩
    obtain ⟨e, e2⟩ := y
    subst e e2
    exact ⟨G, _, rangeD_get lo hi, Step.refl s2, .int _⟩
  · intro i H G hi s1 s2
    rw [rangeD_len] at hi
    exact hi
/-- i, i - 1, .. n numbers -/
def downD (i : Int) : Nat → List D
  | 0 => []
  | n + 1 => .int i :: downD (i - 1) n
theorem downD_len (i : Int) (n : Nat) : (downD i n).length = n := by
  induction n generalizing i with
  | zero => rfl
  | succ n ih => exact congrArg Nat.succ (ih (i - 1))
theorem downD_get (i : Int) {n j : Nat} (h : j < n) : (downD i n)[j]? = some (.int (i - j)) := by
  induction n generalizing i j with
  | zero => omega
  | succ n ih =>
    cases j with
    | zero => simp [downD]
    | succ j =>
      show (downD (i - 1) n)[j]? = _
      rw [ih (i - 1) (by omega)]
      have : i - 1 - (j : Int) = i - ((j + 1 : Nat) : Int) := by omega
      rw [this]
theorem walks_down {K : PySem.W.Frag} {H0 : Hp} (lo : Int) (n : Nat) : Walks K (Itc lo (-1) n) H0 (downD lo n) := by
  constructor
  · intro i H G hi s1 s2
    rw [downD_len] at hi
    refine ⟨hi, fun x H' y => ?_⟩
    obtain ⟨e, e2⟩ := y
    subst e e2
    refine ⟨G, _, downD_get lo hi, Step.refl s2, ?_⟩
    have : lo + (i : Int) * (-1) = lo - i := by omega
    rw [this]
    exact .int _
  · intro i H G hi s1 s2
    rw [downD_len] at hi
    exact hi
def rng1 : List D → Res (List D)
  | [.int n] => need (-1000000 ≤ n ∧ n ≤ 1000000) (.ok (rangeD 0 n.toNat))
  | _ => .stuck
def rng2 : List D → Res (List D)
  | [.int i, .int j] => need (-1000000 ≤ i ∧ i ≤ 1000000 ∧ -1000000 ≤ j ∧ j ≤ 1000000) (.ok (rangeD i (j - i).toNat))
  | _ => .stuck
/-- range(i, j, -1) -/
def rng3 : List D → Res (List D)
  | [.int i, .int j, .int c] => need (c = -1 ∧ -1000000 ≤ i ∧ i ≤ 1000000 ∧ -1000000 ≤ j ∧ j ≤ 1000000) (.ok (downD i (i - j).toNat))
  | _ => .stuck
variable {mas : En → Res (List D)}
theorem di_range1 {p : Pos} (hg : Gl X "range") (hm : X.mg "range" = none) (h : DA X et ce W [a] mas) (hs : starEach [a] X.env = [(false, eval a X.env)] := by rfl) : DI X et ce W tg (.Call (.Name "range" p) [a] [] pos) (fun Γ => (mas Γ).bind rng1) := by
  obtain ⟨t, pa, g⟩ := h
  refine ⟨_, pi_range1 hg hm pa hs, fun Hs H0s σ H H0 Γ Q c q => g _ _ _ _ _ _ _ c (Post.next q fun ds vs H1 G _ s r q => ?_)⟩
  match ds, (show RepAll X.K G vs ds from r), q with
  | [.int n], .cons r1 .nil, q =>
    obtain ⟨hn, q⟩ := need_if q
    cases rep_int r1
    exact ⟨n, rfl, by omega, by omega, q _ H1 G s (walks_range _ _)⟩
theorem di_range2 {p : Pos} (hg : Gl X "range") (hm : X.mg "range" = none) (h : DA X et ce W [a, b] mas) (hs : starEach [a, b] X.env = [(false, eval a X.env), (false, eval b X.env)] := by rfl) (hs2 : starEach [b] X.env = [(false, eval b X.env)] := by rfl) :
    DI X et ce W tg (.Call (.Name "range" p) [a, b] [] pos) (fun Γ => (mas Γ).bind rng2) := by
  obtain ⟨t, pa, g⟩ := h
  refine ⟨_, pi_range2 hg hm pa hs hs2, fun Hs H0s σ H H0 Γ Q c q => g _ _ _ _ _ _ _ c (Post.next q fun ds vs H1 G _ s r q => ?_)⟩
  match ds, (show RepAll X.K G vs ds from r), q with
  | [.int i, .int j], .cons r1 (.cons r2 .nil), q =>
    obtain ⟨hn, q⟩ := need_if q
    cases rep_int r1
    cases rep_int r2
    exact ⟨i, j, rfl, ⟨by omega, by omega, by omega, by omega⟩, q _ H1 G s (walks_range _ _)⟩
theorem di_range3 {p : Pos} (hg : Gl X "range") (hm : X.mg "range" = none) (h : DA X et ce W [a, b, c] mas)
    (hs : starEach [a, b, c] X.env = (false, eval a X.env) :: starEach [b, c] X.env := by rfl) (hpl : (backTo pos (starEach [b, c] X.env)).any (·.1) = false := by rfl) :
    DI X et ce W tg (.Call (.Name "range" p) [a, b, c] [] pos) (fun Γ => (mas Γ).bind rng3) := by
  obtain ⟨t, pa, g⟩ := h
  refine ⟨_, pi_range3 hg hm pa hs hpl, fun Hs H0s σ H H0 Γ Q c q => g _ _ _ _ _ _ _ c (Post.next q fun ds vs H1 G _ s r q => ?_)⟩
  match ds, (show RepAll X.K G vs ds from r), q with
  | [.int i, .int j, .int k], .cons r1 (.cons r2 (.cons r3 .nil)), q =>
    obtain ⟨⟨hk, hn⟩, q2⟩ := need_if q
    subst hk
    cases rep_int r1
    cases rep_int r2
    cases rep_int r3
    exact ⟨i, j, -1, _, rfl, RgC.neg (by omega) (by omega) (by omega) (by omega), q2 _ H1 G s (walks_down _ _)⟩
/-- pairs of a place and an item -/
def enumD : Nat → List D → List D
  | _, [] => []
  | i, x :: r => .tup [.int i, x] :: enumD (i + 1) r
theorem enumD_len : ∀ (i : Nat) (ds : List D), (enumD i ds).length = ds.length
  | _, [] => rfl
  | i, x :: r => congrArg Nat.succ (enumD_len (i + 1) r)
theorem enumD_get : ∀ {i j : Nat} {ds : List D} {d : D}, ds[j]? = some d → (enumD i ds)[j]? = some (.tup [.int ((i + j : Nat) : Int), d])
  | _, _, [], _, h => by simp at h
  | i, 0, x :: r, d, h => by simp at h; subst h; simp [enumD]
  | i, j + 1, x :: r, d, h => by
    show (enumD (i + 1) r)[j]? = _
    rw [enumD_get (i := i + 1) (by simpa using h)]
    have : i + 1 + j = i + (j + 1) := by omega
    rw [this]
theorem walks_enum {K : PySem.W.Frag} {H0 : Hp} {a : Addr} {vs : List V} {ds : List D} (h : H0 a = some (.lst vs)) (r : RepAll K H0 vs ds) : Walks K (Ite K a) H0 (enumD 0 ds) := by
  constructor
  · intro i H G hi s1 s2
    rw [enumD_len] at hi
    have hl : SqL K H a vs := SqL.of (s2 _ _ (s1 _ _ h))
    have hd : ds[i]? = some ds[i] := by simp [hi]
    obtain ⟨v, hv, rv⟩ := r.get hd
    refine ⟨⟨vs, v, hl, hv⟩, fun x H' y => ?_⟩
    obtain ⟨T, w, ex, hT, eH, y⟩ := y
    subst ex eH
    have := y vs hl
    rw [hv] at this
    cases this
    refine ⟨upd G T _, _, enumD_get hd, Step.new s2 hT, .tup (SqT.of upd_same) (.cons ?_ (.cons ((rv.same s1).same (same_upd' (Same.refl _) (none_sub s2 hT))) .nil))⟩
    rw [Nat.zero_add]
    exact .int _
  · intro i H G hi s1 s2
    rw [enumD_len] at hi
    exact ⟨vs, SqL.of (s2 _ _ (s1 _ _ h)), by rw [r.len]; exact hi⟩
theorem di_enum {p tpos : Pos} {elts : List Expr} {kk : Nat} (hg : Gl X "enumerate") (hm : X.mg "enumerate" = none) (h : DE X et ce W a m) (hs : starEach [a] X.env = [(false, eval a X.env)] := by rfl) :
    DI X et ce W (.Tuple elts kk tpos) (.Call (.Name "enumerate" p) [a] [] pos) (fun Γ => (m Γ).bind fun d => (asL d).bind fun xs => .ok (enumD 0 xs)) := by
  obtain ⟨t, pa, g⟩ := h
  refine ⟨_, pi_enum hg hm (pa_cons pa pa_nil (by rw [hs]; rfl)) hs, fun Hs H0s σ H H0 Γ Q c q => g _ _ _ _ _ _ _ c (Post.next q fun d v H1 G _ s r q => ?_)⟩
  cases d with
  | lst xs => cases r with | lst ha ra => exact ⟨_, _, rfl, SqL.of (s.sub _ _ ha), q _ H1 G s (walks_enum ha ra)⟩
  | _ => exact (q : False).elim
theorem walks_rev {K : PySem.W.Frag} {H0 : Hp} {a : Addr} {vs : List V} {ds : List D} (h : H0 a = some (.lst vs)) (r : RepAll K H0 vs ds) : Walks K (Itv K a vs.length) H0 ds.reverse := by
  have hlen := r.len
  constructor
  · intro i H G hi s1 s2
    rw [List.length_reverse] at hi
    have hl : SqL K H a vs := SqL.of (s2 _ _ (s1 _ _ h))
    have hd : ds[ds.length - 1 - i]? = some ds[ds.length - 1 - i] := List.getElem?_eq_getElem (by omega)
    obtain ⟨v, hv, rv⟩ := r.get hd
    rw [← hlen] at hv
    refine ⟨⟨by omega, vs, v, hl, hv⟩, fun x H' y => ?_⟩
    obtain ⟨e, y⟩ := y
    subst e
    have := y vs hl
    rw [hv] at this
    cases this
    exact ⟨G, _, by rw [List.getElem?_reverse hi]; exact hd, Step.refl s2, rv.same s1⟩
  · intro i H G hi s1 s2
    rw [List.length_reverse] at hi
    show vs.length ≤ i
    omega
theorem di_rev {p : Pos} (hg : Gl X "reversed") (hm : X.mg "reversed" = none) (h : DE X et ce W a m) (hs : starEach [a] X.env = [(false, eval a X.env)] := by rfl) :
    DI X et ce W tg (.Call (.Name "reversed" p) [a] [] pos) (fun Γ => (m Γ).bind fun d => (asL d).bind fun xs => .ok xs.reverse) := by
  obtain ⟨t, pa, g⟩ := h
  refine ⟨_, pi_reversed hg hm (pa_cons pa pa_nil (by rw [hs]; rfl)) hs, fun Hs H0s σ H H0 Γ Q c q => g _ _ _ _ _ _ _ c (Post.next q fun d v H1 G _ s r q => ?_)⟩
  cases d with
  | lst xs => cases r with | lst ha ra => exact ⟨_, _, rfl, SqL.of (s.sub _ _ ha), q _ H1 G s (walks_rev ha ra)⟩
  | _ => exact (q : False).elim
def gBits : D → Option Giv
  | .int i => some (.val (.int (Builtin.Int.intBits i : Nat)))
  | _ => none
theorem d_bits (hp : ∀ t, PE X a t → PE X e (tBits t)) (h : DO X et ce W a m) : DE X et ce W e (fun Γ => (m Γ).bind fun x => toR (gBits x)) := by
  obtain ⟨t, p, g⟩ := h
  refine ⟨_, hp _ p, fun Hs H0s σ H H0 Γ Q c q => g _ _ _ _ _ _ _ c (Post.next q fun d v H1 G _ s r q => ?_)⟩
  cases d with
  | int i => exact ⟨i, rep_int r, q _ H1 G s (.int _)⟩
  | _ => exact (q : False).elim
theorem d_dict0 (hp : PE X e tDNewK) : DFD X et ce W e (fun _ => .ok ([], [])) :=
  ⟨_, hp, fun Hs H0s σ H H0 Γ Q c q p n => q _ _ _ (Step.own c.sub n) ⟨p, [], rfl, n, upd_same, none_sub c.sub n, rfl, .nil⟩⟩
end
end DL
namespace DL
open PySem L2 PySem.Spec PyProof.Rows GL
abbrev MD := En → Res D
abbrev ML := En → Res (List D)
def eVar (i : Nat) : MD := fun Γ => getS Γ i
def eVarO (i : Nat) : MD := fun Γ => getO Γ i
def eC (d : D) : MD := fun _ => .ok d
def eNil : ML := fun _ => .ok []
def eCons (m : MD) (ms : ML) : ML := fun Γ => (m Γ).bind fun d => (ms Γ).bind fun ds => .ok (d :: ds)
def eTup (ms : ML) : MD := fun Γ => (ms Γ).bind fun ds => need (ds.length ≤ 1000) (.ok (.tup ds))
def fLst (ms : ML) : ML := fun Γ => (ms Γ).bind fun ds => need (ds.length ≤ 1000) (.ok ds)
def eAll (m : ML) : MD := fun Γ => (m Γ).bind fun xs => .ok (.lst xs)
def eAllD (m : En → Res (List Key × List D)) : MD := fun Γ => (m Γ).bind fun xs => .ok (.dic xs.1 xs.2)
def fDict0 : En → Res (List Key × List D) := fun _ => .ok ([], [])
def eOp (g : D → D → Option Giv) (a b : MD) : MD := fun Γ => (a Γ).bind fun x => (b Γ).bind fun y => toR (g x y)
def fOp (g : D → D → Option Giv) (a b : MD) : ML := fun Γ => (a Γ).bind fun x => (b Γ).bind fun y => toF (g x y)
def eUn (g : D → Option Giv) (a : MD) : MD := fun Γ => (a Γ).bind fun x => toR (g x)
def bB (m : MD) : En → Res Bool := fun Γ => toB (m Γ)
def bTruth (m : MD) : En → Res Bool := fun Γ => (m Γ).bind truth
def pN : En → Res (Option Int) := fun _ => .ok none
def pS (m : MD) : En → Res (Option Int) := fun Γ => (m Γ).bind toI
def eSl (a : MD) (l h : En → Res (Option Int)) : MD := fun Γ => (a Γ).bind fun x => (l Γ).bind fun lo => (h Γ).bind fun hi => toR (gSl lo hi x)
def fSl (a : MD) (l h : En → Res (Option Int)) : ML := fun Γ => (a Γ).bind fun x => (l Γ).bind fun lo => (h Γ).bind fun hi => toF (gSl lo hi x)
def eNot (m : MD) : MD := fun Γ => (m Γ).bind fun d => (asB d).bind fun b => .ok (.bl (!b))
def eAnd (a b : MD) : MD := fun Γ => (a Γ).bind fun d => (asB d).bind fun k => if k = true then b Γ else .ok (.bl false)
def eOr (a b : MD) : MD := fun Γ => (a Γ).bind fun d => (asB d).bind fun k => if k = true then .ok (.bl true) else b Γ
def eIf (t : En → Res Bool) (a b : MD) : MD := fun Γ => (t Γ).bind fun k => if k = true then a Γ else b Γ
def bNot (t : En → Res Bool) : En → Res Bool := fun Γ => (t Γ).bind fun b => .ok (!b)
def bAnd (t u : En → Res Bool) : En → Res Bool := fun Γ => (t Γ).bind fun b => if b = true then u Γ else .ok false
def bOr (t u : En → Res Bool) : En → Res Bool := fun Γ => (t Γ).bind fun b => if b = true then .ok true else u Γ
def bYes : En → Res Bool := fun _ => .ok true
def eChain (g g' : D → D → Option Giv) (a b c : MD) : MD := fun Γ => (a Γ).bind fun x => (b Γ).bind fun y => (toR (g x y)).bind fun z => (asB z).bind fun k => if k = true then (c Γ).bind fun w => toR (g' y w) else .ok (.bl false)
def eCall (M : List D → Res Slot) (ms : ML) : MD := fun Γ => (ms Γ).bind fun ds => (M ds).bind slotD
def fCall (M : List D → Res Slot) (ms : ML) : ML := fun Γ => (ms Γ).bind fun ds => (M ds).bind slotF
def eCall0 (M : List D → Res Slot) : MD := fun _ => (M []).bind slotD
def iLst (m : MD) : ML := fun Γ => (m Γ).bind asL
def iTupl (m : MD) : ML := fun Γ => (m Γ).bind asT
def iR1 (ms : ML) : ML := fun Γ => (ms Γ).bind rng1
def iR2 (ms : ML) : ML := fun Γ => (ms Γ).bind rng2
def iR3 (ms : ML) : ML := fun Γ => (ms Γ).bind rng3
def iEnumr (m : MD) : ML := fun Γ => (m Γ).bind fun d => (asL d).bind fun xs => .ok (enumD 0 xs)
def iRevr (m : MD) : ML := fun Γ => (m Γ).bind fun d => (asL d).bind fun xs => .ok xs.reverse
def sNx : En → Out := fun Γ => .nx Γ
def sRetN : En → Out := fun _ => .rt (.sh .non)
def sFrz (i : Nat) (m : En → Out) : En → Out := fun Γ => m (frz i Γ)
/-- an expression alone -/
def mExpr (m : MD) (Γ : En) : Out := mTo (m Γ) Γ fun _ => .nx Γ
section
variable {X : Cx} {et : ET} {ce : Caught} {W : WX} {st : Stmt} {e tg e' : Expr} {m : MD} {mt : En → Res Bool} {mi : ML} {mg : D → En → Option En} {vs : List Nat} {g : TG}
theorem ds_expr (hp : ∀ t, PE X e t → PS X st (tDrop t)) (h : DE X et ce W e m) : DS X et ce W st (mExpr m) := by
  obtain ⟨t, p, ge⟩ := h
  refine ⟨_, hp _ p, fun Hs H0s σ H H0 Γ E c q => ge _ _ _ _ _ _ _ c ?_⟩
  exact PostS.to c q fun d v H' G _ s r q => q _ _ G (c.step s) s.small
theorem d_comp (hp : ∀ wi, PI X tg e wi → PE X e' (tLc wi g (tEM X.K et ce W0 RB mt) (tEM X.K et ce W0 (RD X.K) m) vs)) (hi : DI X et ce W tg e mi) (hg : GoodG X.K et ce vs g mg) : DF X et ce W e' (mComp vs mi mg mt m) := by
  obtain ⟨t, p, gi⟩ := hi
  exact ⟨_, hp t p, good_comp gi hg⟩
theorem ds_setLc {i : Nat} (hp : ∀ wi, PI X tg e wi → PS X st (tAsg (tLc wi g (tEM X.K et ce W0 RB mt) (tEM X.K et ce W0 (RD X.K) m) vs) (gName i))) (hi : DI X et ce W tg e mi) (hg : GoodG X.K et ce vs g mg) : DS X et ce W st (mSet i (eAll (mComp vs mi mg mt m))) := by
  obtain ⟨t, p, gi⟩ := hi
  refine ⟨_, hp t p, fun Hs H0s σ H H0 Γ E c q => good_comp gi hg _ _ _ _ _ _ _ c ?_⟩
  have q : PostS X.K et ce W Hs H0s H0 E (mTo ((mComp vs mi mg mt m Γ).bind fun xs => .ok (.lst xs)) Γ fun d => .nx (Γ.set i (.sh d))) := q
  cases hc : mComp vs mi mg mt m Γ with
  | stuck => rw [hc] at q; exact q.elim
  | exc x d => rw [hc] at q; exact fun C fld dd w H' G e s hd r => q C fld dd w σ H' G e (c.step s) s.small hd r
  | ok xs =>
    rw [hc] at q
    have q : PostS X.K et ce W Hs H0s H0 E (.nx (Γ.set i (.sh (.lst xs)))) := q
    intro v H' G s hv
    obtain ⟨p, vs, ev, hn, hp', h0, r⟩ := hv
    have s2 := Step.share c.sub s hn hp' h0
    exact q _ H' _ ((c.step s2).put i (by subst ev; exact .lst upd_same (r.same (same_upd' (Same.refl _) h0)))) s2.small
end
end DL
namespace DL
open PySem L2 PySem.Spec PyProof.Rows GL
/-- a law's own promise -/
def sp_law (K : PySem.W.Frag) : Sp := fun vs H Q _ => ∃ (a : Addr) (ns : List Int), vs = [.ref a] ∧ SqL K H a (ns.map V.int) ∧ ns.length ≤ 63 ∧ ∀ H', Q (.bl true) H'
/-- what a law is to give -/
def LawTrue (M : List D → Res Slot) : Prop := ∀ ns : List Int, ns.length ≤ 63 → M [.scr ns] = .ok (.sh (.bl true))
theorem law_sp {P : Program} {w : World} {K : PySem.W.Frag} {mg : Str → Option Value} {base : Heap} {cx : CXT} {k : Nat} {f : Addr} {fd : FuncData} {ps : List Str} {et : ET} {M : List D → Res Slot}
    (h : LawTrue M) (F : FnG P w K mg base cx k f fd ps (spD K et 1 M)) : FnG P w K mg base cx k f fd ps (sp_law K) := by
  have up : ∀ vs H Q E, sp_law K vs H Q E → spD K et 1 M vs H Q E := by
    rintro vs H Q E ⟨a, ns, rfl, hS, hl, q⟩
    refine ⟨rfl, H, [.scr ns], Same.refl _, .cons (.scr hS) .nil, ?_⟩
    rw [h ns hl]
    intro v H' G s hv
    cases rep_bl (show Rep K G v (.bl true) from hv)
    exact q H'
  exact ⟨fun vs H Q E z => F.len vs H Q E (up _ _ _ _ z), fun qu hr e b r z => F.go qu hr e b r (up _ _ _ _ z)⟩
theorem walkD {l : PySem.W.OpenLaw} {q : Program} {loose : List Str} {XP : (Str → Option Value) → Heap → Prop} {YP : World → Heap → Prop} {d : DefRec} {K : Params → PySem.W.Frag} {k : Nat} {x : Str} (hn : l.most = some 63) (hdf : d.params.defaults = []) (hr : Room k callerA)
    (hY : ∀ (w : World) (h : Heap), YP w h → (K w.params).In h)
    (F : ∀ (w : World) (mg : Str → Option Value) (fa : Addr) (h : Heap), (K w.params).In h → h.Ns mainGlobals mg → mg d.name = some (.ref fa) →
      ∃ fd : FuncData, (∀ (s : Shared) (u : Value), BindsTo s fd ⟨[u], []⟩ [(x, u)]) ∧ ∀ base : Heap, (K w.params).In base → base.Ns mainGlobals mg → base.NoDigits → FnG l.prog w (K w.params) mg base (L2.CX l.prog w) k fa fd [x] (sp_law (K w.params))) :
    PySem.W.WalkO q loose XP YP l.row.toRowW d [] (fun f vs => PySem.call f vs) :=
  walkG (n := 63) (k := k) (x := x) (cx := fun w => L2.CX l.prog w) (sp := fun w => sp_law (K w.params)) hn (by decide) hdf hr hY F (fun _ _ a ns hl _ hS => ⟨a, ns, rfl, hS, hl, fun _ => rfl⟩)
    fun _ _ _ _ _ ⟨_, _, _, _, _, _, _, _, _, _, _, _, z⟩ => z
end DL
namespace DL
open PySem L2 PySem.Spec PyProof.Rows GL
section
variable {α β : Type}
@[simp] theorem bind_ok (a : α) (k : α → Res β) : (Res.ok a).bind k = k a := rfl
@[simp] theorem bind_exc (x : String) (d : D) (k : α → Res β) : (Res.exc x d).bind k = .exc x d := rfl
@[simp] theorem bind_stuck (k : α → Res β) : (Res.stuck).bind k = .stuck := rfl
@[simp] theorem mTo_ok (a : α) (Γ : En) (k : α → Out) : mTo (.ok a) Γ k = k a := rfl
@[simp] theorem mTo_exc (x : String) (d : D) (Γ : En) (k : α → Out) : mTo (.exc x d) Γ k = .exc x d Γ := rfl
@[simp] theorem mTo_stuck (Γ : En) (k : α → Out) : mTo .stuck Γ k = .stuck := rfl
@[simp] theorem getS_0 (d : D) (Γ : En) : getS (.sh d :: Γ) 0 = .ok d := rfl
@[simp] theorem getS_s (s : Slot) (Γ : En) (i : Nat) : getS (s :: Γ) (i + 1) = getS Γ i := by simp [getS]
@[simp] theorem getO_0 (d : D) (Γ : En) : getO (.sh d :: Γ) 0 = .ok d := rfl
@[simp] theorem getO_0o (xs : List D) (Γ : En) : getO (.own xs :: Γ) 0 = .ok (.lst xs) := rfl
@[simp] theorem getO_0d (ks : List Key) (xs : List D) (Γ : En) : getO (.ownD ks xs :: Γ) 0 = .ok (.dic ks xs) := rfl
@[simp] theorem getO_s (s : Slot) (Γ : En) (i : Nat) : getO (s :: Γ) (i + 1) = getO Γ i := by simp [getO]
@[simp] theorem toR_val (d : D) : toR (some (.val d)) = .ok d := rfl
@[simp] theorem toR_none : toR none = .stuck := rfl
@[simp] theorem toR_newL (ds : List D) : toR (some (.newL ds)) = .ok (.lst ds) := rfl
@[simp] theorem toR_newT (ds : List D) : toR (some (.newT ds)) = .ok (.tup ds) := rfl
@[simp] theorem toF_newL (ds : List D) : toF (some (.newL ds)) = .ok ds := rfl
@[simp] theorem asB_bl (b : Bool) : asB (.bl b) = .ok b := rfl
@[simp] theorem slotD_sh (d : D) : slotD (.sh d) = .ok d := rfl
@[simp] theorem slotD_own (d : List D) : slotD (.own d) = .ok (.lst d) := rfl
@[simp] theorem slotD_ownD (k : List Key) (d : List D) : slotD (.ownD k d) = .ok (.dic k d) := rfl
@[simp] theorem slotF_own (d : List D) : slotF (.own d) = .ok d := rfl
@[simp] theorem toB_ok (b : Bool) : toB (.ok (.bl b)) = .ok b := rfl
@[simp] theorem toB_exc (x : String) (d : D) : toB (.exc x d) = .exc x d := rfl
@[simp] theorem asL_lst (xs : List D) : asL (.lst xs) = .ok xs := rfl
@[simp] theorem asT_tup (xs : List D) : asT (.tup xs) = .ok xs := rfl
@[simp] theorem toI_int (i : Int) : toI (.int i) = .ok (some i) := rfl
@[simp] theorem noX_ok (a : α) : noX (Res.ok a) = .ok a := rfl
@[simp] theorem need_pos {c : Prop} [Decidable c] {r : Res α} (h : c) : need c r = r := if_pos h
@[simp] theorem giv_pos {c : Prop} [Decidable c] {d : D} (h : c) : giv c d = some (.val d) := if_pos h
end
@[simp] theorem eVar_def (i : Nat) (Γ : En) : eVar i Γ = getS Γ i := rfl
@[simp] theorem eVarO_def (i : Nat) (Γ : En) : eVarO i Γ = getO Γ i := rfl
@[simp] theorem eC_def (d : D) (Γ : En) : eC d Γ = .ok d := rfl
@[simp] theorem eNil_def  (Γ : En) : eNil  Γ = .ok [] := rfl
@[simp] theorem eCons_def (m : MD) (ms : ML) (Γ : En) : eCons m ms Γ = (m Γ).bind fun d => (ms Γ).bind fun ds => .ok (d :: ds) := rfl
@[simp] theorem eTup_def (ms : ML) (Γ : En) : eTup ms Γ = (ms Γ).bind fun ds => need (ds.length ≤ 1000) (.ok (.tup ds)) := rfl
@[simp] theorem fLst_def (ms : ML) (Γ : En) : fLst ms Γ = (ms Γ).bind fun ds => need (ds.length ≤ 1000) (.ok ds) := rfl
@[simp] theorem eAll_def (m : ML) (Γ : En) : eAll m Γ = (m Γ).bind fun xs => .ok (.lst xs) := rfl
@[simp] theorem eAllD_def (m : En → Res (List Key × List D)) (Γ : En) : eAllD m Γ = (m Γ).bind fun xs => .ok (.dic xs.1 xs.2) := rfl
@[simp] theorem fDict0_def  (Γ : En) : fDict0  Γ = .ok ([], []) := rfl
@[simp] theorem eOp_def (g : D → D → Option Giv) (a b : MD) (Γ : En) : eOp g a b Γ = (a Γ).bind fun x => (b Γ).bind fun y => toR (g x y) := rfl
@[simp] theorem fOp_def (g : D → D → Option Giv) (a b : MD) (Γ : En) : fOp g a b Γ = (a Γ).bind fun x => (b Γ).bind fun y => toF (g x y) := rfl
@[simp] theorem eUn_def (g : D → Option Giv) (a : MD) (Γ : En) : eUn g a Γ = (a Γ).bind fun x => toR (g x) := rfl
@[simp] theorem bB_def (m : MD) (Γ : En) : bB m Γ = toB (m Γ) := rfl
@[simp] theorem bTruth_def (m : MD) (Γ : En) : bTruth m Γ = (m Γ).bind truth := rfl
@[simp] theorem pN_def  (Γ : En) : pN  Γ = .ok none := rfl
@[simp] theorem pS_def (m : MD) (Γ : En) : pS m Γ = (m Γ).bind toI := rfl
@[simp] theorem eSl_def (a : MD) (l h : En → Res (Option Int)) (Γ : En) : eSl a l h Γ = (a Γ).bind fun x => (l Γ).bind fun lo => (h Γ).bind fun hi => toR (gSl lo hi x) := rfl
@[simp] theorem fSl_def (a : MD) (l h : En → Res (Option Int)) (Γ : En) : fSl a l h Γ = (a Γ).bind fun x => (l Γ).bind fun lo => (h Γ).bind fun hi => toF (gSl lo hi x) := rfl
@[simp] theorem eNot_def (m : MD) (Γ : En) : eNot m Γ = (m Γ).bind fun d => (asB d).bind fun b => .ok (.bl (!b)) := rfl
@[simp] theorem eAnd_def (a b : MD) (Γ : En) : eAnd a b Γ = (a Γ).bind fun d => (asB d).bind fun k => if k = true then b Γ else .ok (.bl false) := rfl
@[simp] theorem eOr_def (a b : MD) (Γ : En) : eOr a b Γ = (a Γ).bind fun d => (asB d).bind fun k => if k = true then .ok (.bl true) else b Γ := rfl
@[simp] theorem eIf_def (t : En → Res Bool) (a b : MD) (Γ : En) : eIf t a b Γ = (t Γ).bind fun k => if k = true then a Γ else b Γ := rfl
@[simp] theorem bNot_def (t : En → Res Bool) (Γ : En) : bNot t Γ = (t Γ).bind fun b => .ok (!b) := rfl
@[simp] theorem bAnd_def (t u : En → Res Bool) (Γ : En) : bAnd t u Γ = (t Γ).bind fun b => if b = true then u Γ else .ok false := rfl
@[simp] theorem bOr_def (t u : En → Res Bool) (Γ : En) : bOr t u Γ = (t Γ).bind fun b => if b = true then .ok true else u Γ := rfl
@[simp] theorem bYes_def  (Γ : En) : bYes  Γ = .ok true := rfl
@[simp] theorem eChain_def (g g' : D → D → Option Giv) (a b c : MD) (Γ : En) : eChain g g' a b c Γ = (a Γ).bind fun x => (b Γ).bind fun y => (toR (g x y)).bind fun z => (asB z).bind fun k => if k = true then (c Γ).bind fun w => toR (g' y w) else .ok (.bl false) := rfl
@[simp] theorem eCall_def (M : List D → Res Slot) (ms : ML) (Γ : En) : eCall M ms Γ = (ms Γ).bind fun ds => (M ds).bind slotD := rfl
@[simp] theorem fCall_def (M : List D → Res Slot) (ms : ML) (Γ : En) : fCall M ms Γ = (ms Γ).bind fun ds => (M ds).bind slotF := rfl
@[simp] theorem eCall0_def (M : List D → Res Slot) (Γ : En) : eCall0 M Γ = (M []).bind slotD := rfl
@[simp] theorem iLst_def (m : MD) (Γ : En) : iLst m Γ = (m Γ).bind asL := rfl
@[simp] theorem iTupl_def (m : MD) (Γ : En) : iTupl m Γ = (m Γ).bind asT := rfl
@[simp] theorem iR1_def (ms : ML) (Γ : En) : iR1 ms Γ = (ms Γ).bind rng1 := rfl
@[simp] theorem iR2_def (ms : ML) (Γ : En) : iR2 ms Γ = (ms Γ).bind rng2 := rfl
@[simp] theorem iR3_def (ms : ML) (Γ : En) : iR3 ms Γ = (ms Γ).bind rng3 := rfl
@[simp] theorem iEnumr_def (m : MD) (Γ : En) : iEnumr m Γ = (m Γ).bind fun d => (asL d).bind fun xs => .ok (enumD 0 xs) := rfl
@[simp] theorem iRevr_def (m : MD) (Γ : En) : iRevr m Γ = (m Γ).bind fun d => (asL d).bind fun xs => .ok xs.reverse := rfl
@[simp] theorem sNx_def  (Γ : En) : sNx  Γ = .nx Γ := rfl
@[simp] theorem sRetN_def  (Γ : En) : sRetN  Γ = .rt (.sh .non) := rfl
@[simp] theorem sFrz_def (i : Nat) (m : En → Out) (Γ : En) : sFrz i m Γ = m (frz i Γ) := rfl
def Out.then : Out → (En → Out) → Out
  | .nx Γ, k => k Γ
  | o, _ => o
@[simp] theorem then_nx (Γ : En) (k : En → Out) : (Out.nx Γ).then k = k Γ := rfl
@[simp] theorem then_rt (s : Slot) (k : En → Out) : (Out.rt s).then k = .rt s := rfl
@[simp] theorem then_exc (x : String) (d : D) (Γ : En) (k : En → Out) : (Out.exc x d Γ).then k = .exc x d Γ := rfl
@[simp] theorem then_bk (Γ : En) (k : En → Out) : (Out.bk Γ).then k = .bk Γ := rfl
@[simp] theorem then_ct (Γ : En) (k : En → Out) : (Out.ct Γ).then k = .ct Γ := rfl
@[simp] theorem seq_eq (a b : En → Out) (Γ : En) : mSeq a b Γ = (a Γ).then b := by
  unfold mSeq Out.then
  cases a Γ <;> rfl
@[simp] theorem set_eq (i : Nat) (m : MD) (Γ : En) : mSet i m Γ = mTo (m Γ) Γ fun d => .nx (Γ.set i (.sh d)) := rfl
@[simp] theorem setF_eq (i : Nat) (m : ML) (Γ : En) : mSetF i m Γ = mTo (m Γ) Γ fun d => .nx (Γ.set i (.own d)) := rfl
@[simp] theorem ret_eq (m : MD) (Γ : En) : mRet m Γ = mTo (m Γ) Γ fun d => .rt (.sh d) := rfl
@[simp] theorem retF_eq (m : ML) (Γ : En) : mRetF m Γ = mTo (m Γ) Γ fun d => .rt (.own d) := rfl
@[simp] theorem expr_eq (m : MD) (Γ : En) : mExpr m Γ = mTo (m Γ) Γ fun _ => .nx Γ := rfl
@[simp] theorem raise_eq (x : String) (m : MD) (Γ : En) : mRaise x m Γ = mTo (m Γ) Γ fun d => .exc x d Γ := rfl
@[simp] theorem if_eq (t : En → Res Bool) (a b : En → Out) (Γ : En) : mIf t a b Γ = mTo (t Γ) Γ fun k => if k = true then a Γ else b Γ := rfl
@[simp] theorem asg_eq (g : D → En → Option En) (m : MD) (Γ : En) : mAsg g m Γ = mTo (m Γ) Γ fun d => (match g d Γ with | some Γ' => .nx Γ' | none => .stuck) := rfl
@[simp] theorem aug_eq (i : Nat) (g : D → D → Option Giv) (m : MD) (Γ : En) : mAug i g m Γ = mTo (getS Γ i) Γ fun x => mTo (m Γ) Γ fun y => mTo (toR (g x y)) Γ fun d => .nx (Γ.set i (.sh d)) := rfl
@[simp] theorem par_eq (i j : Nat) (x y : MD) (Γ : En) : mPar i j (eCons x (eCons y eNil)) Γ = mTo (x Γ) Γ fun a => mTo (y Γ) Γ fun b => .nx ((Γ.set i (.sh a)).set j (.sh b)) := by
  show mTo ((x Γ).bind fun d => ((y Γ).bind fun d2 => Res.ok [d2]).bind fun ds => .ok (d :: ds)) Γ _ = _
  cases x Γ <;> cases y Γ <;> rfl
/-- a slot that holds a list alone -/
def ownAt (Γ : En) (i : Nat) : Option (List D) := match Γ[i]? with
  | some (.own xs) => some xs
  | _ => none
@[simp] theorem ownAt_0 (xs : List D) (Γ : En) : ownAt (.own xs :: Γ) 0 = some xs := rfl
@[simp] theorem ownAt_s (s : Slot) (Γ : En) (i : Nat) : ownAt (s :: Γ) (i + 1) = ownAt Γ i := by simp [ownAt]
@[simp] theorem app_eq (i : Nat) (m : MD) (Γ : En) : mApp i m Γ = (match ownAt Γ i with | some xs => mTo (m Γ) Γ fun d => if xs.length < 1000000 then .nx (Γ.set i (.own (xs ++ [d]))) else .stuck | none => .stuck) := by
  unfold mApp ownAt
  split <;> rename_i h <;> simp [h]
@[simp] theorem retO_eq (i : Nat) (Γ : En) (xs : List D) (h : ownAt Γ i = some xs) : mRetO i Γ = .rt (.own xs) := by
  unfold ownAt at h
  unfold mRetO
  split at h <;> rename_i h2
  · cases h; rw [h2]
  · cases h
@[simp] theorem for_eq (mi : ML) (g : D → En → Option En) (b : En → Out) (Γ : En) : mFor mi g b Γ = mTo (mi Γ) Γ fun xs => forM g b xs Γ := rfl
@[simp] theorem bName_eq (i : Nat) (d : D) (Γ : En) : bName i d Γ = some (Γ.set i (.sh d)) := rfl
@[simp] theorem bOfTup_eq (fs : List (D → En → Option En)) (xs : List D) (Γ : En) : bOfTup fs (.tup xs) Γ = bTup fs xs Γ := rfl
@[simp] theorem bTup_nil (Γ : En) : bTup [] [] Γ = some Γ := rfl
@[simp] theorem bTup_cons (f : D → En → Option En) (fs : List (D → En → Option En)) (d : D) (ds : List D) (Γ : En) : bTup (f :: fs) (d :: ds) Γ = (f d Γ).bind fun Γ' => bTup fs ds Γ' := rfl
theorem forM_nil (g : D → En → Option En) (b : En → Out) (Γ : En) : forM g b [] Γ = .nx Γ := rfl
/-- behind a turn -/
def Out.turn : Out → (En → Out) → Out
  | .nx Γ, k => k Γ
  | .ct Γ, k => k Γ
  | .bk Γ, _ => .nx Γ
  | o, _ => o
@[simp] theorem turn_nx (Γ : En) (k : En → Out) : (Out.nx Γ).turn k = k Γ := rfl
@[simp] theorem turn_ct (Γ : En) (k : En → Out) : (Out.ct Γ).turn k = k Γ := rfl
@[simp] theorem turn_bk (Γ : En) (k : En → Out) : (Out.bk Γ).turn k = .nx Γ := rfl
@[simp] theorem turn_rt (s : Slot) (k : En → Out) : (Out.rt s).turn k = .rt s := rfl
@[simp] theorem turn_exc (x : String) (d : D) (Γ : En) (k : En → Out) : (Out.exc x d Γ).turn k = .exc x d Γ := rfl
theorem forM_cons (g : D → En → Option En) (b : En → Out) (x : D) (r : List D) (Γ Γ1 : En) (h : g x Γ = some Γ1) : forM g b (x :: r) Γ = (b Γ1).turn (forM g b r) := by
  rw [forM, h]
  dsimp only
  generalize b Γ1 = o
  cases o <;> rfl
theorem whileM_succ (t : En → Res Bool) (b : En → Out) (n : Nat) (Γ : En) : whileM t b (n + 1) Γ = mTo (t Γ) Γ fun k => if k = true then (b Γ).turn (whileM t b n) else .nx Γ := by
  rw [whileM]
  congr 1
  funext k
  cases k
  · rfl
  · rw [if_pos rfl, if_pos rfl]
    generalize b Γ = o
    cases o <;> rfl
/-- a body's answer -/
def Out.res : Out → Res Slot
  | .nx _ => .ok (.sh .non)
  | .rt s => .ok s
  | .exc x d _ => .exc x d
  | _ => .stuck
@[simp] theorem res_nx (Γ : En) : (Out.nx Γ).res = .ok (.sh .non) := rfl
@[simp] theorem res_rt (s : Slot) : (Out.rt s).res = .ok s := rfl
@[simp] theorem res_exc (x : String) (d : D) (Γ : En) : (Out.exc x d Γ).res = .exc x d := rfl
theorem body_eq (N : Nat) (mb : En → Out) (ds : List D) : mBody N mb ds = (mb (startD N ds)).res := by
  unfold mBody Out.res
  cases mb (startD N ds) <;> rfl
section
variable (i j : Int)
@[simp] theorem gSub_int : gSub (.int i) (.int j) = some (.val (.int (i - j))) := rfl
@[simp] theorem gAdd_int : gAdd (.int i) (.int j) = some (.val (.int (i + j))) := rfl
@[simp] theorem gAddI_int : gAddI (.int i) (.int j) = some (.val (.int (i + j))) := rfl
theorem gDiv_int : gDiv (.int i) (.int j) = giv (0 < j ∧ (j.natAbs.log2 < 9000 ∨ i.natAbs < 2 ^ 4400)) (.int (i / j)) := rfl
@[simp] theorem gMod_int : gMod (.int i) (.int j) = giv (0 < j) (.int (i % j)) := rfl
theorem gPow_int : gPow (.int i) (.int j) = giv (0 ≤ j ∧ (Builtin.Int.intBits i : Int) * j ≤ 2 ^ 27) (.int (i ^ j.toNat)) := rfl
@[simp] theorem gShr_int : gShr (.int i) (.int j) = giv (0 ≤ j) (.int (i / 2 ^ j.toNat)) := rfl
@[simp] theorem gAnd_int : gAnd (.int i) (.int j) = some (.val (.int (Builtin.bitAnd i j))) := rfl
@[simp] theorem gLt_int : gLt (.int i) (.int j) = some (.val (.bl (decide (i < j)))) := rfl
@[simp] theorem gLe_int : gLe (.int i) (.int j) = some (.val (.bl (decide (i ≤ j)))) := rfl
@[simp] theorem gGt_int : gGt (.int i) (.int j) = some (.val (.bl (decide (j < i)))) := rfl
@[simp] theorem gGe_int : gGe (.int i) (.int j) = some (.val (.bl (decide (j ≤ i)))) := rfl
@[simp] theorem gNeg_int : gNeg (.int i) = some (.val (.int (-i))) := rfl
@[simp] theorem gAbs_int : gAbs (.int i) = some (.val (.int (if i < 0 then -i else i))) := rfl
@[simp] theorem gMax_int : gMax (.int i) (.int j) = some (.val (.int (if j > i then j else i))) := rfl
@[simp] theorem gMin_int : gMin (.int i) (.int j) = some (.val (.int (if j < i then j else i))) := rfl
@[simp] theorem gInt_int : gInt (.int i) = some (.val (.int i)) := rfl
@[simp] theorem gBits_int : gBits (.int i) = some (.val (.int (Builtin.Int.intBits i : Nat))) := rfl
theorem mul_ok {i j : Int} {a b : Nat} (ha : i.natAbs < 2 ^ a) (hb : j.natAbs < 2 ^ b) (h0 : 0 < a) (h1 : 0 < b) (h : a + b ≤ 1000000) : gMul (.int i) (.int j) = some (.val (.int (i * j))) := giv_pos (wide_mul ha hb h0 h1 h)
theorem mulI_ok {i j : Int} {a b : Nat} (ha : i.natAbs < 2 ^ a) (hb : j.natAbs < 2 ^ b) (h0 : 0 < a) (h1 : 0 < b) (h : a + b ≤ 1000000) : gMulI (.int i) (.int j) = some (.val (.int (i * j))) := giv_pos (wide_mul ha hb h0 h1 h)
theorem div_ok {i j : Int} {a : Nat} (h : 0 < j) (ha : j.natAbs < 2 ^ a) (h0 : 0 < a) (h9 : a ≤ 9000) : gDiv (.int i) (.int j) = some (.val (.int (i / j))) := giv_pos ⟨h, .inl (Nat.lt_of_lt_of_le (PySem.Flt.log2_lt_of h0 ha) h9)⟩
end
theorem int_eqOk (i : Int) : eqOk (.int i) = true := by unfold eqOk plain py; rfl
@[simp] theorem gEq_int (i j : Int) : gEq (.int i) (.int j) = some (.val (.bl (i == j))) := by
  show gEqD (.int i) (.int j) = _
  unfold gEqD
  rw [giv_pos ⟨int_eqOk i, int_eqOk j⟩]
  unfold py
  simp [PyData.eqv]
@[simp] theorem gNe_int (i j : Int) : gNe (.int i) (.int j) = some (.val (.bl (!(i == j)))) := by
  show gNeD (.int i) (.int j) = _
  unfold gNeD
  rw [giv_pos ⟨int_eqOk i, int_eqOk j⟩]
  unfold py
  simp [PyData.eqv]
@[simp] theorem gEq_str (x y : Str) : gEq (.str x) (.str y) = some (.val (.bl (x == y))) := rfl
@[simp] theorem gNe_str (x y : Str) : gNe (.str x) (.str y) = some (.val (.bl (!(x == y)))) := rfl
@[simp] theorem gLen_lst (xs : List D) : gLen (.lst xs) = some (.val (.int xs.length)) := rfl
@[simp] theorem gLen_tup (xs : List D) : gLen (.tup xs) = some (.val (.int xs.length)) := rfl
@[simp] theorem gLen_scr (xs : List Int) : gLen (.scr xs) = some (.val (.int xs.length)) := rfl
@[simp] theorem truth_int (i : Int) : truth (.int i) = .ok (i != 0) := rfl
@[simp] theorem truth_bl (b : Bool) : truth (.bl b) = .ok b := rfl
@[simp] theorem truth_lst (xs : List D) : truth (.lst xs) = .ok (!xs.isEmpty) := rfl
theorem gIx_lst (xs : List D) (i : Int) : gIx (.lst xs) (.int i) = (atI xs i).map .val := rfl
theorem gIx_tup (xs : List D) (i : Int) : gIx (.tup xs) (.int i) = (atI xs i).map .val := rfl
theorem atI_nn {α : Type} {xs : List α} {i : Int} {a : α} (h0 : 0 ≤ i) (h : xs[i.toNat]? = some a) : atI xs i = some a := by
  have : ((i.toNat : Nat) : Int) = i := Int.toNat_of_nonneg h0
  rw [← this]
  exact atI_nat h
@[simp] theorem rng1_int (n : Int) : rng1 [.int n] = need (-1000000 ≤ n ∧ n ≤ 1000000) (.ok (rangeD 0 n.toNat)) := rfl
@[simp] theorem rng2_int (i j : Int) : rng2 [.int i, .int j] = need (-1000000 ≤ i ∧ i ≤ 1000000 ∧ -1000000 ≤ j ∧ j ≤ 1000000) (.ok (rangeD i (j - i).toNat)) := rfl
@[simp] theorem rng3_int (i j c : Int) : rng3 [.int i, .int j, .int c] = need (c = -1 ∧ -1000000 ≤ i ∧ i ≤ 1000000 ∧ -1000000 ≤ j ∧ j ≤ 1000000) (.ok (downD i (i - j).toNat)) := rfl
@[simp] theorem startD_eq (N : Nat) (ds : List D) : startD N ds = ds.map Slot.sh ++ List.replicate (N - ds.length) .un := rfl
@[simp] theorem noObj_non  : noObj D.non = true := rfl
@[simp] theorem isi_int_non  : isi .int D.non = false := rfl
@[simp] theorem isi_bool_non  : isi .bool D.non = false := rfl
@[simp] theorem isi_str_non  : isi .str D.non = false := rfl
@[simp] theorem isi_tuple_non  : isi .tuple D.non = false := rfl
@[simp] theorem isi_list_non  : isi .list D.non = false := rfl
@[simp] theorem noObj_bl (b : Bool) : noObj (D.bl b) = true := rfl
@[simp] theorem isi_int_bl (b : Bool) : isi .int (D.bl b) = true := rfl
@[simp] theorem isi_bool_bl (b : Bool) : isi .bool (D.bl b) = true := rfl
@[simp] theorem isi_str_bl (b : Bool) : isi .str (D.bl b) = false := rfl
@[simp] theorem isi_tuple_bl (b : Bool) : isi .tuple (D.bl b) = false := rfl
@[simp] theorem isi_list_bl (b : Bool) : isi .list (D.bl b) = false := rfl
@[simp] theorem noObj_int (i : Int) : noObj (D.int i) = true := rfl
@[simp] theorem isi_int_int (i : Int) : isi .int (D.int i) = true := rfl
@[simp] theorem isi_bool_int (i : Int) : isi .bool (D.int i) = false := rfl
@[simp] theorem isi_str_int (i : Int) : isi .str (D.int i) = false := rfl
@[simp] theorem isi_tuple_int (i : Int) : isi .tuple (D.int i) = false := rfl
@[simp] theorem isi_list_int (i : Int) : isi .list (D.int i) = false := rfl
@[simp] theorem noObj_str (x : Str) : noObj (D.str x) = true := rfl
@[simp] theorem isi_int_str (x : Str) : isi .int (D.str x) = false := rfl
@[simp] theorem isi_bool_str (x : Str) : isi .bool (D.str x) = false := rfl
@[simp] theorem isi_str_str (x : Str) : isi .str (D.str x) = true := rfl
@[simp] theorem isi_tuple_str (x : Str) : isi .tuple (D.str x) = false := rfl
@[simp] theorem isi_list_str (x : Str) : isi .list (D.str x) = false := rfl
@[simp] theorem noObj_tup (xs : List D) : noObj (D.tup xs) = true := rfl
@[simp] theorem isi_int_tup (xs : List D) : isi .int (D.tup xs) = false := rfl
@[simp] theorem isi_bool_tup (xs : List D) : isi .bool (D.tup xs) = false := rfl
@[simp] theorem isi_str_tup (xs : List D) : isi .str (D.tup xs) = false := rfl
@[simp] theorem isi_tuple_tup (xs : List D) : isi .tuple (D.tup xs) = true := rfl
@[simp] theorem isi_list_tup (xs : List D) : isi .list (D.tup xs) = false := rfl
@[simp] theorem noObj_lst (xs : List D) : noObj (D.lst xs) = true := rfl
@[simp] theorem isi_int_lst (xs : List D) : isi .int (D.lst xs) = false := rfl
@[simp] theorem isi_bool_lst (xs : List D) : isi .bool (D.lst xs) = false := rfl
@[simp] theorem isi_str_lst (xs : List D) : isi .str (D.lst xs) = false := rfl
@[simp] theorem isi_tuple_lst (xs : List D) : isi .tuple (D.lst xs) = false := rfl
@[simp] theorem isi_list_lst (xs : List D) : isi .list (D.lst xs) = true := rfl
@[simp] theorem noObj_scr (ns : List Int) : noObj (D.scr ns) = true := rfl
@[simp] theorem isi_int_scr (ns : List Int) : isi .int (D.scr ns) = false := rfl
@[simp] theorem isi_bool_scr (ns : List Int) : isi .bool (D.scr ns) = false := rfl
@[simp] theorem isi_str_scr (ns : List Int) : isi .str (D.scr ns) = false := rfl
@[simp] theorem isi_tuple_scr (ns : List Int) : isi .tuple (D.scr ns) = false := rfl
@[simp] theorem isi_list_scr (ns : List Int) : isi .list (D.scr ns) = true := rfl
@[simp] theorem noObj_dic (ks : List Key) (xs : List D) : noObj (D.dic ks xs) = true := rfl
@[simp] theorem isi_int_dic (ks : List Key) (xs : List D) : isi .int (D.dic ks xs) = false := rfl
@[simp] theorem isi_bool_dic (ks : List Key) (xs : List D) : isi .bool (D.dic ks xs) = false := rfl
@[simp] theorem isi_str_dic (ks : List Key) (xs : List D) : isi .str (D.dic ks xs) = false := rfl
@[simp] theorem isi_tuple_dic (ks : List Key) (xs : List D) : isi .tuple (D.dic ks xs) = false := rfl
@[simp] theorem isi_list_dic (ks : List Key) (xs : List D) : isi .list (D.dic ks xs) = false := rfl
@[simp] theorem gIsi_int_non  : gIsi .int D.non = some (.val (.bl false)) := rfl
@[simp] theorem gIsi_bool_non  : gIsi .bool D.non = some (.val (.bl false)) := rfl
@[simp] theorem gIsi_str_non  : gIsi .str D.non = some (.val (.bl false)) := rfl
@[simp] theorem gIsi_tuple_non  : gIsi .tuple D.non = some (.val (.bl false)) := rfl
@[simp] theorem gIsi_list_non  : gIsi .list D.non = some (.val (.bl false)) := rfl
@[simp] theorem gIsi_int_bl (b : Bool) : gIsi .int (D.bl b) = some (.val (.bl true)) := rfl
@[simp] theorem gIsi_bool_bl (b : Bool) : gIsi .bool (D.bl b) = some (.val (.bl true)) := rfl
@[simp] theorem gIsi_str_bl (b : Bool) : gIsi .str (D.bl b) = some (.val (.bl false)) := rfl
@[simp] theorem gIsi_tuple_bl (b : Bool) : gIsi .tuple (D.bl b) = some (.val (.bl false)) := rfl
@[simp] theorem gIsi_list_bl (b : Bool) : gIsi .list (D.bl b) = some (.val (.bl false)) := rfl
@[simp] theorem gIsi_int_int (i : Int) : gIsi .int (D.int i) = some (.val (.bl true)) := rfl
@[simp] theorem gIsi_bool_int (i : Int) : gIsi .bool (D.int i) = some (.val (.bl false)) := rfl
@[simp] theorem gIsi_str_int (i : Int) : gIsi .str (D.int i) = some (.val (.bl false)) := rfl
@[simp] theorem gIsi_tuple_int (i : Int) : gIsi .tuple (D.int i) = some (.val (.bl false)) := rfl
@[simp] theorem gIsi_list_int (i : Int) : gIsi .list (D.int i) = some (.val (.bl false)) := rfl
@[simp] theorem gIsi_int_str (x : Str) : gIsi .int (D.str x) = some (.val (.bl false)) := rfl
@[simp] theorem gIsi_bool_str (x : Str) : gIsi .bool (D.str x) = some (.val (.bl false)) := rfl
@[simp] theorem gIsi_str_str (x : Str) : gIsi .str (D.str x) = some (.val (.bl true)) := rfl
@[simp] theorem gIsi_tuple_str (x : Str) : gIsi .tuple (D.str x) = some (.val (.bl false)) := rfl
@[simp] theorem gIsi_list_str (x : Str) : gIsi .list (D.str x) = some (.val (.bl false)) := rfl
@[simp] theorem gIsi_int_tup (xs : List D) : gIsi .int (D.tup xs) = some (.val (.bl false)) := rfl
@[simp] theorem gIsi_bool_tup (xs : List D) : gIsi .bool (D.tup xs) = some (.val (.bl false)) := rfl
@[simp] theorem gIsi_str_tup (xs : List D) : gIsi .str (D.tup xs) = some (.val (.bl false)) := rfl
@[simp] theorem gIsi_tuple_tup (xs : List D) : gIsi .tuple (D.tup xs) = some (.val (.bl true)) := rfl
@[simp] theorem gIsi_list_tup (xs : List D) : gIsi .list (D.tup xs) = some (.val (.bl false)) := rfl
@[simp] theorem gIsi_int_lst (xs : List D) : gIsi .int (D.lst xs) = some (.val (.bl false)) := rfl
@[simp] theorem gIsi_bool_lst (xs : List D) : gIsi .bool (D.lst xs) = some (.val (.bl false)) := rfl
@[simp] theorem gIsi_str_lst (xs : List D) : gIsi .str (D.lst xs) = some (.val (.bl false)) := rfl
@[simp] theorem gIsi_tuple_lst (xs : List D) : gIsi .tuple (D.lst xs) = some (.val (.bl false)) := rfl
@[simp] theorem gIsi_list_lst (xs : List D) : gIsi .list (D.lst xs) = some (.val (.bl true)) := rfl
@[simp] theorem gIsi_int_scr (ns : List Int) : gIsi .int (D.scr ns) = some (.val (.bl false)) := rfl
@[simp] theorem gIsi_bool_scr (ns : List Int) : gIsi .bool (D.scr ns) = some (.val (.bl false)) := rfl
@[simp] theorem gIsi_str_scr (ns : List Int) : gIsi .str (D.scr ns) = some (.val (.bl false)) := rfl
@[simp] theorem gIsi_tuple_scr (ns : List Int) : gIsi .tuple (D.scr ns) = some (.val (.bl false)) := rfl
@[simp] theorem gIsi_list_scr (ns : List Int) : gIsi .list (D.scr ns) = some (.val (.bl true)) := rfl
@[simp] theorem gIsi_int_dic (ks : List Key) (xs : List D) : gIsi .int (D.dic ks xs) = some (.val (.bl false)) := rfl
@[simp] theorem gIsi_bool_dic (ks : List Key) (xs : List D) : gIsi .bool (D.dic ks xs) = some (.val (.bl false)) := rfl
@[simp] theorem gIsi_str_dic (ks : List Key) (xs : List D) : gIsi .str (D.dic ks xs) = some (.val (.bl false)) := rfl
@[simp] theorem gIsi_tuple_dic (ks : List Key) (xs : List D) : gIsi .tuple (D.dic ks xs) = some (.val (.bl false)) := rfl
@[simp] theorem gIsi_list_dic (ks : List Key) (xs : List D) : gIsi .list (D.dic ks xs) = some (.val (.bl false)) := rfl
end DL
namespace DL
open PySem L2 PySem.Spec PyProof.Rows GL
end DL
namespace DL
open PySem L2 PySem.Spec PyProof.Rows GL
/-- a loop whose turns go on -/
theorem forM_inv {g : D → En → Option En} {b : En → Out} (P : Nat → En → Prop) : ∀ (xs : List D) (k : Nat) (Γ : En), P k Γ →
    (∀ i x Γ, xs[i]? = some x → P (k + i) Γ → ∃ Γ1 Γ', g x Γ = some Γ1 ∧ (b Γ1 = .nx Γ' ∨ b Γ1 = .ct Γ') ∧ P (k + i + 1) Γ') → ∃ Γ', forM g b xs Γ = .nx Γ' ∧ P (k + xs.length) Γ'
  | [], k, Γ, h, _ => ⟨Γ, rfl, h⟩
  | x :: r, k, Γ, h, hs => by
    obtain ⟨Γ1, Γ', h1, h2, h3⟩ := hs 0 x Γ rfl h
    rw [forM_cons g b x r Γ Γ1 h1]
    have e : (b Γ1).turn (forM g b r) = forM g b r Γ' := by rcases h2 with h2 | h2 <;> rw [h2] <;> rfl
    rw [e]
    obtain ⟨Γ'', e1, e2⟩ := forM_inv P r (k + 1) Γ' h3 fun i x Γ hx hp => by
      have q := hs (i + 1) x Γ (by simpa using hx)
      rw [show k + (i + 1) = k + 1 + i by omega] at q
      exact q hp
    exact ⟨Γ'', e1, by rw [List.length_cons, show k + (r.length + 1) = k + 1 + r.length by omega]; exact e2⟩
/-- a while by a measure -/
theorem whileM_inv {t : En → Res Bool} {b : En → Out} (P : Nat → En → Prop)
    (hs : ∀ m Γ, P m Γ → t Γ = .ok false ∨ (t Γ = .ok true ∧ ∃ Γ' m', (b Γ = .nx Γ' ∨ b Γ = .ct Γ') ∧ m' < m ∧ P m' Γ')) :
    ∀ (n m : Nat) (Γ : En), P m Γ → m < n → ∃ Γ' m', whileM t b n Γ = .nx Γ' ∧ P m' Γ' ∧ t Γ' = .ok false
  | 0, m, Γ, _, h => by omega
  | n + 1, m, Γ, hp, h => by
    rw [whileM_succ]
    rcases hs m Γ hp with e | ⟨e, Γ', m', e2, hm, hp'⟩
    · rw [e]; exact ⟨Γ, m, rfl, hp, e⟩
    · rw [e]
      have e3 : (b Γ).turn (whileM t b n) = whileM t b n Γ' := by rcases e2 with e2 | e2 <;> rw [e2] <;> rfl
      show ∃ Γ'' m'', (if true = true then (b Γ).turn (whileM t b n) else .nx Γ) = .nx Γ'' ∧ _
      rw [if_pos rfl, e3]
      exact whileM_inv P hs n m' Γ' hp' (by omega)
/-- a comprehension that keeps all -/
theorem compM_map {g : D → En → Option En} {m : MD} {Γ : En} (f : D → D) : ∀ (xs : List D), (∀ x ∈ xs, ∃ Γ1, g x Γ = some Γ1 ∧ m Γ1 = .ok (f x)) → compM g bYes m Γ xs = .ok (xs.map f)
  | [], _ => rfl
  | x :: r, h => by
    obtain ⟨Γ1, h1, h2⟩ := h x List.mem_cons_self
    rw [compM, h1]
    dsimp only
    rw [h2, compM_map f r fun y hy => h y (List.mem_cons_of_mem _ hy)]
    rfl
theorem compM_filter {g : D → En → Option En} {t : En → Res Bool} {m : MD} {Γ : En} (c : D → Bool) (f : D → D) : ∀ (xs : List D), (∀ x ∈ xs, ∃ Γ1, g x Γ = some Γ1 ∧ t Γ1 = .ok (c x) ∧ (c x = true → m Γ1 = .ok (f x))) → compM g t m Γ xs = .ok ((xs.filter c).map f)
  | [], _ => rfl
  | x :: r, h => by
    obtain ⟨Γ1, h1, h2, h3⟩ := h x List.mem_cons_self
    rw [compM, h1]
    dsimp only
    rw [h2, compM_filter c f r fun y hy => h y (List.mem_cons_of_mem _ hy), List.filter_cons]
    cases hc : c x with
    | true => simp only [noX_ok, bind_ok, if_true, h3 hc, List.map_cons]
    | false => rfl
theorem bits_abs {i : Int} {a : Nat} (h : i.natAbs < 2 ^ a) : Builtin.Int.intBits i ≤ a := by
  unfold Builtin.Int.intBits
  split
  · exact Nat.zero_le _
  · rename_i h0
    have h0' : i.natAbs ≠ 0 := by simpa using h0
    have := (Nat.log2_lt h0').mpr h
    omega
theorem pow_ok {i : Int} {j a : Nat} (h : i.natAbs < 2 ^ a) (hb : a * j ≤ 2 ^ 27) : gPow (.int i) (.int (j : Int)) = some (.val (.int (i ^ j))) := by
  have b := bits_abs h
  have c : Builtin.Int.intBits i * j ≤ a * j := Nat.mul_le_mul_right _ b
  rw [gPow_int, giv_pos ⟨by omega, by
    have : ((Builtin.Int.intBits i * j : Nat) : Int) ≤ ((2 ^ 27 : Nat) : Int) := Int.ofNat_le.mpr (Nat.le_trans c hb)
    simpa using this⟩]
  simp
theorem lt_pow {i : Int} {a : Nat} (h0 : 0 ≤ i) (h : i < 2 ^ a) : i.natAbs < 2 ^ a := by
  have e : (i.natAbs : Int) = i := Int.natAbs_of_nonneg h0
  have e2 : ((2 ^ a : Nat) : Int) = 2 ^ a := by simp
  omega
end DL
namespace DL
open PySem L2 PySem.Spec PyProof.Rows GL TL
end DL
namespace DL
open PySem L2 PySem.Spec PyProof.Rows GL
/-- is it an int? -/
def kdI : D → Option Int
  | .int i => some i
  | _ => none
theorem rep_kd {K : PySem.W.Frag} {H : Hp} {v : V} {d : D} (r : Rep K H v d) (hn : noObj d = true) : Kd K H v (kdI d) := by
  cases r with
  | non => exact .non
  | bl b => exact .bl b
  | int i => exact .int i
  | str x => exact .str x
  | tup h _ => exact .tup h
  | lst h _ => exact .lst (SqL.of h)
  | scr h => exact .lst h
  | dic h _ _ => exact .dic h
  | obj _ _ _ => cases hn
/-- an instance at p, what it holds at q -/
structure RowAt (K : PySem.W.Frag) (C : Addr) (H : Hp) (p : Addr) (xs : List V) : Prop where
  ob : ∃ dx q, H p = some (.ins C dx [("settings", .ref q)]) ∧ SqT K H q xs
theorem rowAt_same {K : PySem.W.Frag} {C : Addr} {H H' : Hp} {p : Addr} {xs : List V} (e : Same H H') (h : RowAt K C H p xs) : RowAt K C H' p xs := by
  obtain ⟨dx, q, h1, h2⟩ := h.ob
  exact ⟨dx, q, e _ _ h1, seqT_same e h2⟩
def inRange (o : Option Int) (lo hi : Int) : Bool := match o with
  | some i => decide (lo ≤ i ∧ i ≤ hi)
  | none => false
def endGood (v : V) (o : Option Int) : Bool := decide (v = .non) || inRange o (-1000) 1000
def wrongField (b m a f l : Option Int) (vf vl : V) : Option Str :=
  if inRange b 2 36 = false then some "base" else if inRange m 1 1000000 = false then some "move" else if inRange a 1 1000000 = false then some "add"
  else if endGood vf f = false then some "first" else if endGood vl l = false then some "last"
  else match f, l with
    | some i, some j => if j < i then some "last" else none
    | _, _ => none
def sp_get (K : PySem.W.Frag) (C : Addr) (i : Nat) : Sp := fun vs H Q _ => ∃ p b m a f l, vs = [.ref p] ∧ RowAt K C H p [b, m, a, f, l] ∧ Q ([b, m, a, f, l].getD i .non) H
def sp_init (K : PySem.W.Frag) (C CE : Addr) : Sp := fun vs H Q E => ∃ p dx vb vm va vf vl b m a f l, vs = [.ref p, vb, vm, va, vf, vl] ∧ H p = some (.ins C dx []) ∧
  Kd K H vb b ∧ Kd K H vm m ∧ Kd K H va a ∧ Kd K H vf f ∧ Kd K H vl l ∧
  (∀ x, wrongField b m a f l vf vl = some x → ∀ (H' : Hp) (d : Addr), Same H H' → H d = none → H' d = some (.xd [("field", .str x)]) → E (.ref CE) (some d) H') ∧
  (wrongField b m a f l vf vl = none → ∀ (G : Hp) (q : Addr), H q = none → G = upd (upd H q (.tup [vb, vm, va, vf, vl])) p (.ins C dx [("settings", .ref q)]) → Q .non G)
def loGood (i : Int) : Option Int → Bool
  | some a => decide (a ≤ i)
  | none => true
def hiGood (i : Int) : Option Int → Bool
  | some b => decide (i ≤ b)
  | none => true
def hasP (f l : Option Int) : Option Int → Bool
  | some i => decide (-1000 ≤ i ∧ i ≤ 1000) && loGood i f && hiGood i l
  | none => false
def intV : Option Int → V
  | none => .non
  | some i => .int i
def sp_has (K : PySem.W.Frag) (C : Addr) : Sp := fun vs H Q _ => ∃ p b m a f l v o, vs = [.ref p, v] ∧ RowAt K C H p [b, m, a, intV f, intV l] ∧ Kd K H v o ∧ Q (.bl (hasP f l o)) H
def rowD (C : Addr) (b m a f l : D) : D := .obj C [("settings" : Str)] [.tup [b, m, a, f, l]]
def rowParts (C : Addr) : D → Option (List D)
  | .obj C' ns [.tup [b, m, a, f, l]] => if C' = C ∧ ns = [("settings" : Str)] then some [b, m, a, f, l] else none
  | _ => none
theorem rowParts_some {C : Addr} {d : D} {xs : List D} (h : rowParts C d = some xs) : ∃ b m a f l, d = rowD C b m a f l ∧ xs = [b, m, a, f, l] := by
  unfold rowParts at h
  split at h
  · split at h
    · rename_i hc
      obtain ⟨rfl, rfl⟩ := hc
      cases h
      exact ⟨_, _, _, _, _, rfl, rfl⟩
    · cases h
  · cases h
theorem rep_row {K : PySem.W.Frag} {H : Hp} {C : Addr} {v : V} {b m a f l : D} (r : Rep K H v (rowD C b m a f l)) :
    ∃ p vb vm va vf vl, v = .ref p ∧ RowAt K C H p [vb, vm, va, vf, vl] ∧ Rep K H vb b ∧ Rep K H vm m ∧ Rep K H va a ∧ Rep K H vf f ∧ Rep K H vl l := by
  unfold rowD at r
  generalize hL : [D.tup [b, m, a, f, l]] = L at r
  generalize hN : [("settings" : Str)] = N at r
  cases r with
  | @obj p C dx fs ns ds h k ra =>
    subst hN hL
    have hl : fs.length = 1 := by have := congrArg List.length k; rw [List.length_map] at this; exact this
    obtain ⟨⟨x, w⟩, rfl⟩ := List.length_eq_one_iff.mp hl
    have k2 : x = ("settings" : Str) := List.head_eq_of_cons_eq k
    have ra : RepAll K H [w] [.tup [b, m, a, f, l]] := ra
    rw [k2] at h
    cases ra with
    | cons rw rn =>
      cases rw with
      | tup ht rs =>
        cases rs with | cons r1 rs => cases rs with | cons r2 rs => cases rs with | cons r3 rs => cases rs with | cons r4 rs => cases rs with | cons r5 rs =>
          cases rs
          exact ⟨p, _, _, _, _, _, rfl, ⟨dx, _, h, ht⟩, r1, r2, r3, r4, r5⟩
def gRow (C : Addr) (i : Nat) (d : D) : Option Giv := match rowParts C d with
  | some xs => (xs[i]?).map .val
  | none => none
/-- an end: none or an int -/
def isEnd : D → Bool
  | .non => true
  | .int _ => true
  | _ => false
def newRow (C : Addr) : List D → Res D
  | [b, m, a, f, l] => need (noObj b = true ∧ noObj m = true ∧ noObj a = true ∧ isEnd f = true ∧ isEnd l = true ∧ wrongField (kdI b) (kdI m) (kdI a) (kdI f) (kdI l) (intV (kdI f)) (intV (kdI l)) = none) (.ok (rowD C b m a f l))
  | _ => .stuck
def eProp (C : Addr) (i : Nat) (m : MD) : MD := fun Γ => (m Γ).bind fun d => toR (gRow C i d)
def hasR (f l : D) (r : Res D) : Res D := need (isEnd f = true ∧ isEnd l = true) (r.bind fun v => need (noObj v = true) (.ok (.bl (hasP (kdI f) (kdI l) (kdI v)))))
def eHas (C : Addr) (m mv : MD) : MD := fun Γ => (m Γ).bind fun d => match rowParts C d with
  | some [_, _, _, f, l] => hasR f l (mv Γ)
  | _ => .stuck
def eNewRow (C : Addr) (n k : Nat) (arr : List D → List D → List D) (ms mk : ML) : MD := fun Γ => (ms Γ).bind fun ds => (mk Γ).bind fun zs => need (ds.length = n ∧ zs.length = k) (newRow C (arr ds zs))
theorem rep_end {K : PySem.W.Frag} {H : Hp} {v : V} {d : D} (r : Rep K H v d) (h : isEnd d = true) : v = intV (kdI d) ∧ noObj d = true := by
  cases d with
  | non => cases r; exact ⟨rfl, rfl⟩
  | int i => cases r; exact ⟨rfl, rfl⟩
  | _ => cases h
section
variable {X : Cx} {et : ET} {ce : Caught} {W : WX} {e e1 : Expr} {es : List Expr} {m m1 : MD} {pos p2 : Pos} {f : Str} {C : Addr} {i : Nat}
theorem d_prop (ha : DO X et ce W e m) (hp : ∀ t, PE X e t → PE X (.Attribute e f pos) (tProp C (sp_get X.K C i) [] E0 t)) (hi : i < 5) : DE X et ce W (.Attribute e f pos) (eProp C i m) := by
  obtain ⟨t, p, ga⟩ := ha
  refine ⟨_, hp _ p, fun Hs H0s σ H H0 Γ Q c q => ga _ _ _ _ _ _ _ c (Post.next q fun d v H1 H01 _ s r q => ?_)⟩
  have q := asked (σ := σ) s.sub (q.step back_D s)
  unfold gRow at q
  cases hd : rowParts C d with
  | none => rw [hd] at q; exact q.elim
  | some xs =>
    rw [hd] at q
    obtain ⟨b, mo, a, fi, l, rfl, rfl⟩ := rowParts_some hd
    obtain ⟨p0, vb, vm, va, vf, vl, rfl, ha, r1, r2, r3, r4, r5⟩ := rep_row (show Rep X.K H01 v _ from r)
    have ha1 := rowAt_same s.sub ha
    obtain ⟨dx, qq, h1, h2⟩ := id ha1.ob
    refine ⟨p0, dx, _, rfl, h1, p0, vb, vm, va, vf, vl, rfl, ha1, ?_⟩
    match i, hi with
    | 0, _ => exact q _ r1
    | 1, _ => exact q _ r2
    | 2, _ => exact q _ r3
    | 3, _ => exact q _ r4
    | 4, _ => exact q _ r5
theorem d_has (ha : DO X et ce W e m) (hb : DE X et ce W e1 m1) {mn : Str} (hn : ∀ w : V, ([(("settings" : Str), w)] : List (Str × V)).lookup mn = none) (hp : ∀ t t1, PE X e t → PA X [e1] t1 → PE X (.Call (.Attribute e mn p2) [e1] [] pos) (tMeth C mn (sp_has X.K C) [] E0 t t1)) (hst : starEach [e1] X.env = (false, eval e1 X.env) :: starEach [] X.env := by rfl) :
    DE X et ce W (.Call (.Attribute e mn p2) [e1] [] pos) (eHas C m m1) := by
  obtain ⟨t, p, ga⟩ := ha
  obtain ⟨t1, pb, gb⟩ := da_cons hb da_nil hst
  refine ⟨_, hp _ _ p pb, fun Hs H0s σ H H0 Γ Q c q => ga _ _ _ _ _ _ _ c (Post.next q fun d v H1 H01 _ s r q => ?_)⟩
  cases hd : rowParts C d with
  | none => rw [hd] at q; exact q.elim
  | some xs =>
    rw [hd] at q
    obtain ⟨b, mo, a, fi, l, rfl, rfl⟩ := rowParts_some hd
    have q : Post X.K et W (RD X.K) σ H1 H01 Q (hasR fi l (m1 Γ)) := q.step back_D s
    obtain ⟨⟨hf, hl⟩, q⟩ := need_if q
    obtain ⟨p0, vb, vm, va, vf, vl, rfl, ha, r1, r2, r3, r4, r5⟩ := rep_row (show Rep X.K H01 v _ from r)
    have ha1 := rowAt_same s.sub ha
    obtain ⟨dx, qq, h1, h2⟩ := id ha1.ob
    refine ⟨p0, dx, _, rfl, h1, hn _, ?_⟩
    have q1 : Post X.K et W (RA X.K) σ H1 H01 (fun vs H2 => sp_has X.K C (.ref p0 :: (vs ++ [])) H2 Q E0) ((m1 Γ).bind fun x => (Res.ok []).bind fun xs => .ok (x :: xs)) := by
      cases hm : m1 Γ with
      | ok w =>
        rw [hm] at q
        obtain ⟨hw, q⟩ := need_if (show Post X.K et W (RD X.K) σ H1 H01 Q (need (noObj w = true) _) from q)
        intro vs H2 H02 s2 rv
        cases rv with
        | cons rw rn =>
          cases rn
          obtain ⟨e4, n4⟩ := rep_end r4 hf
          obtain ⟨e5, n5⟩ := rep_end r5 hl
          subst e4 e5
          exact ⟨p0, vb, vm, va, kdI fi, kdI l, _, kdI w, rfl, rowAt_same s2.big ha1, rep_kd (rw.same s2.sub) hw, q _ _ _ s2 (.bl _)⟩
      | exc x dd =>
        rw [hm] at q
        exact q
      | stuck => rw [hm] at q; exact q.elim
    exact gb _ _ _ _ _ _ _ (c.step s) q1
/-- keywords -/
structure DK (X : Cx) (et : ET) (ce : Caught) (W : WX) (ks : List Keyword) (m : ML) : Prop where ex : ∃ t, PK X ks t ∧ Good X.K et ce W (RA X.K) t m
theorem dk_nil : DK X et ce W [] eNil := ⟨_, pk_nil, fun Hs H0s σ H H0 Γ Q c q => q _ _ _ (Step.refl c.sub) .nil⟩
theorem dk_cons {kw : Str} {kpos : Pos} {ks : List Keyword} {ms : ML} (h : DE X et ce W e m) (hs : DK X et ce W ks ms) : DK X et ce W (⟨some kw, e, kpos⟩ :: ks) (eCons m ms) := by
  obtain ⟨t, p, g⟩ := h
  obtain ⟨t2, p2, g2⟩ := hs
  refine ⟨_, pk_cons p p2, fun Hs H0s σ H H0 Γ Q c q => g _ _ _ _ _ _ _ c ?_⟩
  refine Post.next q fun d v H1 H01 _ s r q => g2 _ _ _ _ _ _ _ (c.step s) ?_
  refine Post.next (q.step back_A s) fun ds vs H2 H02 _ s2 r2 q => ?_
  exact q _ _ _ s2 (.cons (r.same s2.small) r2)
theorem newRow_some {K : PySem.W.Frag} {σ : L2.St} {H H0 : Hp} {Q : VK} {xs : List D} (h : Post K et W (RD K) σ H H0 Q (newRow C xs)) :
    ∃ b m a f l, xs = [b, m, a, f, l] ∧ noObj b = true ∧ noObj m = true ∧ noObj a = true ∧ isEnd f = true ∧ isEnd l = true ∧ wrongField (kdI b) (kdI m) (kdI a) (kdI f) (kdI l) (intV (kdI f)) (intV (kdI l)) = none ∧
      ∀ v H' H0', Step H H0 H' H0' → Rep K H0' v (rowD C b m a f l) → Q v H' := by
  unfold newRow at h
  split at h
  · obtain ⟨⟨h1, h2, h3, h4, h5, h6⟩, q⟩ := need_if h
    exact ⟨_, _, _, _, _, rfl, h1, h2, h3, h4, h5, h6, fun v H' H0' s r => q v H' H0' s r⟩
  · exact h.elim
theorem rep_five {K : PySem.W.Frag} {H : Hp} {ws : List V} {b m a f l : D} (r : RepAll K H ws [b, m, a, f, l]) : ∃ v1 v2 v3 v4 v5, ws = [v1, v2, v3, v4, v5] ∧ Rep K H v1 b ∧ Rep K H v2 m ∧ Rep K H v3 a ∧ Rep K H v4 f ∧ Rep K H v5 l := by
  cases r with | cons ra rw => cases rw with | cons rb rw => cases rw with | cons rc rw => cases rw with | cons rd rw => cases rw with | cons re rw =>
  cases rw
  exact ⟨_, _, _, _, _, rfl, ra, rb, rc, rd, re⟩
/-- C(e, .., k = v, ..) -/
theorem d_newRow {CE : Addr} {E : XK} {x : Str} {p : Pos} {ks : List Keyword} {n k : Nat} {ms mk : ML} {gV : List V → List V → List V} {arr : List D → List D → List D}
    (hg : ∀ (K : PySem.W.Frag) (H : Hp) (u : V) (vs zs : List V) (ds es : List D), ds.length = n → es.length = k → RepAll K H vs ds → RepAll K H zs es → ∃ ws, gV (u :: vs) zs = u :: ws ∧ RepAll K H ws (arr ds es))
    (ha : DA X et ce W es ms) (hk : DK X et ce W ks mk) (hp : ∀ t tk, PA X es t → PK X ks tk → PE X (.Call (.Name x p) es ks pos) (tMakeK C n k (sp_init X.K C CE) gV E t tk)) :
    DE X et ce W (.Call (.Name x p) es ks pos) (eNewRow C n k arr ms mk) := by
  obtain ⟨t, pt, ga⟩ := ha
  obtain ⟨tk, pk, gk⟩ := hk
  refine ⟨_, hp _ _ pt pk, fun Hs H0s σ H H0 Γ Q c q => ga _ _ _ _ _ _ _ c (Post.next q fun ds vs H1 H01 _ s r q => gk _ _ _ _ _ _ _ (c.step s) ?_)⟩
  refine Post.next (q.step back_D s) fun es zs H2 H02 _ s2 r2 q => ?_
  have q := q.step back_D s2
  obtain ⟨⟨l1, l2⟩, q⟩ := need_if q
  have r1 := r.same s2.small
  refine ⟨r.len.trans l1, r2.len.trans l2, fun a dx ha hdx ne => ?_⟩
  obtain ⟨ws, ew, rw⟩ := hg X.K H02 (.ref a) vs zs ds es l1 l2 r1 r2
  obtain ⟨b, mo, ad, fi, l, exs, n1, n2, n3, n4, n5, n6, q⟩ := newRow_some q
  rw [exs] at rw
  rw [ew]
  have w1 : Step H2 H02 (upd H2 dx (.own a)) (upd H02 dx (.own a)) := Step.new s2.sub hdx
  have hab : (upd H2 dx (HO.own a)) a = none := by rw [upd_ne ne.symm]; exact ha
  have sA : Same H02 (upd (upd H2 dx (.own a)) a (.ins C dx [])) := Same.trans s2.sub (Same.trans w1.big (same_upd hab))
  obtain ⟨v1, v2, v3, v4, v5, rfl, ra, rb, rc, rd, re⟩ := rep_five rw
  obtain ⟨e4, m4⟩ := rep_end rd n4
  obtain ⟨e5, m5⟩ := rep_end re n5
  refine ⟨a, dx, _, _, _, _, _, kdI b, kdI mo, kdI ad, kdI fi, kdI l, rfl, upd_same, rep_kd (ra.same sA) n1, rep_kd (rb.same sA) n2, rep_kd (rc.same sA) n3, rep_kd (rd.same sA) m4, rep_kd (re.same sA) m5, fun y hy => ?_, fun _ G qq hq hG => ⟨rfl, ?_⟩⟩
  · rw [e4, e5, n6] at hy; cases hy
  · have nqa : qq ≠ a := fun z => by rw [z, upd_same] at hq; cases hq
    have hq1 : (upd H2 dx (HO.own a)) qq = none := by rw [← hq, upd_ne nqa]
    have w2 := Step.new (o := .tup [v1, v2, v3, v4, v5]) w1.sub hq1
    have hx3 : (upd (upd H2 dx (HO.own a)) qq (.tup [v1, v2, v3, v4, v5])) a = none := by rw [upd_ne nqa.symm]; exact hab
    have w3 := Step.new (o := .ins C dx [("settings", .ref qq)]) w2.sub hx3
    have eG : G = upd (upd (upd H2 dx (.own a)) qq (.tup [v1, v2, v3, v4, v5])) a (.ins C dx [("settings", .ref qq)]) := by
      rw [hG]
      funext z
      by_cases h1 : z = a
      · rw [h1, upd_same, upd_same]
      · rw [upd_ne h1, upd_ne h1]
        by_cases h2 : z = qq
        · rw [h2, upd_same, upd_same]
        · rw [upd_ne h2, upd_ne h2, upd_ne h1]
    rw [eG]
    refine q _ _ _ (w1.trans (w2.trans w3)) ?_
    have s3 := (w1.trans (w2.trans w3)).small
    refine .obj upd_same rfl (.cons (.tup (SqT.of ?_) (.cons (ra.same s3) (.cons (rb.same s3) (.cons (rc.same s3) (.cons (rd.same s3) (.cons (re.same s3) .nil)))))) .nil)
    rw [upd_ne nqa, upd_same]
end
theorem pass_no {P : Program} {w : World} {X : Cx} : Passes (L2.CX P w) X (fun _ _ _ => False) := by
  rintro pins σ H s e s' I ⟨a, B, H', cls, d, h1, h2, h3, h4, h5, h6, h7, h⟩
  exact h.elim
def a_move_add_first_last (ds zs : List D) : List D := ds ++ zs
section
variable {n k : Nat}
theorem g_move_add_first_last : ∀ (K : PySem.W.Frag) (H : Hp) (u : V) (vs zs : List V) (ds es : List D), ds.length = n → es.length = k → RepAll K H vs ds → RepAll K H zs es → ∃ ws, (fun vs zs => vs ++ zs : List V → List V → List V) (u :: vs) zs = u :: ws ∧ RepAll K H ws (a_move_add_first_last ds es) :=
  fun _ _ _ vs zs _ _ _ _ r r2 => ⟨vs ++ zs, rfl, r.app r2⟩
end
end DL
namespace DL
open PySem L2 PySem.Spec PyProof.Rows GL
section
variable {X : Cx}
def rSortedDR : List V → List V → Hp → VK → Prop := fun xs zs H Q => ∃ (a : Addr) (kvs : List (Key × V)) (ks : List Int), xs = [.ref a] ∧ zs = [.bl true] ∧ Rd H a (.dK kvs) ∧ kvs.map (·.1) = ks.map Sum.inl ∧ ks.length < 500000 ∧
  ∀ (ys : List Int) (p : Addr), ys.Perm ks → ys.Pairwise (· ≥ ·) → H p = none → Q (.ref p) (upd H p (.lst (ys.map V.int)))
theorem cr_sortedDR (hcalm : X.calm = true) : CallRK X (.builtin "sorted") [Str.ofString "reverse"] rSortedDR := by
  intro pins s σ H xs zs us ws Q I r rz q
  obtain ⟨a, kvs, ks, rfl, rfl, hd, hks, h64, q⟩ := q
  obtain rfl := Vals.ref1 r
  obtain ⟨w1, rfl, e1⟩ := vals1 rz
  obtain rfl : w1 = Value.bool true := e1
  obtain ⟨z, lo, vs, rel, dd⟩ := dk_rd I.hok hd
  obtain ⟨ep, hat⟩ := dd.dictAt
  have hkeys : vs.map (·.1) = ks.map Sum.inl := rel.keys.symm.trans hks
  have hl : vs.length = ks.length := by rw [← List.length_map (f := (·.1)) (as := vs), hkeys, List.length_map]
  have h16 : vs.length ≤ sizeLine := by rw [hl, sizeLine_eq]; omega
  refine call_function_entry_kw kind_sorted plain_sorted entry_sorted (args_sorted_rev _ _) ?_
  unfold Builtin.«sorted»
  refine wpAny_bind (m := checkCount "sorted" 1 1 _) (wpAny_pure ?_)
  refine wpAny_bind (PySem.W.kdu_collect (A := X.A.in1) (PySem.W.kdl_dict (knd := mixKind X.prog X.w) (kvs := vs) (ep := ep) lo) (I.ok.hd hcalm) hat h16 fun h' tk acc hk hacc => ?_)
  have hal : acc.toList.length = ks.length := by rw [Array.length_toList, hacc.1, hl]
  have hS : IntsAre acc.toList ks := ints_each hal fun j v e => by
    obtain ⟨k, x, e1, e2⟩ := hacc.2 j v (by rw [← Array.getElem?_toList]; exact e)
    have e3 : (vs.map (·.1))[j]? = some k := by rw [List.getElem?_map, e1]; rfl
    rw [hkeys, List.getElem?_map] at e3
    obtain ⟨y, e4, e5⟩ := Option.map_eq_some_iff.mp e3
    subst e5
    rcases keyIs_shape (show keyIs (Sum.inl y) v = true from e2) with ⟨i, t, ek, ev⟩ | ⟨z, t, ek, ev⟩
    · cases ek
      exact ⟨y, t, e4, ev⟩
    · cases ek
  have I1 : Inv X pins σ H { s with heap := h', toks := tk } := I.kept hk
  refine wpAny_bind (wpAny_newList ?_ (by rw [hal, sizeLine_eq]; omega))
  have hoL : (h'.push (seqObj "list" acc.toList.toArray 0)).get? h'.objs.size = some (seqObj "list" acc.toList.toArray 0) := Heap.get?_push_size _ rfl
  show wpAny _ _ _ _ _ { s with heap := h'.push (seqObj "list" acc.toList.toArray 0), toks := tk }
  refine wpAny_bind (wpAny_holding (wpAny_call_entry_kw slot_list_sort ⟨_, hoL, rfl⟩ entry_list_sort ?_ (args_list_sort_rev _ _)))
  refine SrtR.list_sort_ordR (b := true) SrtO.swo_int hoL (by rw [hal, sizeLine_eq]; omega) (fun h2 => SrtO.ints_sortable hS h2) fun out hs hb => ⟨_, rfl, ?_⟩
  obtain ⟨ns', k1, k2, k3⟩ := SrtR.ints_outR hS hs hb
  have hlen : (ns'.map V.int).length ≤ sizeLine := by
    rw [List.length_map, k2.length_eq, sizeLine_eq]
    omega
  have k3' : ns'.Pairwise (· ≥ ·) := k3
  have e0 : ((out.toArray.reverse).toList).toArray = out.toArray.reverse := by rw [Array.toArray_toList]
  have k1' : IntsAre (out.toArray.reverse).toList ns' := k1
  obtain ⟨e', he'⟩ := sortedHeap_at (vs := acc.toList) (out := out.toArray.reverse) hoL
  refine wpAny_pure ⟨_, rfl, V.ref h'.objs.size, upd H h'.objs.size (.lst (ns'.map V.int)), I1.laid (t' := tk) (fun b u e => ?_) (Nat.le_refl _) ⟨hlen, (out.toArray.reverse).toList, e', vals_of_ints k1', by rw [e0]; exact he'⟩, rfl, q ns' _ k2 k3' (I1.hok.fresh (Nat.le_refl _))⟩
  have hb : b < h'.objs.size := Heap.lt_size e
  rw [sortedHeap_old (Nat.ne_of_lt hb) (by rw [size_push']; exact Nat.lt_succ_of_lt hb)]
  exact Heap.get?_push_of_some _ e
/-- max(d, default=z) of a dict whose keys are ints -/
def rMaxDD : List V → List V → Hp → VK → Prop := fun xs zs H Q => ∃ (a : Addr) (kvs : List (Key × V)) (is : List Int) (z : V), xs = [.ref a] ∧ zs = [z] ∧ H a = some (.dK kvs) ∧ kvs.map (·.1) = is.map Sum.inl ∧ (is = [] → Q z H) ∧
  (is ≠ [] → ∀ m, m ∈ is → (∀ j ∈ is, j ≤ m) → Q (.int m) H)
theorem cr_maxDD (hc : X.calm = true) : CallRK X (.builtin "max") [Str.ofString "default"] rMaxDD := by
  intro pins s σ H xs zs us ws Q I r rz h
  obtain ⟨a, kvs, is, zv, rfl, rfl, ha, hv, q0, q1⟩ := h
  obtain rfl := Vals.ref1 r
  obtain ⟨w1, rfl, e1⟩ := vals1 rz
  obtain ⟨_, hsys, vs, rel, dof⟩ := dk_of I.hok ha
  obtain ⟨ep, dat⟩ := dof.dictAt
  obtain ⟨ob, es, ho, hex, hdat, hko, hpr, hnd⟩ := id dat
  have hlt : a < s.heap.objs.size := Heap.lt_size ho
  have hkeys : vs.map (·.1) = is.map Sum.inl := (KV.keys rel).symm.trans hv
  have hlv : vs.length = is.length := by rw [← List.length_map (f := (·.1)) (as := vs), hkeys, List.length_map]
  have hval : ∀ (i : Nat) (v : Value), (∃ k x, vs[i]? = some (k, x) ∧ (mixKind X.prog X.w).is k v = true) → ∃ t, v = Value.int (is.getD i 0) t := fun i v ⟨k, x, hk, hkey⟩ => by
    have e1 : (vs.map (·.1))[i]? = some k := by rw [List.getElem?_map, hk]; rfl
    rw [hkeys, List.getElem?_map] at e1
    obtain ⟨j, hj, e2⟩ := Option.map_eq_some_iff.mp e1
    subst e2
    obtain ⟨t, e3⟩ := Value.isInt_shape (k := j) (v := v) hkey
    refine ⟨t, ?_⟩
    rw [e3, List.getD_eq_getElem?_getD, hj]; rfl
  refine call_max_walkD (wpAny_pyIter_dict (knd := mixKind X.prog X.w) hsys dat ?_)
  refine ⟨_, _, _, _, _, _, _, s.heap, fun i j => decide (is.getD i 0 > is.getD j 0), rfl, (Walks.dictKeys (knd := mixKind X.prog X.w) (A := X.A.in1) (I.ok.hd hc) s.heap.objs.size a (Nat.ne_of_lt hlt) vs ep).toS,
    ⟨⟨_, Heap.get?_push_size _ rfl, rfl, rfl⟩, dat.keep fun b u e => Heap.get?_push_of_some _ e⟩, fun b hb => ?_, fun b o e hb => ?_, fun b o e => Heap.get?_push_of_some _ e, fun hn s' m => ?_, fun hn => ⟨fun i j vi vj s Q E _ hi hj h => CmpOf.ints_gt (fun i => is.getD i 0) hval i j vi vj s Q E hi hj h, fun v s' hP m => ?_⟩⟩
  · show b < (s.heap.push _).objs.size
    rw [Heap.size_push]
    rcases List.mem_cons.mp hb with e | hb
    · rw [e]
      exact Nat.lt_succ_self _
    · rw [List.mem_singleton.mp hb]
      exact Nat.lt_succ_of_lt hlt
  · exact absurd (Heap.lt_size e) ((List.mem_singleton.mp hb) ▸ Nat.lt_irrefl _)
  · obtain ⟨h', tk, rfl, keep⟩ := PySem.W.moved_old rfl rfl m
    have he : is = [] := List.length_eq_zero_iff.mp (hlv.symm.trans hn)
    exact ⟨zv, H, I.kept (t' := tk) keep, e1, q0 he⟩
  · obtain ⟨h', tk, rfl, keep⟩ := PySem.W.moved_old rfl rfl m
    obtain ⟨t, rfl⟩ := hval _ v hP
    obtain ⟨b1, b2⟩ := argBest_gt (fun i => is.getD i 0) (vs.length - 1)
    have hne : is ≠ [] := fun z => by
      rw [z] at hlv
      simp at hlv
      rw [hlv] at hn
      exact absurd hn (by decide)
    refine ⟨.int _, H, I.kept (t' := tk) keep, ⟨t, rfl⟩, q1 hne _ ?_ fun j hj => ?_⟩
    · have hb : argBest (fun i j => decide (is.getD i 0 > is.getD j 0)) (vs.length - 1) < is.length := by omega
      rw [List.getD_eq_getElem?_getD, List.getElem?_eq_getElem hb]
      exact List.getElem_mem hb
    · obtain ⟨i, hi, e⟩ := List.mem_iff_getElem.mp hj
      have e2 : is.getD i 0 = j := by rw [List.getD_eq_getElem?_getD, List.getElem?_eq_getElem hi, ← e]; rfl
      rw [← e2]
      exact b2 i (by omega)
end
end DL
namespace DL
open PySem L2 PySem.Spec PyProof.Rows GL
def keyD : D → Option Key
  | .int i => some (.inl i)
  | .str x => some (.inr x)
  | _ => none
theorem rep_key {K : PySem.W.Frag} {H : Hp} {v : V} {d : D} {k : Key} (r : Rep K H v d) (h : keyD d = some k) : v = kV k := by
  cases d with
  | int i => cases h; cases r; rfl
  | str x => cases h; cases r; rfl
  | _ => cases h
def dVal : List Key → List D → Key → Option D
  | k :: ks, x :: xs, j => if k = j then some x else dVal ks xs j
  | _, _, _ => none
def dSet : List Key → List D → Key → D → List D
  | k :: ks, x :: xs, j, d => (if k = j then d else x) :: dSet ks xs j d
  | _, _, _, _ => []
def dPut (ks : List Key) (xs : List D) (k : Key) (d : D) : List Key × List D := if (ks.any fun j => decide (j = k)) = true then (ks, dSet ks xs k d) else (ks ++ [k], xs ++ [d])
section
variable {K : PySem.W.Frag} {H : Hp}
theorem val_rep : ∀ {kvs : List (Key × V)} {ks : List Key} {xs : List D} (k : Key), kvs.map (·.1) = ks → RepAll K H (kvs.map (·.2)) xs →
    (valV kvs k = none ∧ dVal ks xs k = none) ∨ ∃ v d, valV kvs k = some v ∧ dVal ks xs k = some d ∧ Rep K H v d
  | [], _, _, k, e, r => by subst e; cases r; exact .inl ⟨rfl, rfl⟩
  | (j, v) :: kvs, _, _, k, e, r => by
    subst e
    cases r with
    | cons rv rr =>
      by_cases h : j = k
      · exact .inr ⟨v, _, valV_pos h, by simp [dVal, h], rv⟩
      · rw [valV_neg h]
        rcases val_rep k rfl rr with ⟨h1, h2⟩ | ⟨w, d, h1, h2, h3⟩
        · exact .inl ⟨h1, by simp only [List.map_cons, dVal, if_neg h, h2]⟩
        · exact .inr ⟨w, d, h1, by simp only [List.map_cons, dVal, if_neg h, h2], h3⟩
theorem set_rep {k : Key} {v : V} {d : D} (hv : Rep K H v d) : ∀ {kvs : List (Key × V)} {xs : List D}, RepAll K H (kvs.map (·.2)) xs → RepAll K H ((kvs.map fun kv => if kv.1 = k then (kv.1, v) else kv).map (·.2)) (dSet (kvs.map (·.1)) xs k d)
  | [], _, r => by cases r; exact .nil
  | (j, w) :: kvs, _, r => by
    cases r with
    | cons rv rr =>
      simp only [List.map_cons, dSet]
      by_cases h : j = k
      · rw [if_pos h, if_pos h]; exact .cons hv (set_rep hv rr)
      · rw [if_neg h, if_neg h]; exact .cons rv (set_rep hv rr)
theorem put_rep {kvs : List (Key × V)} {ks : List Key} {xs : List D} {k : Key} {v : V} {d : D} (e : kvs.map (·.1) = ks) (r : RepAll K H (kvs.map (·.2)) xs) (hv : Rep K H v d) :
    (putK kvs k v).map (·.1) = (dPut ks xs k d).1 ∧ RepAll K H ((putK kvs k v).map (·.2)) (dPut ks xs k d).2 := by
  subst e
  unfold putK dPut
  have ea : ((kvs.map (·.1)).any fun j => decide (j = k)) = (kvs.any fun kv => decide (kv.1 = k)) := by rw [List.any_map]; rfl
  rw [ea]
  split
  · refine ⟨?_, set_rep hv r⟩
    rw [List.map_map]
    refine List.map_congr_left fun kv _ => ?_
    show (if kv.1 = k then (kv.1, v) else kv).1 = kv.1
    split <;> rfl
  · refine ⟨by simp, ?_⟩
    rw [List.map_append]
    exact r.app (.cons hv .nil)
end
def eDGet2 (md mk mz : MD) : MD := fun Γ => (md Γ).bind fun d => match d with
  | .dic ks xs => (mk Γ).bind fun k => (mz Γ).bind fun z => match keyD k with
    | some j => .ok ((dVal ks xs j).getD z)
    | none => .stuck
  | _ => .stuck
def eDGet (md mk : MD) : MD := fun Γ => (md Γ).bind fun d => match d with
  | .dic ks xs => (mk Γ).bind fun k => match keyD k with
    | some j => (match dVal ks xs j with | some x => .ok x | none => .stuck)
    | none => .stuck
  | _ => .stuck
section
variable {X : Cx} {et : ET} {ce : Caught} {W : WX} {e a b c : Expr} {st : Stmt} {ma mb mc m : MD}
theorem d_dget2 (hp : ∀ t1 t2 t3, PE X a t1 → PE X b t2 → PE X c t3 → PE X e (tDGet2 t1 t2 t3)) (ha : DO X et ce W a ma) (hb : DE X et ce W b mb) (hc : DE X et ce W c mc) : DE X et ce W e (eDGet2 ma mb mc) := by
  obtain ⟨t1, p1, g1⟩ := ha
  obtain ⟨t2, p2, g2⟩ := hb
  obtain ⟨t3, p3, g3⟩ := hc
  refine ⟨_, hp _ _ _ p1 p2 p3, fun Hs H0s σ H H0 Γ Q cc q => g1 _ _ _ _ _ _ _ cc (Post.next q fun d v H1 H01 _ s r q => ?_)⟩
  cases d with
  | dic ks xs =>
    obtain ⟨p, kvs, rfl, hh, hk, hr⟩ := r
    have q : Post X.K et W (RD X.K) σ H1 H01 Q _ := q.step back_D s
    refine ⟨p, rfl, .inl ⟨kvs, .inl hh⟩, g2 _ _ _ _ _ _ _ (cc.step s) (Post.next q fun k vk H2 H02 _ s2 rk q => g3 _ _ _ _ _ _ _ (cc.step (s.trans s2)) (Post.next (q.step back_D s2) fun z vz H3 H03 _ s3 rz q => ?_))⟩
    have q := q.step back_D s3
    cases hj : keyD k with
    | none => rw [hj] at q; exact q.elim
    | some j =>
      rw [hj] at q
      have q : Post X.K et W (RD X.K) σ H3 H03 Q (.ok ((dVal ks xs j).getD z)) := q
      have ek := rep_key rk hj
      subst ek
      refine ⟨valV kvs j, DGet.k (s3.big _ _ (s2.big _ _ hh)), ?_⟩
      have st := s2.trans s3
      rcases val_rep (K := X.K) (H := H03) j hk (hr.same st.small) with ⟨h1, h2⟩ | ⟨w, d, h1, h2, h3⟩
      · rw [h1]
        rw [h2] at q
        exact q _ _ _ (Step.refl s3.sub) rz
      · rw [h1]
        rw [h2] at q
        exact q _ _ _ (Step.refl s3.sub) h3
  | _ => exact q.elim
theorem d_dget (hp : ∀ t1 t2, PE X a t1 → PE X b t2 → PE X e (tDGet t1 t2)) (ha : DO X et ce W a ma) (hb : DE X et ce W b mb) : DE X et ce W e (eDGet ma mb) := by
  obtain ⟨t1, p1, g1⟩ := ha
  obtain ⟨t2, p2, g2⟩ := hb
  refine ⟨_, hp _ _ p1 p2, fun Hs H0s σ H H0 Γ Q cc q => g1 _ _ _ _ _ _ _ cc (Post.next q fun d v H1 H01 _ s r q => ?_)⟩
  cases d with
  | dic ks xs =>
    obtain ⟨p, kvs, rfl, hh, hk, hr⟩ := r
    have q : Post X.K et W (RD X.K) σ H1 H01 Q _ := q.step back_D s
    refine g2 _ _ _ _ _ _ _ (cc.step s) (Post.next q fun k vk H2 H02 _ s2 rk q => ?_)
    have q := q.step back_D s2
    cases hj : keyD k with
    | none => rw [hj] at q; exact q.elim
    | some j =>
      rw [hj] at q
      have q : Post X.K et W (RD X.K) σ H2 H02 Q (match dVal ks xs j with | some x => .ok x | none => .stuck) := q
      have ek := rep_key rk hj
      subst ek
      rcases val_rep (K := X.K) (H := H02) j hk (hr.same s2.small) with ⟨h1, h2⟩ | ⟨w, d, h1, h2, h3⟩
      · rw [h2] at q; exact q.elim
      · rw [h2] at q
        refine ⟨p, w, rfl, ?_, q _ _ _ (Step.refl s2.sub) h3⟩
        rw [← h1]
        exact DGet.k (s2.big _ _ hh)
  | _ => exact q.elim
/-- d[k] = e, d a dict that nothing else holds -/
def mPutD (i : Nat) (mk m : MD) (Γ : En) : Out := match Γ[i]? with
  | some (.ownD ks xs) => mTo (m Γ) Γ fun d => mTo (mk Γ) Γ fun k => match keyD k with
    | some j => if ks.length < 1000000 then .nx (Γ.set i (.ownD (dPut ks xs j d).1 (dPut ks xs j d).2)) else .stuck
    | none => .stuck
  | _ => .stuck
theorem ds_putD {i : Nat} {mk : MD} {ek : Expr} (hp : ∀ te tk, PE X e te → PE X ek tk → PS X st (sDPut (tVar i) tk te)) (hk : DE X et ce W ek mk) (h : DE X et ce W e m) : DS X et ce W st (mPutD i mk m) := by
  obtain ⟨t, p, ge⟩ := h
  obtain ⟨tk, pk, gk⟩ := hk
  refine ⟨_, hp t tk p pk, fun Hs H0s σ H H0 Γ E c q => ?_⟩
  unfold mPutD at q
  split at q
  · rename_i ks xs e
    have z := c.at_ i _ e
    match hv : σ[i]?, z with
    | some (some v), ⟨p, kvs, ev, hs, hp', h0, ek, r⟩ =>
      subst ev
      refine ge _ _ _ _ _ _ _ c (PostS.to c q fun d v H' G _ s rv q => ⟨_, hv, gk _ _ _ _ _ _ _ (c.step s) (PostS.to (c.step s) (q.up s.small) fun k vk H2 G2 _ s2 rk q => ?_)⟩)
      have st := s.trans s2
      have c' := c.step st
      cases hj : keyD k with
      | none => rw [hj] at q; exact q.elim
      | some j =>
        rw [hj] at q
        dsimp only at q
        split at q
        · rename_i hl
          have ej := rep_key rk hj
          subst ej
          have hlen : kvs.length < sizeLine := by
            have := congrArg List.length ek
            rw [List.length_map] at this
            rw [sizeLine_eq]
            omega
          obtain ⟨n1, n2⟩ := put_rep (k := j) ek (r.same st.small) (rv.same s2.small)
          refine ⟨p, _, rfl, DPut.k (st.big _ _ hp') hlen, ?_⟩
          exact q _ _ G2 (c'.write e rfl hv hs ⟨p, putK kvs j v, rfl, hs, upd_same, st.apart _ _ hp' h0, n1, n2⟩) s2.small
        · exact q.elim
  · exact q.elim
end
def intsK : List Key → Option (List Int)
  | [] => some []
  | .inl i :: r => (intsK r).map (i :: ·)
  | .inr _ :: _ => none
theorem intsK_eq : ∀ {ks : List Key} {is : List Int}, intsK ks = some is → ks = is.map Sum.inl
  | [], _, h => by cases h; rfl
  | .inl i :: r, is, h => by
    obtain ⟨js, h1, h2⟩ := Option.map_eq_some_iff.mp h
    subst h2
    rw [intsK_eq h1]; rfl
  | .inr _ :: _, _, h => by cases h
def topI : List Int → Int
  | [] => 0
  | [i] => i
  | i :: j :: r => if topI (j :: r) ≤ i then i else topI (j :: r)
theorem topI_mem : ∀ {is : List Int}, is ≠ [] → topI is ∈ is
  | [], h => absurd rfl h
  | [i], _ => List.mem_singleton.mpr rfl
  | i :: j :: r, _ => by
    have ih := topI_mem (is := j :: r) (List.cons_ne_nil _ _)
    unfold topI
    split
    · exact List.mem_cons_self
    · exact List.mem_cons_of_mem _ ih
theorem topI_le : ∀ {is : List Int}, ∀ j ∈ is, j ≤ topI is
  | [], j, h => by cases h
  | [i], j, h => by rw [List.mem_singleton.mp h]; exact Int.le_refl _
  | i :: k :: r, j, h => by
    have ih := topI_le (is := k :: r)
    have hd : topI (i :: k :: r) = if topI (k :: r) ≤ i then i else topI (k :: r) := rfl
    rw [hd]
    rcases List.mem_cons.mp h with rfl | h
    · split <;> omega
    · have := ih j h
      split <;> omega
def gMaxD : D → D → Option Giv
  | .dic ks _, z => match intsK ks with
    | some is => some (.val (if is = [] then z else .int (topI is)))
    | none => none
  | _, _ => none
def downI (is : List Int) : List Int := is.mergeSort fun a b => decide (b ≤ a)
theorem downI_eq {is ys : List Int} (h : ys.Perm is) (hp : ys.Pairwise (· ≥ ·)) : ys = downI is := by
  have h1 := List.pairwise_mergeSort (le := fun a b : Int => decide (b ≤ a)) (fun a b c x y => by simp at *; omega) (fun a b => by simp; omega) is
  refine List.Perm.eq_of_pairwise (le := fun a b : Int => b ≤ a) (fun a b _ _ x y => Int.le_antisymm y x) hp ?_ (h.trans (List.mergeSort_perm _ _).symm)
  exact h1.imp fun h => by simpa using h
def gSortD : D → Option Giv
  | .dic ks _ => match intsK ks with
    | some is => if is.length < 500000 then some (.newL ((downI is).map .int)) else none
    | none => none
  | _ => none
section
variable {X : Cx} {et : ET} {ce : Caught} {W : WX} {e a z : Expr} {ma mz : MD} {k1 : Str} {kp : Pos}
theorem d_maxD (hp : ∀ t tk, PA X [a] t → PK X [⟨some k1, z, kp⟩] tk → PE X e (tCKw rMaxDD t tk)) (ha : DO X et ce W a ma) (hz : DE X et ce W z mz) (hst : starEach [a] X.env = (false, eval a X.env) :: starEach [] X.env := by rfl) :
    DE X et ce W e (fun Γ => (ma Γ).bind fun x => (mz Γ).bind fun y => toR (gMaxD x y)) := by
  obtain ⟨t1, p1, g1⟩ := ha
  obtain ⟨t2, p2, g2⟩ := hz
  refine ⟨_, hp _ _ (pa_cons p1 pa_nil hst) (pk_cons p2 pk_nil), fun Hs H0s σ H H0 Γ Q cc q => g1 _ _ _ _ _ _ _ cc (Post.next q fun d v H1 H01 _ s r q => ?_)⟩
  refine g2 _ _ _ _ _ _ _ (cc.step s) (Post.next (q.step back_D s) fun y vy H2 H02 _ s2 ry q => ?_)
  have q := asked (σ := σ) s2.sub (q.step back_D s2)
  cases d with
  | dic ks xs =>
    obtain ⟨p, kvs, rfl, hh, hk, hr⟩ := r
    unfold gMaxD at q
    dsimp only at q
    cases hi : intsK ks with
    | none => rw [hi] at q; exact q.elim
    | some is =>
      rw [hi] at q
      refine ⟨p, kvs, is, vy, rfl, rfl, s2.big _ _ hh, hk.trans (intsK_eq hi), fun h0 => ?_, fun h0 m h1 h2 => ?_⟩
      · dsimp only at q
        rw [if_pos h0] at q
        exact q _ ry
      · dsimp only at q
        rw [if_neg h0] at q
        have hm : m = topI is := Int.le_antisymm (topI_le m h1) (h2 _ (topI_mem h0))
        rw [hm]
        exact q _ (.int _)
  | _ => exact q.elim
theorem d_sortD (hp : ∀ t tk, PA X [a] t → PK X [⟨some k1, z, kp⟩] tk → PE X e (tCKw rSortedDR t tk)) (ha : DO X et ce W a ma) (hz : DE X et ce W z (fun _ => .ok (.bl true))) (hst : starEach [a] X.env = (false, eval a X.env) :: starEach [] X.env := by rfl) :
    DE X et ce W e (fun Γ => (ma Γ).bind fun x => toR (gSortD x)) := by
  obtain ⟨t1, p1, g1⟩ := ha
  obtain ⟨t2, p2, g2⟩ := hz
  refine ⟨_, hp _ _ (pa_cons p1 pa_nil hst) (pk_cons p2 pk_nil), fun Hs H0s σ H H0 Γ Q cc q => g1 _ _ _ _ _ _ _ cc (Post.next q fun d v H1 H01 _ s r q => ?_)⟩
  refine g2 _ _ _ _ _ _ _ (cc.step s) ?_
  intro vy H2 H02 s2 ry
  cases (show Rep X.K H02 vy (.bl true) from ry)
  have q := asked (σ := σ) s2.sub ((q.step back_D s).step back_D s2)
  cases d with
  | dic ks xs =>
    obtain ⟨p, kvs, rfl, hh, hk, hr⟩ := r
    unfold gSortD at q
    dsimp only at q
    cases hi : intsK ks with
    | none => rw [hi] at q; exact q.elim
    | some is =>
      rw [hi] at q
      dsimp only at q
      split at q
      · rename_i hl
        refine ⟨p, kvs, is, rfl, rfl, .inl (s2.big _ _ hh), hk.trans (intsK_eq hi), hl, fun ys l hp hw hn => ?_⟩
        rw [downI_eq hp hw]
        have rr : RepAll X.K H02 ((downI is).map V.int) ((downI is).map .int) := RepAll.ints _
        exact q l _ hn rr
      · exact q.elim
  | _ => exact q.elim
end
end DL
namespace DL
open PySem L2 PySem.Spec PyProof.Rows GL
end DL
namespace DL
open PySem L2 PySem.Spec PyProof.Rows GL
end DL
namespace DL
open PySem L2 PySem.Spec PyProof.Rows GL
def asLT : D → Res (List D)
  | .lst xs => .ok xs
  | .tup xs => .ok xs
  | _ => .stuck
@[simp] theorem asLT_lst (xs : List D) : asLT (.lst xs) = .ok xs := rfl
@[simp] theorem asLT_tup (xs : List D) : asLT (.tup xs) = .ok xs := rfl
def iSeq (i : Nat) : ML := fun Γ => (getS Γ i).bind asLT
@[simp] theorem iSeq_def (i : Nat) (Γ : En) : iSeq i Γ = (getS Γ i).bind asLT := rfl
section
variable {X : Cx} {et : ET} {ce : Caught} {W : WX} {tg e : Expr} {w1 w2 : TI}
theorem pi_or (h1 : PI X tg e w1) (h2 : PI X tg e w2) : PI X tg e (fun σ H R => w1 σ H R ∨ w2 σ H R) := ⟨fun pins s σ H R I h => h.elim (h1.run pins s σ H R I) (h2.run pins s σ H R I)⟩
theorem di_seq {i : Nat} (p : PE X e (tVar i)) : DI X et ce W tg e (iSeq i) := by
  refine ⟨_, pi_or (pi_list p) (pi_tup p), fun Hs H0s σ H H0 Γ Q c q => ?_⟩
  unfold iSeq getS at q
  split at q
  · rename_i d hd
    have z := c.at_ i _ hd
    match hv : σ[i]?, z with
    | some (some v), r =>
      have r : Rep X.K H0 v d := r
      cases d with
      | lst xs => cases r with | lst ha ra => exact .inl ⟨_, hv, _, rfl, ⟨_, SqL.of (c.sub _ _ ha)⟩, q _ H H0 (Step.refl c.sub) (walks_lst ha ra)⟩
      | tup xs => cases r with | tup ha ra => exact .inr ⟨_, hv, _, rfl, ⟨_, seqT_same c.sub ha⟩, q _ H H0 (Step.refl c.sub) (walks_tup ha ra)⟩
      | _ => exact (q : False).elim
  · exact (q : False).elim
end
end DL
namespace DL
open PySem L2 PySem.Spec PyProof.Rows GL
def bOfLst (fs : List (D → En → Option En)) (d : D) (Γ : En) : Option En := match d with
  | .lst ds => bTup fs ds Γ
  | _ => none
@[simp] theorem bOfLst_eq (fs : List (D → En → Option En)) (xs : List D) (Γ : En) : bOfLst fs (.lst xs) Γ = bTup fs xs Γ := rfl
end DL
namespace DL
open PySem L2 PySem.Spec PyProof.Rows GL
def fIf (t : En → Res Bool) (a b : ML) : ML := fun Γ => (t Γ).bind fun k => if k = true then a Γ else b Γ
@[simp] theorem fIf_def (t : En → Res Bool) (a b : ML) (Γ : En) : fIf t a b Γ = (t Γ).bind fun k => if k = true then a Γ else b Γ := rfl
section
variable {X : Cx} {et : ET} {ce : Caught} {W : WX} {c a b : Expr} {mt : En → Res Bool} {ma mb : ML} {pos : Pos}
theorem d_ifF (hc : DT X et ce W c mt) (ha : DF X et ce W a ma) (hb : DF X et ce W b mb) : DF X et ce W (.IfExp c a b pos) (fIf mt ma mb) := by
  obtain ⟨t, p, g⟩ := hc
  obtain ⟨t1, p1, g1⟩ := ha
  obtain ⟨t2, p2, g2⟩ := hb
  refine ⟨_, pe_ifExp p p1 p2, fun Hs H0s σ H H0 Γ Q c q => ?_⟩
  unfold fIf at q
  refine g _ _ _ _ _ _ _ c (Post.next q fun k k' H1 G _ s r q => ?_)
  cases (r : k' = k)
  cases k with
  | true => rw [if_pos rfl] at q; exact iteT (g1 _ _ _ _ _ _ _ (c.step s) (q.step back_F s))
  | false => rw [if_neg Bool.false_ne_true] at q; exact iteF (g2 _ _ _ _ _ _ _ (c.step s) (q.step back_F s))
end
end DL
namespace DL
open PySem L2 PySem.Spec PyProof.Rows GL
def intsD : List D → Option (List Int)
  | [] => some []
  | .int i :: r => (intsD r).map (i :: ·)
  | _ => none
theorem intsD_eq : ∀ {xs : List D} {ns : List Int}, intsD xs = some ns → xs = ns.map .int
  | [], _, h => by cases h; rfl
  | .int i :: r, ns, h => by
    unfold intsD at h
    cases hr : intsD r with
    | none => rw [hr] at h; cases h
    | some ms => rw [hr] at h; cases h; rw [intsD_eq hr]; rfl
  | .non :: _, _, h | .bl _ :: _, _, h | .str _ :: _, _, h | .tup _ :: _, _, h | .lst _ :: _, _, h | .scr _ :: _, _, h | .dic _ _ :: _, _, h | .obj _ _ _ :: _, _, h => by cases h
@[simp] theorem intsD_map : ∀ (ns : List Int), intsD (ns.map .int) = some ns
  | [] => rfl
  | n :: ns => by simp [intsD, intsD_map ns]
def blsD : List D → Option (List Bool)
  | [] => some []
  | .bl i :: r => (blsD r).map (i :: ·)
  | _ => none
@[simp] theorem blsD_map : ∀ (ns : List Bool), blsD (ns.map .bl) = some ns
  | [] => rfl
  | n :: ns => by simp [blsD, blsD_map ns]
/-- f of a list of ints -/
def gInts (f : List Int → Option Giv) : D → Option Giv
  | .lst xs => (intsD xs).bind f
  | .scr ns => f ns
  | _ => none
theorem one_ints {K : PySem.W.Frag} {f : List Int → Option Giv} {x : V} {H : Hp} {Q : VK} (h : r1D K (gInts f) x H Q) : ∃ H0 a ns, x = .ref a ∧ SqL K H a (ns.map V.int) ∧ Asked K H H0 Q (f ns) := by
  obtain ⟨H0, d, sub, rd, q⟩ := h
  cases d with
  | lst xs =>
    obtain ⟨a, vs, ev, ha, ra⟩ := rd
    have q : Asked K H H0 Q ((intsD xs).bind f) := q
    cases hi : intsD xs with
    | none => rw [hi] at q; exact q.elim
    | some ns =>
      rw [hi] at q
      have q : Asked K H H0 Q (f ns) := q
      rw [intsD_eq hi] at ra
      rw [ra.ofInts] at ha
      exact ⟨H0, a, ns, ev, SqL.of ha, q⟩
  | scr ns => cases rd with | scr ha => exact ⟨H0, _, ns, rfl, sub.seq ha, q⟩
  | _ => exact q.elim
def minL : List Int → Int
  | [] => 0
  | a :: r => r.foldl min a
def gMin1 : D → Option Giv := gInts fun ns => giv (0 < ns.length) (.int (minL ns))
theorem foldl_min : ∀ (r : List Int) (a : Int), (r.foldl min a = a ∨ r.foldl min a ∈ r) ∧ r.foldl min a ≤ a ∧ ∀ y ∈ r, r.foldl min a ≤ y
  | [], a => by simp
  | b :: r, a => by
    obtain ⟨h1, h2, h3⟩ := foldl_min r (min a b)
    refine ⟨?_, ?_, ?_⟩
    · rcases h1 with h1 | h1
      · have : min a b = a ∨ min a b = b := by omega
        rcases this with e | e
        · exact .inl (by rw [List.foldl_cons, h1, e])
        · exact .inr (by rw [List.foldl_cons, h1, e]; exact List.mem_cons_self)
      · exact .inr (List.mem_cons_of_mem _ h1)
    · rw [List.foldl_cons]; omega
    · intro y hy
      rw [List.foldl_cons]
      rcases List.mem_cons.mp hy with e | e
      · subst e; omega
      · exact h3 y e
theorem minL_spec {ns : List Int} {m : Int} (hm : m ∈ ns) (h : ∀ y, y ∈ ns → m ≤ y) : m = minL ns := by
  cases ns with
  | nil => cases hm
  | cons a r =>
    obtain ⟨h1, h2, h3⟩ := foldl_min r a
    have e1 : m ≤ r.foldl min a := by
      rcases h1 with e | e
      · rw [e]; exact h a List.mem_cons_self
      · exact h _ (List.mem_cons_of_mem _ e)
    have e2 : r.foldl min a ≤ m := by
      rcases List.mem_cons.mp hm with e | e
      · subst e; exact h2
      · exact h3 m e
    exact Int.le_antisymm e1 e2
section
variable {X : Cx}
theorem b_min1 (hc : X.calm = true) : CallR X (.builtin "min") (rc1 (r1D X.K gMin1)) := callr_imp (cr_min hc) fun vs H Q q => by
  obtain ⟨v, ev, q⟩ := q
  obtain ⟨H0, a, ns, e, ha, q2⟩ := one_ints q
  subst ev e
  obtain ⟨hn, q⟩ := asked_giv q2
  exact ⟨a, ns, rfl, ha, hn, fun m hm hl => by rw [minL_spec hm hl]; exact q _ (.int _)⟩
/-- tuple(xs) -/
def gTupl : D → Option Giv
  | .lst xs => some (.newT xs)
  | .tup xs => some (.val (.tup xs))
  | .scr ns => some (.newT (ns.map .int))
  | _ => none
theorem b_tuple : CallR X (.type "tuple") (rc1 (r1D X.K gTupl)) := callr_imp call_tuple_of fun vs H Q q => by
  obtain ⟨v, ev, H0, d, sub, rd, q⟩ := q
  subst ev
  cases d with
  | lst xs =>
    obtain ⟨a, vs, ev, ha, ra⟩ := rd
    subst ev
    exact ⟨a, vs, rfl, .inl ⟨SqL.of ha, fun l n => q l _ n ra⟩⟩
  | scr ns => cases rd with | scr ha => exact ⟨_, _, rfl, .inl ⟨sub.seq ha, fun l n => q l _ n (RepAll.ints ns)⟩⟩
  | tup xs => cases rd with | tup ha ra => exact ⟨_, _, rfl, .inr ⟨seqT_same sub ha, q _ (.tup ha ra)⟩⟩
  | _ => exact q.elim
end
end DL
namespace DL
open PySem L2 PySem.Spec PyProof.Rows GL
def tOr (t u : TE) : TE := fun σ H Q => t σ H Q ∨ u σ H Q
theorem pe_or {X : Cx} {e : Expr} {t u : TE} (h : PE X e t) (g : PE X e u) : PE X e (tOr t u) :=
  ⟨fun pins s σ H Q I q => q.elim (fun q => h.run pins s σ H Q I q) fun q => g.run pins s σ H Q I q⟩
end DL
namespace DL
open PySem L2 PySem.Spec PyProof.Rows GL
end DL
namespace GL
open PySem L2 PySem.W PySem.Spec PyProof.Rows
end GL
namespace DL
open PySem L2 PySem.Spec PyProof.Rows GL
end DL
namespace DL
open PySem L2 PySem.Spec PyProof.Rows GL
/-- nothing of its own -/
def calm : Slot → Slot
  | .sh d => .sh d
  | _ => .un
theorem calm_alone (s : Slot) : (calm s).alone = false := by cases s <;> rfl
section
variable {K : PySem.W.Frag} {et : ET} {ce : Caught} {Hs H0s H H0 : Hp} {σ : L2.St} {Γ : En}
theorem Stn.calm (c : Stn K et ce Hs H0s σ H H0 Γ) : Stn K et ce Hs H0s σ H H0 (Γ.map DL.calm) := by
  have of : ∀ {i : Nat} {s : Slot}, (Γ.map DL.calm)[i]? = some s → ∃ s', Γ[i]? = some s' ∧ s = DL.calm s' := fun {i s} e => by
    rw [List.getElem?_map] at e
    cases h : Γ[i]? with
    | none => rw [h] at e; cases e
    | some s' => rw [h] at e; cases e; exact ⟨s', rfl, rfl⟩
  refine ⟨c.z, c.st, by simpa using c.len, fun i s e => ?_, fun i j s t p ei ej ai aj => ?_⟩
  · obtain ⟨s', e', rfl⟩ := of e
    have h := c.at_ i s' e'
    cases s' with
    | sh d => exact h
    | _ =>
      show Holds K et ce Hs H H0 _ .un
      cases σ[i]? with
      | none => exact True.intro
      | some v => cases v <;> exact True.intro
  · obtain ⟨s', _, rfl⟩ := of ei
    rw [calm_alone] at ai; cases ai
/-- a list that no slot holds is rewritten -/
theorem Stn.relist {L : Addr} {o : HO} (c : Stn K et ce Hs H0s σ H H0 (Γ.map DL.calm)) (hs : Hs L = none) (hg : H0 L = none) : Stn K et ce Hs H0s σ (upd H L o) H0 (Γ.map DL.calm) := by
  refine ⟨c.z, ⟨same_upd' c.st.big hs, c.st.small, fun b u q => ?_, c.st.apart⟩, c.len, fun i s e => ?_, c.one⟩
  · rw [upd_ne (fun z => by rw [z, hg] at q; cases q)]
    exact c.st.sub b u q
  · have h := c.at_ i s e
    rw [List.getElem?_map] at e
    cases hh : Γ[i]? with
    | none => rw [hh] at e; cases e
    | some s' =>
      rw [hh] at e
      cases e
      cases s' with
      | sh d =>
        cases hv : σ[i]? with
        | none => rw [hv] at h; exact h
        | some v => rw [hv] at h; cases v <;> exact h
      | _ =>
        show Holds K et ce Hs _ H0 _ .un
        cases σ[i]? with
        | none => exact True.intro
        | some v => cases v <;> exact True.intro
end
theorem noX_eq {α : Type} {r : Res α} {a : α} (h : noX r = .ok a) : r = .ok a := by cases r <;> first | exact h | cases h
section
variable {X : Cx} {et : ET} {ce : Caught} {W : WX} {e e1 el tg tg1 : Expr} {m : MD} {mi mi1 : ML} {mg mg1 : D → En → Option En} {vs vs1 : List Nat} {pos : Pos}
theorem DI.can (h : DI X et ce W tg e mi) : PI X tg e (tEM X.K et ce W (RI X.K) mi) := by
  obtain ⟨t, p, g⟩ := h
  exact ⟨fun pins s σ H Q I ⟨Hs, H0s, H0, Γ, c, q⟩ => p.run pins s σ H Q I (g _ _ _ _ _ _ _ c q)⟩
end
end DL
namespace DL
open PySem L2 PySem.Spec PyProof.Rows GL
section
variable {X : Cx} {et : ET} {ce : Caught} {W : WX} {k : Nat} {f C : Addr} {fd : FuncData} {ps : List Str} {sp : Sp} {o e : Expr} {es : List Expr} {m : Str} {apos pos p : Pos} {ta : TE} {t : TA}
def tMethW (C : Addr) (m : Str) (sp : Sp) (W : WX) (ta : TE) (t : TA) : TE := fun σ H Q => ta σ H fun x H1 => ∃ a dx fs, x = .ref a ∧ H1 a = some (.ins C dx fs) ∧ fs.lookup m = none ∧ t σ H1 fun vs H2 => sp (x :: vs) H2 Q fun c d H => W c d σ H
theorem pe_methW {pl : Sem Bool} (he : PE X o ta) (c : Cls X.K C) (hm : Meth X.K C m f) (F : FnG X.prog X.w X.K X.mg X.base (L2.CX X.prog X.w) k f fd ps sp) (quiet : Quiet X.A) (hr : Room k X.A) (hb : Binds X.K fd ps []) (tk : Takes X W) (ha : PA X (e :: es) t)
    (hst : starEach (e :: es) X.env = (false, eval e X.env) :: starEach es X.env := by rfl) (hpl : (backTo pos (starEach es X.env)).any (·.1) = false := by rfl)
    (ht : eval (.Call (.Attribute o m apos) (e :: es) [] pos) X.env = (do let ov ← eval o X.env; standAt apos.atName; let (f, first) ← holding [ov] (getMethod ov m pl); callWith pos f first (backTo pos (starEach (e :: es) X.env)) (backToKw pos (keywordEach [] X.env))) := by rfl) :
    PE X (.Call (.Attribute o m apos) (e :: es) [] pos) (tMethW C m sp W ta t) := by
  constructor
  intro pins s σ H Q I h
  refine PySem.W.methodCall_KW (pl := pl) (thn (he.run pins s σ H _ I h) ?_) ht
  rintro u s1 ⟨x, H1, I1, rx, a, dx, fs, rfl, ea, l, q⟩
  obtain rfl : u = Value.ref a := rx
  refine getmeth_ok I1 ea c hm l (PySem.W.callWith_K (first := [.ref a]) (h₀ := X.base) I.ok.mod.kin hm.kp (thn (ha.run pos pins s1 σ H1 _ I1 q) ?_) hst hpl)
  rintro us s2 ⟨vs, H2, I2, r, q2⟩
  exact ⟨I2.kIn, runGS (us := .ref a :: us) (vs := .ref a :: vs) F quiet hr hb tk I2 (.cons rfl r) q2⟩
theorem pe_methW0 {pl : Sem Bool} (he : PE X o ta) (c : Cls X.K C) (hm : Meth X.K C m f) (F : FnG X.prog X.w X.K X.mg X.base (L2.CX X.prog X.w) k f fd ps sp) (quiet : Quiet X.A) (hr : Room k X.A) (hb : Binds X.K fd ps []) (tk : Takes X W)
    (ht : eval (.Call (.Attribute o m apos) [] [] pos) X.env = (do let ov ← eval o X.env; standAt apos.atName; let (f, first) ← holding [ov] (getMethod ov m pl); callWith pos f first (backTo pos (starEach [] X.env)) (backToKw pos (keywordEach [] X.env))) := by rfl) :
    PE X (.Call (.Attribute o m apos) [] [] pos) (tMethW C m sp W ta tNil) := by
  constructor
  intro pins s σ H Q I h
  refine PySem.W.methodCall_KW (pl := pl) (thn (he.run pins s σ H _ I h) ?_) ht
  rintro u s1 ⟨x, H1, I1, rx, a, dx, fs, rfl, ea, l, q⟩
  obtain rfl : u = Value.ref a := rx
  exact getmeth_ok I1 ea c hm l (PySem.W.callWith_K0 (first := [.ref a]) I1.kIn hm.kp (runGS (us := [.ref a]) (vs := [.ref a]) F quiet hr hb tk I1 (.cons rfl .nil) q))
theorem quiet_make {A : Around} (h : Quiet A) (C : Addr) (us : List Value) (kw : List (Str × Value)) : Quiet (A.under (.builtin "type.__call__" ⟨.ref C :: us, kw⟩)) := by
  unfold GL.Quiet at *
  first
    | exact h
    | simpa [Around.under, pushGuards, Code.guards, Code.isGuard] using h
def tMakeW (C : Addr) (sp : Sp) (W : WX) (t : TA) : TE := fun σ H Q => t σ H fun vs H1 => ∀ x dx, H1 x = none → H1 dx = none → dx ≠ x →
  sp (.ref x :: vs) (upd (upd H1 dx (.own x)) x (.ins C dx [])) (fun v H2 => v = .non ∧ Q (.ref x) H2) fun c d H => W c d σ H
theorem pe_makeW {x : Str} (M : Mk X.K C f) (F : FnG X.prog X.w X.K X.mg X.base (L2.CX X.prog X.w) k f fd ps sp) (quiet : Quiet X.A) (hr : Room (k + 1) X.A) (hg : Gl X x) (hm : X.mg x = some (.ref C)) (hb : Binds X.K fd ps []) (tk : Takes X W)
    (ha : PA X (e :: es) t) (hdb : (x == ("__debug__" : Str)) = false := by decide) (he : starEach (e :: es) X.env = (false, eval e X.env) :: starEach es X.env := by rfl) (hpl : (backTo pos (starEach es X.env)).any (·.1) = false := by rfl) :
    PE X (.Call (.Name x p) (e :: es) [] pos) (tMakeW C sp W t) := by
  constructor
  intro pins s σ H Q I h
  apply wpAny_Call_Name_kw
  apply ld_glob I hg hm _ hdb
  refine PySem.W.callWith_K (h₀ := X.base) I.ok.mod.kin M.kp (thn (ha.run pos pins s σ H _ I h) ?_) he hpl
  rintro us s1 ⟨vs, H1, I1, r, q⟩
  refine ⟨I1.kIn, ?_⟩
  have young := I1.hok.fresh (Nat.le_refl s1.heap.objs.size)
  have hq := q (s1.heap.objs.size + 1) s1.heap.objs.size (I1.hok.fresh (Nat.le_succ _)) young (Nat.ne_of_lt (Nat.lt_succ_self _))
  have I2 := Inv.made (C := C) I1
  have r2 : Vals (V.ref (s1.heap.objs.size + 1) :: vs) (Value.ref (s1.heap.objs.size + 1) :: us) := .cons rfl r
  have hl : (Value.ref (s1.heap.objs.size + 1) :: us).length = ps.length := r2.length.symm.trans (F.len _ _ _ _ hq)
  have bd := hb _ (Value.ref (s1.heap.objs.size + 1) :: us) I2.kIn (by rw [List.append_nil]; exact hl)
  rw [List.append_nil] at bd
  refine wpAny_call (make_map (f := f) I1.kIn M.makes M.init (beq_iff_eq.mp M.fn) (codeAny_mono (F.go (quiet_make quiet C us []) (hr.make C us []) (I2.env0.make C us []) bd r2 hq) ?_))
  intro res s' hq'
  cases res with
  | error e => exact passAt tk σ _ _ _ _ _ I2 hq'
  | ok fl =>
    cases fl with
    | ret u =>
      obtain ⟨v, H', I3, rv, rfl, q3⟩ := I2.after hq'
      exact ⟨rv, V.ref (s1.heap.objs.size + 1), H', I3, rfl, q3⟩
    | next => exact (hq' : False).elim
    | brk => exact (hq' : False).elim
    | cont => exact (hq' : False).elim
end
def fldOf (f : Str) : List Str → List D → Option D
  | n :: ns, d :: ds => if n = f then some d else fldOf f ns ds
  | _, _ => none
theorem fld_rep {K : PySem.W.Frag} {H : Hp} {f : Str} : ∀ {fs : List (Str × V)} {ns : List Str} {ds : List D} {d : D}, fs.map (·.1) = ns → RepAll K H (fs.map (·.2)) ds → fldOf f ns ds = some d → ∃ v, fs.lookup f = some v ∧ Rep K H v d
  | [], _, _, _, e, r, h => by subst e; cases r; cases h
  | (n, v) :: fs, _, _, d, e, r, h => by
    subst e
    cases r with
    | cons rv rr =>
      simp only [List.map_cons, fldOf] at h
      by_cases hn : n = f
      · rw [if_pos hn] at h
        cases h
        exact ⟨v, by subst hn; simp [List.lookup], rv⟩
      · rw [if_neg hn] at h
        obtain ⟨w, h1, h2⟩ := fld_rep rfl rr h
        exact ⟨w, by simp [List.lookup, beq_eq_false_iff_ne.mpr (Ne.symm hn), h1], h2⟩
theorem no_fld {m : Str} : ∀ {fs : List (Str × V)}, m ∉ fs.map (·.1) → fs.lookup m = none
  | [], _ => rfl
  | (n, v) :: fs, h => by
    rw [List.map_cons, List.mem_cons, not_or] at h
    simp [List.lookup, beq_eq_false_iff_ne.mpr h.1, no_fld h.2]
theorem putF_new {f : Str} {y : V} : ∀ {fs : List (Str × V)}, f ∉ fs.map (·.1) → putF f y fs = fs ++ [(f, y)]
  | [], _ => rfl
  | (n, v) :: fs, h => by
    rw [List.map_cons, List.mem_cons, not_or] at h
    show (if n = f then _ else _) = _
    rw [if_neg (Ne.symm h.1), putF_new h.2]; rfl
def gFld (C : Addr) (f : Str) : D → Option Giv
  | .obj C' ns vs => if C' = C then (fldOf f ns vs).map .val else none
  | _ => none
def eFld (C : Addr) (f : Str) (m : MD) : MD := fun Γ => (m Γ).bind fun d => toR (gFld C f d)
def isO (C : Addr) (m : Str) : D → Bool
  | .obj C' ns _ => decide (C' = C) && !(ns.contains m)
  | _ => false
def eSelf (C : Addr) (i : Nat) (f : Str) : MD := fun Γ => match Γ[i]? with
  | some (.ownO _ C' ns vs) => if C' = C then (match fldOf f ns vs with | some d => .ok d | none => .stuck) else .stuck
  | _ => .stuck
def eMeth (C : Addr) (mn : Str) (M : List D → Res Slot) (mo : MD) (mas : ML) : MD := fun Γ => (mo Γ).bind fun d => need (isO C mn d = true) ((mas Γ).bind fun ds => (M (d :: ds)).bind slotD)
def fMeth (C : Addr) (mn : Str) (M : List D → Res Slot) (mo : MD) (mas : ML) : ML := fun Γ => (mo Γ).bind fun d => need (isO C mn d = true) ((mas Γ).bind fun ds => (M (d :: ds)).bind slotF)
section
variable {X : Cx} {et : ET} {ce : Caught} {W : WX} {C : Addr} {f mn : Str} {e o e' : Expr} {es : List Expr} {m mo : MD} {mas : ML} {pos : Pos} {st : Stmt}
theorem obj_of {mn : Str} {d : D} (h : isO C mn d = true) : ∃ ns vs, d = .obj C ns vs ∧ mn ∉ ns := by
  unfold isO at h
  split at h
  · rw [Bool.and_eq_true, decide_eq_true_iff] at h
    obtain ⟨rfl, h⟩ := h
    exact ⟨_, _, rfl, by simpa using h⟩
  · cases h
theorem d_fld (ha : DO X et ce W e m) (c : Cls X.K C) (n : NoAttr X.K C f) (hp : ∀ t, PE X e t → PE X e' (tFld X.K t f)) : DE X et ce W e' (eFld C f m) := by
  obtain ⟨t, p, ga⟩ := ha
  refine ⟨_, hp _ p, fun Hs H0s σ H H0 Γ Q cc q => ga _ _ _ _ _ _ _ cc (Post.next q fun d v H1 H01 _ s r q => ?_)⟩
  have q := asked (σ := σ) s.sub (q.step back_D s)
  cases d with
  | obj C' ns vs =>
    by_cases hc : C' = C
    · subst hc
      have q : Asked X.K H1 H01 Q ((fldOf f ns vs).map .val) := by
        have e : gFld C' f (.obj C' ns vs) = (fldOf f ns vs).map .val := if_pos rfl
        rw [e] at q; exact q
      obtain ⟨d, hd, q⟩ := asked_map (f := fun x => x) q
      have r : Rep X.K H01 v (.obj C' ns vs) := r
      cases r with
      | obj ha hk ra =>
        obtain ⟨w, h1, h2⟩ := fld_rep hk ra hd
        exact ⟨_, _, _, _, w, rfl, s.sub _ _ ha, c, n, h1, q _ h2⟩
    · have e : gFld C f (.obj C' ns vs) = none := if_neg hc
      rw [e] at q
      exact (q : False).elim
  | _ => exact (q : False).elim
theorem d_self {i : Nat} (c : Cls X.K C) (n : NoAttr X.K C f) (hp : PE X e' (tFld X.K (tVar i) f)) : DE X et ce W e' (eSelf C i f) := by
  refine ⟨_, hp, fun Hs H0s σ H H0 Γ Q cc q => ?_⟩
  unfold eSelf at q
  split at q
  · rename_i p C' ns vs e
    split at q
    · rename_i hc
      subst hc
      have z := cc.at_ i _ e
      match hv : σ[i]?, z with
      | some (some v), ⟨ev, dx, fs, _, hp', _, hk, ra⟩ =>
        subst ev
        split at q
        · rename_i d hd
          obtain ⟨w, h1, h2⟩ := fld_rep hk ra hd
          exact ⟨_, hv, _, _, _, _, w, rfl, hp', c, n, h1, q w H H0 (Step.refl cc.sub) h2⟩
        · exact (q : False).elim
    · exact (q : False).elim
  · exact (q : False).elim
theorem d_meth {n : Nat} {M : List D → Res Slot} (ha : DE X et ce W o mo) (hb : DAn X et ce W es n mas) (hp : ∀ t ta, PE X o t → PA X es ta → PE X e (tMethW C mn (spD X.K et (n + 1) M) W t ta)) : DE X et ce W e (eMeth C mn M mo mas) := by
  obtain ⟨t, p, ga⟩ := ha
  obtain ⟨⟨t1, p1, gb⟩, hn⟩ := hb
  refine ⟨_, hp _ _ p p1, fun Hs H0s σ H H0 Γ Q cc q => ga _ _ _ _ _ _ _ cc (Post.next q fun d v H1 H01 _ s r q => ?_)⟩
  obtain ⟨hd, q⟩ := need_if (q.step back_D s)
  obtain ⟨ns, vs, rfl, hm⟩ := obj_of hd
  have r : Rep X.K H01 v (.obj C ns vs) := r
  cases id r with
  | obj hat hk ra =>
    subst hk
    refine ⟨_, _, _, rfl, s.sub _ _ hat, no_fld hm, gb _ _ _ _ _ _ _ (cc.step s) (Post.next q fun ds ws H2 H02 he s2 r2 q => ?_)⟩
    have r2 : RepAll X.K H02 ws ds := r2
    have q := q.step back_D s2
    refine ⟨by rw [List.length_cons, r2.len.trans (hn _ _ he)], H02, _, s2.sub, .cons (r.same s2.small) r2, ?_⟩
    revert q
    cases M (.obj C _ vs :: ds) with
    | stuck => exact fun q => q
    | exc x d => exact fun q => q
    | ok sl =>
      intro q v' H' G st hv
      cases sl with
      | sh d => exact q v' H' G st hv
      | own xs =>
        obtain ⟨p, us, ev, hn', hp', h0, rr⟩ := hv
        exact q v' H' _ (Step.share s2.sub st hn' hp' h0) (by subst ev; exact .lst upd_same (rr.same (same_upd' (Same.refl _) h0)))
      | ownD ks xs =>
        obtain ⟨p, us, ev, hn', hp', h0, hk, rr⟩ := hv
        exact q v' H' _ (Step.share s2.sub st hn' hp' h0) (by subst ev; exact .dic upd_same hk (rr.same (same_upd' (Same.refl _) h0)))
      | un => exact (q : False).elim
      | ownO _ _ _ _ => exact (q : False).elim
      | er x d => exact (q : False).elim
      | lk ks xs => exact (q : False).elim
theorem d_methF {n : Nat} {M : List D → Res Slot} (ha : DE X et ce W o mo) (hb : DAn X et ce W es n mas) (hp : ∀ t ta, PE X o t → PA X es ta → PE X e (tMethW C mn (spD X.K et (n + 1) M) W t ta)) : DF X et ce W e (fMeth C mn M mo mas) := by
  obtain ⟨t, p, ga⟩ := ha
  obtain ⟨⟨t1, p1, gb⟩, hn⟩ := hb
  refine ⟨_, hp _ _ p p1, fun Hs H0s σ H H0 Γ Q cc q => ga _ _ _ _ _ _ _ cc (Post.next q fun d v H1 H01 _ s r q => ?_)⟩
  obtain ⟨hd, q⟩ := need_if (q.step back_F s)
  obtain ⟨ns, vs, rfl, hm⟩ := obj_of hd
  have r : Rep X.K H01 v (.obj C ns vs) := r
  cases id r with
  | obj hat hk ra =>
    subst hk
    refine ⟨_, _, _, rfl, s.sub _ _ hat, no_fld hm, gb _ _ _ _ _ _ _ (cc.step s) (Post.next q fun ds ws H2 H02 he s2 r2 q => ?_)⟩
    have r2 : RepAll X.K H02 ws ds := r2
    have q := q.step back_F s2
    refine ⟨by rw [List.length_cons, r2.len.trans (hn _ _ he)], H02, _, s2.sub, .cons (r.same s2.small) r2, ?_⟩
    revert q
    cases M (.obj C _ vs :: ds) with
    | stuck => exact fun q => q
    | exc x d => exact fun q => q
    | ok sl =>
      intro q v' H' G st hv
      cases sl with
      | own xs =>
        obtain ⟨p, us, ev, hn', hp', h0, rr⟩ := hv
        exact q v' H' G st ⟨p, us, ev, hn', hp', h0, rr⟩
      | sh d => exact (q : False).elim
      | ownD ks xs => exact (q : False).elim
      | un => exact (q : False).elim
      | ownO _ _ _ _ => exact (q : False).elim
      | er x d => exact (q : False).elim
      | lk ks xs => exact (q : False).elim
def mSetA (C : Addr) (i : Nat) (f : Str) (m : MD) (Γ : En) : Out := mTo (m Γ) Γ fun d => match Γ[i]? with
  | some (.ownO p C' ns vs) => if C' = C ∧ f ∉ ns ∧ ns.length < 900 then .nx (Γ.set i (.ownO p C' (ns ++ [f]) (vs ++ [d]))) else .stuck
  | _ => .stuck
theorem ds_setA {i : Nat} (c : Cls X.K C) (n : NoAttr X.K C f) (hp : ∀ tv, PE X e tv → PS X st (sFld X.K (tVar i) tv f)) (h : DE X et ce W e m) : DS X et ce W st (mSetA C i f m) := by
  obtain ⟨t, p, ge⟩ := h
  refine ⟨_, hp t p, fun Hs H0s σ H H0 Γ E cc q => ge _ _ _ _ _ _ _ cc (PostS.to cc q fun d v H' G _ s r q => ?_)⟩
  have c1 := cc.step s
  split at q
  · rename_i a C' ns vs he
    split at q
    · rename_i hc
      obtain ⟨rfl, hf, hl⟩ := hc
      have z := c1.at_ i _ he
      match hv : σ[i]?, z with
      | some (some w), ⟨ew, dx, fs, hs, ha, h0, hk, ra⟩ =>
        subst ew
        subst hk
        refine ⟨_, hv, _, _, _, fs, rfl, ha, c, n, by rw [List.length_map] at hl; omega, ?_⟩
        rw [putF_new hf]
        have hnG : Same G G := Same.refl _
        refine q _ _ _ (c1.write (o := .ins C' dx (fs ++ [(f, v)])) he rfl hv hs ⟨rfl, dx, _, hs, upd_same, h0, by simp, ?_⟩) s.small
        rw [List.map_append]
        exact ra.app (.cons r .nil)
    · exact (q : False).elim
  · exact (q : False).elim
end
open Classical in
/-- what is said for every place -/
noncomputable def allP (MI : Addr → List D → Res D) (ds : List D) : Res D := if h : ∃ r, ∀ p, MI p ds = r then h.choose else .stuck
theorem allP_eq {MI : Addr → List D → Res D} {ds : List D} {r : Res D} (h : ∀ p, MI p ds = r) : allP MI ds = r := by
  have ex : ∃ r, ∀ p, MI p ds = r := ⟨r, h⟩
  unfold allP
  rw [dif_pos ex]
  exact (ex.choose_spec 0).symm.trans (h 0)
theorem allP_at {MI : Addr → List D → Res D} {ds : List D} (h : allP MI ds ≠ .stuck) (p : Addr) : MI p ds = allP MI ds := by
  unfold allP at h ⊢
  split
  · rename_i ex
    exact ex.choose_spec p
  · rename_i ex
    rw [dif_neg ex] at h
    exact absurd rfl h
noncomputable def eNew (MI : Addr → List D → Res D) (mas : ML) : MD := fun Γ => (mas Γ).bind fun ds => allP MI ds
def startO (N : Nat) (p C : Addr) (ds : List D) : En := .ownO p C [] [] :: (ds.map Slot.sh ++ List.replicate (N - 1 - ds.length) .un)
def selfOf (p : Addr) (Γ : En) : Res D := match (Γ[0]? : Option Slot) with
  | some (Slot.ownO p' C' ns vs) => if p' = p then .ok (.obj C' ns vs) else .stuck
  | _ => .stuck
theorem selfOf_ok {p : Addr} {Γ : En} {d : D} (h : selfOf p Γ = .ok d) : ∃ C ns vs, Γ[0]? = some (.ownO p C ns vs) ∧ d = .obj C ns vs := by
  unfold selfOf at h
  split at h
  · rename_i p' C' ns vs he
    split at h
    · rename_i hp
      subst hp
      cases h
      exact ⟨_, _, _, he, rfl⟩
    · cases h
  · cases h
theorem selfOf_exc {p : Addr} {Γ : En} {x : String} {d : D} (h : selfOf p Γ = .exc x d) : False := by
  unfold selfOf at h
  split at h
  · split at h <;> cases h
  · cases h
def mInit (C : Addr) (N : Nat) (mb : En → Out) (p : Addr) (ds : List D) : Res D := match mb (startO N p C ds) with
  | .nx Γ => selfOf p Γ
  | .exc x d _ => .exc x d
  | _ => .stuck
def delH (H : Hp) (a : Addr) : Hp := fun b => if b = a then none else H b
/-- the object d stands at a, held by nothing else -/
def ObjAt (K : PySem.W.Frag) (H G : Hp) (a : Addr) (d : D) : Prop := ∃ C ns vs dx fs, d = .obj C ns vs ∧ H a = some (.ins C dx fs) ∧ G a = none ∧ fs.map (·.1) = ns ∧ RepAll K G (fs.map (·.2)) vs
def spI (K : PySem.W.Frag) (et : ET) (C : Addr) (n : Nat) (MI : Addr → List D → Res D) : Sp := fun vs H Q E => ∃ a dx ws ds H0, vs = .ref a :: ws ∧ ws.length = n ∧ H a = some (.ins C dx []) ∧ Same H0 H ∧ H0 a = none ∧ RepAll K H0 ws ds ∧
  match MI a ds with
  | .ok d => ∀ H' G, Step (delH H a) H0 H' G → ObjAt K H' G a d → Q .non H'
  | .exc x d => ∀ C2 fld dd w H' G, et x = some (C2, fld) → Step (delH H a) H0 H' G → G dd = some (.xd [(fld, w)]) → Rep K G w d → E (.ref C2) (some dd) H'
  | .stuck => False
section
variable {X : Cx} {et : ET} {ce : Caught} {W : WX} {C : Addr} {e : Expr} {es : List Expr} {mas : ML}
theorem d_new {n : Nat} {MI : Addr → List D → Res D} (ha : DAn X et ce W es n mas) (hp : ∀ t, PA X es t → PE X e (tMakeW C (spI X.K et C n MI) W t)) : DE X et ce W e (eNew MI mas) := by
  obtain ⟨⟨t, p, g⟩, hn⟩ := ha
  refine ⟨_, hp _ p, fun Hs H0s σ H H0 Γ Q cc q => g _ _ _ _ _ _ _ cc (Post.next q fun ds vs H1 G1 he s r q => ?_)⟩
  have r : RepAll X.K G1 vs ds := r
  have q := q.step back_D s
  intro a dx ha hdx ne
  have hg : G1 a = none := none_sub s.sub ha
  have hgx : G1 dx = none := none_sub s.sub hdx
  have up : Same H1 (upd (upd H1 dx (.own a)) a (.ins C dx [])) := Same.trans (same_upd hdx) (same_upd (by rw [upd_ne ne.symm]; exact ha))
  have old : ∀ b u, H1 b = some u → delH (upd (upd H1 dx (.own a)) a (.ins C dx [])) a b = some u := fun b u hb => by
    have nb : b ≠ a := fun z => by rw [z, ha] at hb; cases hb
    unfold delH
    rw [if_neg nb]
    exact up b u hb
  refine ⟨a, dx, vs, ds, G1, rfl, r.len.trans (hn _ _ he), upd_same, Same.trans s.sub up, hg, r, ?_⟩
  have ns : allP MI ds ≠ .stuck := fun z => by rw [z] at q; exact q
  rw [allP_at ns a]
  revert q
  cases allP MI ds with
  | stuck => exact fun q => q
  | exc x d =>
    intro q C2 fld dd w H' G hx st hd rw_
    exact q C2 fld dd w H' G hx ⟨fun b u hb => st.big b u (old b u hb), st.small, st.sub, fun b u hb h0 => st.apart b u (old b u hb) h0⟩ hd rw_
  | ok d =>
    intro q H' G st ⟨C', ns', vs', dx', fs, ed, hat, hga, hk, ra⟩
    subst ed
    have sm : Same G (upd G a (.ins C' dx' fs)) := same_upd' (Same.refl _) hga
    refine ⟨rfl, q _ _ (upd G a (.ins C' dx' fs)) ⟨fun b u hb => st.big b u (old b u hb), Same.trans st.small sm, fun b u hb => ?_, fun b u hb h0 => ?_⟩ (.obj upd_same hk (ra.same sm))⟩
    · by_cases hba : b = a
      · subst hba
        rw [upd_same] at hb
        cases hb
        exact hat
      · rw [upd_ne hba] at hb
        exact st.sub b u hb
    · have nb : b ≠ a := fun z => by rw [z, ha] at hb; cases hb
      rw [upd_ne nb]
      exact st.apart b u (old b u hb) h0
end
theorem start_own {K : PySem.W.Frag} {et : ET} {H H0 : Hp} {N : List Str} {a C dx : Addr} {vs : List V} {ds : List D} (ha : H a = some (.ins C dx [])) (s : Same H0 H) (h0 : H0 a = none) (r : RepAll K H0 vs ds) (hN : vs.length < N.length) :
    Stn K et none (delH H a) H0 (L2.start N (.ref a :: vs)) H H0 (startO N.length a C ds) := by
  have hl := r.len
  have e1 : L2.start N (.ref a :: vs) = some (.ref a) :: (vs.map some ++ List.replicate (N.length - (vs.length + 1)) none) := by
    unfold L2.start
    simp
  rw [e1]
  have big : Same (delH H a) H := fun b u hb => by
    unfold delH at hb
    split at hb
    · cases hb
    · exact hb
  refine ⟨fun b u hb => ?_, ⟨big, Same.refl _, s, fun _ _ _ h => h⟩, ?_, fun i sl e => ?_, fun i j sl t p ei ej ai aj hi hj => ?_⟩
  · unfold delH
    rw [if_neg (fun z => by rw [z, h0] at hb; cases hb)]
    exact s b u hb
  · unfold startO
    simp only [List.length_cons, List.length_append, List.length_map, List.length_replicate]
    omega
  · unfold startO at e
    cases i with
    | zero =>
      cases e
      exact ⟨rfl, dx, [], by unfold delH; rw [if_pos rfl], ha, h0, rfl, .nil⟩
    | succ i =>
      rw [List.getElem?_cons_succ] at e ⊢
      by_cases hi : i < ds.length
      · rw [List.getElem?_append_left (by simpa using hi), List.getElem?_map, List.getElem?_eq_getElem hi] at e
        cases e
        obtain ⟨v, hv, rv⟩ := r.get (List.getElem?_eq_getElem hi)
        rw [List.getElem?_append_left (by rw [List.length_map, hl]; exact hi), List.getElem?_map, hv]
        exact rv
      · rw [List.getElem?_append_right (by simpa using hi), List.getElem?_replicate] at e
        split at e
        · cases e
          cases (vs.map some ++ List.replicate (N.length - (vs.length + 1)) none : List (Option V))[i]? <;> trivial
        · cases e
  · have zero : ∀ {i : Nat} {sl : Slot}, (startO N.length a C ds)[i]? = some sl → sl.alone = true → i = 0 := fun {i sl} e al => by
      cases i with
      | zero => rfl
      | succ i =>
        exfalso
        unfold startO at e
        rw [List.getElem?_cons_succ] at e
        by_cases hi : i < ds.length
        · rw [List.getElem?_append_left (by simpa using hi), List.getElem?_map, List.getElem?_eq_getElem hi] at e
          cases e; cases al
        · rw [List.getElem?_append_right (by simpa using hi), List.getElem?_replicate] at e
          split at e
          · cases e; cases al
          · cases e
    rw [zero ei ai, zero ej aj]
theorem fn_init {P : Program} {w : World} {K : PySem.W.Frag} {mg : Str → Option Value} {base : Heap} {k n : Nat} {f C : Addr} {fd : FuncData} {ps N : List Str} {x qual : Str} {st : Stmt} {et : ET} {mb : En → Out}
    (F : Fun K x qual st f fd) (S : FnScope N ps (defScope st)) (hn : ps.length = n + 1) (hN : n < N.length)
    (body : ∀ (cdv : Value) (A : Around) (outer : List PySem.Env) (s : Shared) (H : Hp) (E : XK), Quiet A → Room k (A.deeper (envOfC qual (defScope st) s.heap.objs.size f cdv)) →
      DSs (cxOf (L2.CX P w) P w K mg base N qual (defScope st) f cdv A outer s H E) et none (fun c d _ H => E c d H) (defBody st) mb) :
    FnG P w K mg base (L2.CX P w) (k + 1) f fd ps (spI K et C n (mInit C N.length mb)) := by
  refine FnG.mkX F S (fun vs H Q E h => ?_) fun cdv A outer s H vs Q E qu hr h => ?_
  · obtain ⟨a, dx, ws, ds, H0, rfl, hl, _⟩ := h
    rw [List.length_cons, hl, hn]
  · obtain ⟨a, dx, ws, ds, H0, rfl, hl, ha, sub, h0, r, q⟩ := h
    obtain ⟨t, p, g⟩ := body cdv A outer s H E qu hr
    refine ⟨t, p, g _ _ _ _ _ _ _ (start_own ha sub h0 r (by omega)) ?_⟩
    unfold mInit at q
    revert q
    cases mb (startO N.length a C ds) with
    | nx Γ =>
      intro q σ' H' G c _
      cases hS : selfOf a Γ with
      | stuck => rw [show (match Out.nx Γ with | .nx Γ => selfOf a Γ | .exc x d _ => .exc x d | _ => .stuck : Res D) = .stuck from hS] at q; exact q.elim
      | exc x d => exact (selfOf_exc hS).elim
      | ok d =>
        obtain ⟨C', ns, vs, hz, rfl⟩ := selfOf_ok hS
        rw [show (match Out.nx Γ with | .nx Γ => selfOf a Γ | .exc x d _ => .exc x d | _ => .stuck : Res D) = .ok (.obj C' ns vs) from hS] at q
        have z := c.at_ 0 _ hz
        match hv : σ'[0]?, z with
        | some (some v), ⟨ev, dx', fs, hs, hat, hga, hk, ra⟩ => exact q H' G c.st ⟨C', ns, vs, dx', fs, rfl, hat, hga, hk, ra⟩
    | exc x d Γ => exact fun q C2 fld dd w σ' H' G hx c _ hd r => q C2 fld dd w H' G hx c.st hd r
    | rt s => exact fun q => (q : False).elim
    | bk Γ => exact fun q => (q : False).elim
    | ct Γ => exact fun q => (q : False).elim
    | stuck => exact fun q => (q : False).elim
end DL
namespace DL
open PySem L2 PySem.Spec PyProof.Rows GL
section
variable {X : Cx} {et : ET} {ce : Caught} {W : WX} {C : Addr} {mn : Str} {e o : Expr} {mo : MD} {M : List D → Res Slot}
theorem d_methF0 (ha : DE X et ce W o mo) (hp : ∀ t, PE X o t → PE X e (tMethW C mn (spD X.K et 1 M) W t tNil)) : DF X et ce W e (fMeth C mn M mo eNil) := by
  obtain ⟨t, p, ga⟩ := ha
  refine ⟨_, hp _ p, fun Hs H0s σ H H0 Γ Q cc q => ga _ _ _ _ _ _ _ cc (Post.next q fun d v H1 H01 _ s r q => ?_)⟩
  obtain ⟨hd, q⟩ := need_if (q.step back_F s)
  obtain ⟨ns, vs, rfl, hm⟩ := obj_of hd
  have r : Rep X.K H01 v (.obj C ns vs) := r
  have q : Post X.K et W (RF X.K) σ H1 H01 Q ((M [.obj C ns vs]).bind slotF) := q
  cases id r with
  | obj hat hk ra =>
    subst hk
    refine ⟨_, _, _, rfl, s.sub _ _ hat, no_fld hm, rfl, H01, _, s.sub, .cons r .nil, ?_⟩
    revert q
    cases M [.obj C _ vs] with
    | stuck => exact fun q => q
    | exc x d => exact fun q => q
    | ok sl =>
      intro q v' H' G st hv
      cases sl with
      | own xs =>
        obtain ⟨p, us, ev, hn', hp', h0, rr⟩ := hv
        exact q v' H' G st ⟨p, us, ev, hn', hp', h0, rr⟩
      | sh d => exact (q : False).elim
      | ownD ks xs => exact (q : False).elim
      | un => exact (q : False).elim
      | ownO _ _ _ _ => exact (q : False).elim
      | er x d => exact (q : False).elim
      | lk ks xs => exact (q : False).elim
theorem d_newP {n : Nat} {MI : Addr → List D → Res D} {es : List Expr} {mas : ML} (hp : ∀ t, PA X es t → PE X e (tMakeW C (spI X.K et C n MI) W t)) (ha : DAn X et ce W es n mas) : DE X et ce W e (eNew MI mas) := d_new ha hp
theorem d_methP {n : Nat} {es : List Expr} {mas : ML} (hp : ∀ t ta, PE X o t → PA X es ta → PE X e (tMethW C mn (spD X.K et (n + 1) M) W t ta)) (ha : DE X et ce W o mo) (hb : DAn X et ce W es n mas) : DE X et ce W e (eMeth C mn M mo mas) := d_meth ha hb hp
theorem d_methFP {n : Nat} {es : List Expr} {mas : ML} (hp : ∀ t ta, PE X o t → PA X es ta → PE X e (tMethW C mn (spD X.K et (n + 1) M) W t ta)) (ha : DE X et ce W o mo) (hb : DAn X et ce W es n mas) : DF X et ce W e (fMeth C mn M mo mas) := d_methF ha hb hp
theorem d_methF0P (hp : ∀ t, PE X o t → PE X e (tMethW C mn (spD X.K et 1 M) W t tNil)) (ha : DE X et ce W o mo) : DF X et ce W e (fMeth C mn M mo eNil) := d_methF0 ha hp
end
end DL
namespace DL
open PySem L2 PySem.Spec PyProof.Rows GL
set_option maxHeartbeats 1000000 in
theorem enum_new {v : Value} {o : Obj} {Hc : Heap → Prop} (B : Begins v o Hc) : Meets (Builtin.«enumerate.__new__» ⟨[.type "enumerate", v], []⟩) (fun _ R s => Hc s.heap ∧
    R (.ok (.ret (.ref (s.heap.push o).objs.size))) { s with heap := (s.heap.push o).push { cls := .type "enumerate", data := .fields #[.none, .bool false, .ref s.heap.objs.size, rawInt 0, .none, .none] } }) := by
  refine .of_wp fun prog w A R s hs => ?_
  obtain ⟨hp, gs, dr, tk, os⟩ := s
  obtain ⟨hc, hr⟩ := hs
  have hsub := sub_enumerate
  have iter : ∀ {A' : Around} {E : Value → Shared → Prop} {Q : Value → Shared → Prop}, Q (.ref hp.objs.size) ⟨hp.push o, gs, dr, tk, os⟩ → wpAny (model prog w) A' (pyIter v) Q E ⟨hp, gs, dr, tk, os⟩ := fun q => B.iter prog w _ _ ⟨hp, gs, dr, tk, os⟩ _ hc q
  wp_walk using iter
  refine wpAny_stack_any fun _ => wpAny_pure ?_
  split
  · rename_i c _ _ _ _ _
    cases (c == Value.type "enumerate") <;> (wp_walk using iter; exact ⟨_, rfl, hr⟩)
  · wp_walk using iter
    exact ⟨_, rfl, hr⟩
theorem enum_call {prog : Program} {w : World} {A : Around} {E : Value → Shared → Prop} {s : Shared} {t : Addr} {items : Array Value} {Q : Value → Shared → Prop} (ht : s.heap.IsTuple t items)
    (h : ∀ h', IsEnum h' (s.heap.objs.size + 1) s.heap.objs.size 0 .none → h'.IsTupleIter s.heap.objs.size t 0 → (∀ b o, s.heap.get? b = some o → h'.get? b = some o) → Q (.ref (s.heap.objs.size + 1)) { s with heap := h' }) :
    wpAny (model prog w) A (call (.type "enumerate") [.ref t]) Q E s := by
  refine callType_new F.called_enumerate (by decide) (F.typeCall_enumerate_1 _) (F.newCall_enumerate_1 _) (fun obj => F.args_object_init_2 obj _) F.entry_enumerate_new (enum_new (begins_tuple t items)) ⟨ht, ?_⟩
  have hz : (s.heap.push { cls := .type "tuple_iterator", data := .fields #[.ref t, .int 0 0] }).objs.size = s.heap.objs.size + 1 := Heap.size_push ..
  have he := Heap.get?_push_size (s.heap.push { cls := .type "tuple_iterator", data := .fields #[.ref t, .int 0 0] }) (o := { cls := .type "enumerate", data := .fields #[.none, .bool false, .ref s.heap.objs.size, rawInt 0, .none, .none] }) rfl
  show _ ∧ _
  rw [hz] at he ⊢
  exact ⟨⟨_, he, rfl⟩, h _ he ⟨_, Heap.get?_push_of_some _ (Heap.get?_push_size _ rfl), rfl, rfl⟩ fun b o x => Heap.get?_push_of_some _ (Heap.get?_push_of_some _ x)⟩
theorem enum_endT {prog : Program} {w : World} {A : Around} {E : Value → Shared → Prop} {s : Shared} {e it t : Addr} {i : Nat} {items : Array Value} {old : Value} {Q : Option Value → Shared → Prop} (hh : A.handled = none) (he : IsEnum s.heap e it i old) (hit : s.heap.IsTupleIter it t i) (ht : s.heap.IsTuple t items) (hx : items[i]? = none)
    (q : ∀ h', Heap.ExtBut it s.heap h' → Q none { s with heap := h' }) : wpAny (model prog w) A (pyNext (.ref e)) Q E s := by
  have ty : s.TypeIs (.ref e) "enumerate" := ⟨_, he, rfl⟩
  unfold pyNext
  have main : wpAny (model prog w) A.in1 (Builtin.«enumerate.__next__» ⟨[.ref e], []⟩) (fun fin s' => ∃ v, fin = .done (.ret v) ∧ False) (fun x s' => (∃ o a, x = .ref a ∧ s'.heap.get? a = some o ∧ o.cls = .type "StopIteration") ∧ ∃ h', Heap.ExtBut it s.heap h' ∧ s' = { s with heap := h' }) s := by
    show wpAny _ _ (field (.ref e) 2 >>= _) _ _ _
    exact wpAny_bind (wpAny_field he rfl (x := .ref it) rfl (wpAny_bind (wpAny_nextOf_tuple_end (A := A.in1) hh hit ht hx fun h' x k ⟨o, ho, hc⟩ => ⟨⟨o, x, rfl, ho, hc⟩, h', k, rfl⟩)))
  refine wpAny_bind (wpAny_attempt (wpAny_callSpecial?_slot (name := Str.ofString "__next__") ty F.slot_enumerate_next (wpAny_call_entry F.slot_enumerate_next ty F.entry_enumerate_next (wpAny_mono main (fun fin s' ⟨v, _, z⟩ => z.elim) ?_) (F.args_enumerate_next_1 _))))
  rintro x s' ⟨⟨o, a, rfl, ho, hc⟩, h', k, rfl⟩
  exact wpAny_bind (wpAny_isInstance (b := true) ⟨o, ho, hc⟩ isSubtype_stop (wpAny_pure (q h' k)))
/-- a tuple's items, each with its index, in new pairs -/
def Itet (K : PySem.W.Frag) (a : Addr) : It := ⟨fun i H => ∃ xs x, SqT K H a xs ∧ xs[i]? = some x,
  fun i H v H' => ∃ T x, v = .ref T ∧ H T = none ∧ H' = upd H T (.tup [.int (i : Nat), x]) ∧ ∀ xs, SqT K H a xs → xs[i]? = some x, fun i H => ∃ xs, SqT K H a xs ∧ xs.length ≤ i⟩
theorem turn_enumT {P : Program} {w : World} {K : PySem.W.Frag} {elts : List Expr} {kk : Nat} {tpos : Pos} (a e it : Addr) (hai : a ≠ it) (hae : a ≠ e) :
    Turn P w K (.Tuple elts kk tpos) (Itet K a) [e, it] e (fun i h => (∃ old, IsEnum h e it ((i : Nat) : Int) old) ∧ h.IsTupleIter it a i ∧ e ≠ it) where
  mem := by simp
  obj := by
    rintro i h ⟨⟨old, he⟩, ⟨o, ho, hc, hd⟩, _⟩ b hb
    rcases (show b = e ∨ b = it by simpa using hb) with rfl | rfl
    · exact ⟨_, he, fun v q => nomatch q⟩
    · exact ⟨o, ho, fun v q => by rw [hd] at q; cases q⟩
  keep := by
    rintro i h h' ⟨⟨old, he⟩, hi, hne⟩ k
    exact ⟨⟨old, k e (by simp) _ he⟩, hi.at fun o q => k it (by simp) o q, hne⟩
  item := by
    intro X hP hw hK hc i pins s σ H E I hf st hg
    subst hP hw hK
    obtain ⟨⟨old, he⟩, hit, hne⟩ := st
    obtain ⟨xs, x, hq, hx⟩ := hg
    obtain ⟨its, rv, p, hz⟩ := I.tuple hq
    obtain ⟨u, hu, ru⟩ := rv.get hx
    have hel : e < s.heap.objs.size := Heap.lt_size he
    have hil : it < s.heap.objs.size := by obtain ⟨_, q, _⟩ := hit; exact Heap.lt_size q
    have hlt : i < its.toArray.size := by
      have := (List.getElem?_eq_some_iff.mp hu).1
      simpa using this
    refine wpAny_pyNext_enum_itemD (Draws.tuple (prog := X.prog) (w := X.w) (A := X.A.in1) (I.ok.hd hc) it a hai its.toArray) he ⟨hit, p⟩ hlt hne (by simp [hne, Ne.symm hae]) fun y h' tk hy ho hst' hT hsz hk => ?_
    obtain ⟨hit', _⟩ := hst'
    have ey : y = u := by
      have hy' : its[i]? = some y := by simpa using hy
      rw [hu] at hy'; cases hy'; rfl
    subst ey
    refine ⟨_, rfl, wpAny_letOwnedTupleGo_enum (s := { s with heap := h', toks := tk + 1 }) ho fun h'' he' sb => ?_⟩
    have hT2 : h''.get? s.heap.objs.size = some { cls := .type "tuple", data := .seq #[.int i tk, y] } := (sb.2 _ (Nat.ne_of_gt hel)).trans hT
    have new : ObjOk X.prog X.w (upd H s.heap.objs.size (.tup [.int (i : Nat), x])) h'' s.heap.objs.size (.tup [.int (i : Nat), x]) := ⟨by show 2 ≤ sizeLine; decide, [.int i tk, y], .cons ⟨_, rfl⟩ (.cons ru .nil), ⟨_, hT2, rfl, _, rfl⟩⟩
    have I1 : Inv X pins σ (upd H s.heap.objs.size (.tup [.int (i : Nat), x])) { s with heap := h'', toks := tk + 1 } :=
      I.turnedNew (ch := [e, it]) (fun b ob hb q => (sb.2 b (fun z => hb (by simp [z]))).trans (hk b ob (fun z => hb (by simp [z])) (fun z => hb (by simp [z])) q)) hf (Nat.le_refl _) new
    have e1 : ((i + 1 : Nat) : Int) = (i : Int) + 1 := by omega
    refine ⟨.ref s.heap.objs.size, _, I1, rfl, ⟨_, x, rfl, I.hok.fresh (Nat.le_refl _), rfl, fun ys hy => by rw [I.tuple_inj hy hq]; exact hx⟩, ⟨⟨y, by rw [e1]; exact he'⟩, hit'.at fun o q => (sb.2 it (Ne.symm hne)).trans q, hne⟩, fun b hb => ?_⟩
    have hb' : b < s.heap.objs.size := by
      rcases (show b = e ∨ b = it by simpa using hb) with rfl | rfl
      · exact hel
      · exact hil
    rw [upd_ne (Nat.ne_of_lt hb')]
    exact (hf b hb).1
  done := by
    intro X hP hw hK hc i pins s σ H E I hf st hg
    subst hP hw hK
    obtain ⟨⟨old, he⟩, hit, hne⟩ := st
    obtain ⟨xs, hq, hx⟩ := hg
    obtain ⟨its, rv, p, hz⟩ := I.tuple hq
    obtain ⟨f0, f1, f2, f3, f4, f5⟩ := hf it (by simp)
    have hl := rv.length
    refine enum_endT (I.ok.hd hc) he hit p (by simp; omega) fun h' eb => ?_
    exact ⟨rfl, I.turned (t' := s.toks) (fun b o hb q => eb b o hb q) f0 f1 f3 f4 f5⟩
  self := by
    rintro A i s Q E ⟨⟨_, he⟩, _⟩ h
    exact wpAny_pyIter_enum he h
def iEnumT (K : PySem.W.Frag) (ta : TA) : TI := fun σ H R => ta σ H fun vs H1 => ∃ a xs, vs = [.ref a] ∧ SqT K H1 a xs ∧ R (Itet K a) H1
theorem pi_enumT {X : Cx} {e : Expr} {ta : TA} {p pos tpos : Pos} {elts : List Expr} {kk : Nat} (hg : Gl X "enumerate") (hm : X.mg "enumerate" = none) (ha : PA X [e] ta) (hs : starEach [e] X.env = [(false, eval e X.env)] := by rfl) :
    PI X (.Tuple elts kk tpos) (.Call (.Name "enumerate" p) [e] [] pos) (iEnumT X.K ta) := by
  constructor
  intro pins s σ H R I h
  refine Call_ (ld_blt I hg hm boot_enumerate (PyProof.Rows.callWith_type1 (thn (ha.run pos pins s σ H _ I h) ?_) hs rfl))
  rintro us s1 ⟨vs, H1, I1, r1, a, xs, rfl, hq, q⟩
  obtain rfl := Vals.ref1 r1
  obtain ⟨its, rv, p', hz⟩ := I1.tuple hq
  have hlt : a < s1.heap.objs.size := by obtain ⟨o, ho, _⟩ := p'; exact Heap.lt_size ho
  refine enum_call (show s1.heap.IsTuple a its.toArray from p') fun h' he hit hk => wpAny_pyIter_enum he ?_
  have I2 : Inv X pins σ H1 { s1 with heap := h' } := I1.kept (t' := s1.toks) hk
  refine ⟨s1.heap.objs.size + 1, [s1.heap.objs.size + 1, s1.heap.objs.size], _, _, H1, rfl, I2, turn_enumT a (s1.heap.objs.size + 1) s1.heap.objs.size (Nat.ne_of_lt hlt) (Nat.ne_of_lt (Nat.lt_succ_of_lt hlt)), ⟨⟨.none, he⟩, hit, Nat.succ_ne_self _⟩, fun b hb => ?_, q⟩
  have hle : s1.heap.objs.size ≤ b := by
    rcases (show b = s1.heap.objs.size + 1 ∨ b = s1.heap.objs.size by simpa using hb) with z | z
    · rw [z]; exact Nat.le_succ _
    · rw [z]; exact Nat.le_refl _
  exact I1.fpOk hle (I1.hok.fresh hle)
section
variable {K : PySem.W.Frag} {H0 : Hp}
theorem walks_enumT {a : Addr} {vs : List V} {ds : List D} (h : SqT K H0 a vs) (r : RepAll K H0 vs ds) : Walks K (Itet K a) H0 (enumD 0 ds) := by
  constructor
  · intro i H G hi s1 s2
    rw [enumD_len] at hi
    have hl := seqT_same s2 (seqT_same s1 h)
    obtain ⟨v, hv, rv⟩ := r.get (List.getElem?_eq_getElem hi)
    refine ⟨⟨vs, v, hl, hv⟩, ?_⟩
    rintro x H' ⟨T, y, rfl, hT, rfl, hy⟩
    have := hy vs hl
    rw [hv] at this
    cases this
    refine ⟨upd G T (.tup [.int (i : Nat), v]), _, enumD_get (List.getElem?_eq_getElem hi), Step.new s2 hT, ?_⟩
    rw [Nat.zero_add]
    exact .tup (SqT.of upd_same) (.cons (.int _) (.cons ((rv.same s1).same (same_upd (none_sub s2 hT))) .nil))
  · intro i H G hi s1 s2
    rw [enumD_len] at hi
    exact ⟨vs, seqT_same s2 (seqT_same s1 h), by rw [r.len]; exact hi⟩
end
section
variable {X : Cx} {et : ET} {ce : Caught} {W : WX} {e tg e' : Expr} {m : MD}
def iEnumrT (m : MD) : ML := fun Γ => (m Γ).bind fun d => (asT d).bind fun xs => .ok (enumD 0 xs)
@[simp] theorem iEnumrT_def (m : MD) (Γ : En) : iEnumrT m Γ = (m Γ).bind fun d => (asT d).bind fun xs => .ok (enumD 0 xs) := rfl
theorem di_enumT {elts : List Expr} {kk : Nat} {tpos p pos : Pos} (hg : Gl X "enumerate") (hm : X.mg "enumerate" = none) (h : DE X et ce W e m) (hs : starEach [e] X.env = [(false, eval e X.env)] := by rfl) (hs2 : starEach (e :: []) X.env = (false, eval e X.env) :: starEach [] X.env := by rfl) :
    DI X et ce W (.Tuple elts kk tpos) (.Call (.Name "enumerate" p) [e] [] pos) (iEnumrT m) := by
  obtain ⟨t, pe, g⟩ := h
  refine ⟨_, pi_enumT hg hm (pa_cons pe pa_nil hs2) hs, fun Hs H0s σ H H0 Γ Q c q => g _ _ _ _ _ _ _ c (Post.next q fun d v H1 G _ s r q => ?_)⟩
  cases d with
  | tup xs => cases r with | tup ha ra => exact ⟨_, _, rfl, seqT_same s.sub ha, q _ H1 G s (walks_enumT ha ra)⟩
  | _ => exact (q : False).elim
end
end DL
namespace DL
open PySem L2 PySem.Spec PyProof.Rows GL
def rMinLD (K : PySem.W.Frag) : List V → List V → Hp → VK → Prop := fun xs zs H Q => ∃ (a : Addr) (is : List Int) (z : V), xs = [.ref a] ∧ zs = [z] ∧ SqL K H a (is.map V.int) ∧ (is = [] → Q z H) ∧ (is ≠ [] → ∀ m, m ∈ is → (∀ j ∈ is, m ≤ j) → Q (.int m) H)
section
variable {X : Cx}
theorem cr_minLD (hc : X.calm = true) : CallRK X (.builtin "min") [Str.ofString "default"] (rMinLD X.K) := by
  intro pins s σ H xs zs us ws Q I r rz h
  obtain ⟨a, is, zv, rfl, rfl, ha, q0, q1⟩ := h
  obtain rfl := Vals.ref1 r
  obtain ⟨w1, rfl, e1⟩ := vals1 rz
  obtain ⟨its, rv, hl, _⟩ := I.list ha
  have hi := rv.ints
  have hlen : its.length = is.length := by rw [← rv.length, List.length_map]
  have hL : s.heap.IsList a its.toArray := hl.isList
  have hlt : a < s.heap.objs.size := by obtain ⟨o, ho, _⟩ := hL; exact Heap.lt_size ho
  have hval : ∀ (i : Nat) (v : Value), its.toArray[i]? = some v → ∃ t, v = Value.int (is.getD i 0) t := fun i v hv => by
    have hv' : its[i]? = some v := by simpa using hv
    have hb : i < is.length := by rw [← hlen]; exact (List.getElem?_eq_some_iff.mp hv').1
    obtain ⟨u, hu, ru⟩ := rv.get (i := i) (x := V.int is[i]) (by rw [List.getElem?_map, List.getElem?_eq_getElem hb]; rfl)
    rw [hv'] at hu
    cases hu
    obtain ⟨t, rfl⟩ := ru
    exact ⟨t, by rw [List.getD_eq_getElem?_getD, List.getElem?_eq_getElem hb]; rfl⟩
  refine call_min_walkD (wpAny_pyIter_list hL ?_)
  refine ⟨_, _, _, _, _, _, _, s.heap, fun i j => decide (is.getD i 0 < is.getD j 0), rfl, (Walks.list (prog := X.prog) (w := X.w) (A := X.A.in1) (I.ok.hd hc) s.heap.objs.size a (Nat.ne_of_lt hlt) its.toArray).toS,
    ⟨⟨_, Heap.get?_push_size _ rfl, rfl, rfl⟩, hL.at fun o e => Heap.get?_push_of_some _ e⟩, fun b hb => ?_, fun b o e hb => ?_, fun b o e => Heap.get?_push_of_some _ e, fun hn s' m => ?_, fun hn => ⟨fun i j vi vj s Q E _ hi hj h => CmpOf.ints_lt (fun i => is.getD i 0) hval i j vi vj s Q E hi hj h, fun v s' hP m => ?_⟩⟩
  · show b < (s.heap.push _).objs.size
    rw [Heap.size_push]
    rcases List.mem_cons.mp hb with e | hb
    · rw [e]; exact Nat.lt_succ_self _
    · rw [List.mem_singleton.mp hb]; exact Nat.lt_succ_of_lt hlt
  · exact absurd (Heap.lt_size e) ((List.mem_singleton.mp hb) ▸ Nat.lt_irrefl _)
  · obtain ⟨h', tk, rfl, keep⟩ := PySem.W.moved_old rfl rfl m
    have he : is = [] := List.length_eq_zero_iff.mp (by rw [← hlen]; simpa using hn)
    exact ⟨zv, H, I.kept (t' := tk) keep, e1, q0 he⟩
  · obtain ⟨h', tk, rfl, keep⟩ := PySem.W.moved_old rfl rfl m
    obtain ⟨t, rfl⟩ := hval _ v hP
    have hn' : 0 < is.length := by rw [← hlen]; simpa using hn
    obtain ⟨b1, b2⟩ := argBest_lt (fun i => is.getD i 0) (its.toArray.size - 1)
    have hz : its.toArray.size = is.length := by simpa using hlen
    have hne : is ≠ [] := fun z => by rw [z] at hn'; exact absurd hn' (by decide)
    refine ⟨.int _, H, I.kept (t' := tk) keep, ⟨t, rfl⟩, q1 hne _ ?_ fun j hj => ?_⟩
    · have hb : argBest (fun i j => decide (is.getD i 0 < is.getD j 0)) (its.toArray.size - 1) < is.length := by omega
      rw [List.getD_eq_getElem?_getD, List.getElem?_eq_getElem hb]
      exact List.getElem_mem hb
    · obtain ⟨i, hi, e⟩ := List.mem_iff_getElem.mp hj
      have e2 : is.getD i 0 = j := by rw [List.getD_eq_getElem?_getD, List.getElem?_eq_getElem hi, ← e]; rfl
      rw [← e2]
      exact b2 i (by omega)
end
/-- the ints of a list -/
def intsZ : List D → Option (List Int)
  | [] => some []
  | .int i :: r => (intsZ r).map (i :: ·)
  | _ => none
theorem intsZ_map : ∀ {ds : List D} {is : List Int}, intsZ ds = some is → ds = is.map .int
  | [], is, h => by cases h; rfl
  | .int i :: r, is, h => by
    unfold intsZ at h
    obtain ⟨js, hj, rfl⟩ := Option.map_eq_some_iff.mp h
    rw [intsZ_map hj]; rfl
theorem intsZ_of (is : List Int) : intsZ (is.map .int) = some is := by
  induction is with
  | nil => rfl
  | cons i r ih => show (intsZ (r.map D.int)).map (i :: ·) = _; rw [ih]; rfl
def minI : List Int → Int
  | [] => 0
  | [i] => i
  | i :: r => min i (minI r)
theorem minI_le : ∀ {is : List Int} {j : Int}, j ∈ is → minI is ≤ j
  | [i], j, h => by rw [List.mem_singleton.mp h]; exact Int.le_refl _
  | i :: k :: r, j, h => by
    show min i (minI (k :: r)) ≤ j
    rcases List.mem_cons.mp h with rfl | h
    · omega
    · have := minI_le h; omega
theorem minI_mem : ∀ {is : List Int}, is ≠ [] → minI is ∈ is
  | [i], _ => List.mem_singleton.mpr rfl
  | i :: k :: r, _ => by
    show min i (minI (k :: r)) ∈ _
    rcases Int.le_total i (minI (k :: r)) with h | h
    · rw [Int.min_eq_left h]; exact List.mem_cons_self
    · rw [Int.min_eq_right h]; exact List.mem_cons_of_mem _ (minI_mem (by simp))
theorem minI_eq {is : List Int} {m : Int} (h : m ∈ is) (hl : ∀ j ∈ is, m ≤ j) : m = minI is := by
  have h1 := minI_le h
  have h2 := hl _ (minI_mem (fun z => by rw [z] at h; cases h))
  omega
def minOf : Option (List Int) → D → Option Giv
  | some [], z => some (.val z)
  | some (i :: r), _ => some (.val (.int (minI (i :: r))))
  | none, _ => none
def gMinD : D → D → Option Giv
  | .lst xs, z => minOf (intsZ xs) z
  | _, _ => none
section
variable {X : Cx} {et : ET} {ce : Caught} {W : WX} {e a z : Expr} {ma mz : MD} {k1 : Str} {kp : Pos}
theorem d_minLD (hp : ∀ t tk, PA X [a] t → PK X [⟨some k1, z, kp⟩] tk → PE X e (tCKw (rMinLD X.K) t tk)) (ha : DO X et ce W a ma) (hz : DE X et ce W z mz) (hst : starEach [a] X.env = (false, eval a X.env) :: starEach [] X.env := by rfl) :
    DE X et ce W e (eOp gMinD ma mz) := by
  obtain ⟨t1, p1, g1⟩ := ha
  obtain ⟨t2, p2, g2⟩ := hz
  refine ⟨_, hp _ _ (pa_cons p1 pa_nil hst) (pk_cons p2 pk_nil), fun Hs H0s σ H H0 Γ Q cc q => g1 _ _ _ _ _ _ _ cc (Post.next q fun d v H1 H01 _ s r q => ?_)⟩
  refine g2 _ _ _ _ _ _ _ (cc.step s) (Post.next (q.step back_D s) fun y vy H2 H02 _ s2 ry q => ?_)
  have qq := asked (σ := σ) s2.sub (q.step back_D s2)
  clear q
  cases d with
  | lst xs =>
    obtain ⟨p, vs, rfl, hh, hr⟩ := r
    have ge : gMinD (.lst xs) y = minOf (intsZ xs) y := rfl
    rw [ge] at qq
    cases hi : intsZ xs with
    | none => rw [hi] at qq; exact qq.elim
    | some is =>
      rw [hi] at qq
      have ex := intsZ_map hi
      subst ex
      have ev := RepAll.ofInts hr
      subst ev
      refine ⟨p, is, vy, rfl, rfl, SqL.of (s2.big _ _ hh), fun z => ?_, fun hne m hm hl => ?_⟩
      · subst z
        exact qq _ ry
      · cases is with
        | nil => exact absurd rfl hne
        | cons i r => rw [minI_eq hm hl]; exact qq _ (.int _)
  | _ => exact (qq : False).elim
end
end DL
namespace DL
open PySem L2 PySem.Spec PyProof.Rows GL
/-- what is neither written by the walk nor the loop's own list stays -/
def Off (wr : List Addr) (S : Addr) (h h' : Heap) : Prop := ∀ b o, b ∉ wr → b ≠ S → h.get? b = some o → h'.get? b = some o
theorem Off.trans {wr : List Addr} {S : Addr} {h1 h2 h3 : Heap} (x : Off wr S h1 h2) (y : Off wr S h2 h3) : Off wr S h1 h3 := fun b o k1 k2 e => y b o k1 k2 (x b o k1 k2 e)
end DL
namespace DL
open PySem L2 PySem.Spec PyProof.Rows GL
def compT2 (mg : D → En → Option En) (mt : En → Res Bool) (mi1 : ML) (mg1 : D → En → Option En) (mt1 : En → Res Bool) (m : MD) (vs1 : List Nat) (Γ : En) : List D → Res (List D)
  | [] => .ok []
  | x :: r => match mg x Γ with
    | none => .stuck
    | some Γ1 => (noX (mt Γ1)).bind fun b => if b = true then (noX (mi1 (Γ1.map calm))).bind fun ys => (noX (compM mg1 mt1 m (wipeE (Γ1.map calm) vs1) ys)).bind fun a => (compT2 mg mt mi1 mg1 mt1 m vs1 Γ r).bind fun b => .ok (a ++ b) else compT2 mg mt mi1 mg1 mt1 m vs1 Γ r
def mCompT2 (vs vs1 : List Nat) (mi : ML) (mg : D → En → Option En) (mt : En → Res Bool) (mi1 : ML) (mg1 : D → En → Option En) (mt1 : En → Res Bool) (m : MD) (Γ : En) : Res (List D) :=
  (mi Γ).bind fun xs => (noX (compT2 mg mt mi1 mg1 mt1 m vs1 (wipeE Γ vs) xs)).bind fun out => need (out.length < 1000000) (.ok out)
section
variable {X : Cx} {et : ET} {ce : Caught} {W : WX} {e e1 el tg tg1 : Expr} {m : MD} {mi mi1 : ML} {mg mg1 : D → En → Option En} {mt mt1 : En → Res Bool} {vs vs1 : List Nat} {pos : Pos}
theorem good_compT2 {wi : TI} {g g1 : TG} (gi : Good X.K et ce W (RI X.K) wi mi) (hg : GoodG X.K et ce vs g mg) (hg1 : GoodG X.K et ce vs1 g1 mg1) :
    Good X.K et ce W (RF X.K) (tLc2 wi g (tEM X.K et ce W0 RB mt) (tEM X.K et ce W0 (RI X.K) mi1) g1 (tEM X.K et ce W0 RB mt1) (tEM X.K et ce W0 (RD X.K) m) vs vs1) (mCompT2 vs vs1 mi mg mt mi1 mg1 mt1 m) := by
  intro Hs H0s σ H H0 Γ Q c q
  refine gi _ _ _ _ _ _ _ c (Post.next q fun ds J H1 G1 _ s wk q => ?_)
  have wk : Walks X.K J G1 ds := wk
  intro L hL
  cases hc0 : noX (compT2 mg mt mi1 mg1 mt1 m vs1 (wipeE Γ vs) ds) with
  | exc x d => rw [hc0] at q; cases h : compT2 mg mt mi1 mg1 mt1 m vs1 (wipeE Γ vs) ds <;> rw [h] at hc0 <;> cases hc0
  | stuck => rw [hc0] at q; exact (q : False).elim
  | ok out =>
    rw [hc0] at q
    obtain ⟨hsz, q⟩ := need_if q
    have hc := noX_eq hc0
    have hL0 : G1 L = none := none_sub s.sub hL
    have c1 := c.step s
    have hsL : Hs L = none := none_sub c1.st.big hL
    refine ⟨fun i n H2 => i ≤ ds.length ∧ n = ds.length - i ∧ ∃ G acc accD rest, Step H1 G1 H2 G ∧ H2 L = some (.lst acc) ∧ G L = none ∧ RepAll X.K G acc accD ∧
      compT2 mg mt mi1 mg1 mt1 m vs1 (wipeE Γ vs) (ds.drop i) = .ok rest ∧ accD ++ rest = out,
      ⟨ds.length, Nat.zero_le _, rfl, G1, [], [], out, Step.own s.sub hL, upd_same, hL0, .nil, hc, rfl⟩, ?_⟩
    rintro i n H2 ⟨hi, rfl, G, acc, accD, rest, sg, hacc, hG, ra, hr, hout⟩
    by_cases hlt : i < ds.length
    · obtain ⟨go, yld⟩ := wk.go i H2 G hlt sg.small sg.sub
      refine .inr ⟨go, fun H3 => ∃ G acc accD rest, Step H1 G1 H3 G ∧ H3 L = some (.lst acc) ∧ G L = none ∧ RepAll X.K G acc accD ∧
        compT2 mg mt mi1 mg1 mt1 m vs1 (wipeE Γ vs) (ds.drop (i + 1)) = .ok rest ∧ accD ++ rest = out, fun H3 z => ⟨ds.length - (i + 1), by omega, hlt, rfl, z⟩, fun x H3 y => ?_⟩
      obtain ⟨G3, d, hd, s3, rx⟩ := yld x H3 y
      have he : ds.drop i = d :: ds.drop (i + 1) := by
        rw [List.drop_eq_getElem_cons hlt]
        congr 1
        rw [List.getElem?_eq_getElem hlt] at hd
        exact Option.some.inj hd
      rw [he] at hr
      unfold compT2 at hr
      split at hr
      · cases hr
      · rename_i Γ1 hm
        have cw : Stn X.K et ce Hs H0s (L2.wipe σ vs) H3 G3 (wipeE Γ vs) := ((c1.step sg).step s3).wipe vs
        refine hg.go _ _ _ _ _ _ _ _ _ _ cw rx hm fun σ3 o3 c3 => ⟨wipe_only o3, ?_⟩
        cases ht : noX (mt Γ1) with
        | exc x2 d2 => rw [ht] at hr; cases hr
        | stuck => rw [ht] at hr; cases hr
        | ok bb =>
        rw [ht] at hr
        refine ⟨Hs, H0s, G3, Γ1, c3, post_noX ht fun b' H4 G4 s4 eb => ?_⟩
        cases (show b' = bb from eb)
        have s34 := s3.trans s4
        cases bb with
        | false =>
          have hr : compT2 mg mt mi1 mg1 mt1 m vs1 (wipeE Γ vs) (ds.drop (i + 1)) = .ok rest := hr
          rw [if_neg (by decide)]
          exact ⟨G4, acc, accD, rest, sg.trans s34, s34.big _ _ hacc, s34.apart _ _ hacc hG, ra.same s34.small, hr, hout⟩
        | true =>
        refine iteT ?_
        have hr : ((noX (mi1 (Γ1.map calm))).bind fun ys => (noX (compM mg1 mt1 m (wipeE (Γ1.map calm) vs1) ys)).bind fun a => (compT2 mg mt mi1 mg1 mt1 m vs1 (wipeE Γ vs) (ds.drop (i + 1))).bind fun b => .ok (a ++ b)) = .ok rest := hr
        cases h1 : noX (mi1 (Γ1.map calm)) with
        | exc x2 d2 => rw [h1] at hr; cases hr
        | stuck => rw [h1] at hr; cases hr
        | ok ys =>
          rw [h1] at hr
          have c4 := (c3.step s4).calm
          refine ⟨Hs, H0s, G4, Γ1.map calm, c4, post_noX h1 fun J1 H5 G5 s5 wk1 => ?_⟩
          have wk1 : Walks X.K J1 G5 ys := wk1
          have hr : ((noX (compM mg1 mt1 m (wipeE (Γ1.map calm) vs1) ys)).bind fun a => (compT2 mg mt mi1 mg1 mt1 m vs1 (wipeE Γ vs) (ds.drop (i + 1))).bind fun b => .ok (a ++ b)) = .ok rest := hr
          cases h2 : noX (compM mg1 mt1 m (wipeE (Γ1.map calm) vs1) ys) with
          | exc x2 d2 => rw [h2] at hr; cases hr
          | stuck => rw [h2] at hr; cases hr
          | ok ins =>
            rw [h2] at hr
            have h2 := noX_eq h2
            have hr : ((compT2 mg mt mi1 mg1 mt1 m vs1 (wipeE Γ vs) (ds.drop (i + 1))).bind fun b => .ok (ins ++ b)) = .ok rest := hr
            cases h3 : compT2 mg mt mi1 mg1 mt1 m vs1 (wipeE Γ vs) (ds.drop (i + 1)) with
            | exc x2 d2 => rw [h3] at hr; cases hr
            | stuck => rw [h3] at hr; cases hr
            | ok rest2 =>
              rw [h3] at hr
              cases hr
              have s345 := s34.trans s5
              have hacc5 := s345.big _ _ hacc
              have hG5 := s345.apart _ _ hacc hG
              refine ⟨fun j k H6 => j ≤ ys.length ∧ k = ys.length - j ∧ ∃ G6 acc6 accD6 rs, Step H1 G1 H6 G6 ∧ Same G5 G6 ∧ Stn X.K et ce Hs H0s σ3 H6 G6 (Γ1.map calm) ∧ H6 L = some (.lst acc6) ∧ G6 L = none ∧ RepAll X.K G6 acc6 accD6 ∧
                compM mg1 mt1 m (wipeE (Γ1.map calm) vs1) (ys.drop j) = .ok rs ∧ accD6 ++ rs = accD ++ ins,
                ⟨ys.length, Nat.zero_le _, rfl, G5, acc, accD, ins, sg.trans s345, Same.refl _, c4.step s5, hacc5, hG5, ra.same s345.small, h2, rfl⟩, ?_⟩
              rintro j k H6 ⟨hj, rfl, G6, acc6, accD6, rs, sg6, s56, c6, hacc6, hG6, ra6, hr6, hout6⟩
              by_cases hlj : j < ys.length
              · obtain ⟨go1, yld1⟩ := wk1.go j H6 G6 hlj s56 c6.sub
                refine .inr ⟨go1, fun H7 => ∃ G6 acc6 accD6 rs, Step H1 G1 H7 G6 ∧ Same G5 G6 ∧ Stn X.K et ce Hs H0s σ3 H7 G6 (Γ1.map calm) ∧ H7 L = some (.lst acc6) ∧ G6 L = none ∧ RepAll X.K G6 acc6 accD6 ∧
                  compM mg1 mt1 m (wipeE (Γ1.map calm) vs1) (ys.drop (j + 1)) = .ok rs ∧ accD6 ++ rs = accD ++ ins, fun H7 z => ⟨ys.length - (j + 1), by omega, hlj, rfl, z⟩, fun x7 H7 y7 => ?_⟩
                obtain ⟨G7, d7, hd7, s7, rx7⟩ := yld1 x7 H7 y7
                have he7 : ys.drop j = d7 :: ys.drop (j + 1) := by
                  rw [List.drop_eq_getElem_cons hlj]
                  congr 1
                  rw [List.getElem?_eq_getElem hlj] at hd7
                  exact Option.some.inj hd7
                rw [he7] at hr6
                unfold compM at hr6
                split at hr6
                · cases hr6
                · rename_i Γ2 hm2
                  have cw2 := (c6.step s7).wipe vs1
                  refine hg1.go _ _ _ _ _ _ _ _ _ _ cw2 rx7 hm2 fun σ8 o8 c8 => ⟨wipe_only o8, ?_⟩
                  cases ht2 : noX (mt1 Γ2) with
                  | exc x2 d2 => rw [ht2] at hr6; cases hr6
                  | stuck => rw [ht2] at hr6; cases hr6
                  | ok b1 =>
                  rw [ht2] at hr6
                  refine ⟨Hs, H0s, G7, Γ2, c8, post_noX ht2 fun b8 H8 G8 s8 eb8 => ?_⟩
                  cases (show b8 = b1 from eb8)
                  cases b1 with
                  | false =>
                    have hr6 : compM mg1 mt1 m (wipeE (Γ1.map calm) vs1) (ys.drop (j + 1)) = .ok rs := hr6
                    rw [if_neg (by decide)]
                    have s78 := s7.trans s8
                    exact ⟨G8, acc6, accD6, rs, sg6.trans s78, Same.trans s56 s78.small, c6.step s78, s78.big _ _ hacc6, s78.apart _ _ hacc6 hG6, ra6.same s78.small, hr6, hout6⟩
                  | true =>
                  refine iteT ?_
                  have hr6 : ((noX (m Γ2)).bind fun d => (compM mg1 mt1 m (wipeE (Γ1.map calm) vs1) (ys.drop (j + 1))).bind fun ds => .ok (d :: ds)) = .ok rs := hr6
                  cases h4 : noX (m Γ2) with
                  | exc x2 d2 => rw [h4] at hr6; cases hr6
                  | stuck => rw [h4] at hr6; cases hr6
                  | ok dd =>
                    rw [h4] at hr6
                    have hr6 : ((compM mg1 mt1 m (wipeE (Γ1.map calm) vs1) (ys.drop (j + 1))).bind fun ds => .ok (dd :: ds)) = .ok rs := hr6
                    cases h5 : compM mg1 mt1 m (wipeE (Γ1.map calm) vs1) (ys.drop (j + 1)) with
                    | exc x2 d2 => rw [h5] at hr6; cases hr6
                    | stuck => rw [h5] at hr6; cases hr6
                    | ok rs2 =>
                      rw [h5] at hr6
                      cases hr6
                      refine ⟨Hs, H0s, G8, Γ2, c8.step s8, post_noX h4 fun v H9 G9 s9 rv => ?_⟩
                      have s79 := (s7.trans s8).trans s9
                      have hacc9 := s79.big _ _ hacc6
                      have hG9 := s79.apart _ _ hacc6 hG6
                      have al : acc6.length = accD6.length := ra6.len
                      have hsz2 : accD6.length < 1000000 := by
                        have l1 := congrArg List.length hout6
                        have l2 := congrArg List.length hout
                        simp only [List.length_append, List.length_cons] at l1 l2
                        omega
                      refine ⟨acc6, hacc9, by rw [sizeLine_eq]; omega, ?_⟩
                      have sg9 := sg6.trans s79
                      refine ⟨G9, acc6 ++ [v], accD6 ++ [dd], rs2, ⟨fun b o q => ?_, sg9.small, fun b o q => ?_, sg9.apart⟩, Same.trans s56 s79.small, (c6.step s79).relist hsL hG9, upd_same, hG9, (ra6.same s79.small).app (.cons rv .nil), rfl, by rw [← hout6]; simp⟩
                      · rw [upd_ne (fun z => by rw [z, hL] at q; cases q)]
                        exact sg9.big b o q
                      · rw [upd_ne (fun z => by rw [z, hG9] at q; cases q)]
                        exact sg9.sub b o q
              · have ej : j = ys.length := by omega
                subst ej
                rw [List.drop_length] at hr6
                cases hr6
                refine .inl ⟨wk1.stop _ H6 G6 (Nat.le_refl _) s56 c6.sub, ?_⟩
                rw [List.append_nil] at hout6
                exact ⟨G6, acc6, accD6, rest2, sg6, hacc6, hG6, ra6, rfl, by rw [hout6, ← hout]; simp⟩
    · have e : i = ds.length := by omega
      subst e
      rw [List.drop_length] at hr
      cases hr
      refine .inl ⟨wk.stop _ H2 G (Nat.le_refl _) sg.small sg.sub, ?_⟩
      rw [List.append_nil] at hout
      subst hout
      exact q _ H2 G (s.trans sg) ⟨L, acc, rfl, none_sub s.big hL, hacc, hG, ra⟩
theorem d_compT2 {g g1 : TG} (hp : ∀ wi, PI X tg e wi → PE X el (tLc2 wi g (tEM X.K et ce W0 RB mt) (tEM X.K et ce W0 (RI X.K) mi1) g1 (tEM X.K et ce W0 RB mt1) (tEM X.K et ce W0 (RD X.K) m) vs vs1)) (hi : DI X et ce W tg e mi) (hg : GoodG X.K et ce vs g mg) (hg1 : GoodG X.K et ce vs1 g1 mg1) :
    DF X et ce W el (mCompT2 vs vs1 mi mg mt mi1 mg1 mt1 m) := by
  obtain ⟨t, p, gi⟩ := hi
  exact ⟨_, hp t p, good_compT2 gi hg hg1⟩
end
end DL
namespace DL
open PySem L2 PySem.Spec PyProof.Rows GL
end DL
namespace DL
open PySem L2 PySem.Spec PyProof.Rows GL
section
variable {X : Cx} {et : ET} {ce : Caught} {W : WX} {es : List Expr} {st : Stmt}
def mPar3 (i j l : Nat) (ms : En → Res (List D)) (Γ : En) : Out := mTo (ms Γ) Γ fun ds => match ds with
  | [x, y, z] => .nx (((Γ.set i (.sh x)).set j (.sh y)).set l (.sh z))
  | _ => .stuck
end
@[simp] theorem par3_eq (i j l : Nat) (x y z : MD) (Γ : En) : mPar3 i j l (eCons x (eCons y (eCons z eNil))) Γ = mTo (x Γ) Γ fun a => mTo (y Γ) Γ fun b => mTo (z Γ) Γ fun c => .nx (((Γ.set i (.sh a)).set j (.sh b)).set l (.sh c)) := by
  unfold mPar3 eCons eNil
  cases x Γ with
  | ok a =>
    cases y Γ with
    | ok b => cases z Γ <;> rfl
    | _ => rfl
  | _ => rfl
end DL
namespace L2
open PySem PySem.Spec PyProof.Rows
end L2
namespace DL
open PySem L2 PySem.Spec PyProof.Rows GL
end DL
namespace DL
open PySem L2 PySem.Spec PyProof.Rows GL
section
variable {X : Cx} {et : ET} {ce : Caught} {W : WX} {st : Stmt} {e tg : Expr} {mt : En → Res Bool} {m : MD} {mi : ML} {g : TG} {mg : D → En → Option En} {vs : List Nat}
def bBor (i : Nat) (t : En → Res Bool) : En → Res Bool := fun Γ => noX (t (frz i Γ))
end
@[simp] theorem bBor_def (i : Nat) (t : En → Res Bool) (Γ : En) : bBor i t Γ = noX (t (frz i Γ)) := rfl
end DL
namespace DL
open PySem L2 PySem.Spec PyProof.Rows GL
section
variable {X : Cx} {et : ET} {ce : Caught} {W : WX} {e : Expr} {m : MD} {pos p2 : Pos}
def gSlT (lo hi : Option Int) : D → Option Giv
  | .tup xs => if HT.sIx xs.length 0 lo = 0 ∧ HT.sIx xs.length xs.length hi = xs.length then some (.val (.tup xs)) else some (.newT (cutL xs lo hi))
  | _ => none
theorem x_slT : SlR X (fun x lo hi H Q => r1D X.K (gSlT lo hi) x H Q) := slr_imp sl_tupA fun x lo hi H Q q => by
  obtain ⟨H0, d, sub, rd, q⟩ := q
  cases d with
  | tup xs =>
    cases rd with
    | tup ha ra =>
      refine ⟨_, _, rfl, seqT_same sub ha, fun hw => ?_, fun hw p n => ?_⟩
      · rw [ra.len] at hw
        have q : Asked X.K H H0 Q (if HT.sIx xs.length 0 lo = 0 ∧ HT.sIx xs.length xs.length hi = xs.length then some (.val (.tup xs)) else some (.newT (cutL xs lo hi))) := q
        rw [if_pos hw] at q
        exact q _ (.tup ha ra)
      · rw [ra.len] at hw
        have q : Asked X.K H H0 Q (if HT.sIx xs.length 0 lo = 0 ∧ HT.sIx xs.length xs.length hi = xs.length then some (.val (.tup xs)) else some (.newT (cutL xs lo hi))) := q
        rw [if_neg hw] at q
        exact q p _ n (rep_cut ra lo hi)
  | _ => exact q.elim
def eSlT (a : MD) (l h : En → Res (Option Int)) : MD := fun Γ => (a Γ).bind fun x => (l Γ).bind fun lo => (h Γ).bind fun hi => toR (gSlT lo hi x)
theorem d_slT {lo hi : Option Expr} {ml mh : En → Res (Option Int)} (h : DO X et ce W e m) (hl : DP X et ce W lo ml) (hh : DP X et ce W hi mh) :
    DE X et ce W (.Subscript e (.Slice lo hi none p2) pos) (eSlT m ml mh) := by
  obtain ⟨t, p, ga⟩ := h
  obtain ⟨tl, pl, gl⟩ := hl
  obtain ⟨th, ph, gh⟩ := hh
  refine ⟨_, pe_slice x_slT p pl ph, ?_⟩
  intro Hs H0s σ H H0 Γ Q c q
  refine ga _ _ _ _ _ _ _ c (Post.next q fun d v H1 G1 _ s r q => gl _ _ _ _ _ _ _ (c.step s) (Post.next (q.step back_D s) fun lo lo' H2 G2 _ s2 e2 q => ?_))
  subst e2
  refine gh _ _ _ _ _ _ _ ((c.step s).step s2) (Post.next (q.step back_D s2) fun hi hi' H3 G3 _ s3 e3 q => ?_)
  subst e3
  exact ⟨G3, d, s3.sub, (r.same s2).same s3, asked (σ := σ) s3.sub (q.step back_D s3)⟩
end
@[simp] theorem eSlT_def (a : MD) (l h : En → Res (Option Int)) (Γ : En) : eSlT a l h Γ = (a Γ).bind fun x => (l Γ).bind fun lo => (h Γ).bind fun hi => toR (gSlT lo hi x) := rfl
end DL
namespace DL
open PySem L2 PySem.Spec PyProof.Rows GL
end DL
namespace DL
open PySem L2 PySem.Spec PyProof.Rows GL
def kD' : Key → D
  | .inl i => .int i
  | .inr x => .str x
section
variable {X : Cx} {et : ET} {ce : Caught} {W : WX} {e a b tg i o : Expr} {m mi mo : MD} {pos : Pos}
/-- a key's place in a dict -/
def bInD (mk md : MD) : En → Res Bool := fun Γ => (mk Γ).bind fun k => (md Γ).bind fun d => match d with
  | .dic ks xs => match keyD k with
    | some j => .ok (dVal ks xs j).isSome
    | none => .stuck
  | _ => .stuck
def strL : D → Res (List D)
  | .str z => .ok (z.cps.toList.map fun c => D.str ⟨#[c]⟩)
  | _ => .stuck
def iStrr (m : MD) : ML := fun Γ => (m Γ).bind strL
end
@[simp] theorem iStrr_def (m : MD) (Γ : En) : iStrr m Γ = (m Γ).bind strL := rfl
@[simp] theorem bInD_def (mk md : MD) (Γ : En) : bInD mk md Γ = (mk Γ).bind fun k => (md Γ).bind fun d => match d with
  | .dic ks xs => match keyD k with
    | some j => .ok (dVal ks xs j).isSome
    | none => .stuck
  | _ => .stuck := rfl
end DL
namespace DL
open PySem L2 PySem.Spec PyProof.Rows GL
def eSIdx (z : Str) (m : MD) : MD := fun Γ => (m Γ).bind fun d => match d with
  | .str y => (match Builtin.Str.occurrences z y 0 z.length 1 with
    | i :: _ => .ok (.int ((i : Nat) : Int))
    | [] => .stuck)
  | _ => .stuck
@[simp] theorem eSIdx_def (z : Str) (m : MD) (Γ : En) : eSIdx z m Γ = (m Γ).bind fun d => match d with
  | .str y => (match Builtin.Str.occurrences z y 0 z.length 1 with
    | i :: _ => .ok (.int ((i : Nat) : Int))
    | [] => .stuck)
  | _ => .stuck := rfl
end DL
namespace DL
open PySem L2 PySem.Spec PyProof.Rows GL
section
variable {X : Cx} {et : ET} {ce : Caught} {W : WX} {e tg e' : Expr} {m : MD}
def iEnumrS (m : MD) : ML := fun Γ => (m Γ).bind fun d => (strL d).bind fun xs => .ok (enumD 0 xs)
@[simp] theorem iEnumrS_def (m : MD) (Γ : En) : iEnumrS m Γ = (m Γ).bind fun d => (strL d).bind fun xs => .ok (enumD 0 xs) := rfl
end
end DL
namespace DL
open PySem L2 PySem.Spec PyProof.Rows GL
end DL
namespace DL
open PySem L2 PySem.Spec PyProof.Rows GL
end DL
namespace DL
open PySem L2 PySem.Spec PyProof.Rows GL
section
variable {X : Cx} {et : ET} {ce : Caught} {W : WX} {e a b : Expr} {ma mb : MD}
def eDGet1 (md mk : MD) : MD := fun Γ => (md Γ).bind fun d => match d with
  | .dic ks xs => (mk Γ).bind fun k => match keyD k with
    | some j => .ok ((dVal ks xs j).getD .non)
    | none => .stuck
  | _ => .stuck
end
@[simp] theorem eDGet1_def (md mk : MD) (Γ : En) : eDGet1 md mk Γ = (md Γ).bind fun d => match d with
  | .dic ks xs => (mk Γ).bind fun k => match keyD k with
    | some j => .ok ((dVal ks xs j).getD .non)
    | none => .stuck
  | _ => .stuck := rfl
end DL
namespace DL
open PySem L2 PySem.Spec PyProof.Rows GL
mutual
/-- no dict within -/
def nodic : D → Bool
  | .tup xs => nodicL xs
  | .lst xs => nodicL xs
  | .dic _ _ => false
  | .obj _ _ xs => nodicL xs
  | _ => true
def nodicL : List D → Bool
  | [] => true
  | x :: r => nodic x && nodicL r
end
theorem nodicL_all : ∀ xs : List D, nodicL xs = xs.all nodic
  | [] => rfl
  | x :: r => by unfold nodicL; rw [nodicL_all r]; rfl
/-- the heap without a -/
def minus (H : Hp) (a : Addr) : Hp := fun b => if b = a then none else H b
theorem minus_ne {H : Hp} {a b : Addr} (h : b ≠ a) : minus H a b = H b := if_neg h
theorem minus_same {H : Hp} {a : Addr} : minus H a a = none := if_pos rfl
theorem minus_some {H : Hp} {a b : Addr} {o : HO} (h : minus H a b = some o) : b ≠ a ∧ H b = some o := by
  by_cases e : b = a
  · subst e; rw [minus_same] at h; cases h
  · exact ⟨e, by rw [minus_ne e] at h; exact h⟩
section
variable {K : PySem.W.Frag} {H : Hp} {a : Addr} {kvs : List (Key × V)}
theorem Rep.minus (ha : H a = some (.dK kvs)) {v : V} {d : D} (h : Rep K H v d) : nodic d = true → Rep K (minus H a) v d := by
  have ne : ∀ {b : Addr} {u : HO}, H b = some u → (∀ k, u ≠ .dK k) → b ≠ a := fun {b u} e n z => by
    subst z
    rw [ha] at e
    cases e
    exact n _ rfl
  induction h using Rep.rec (motive_2 := fun vs ds _ => nodicL ds = true → RepAll K (DL.minus H a) vs ds) with
  | non => exact fun _ => .non
  | bl b => exact fun _ => .bl b
  | int i => exact fun _ => .int i
  | str x => exact fun _ => .str x
  | tup h _ ih =>
    intro n
    refine .tup ?_ (ih (by unfold nodic at n; exact n))
    rcases h with (h | ⟨o, h⟩) | h
    · exact .inl (.inl (by rw [minus_ne (ne h (fun k z => by cases z))]; exact h))
    · exact .inl (.inr ⟨o, by rw [minus_ne (ne h (fun k z => by cases z))]; exact h⟩)
    · exact .inr h
  | lst h _ ih =>
    intro n
    exact .lst (by rw [minus_ne (ne h (fun k z => by cases z))]; exact h) (ih (by unfold nodic at n; exact n))
  | scr h =>
    intro _
    refine .scr ?_
    rcases h with (h | ⟨o, h⟩) | h
    · exact .inl (.inl (by rw [minus_ne (ne h (fun k z => by cases z))]; exact h))
    · exact .inl (.inr ⟨o, by rw [minus_ne (ne h (fun k z => by cases z))]; exact h⟩)
    · exact .inr h
  | dic h k _ ih => intro n; unfold nodic at n; cases n
  | obj h k _ ih =>
    intro n
    exact .obj (by rw [minus_ne (ne h (fun k z => by cases z))]; exact h) k (ih (by unfold nodic at n; exact n))
  | nil => exact RepAll.nil
  | cons _ _ h1 h2 =>
    rename_i n
    unfold nodicL at n
    rw [Bool.and_eq_true] at n
    exact RepAll.cons (h1 n.1) (h2 n.2)
theorem RepAll.minus (ha : H a = some (.dK kvs)) : ∀ {vs : List V} {ds : List D}, RepAll K H vs ds → nodicL ds = true → RepAll K (DL.minus H a) vs ds
  | _, _, .nil, _ => .nil
  | _, _, .cons h t, n => by
    unfold nodicL at n
    rw [Bool.and_eq_true] at n
    exact .cons (h.minus ha n.1) (RepAll.minus ha t n.2)
end
/-- a slot where a dict is locked -/
def lkS : Slot → Slot
  | .sh d => if nodic d then .sh d else .un
  | .own xs => if nodicL xs then .own xs else .un
  | .ownD ks xs => if nodicL xs then .ownD ks xs else .un
  | .ownO p C ns xs => if nodicL xs then .ownO p C ns xs else .un
  | _ => .un
def unS : Slot → Slot
  | .lk ks xs => .sh (.dic ks xs)
  | s => s
def lkE (i : Nat) (ks : List Key) (xs : List D) (Γ : En) : En := (Γ.map lkS).set i (.lk ks xs)
section
variable {K : PySem.W.Frag} {et : ET} {ce : Caught} {Hs H0s H H0 H1 G1 : Hp} {σ σ1 : L2.St} {Γ Γ1 : En} {a : Addr} {kvs : List (Key × V)} {i : Nat} {ks : List Key} {xs : List D} {od : Obj}
theorem lkS_alone {s : Slot} (h : (lkS s).alone = true) : s.alone = true := by
  cases s with
  | sh d =>
    by_cases n : nodic d = true
    · rw [show lkS (.sh d) = .sh d from if_pos n] at h; cases h
    · rw [show lkS (.sh d) = .un from if_neg n] at h; cases h
  | un => cases h
  | er x d => cases h
  | lk k x => cases h
  | own _ => rfl
  | ownD _ _ => rfl
  | ownO _ _ _ _ => rfl
theorem Stn.lock (c : Stn K et ce Hs H0s σ H H0 Γ) (ha : H0 a = some (.dK kvs)) (hv : σ[i]? = some (some (.ref a))) (hi : i < Γ.length) (hk : kvs.map (·.1) = ks) (hr : RepAll K H0 (kvs.map (·.2)) xs) (hn : nodicL xs = true) :
    Stn K et (some (a, .none, none)) (upd Hs a (.frz od (.dK kvs))) (minus H0s a) σ (upd H a (.frz od (.dK kvs))) (minus H0 a) (lkE i ks xs Γ) := by
  have hH : H a = some (.dK kvs) := c.sub _ _ ha
  have of : ∀ {j : Nat} {s : Slot}, i ≠ j → (lkE i ks xs Γ)[j]? = some s → ∃ s0, Γ[j]? = some s0 ∧ s = lkS s0 := fun {j s} n e => by
    unfold lkE at e
    rw [List.getElem?_set_ne n, List.getElem?_map] at e
    obtain ⟨s0, h1, h2⟩ := Option.map_eq_some_iff.mp e
    exact ⟨s0, h1, h2.symm⟩
  have at_i : ∀ {s : Slot}, (lkE i ks xs Γ)[i]? = some s → s = .lk ks xs := fun {s} e => by
    unfold lkE at e
    rw [List.getElem?_set_self (by simpa using hi)] at e
    cases e; rfl
  refine ⟨fun b u e => ?_, ⟨same_both c.st.big, fun b u e => ?_, fun b u e => ?_, fun b o e n => ?_⟩, by unfold lkE; simpa using c.len, fun j s e => ?_, fun j k s t p ej ek aj ak hj hk => ?_⟩
  · obtain ⟨n, e⟩ := minus_some e
    rw [upd_ne n]; exact c.z b u e
  · obtain ⟨n, e⟩ := minus_some e
    rw [minus_ne n]; exact c.st.small b u e
  · obtain ⟨n, e⟩ := minus_some e
    rw [upd_ne n]; exact c.sub b u e
  · by_cases z : b = a
    · subst z; exact minus_same
    · rw [upd_ne z] at e
      rw [minus_ne z] at n ⊢
      exact c.st.apart b o e n
  · by_cases n : i = j
    · subst n
      rw [at_i e, hv]
      exact ⟨a, od, kvs, rfl, rfl, upd_same, minus_same, hk, hr.minus ha hn⟩
    · obtain ⟨s0, e0, rfl⟩ := of n e
      have z := c.at_ j s0 e0
      have ne : ∀ {q : Addr} {u : HO}, H q = some u → (∀ k, u ≠ .dK k) → q ≠ a := fun {q u} e n z => by
        subst z; rw [hH] at e; cases e; exact n _ rfl
      have neO : ∀ {q : Addr}, H0 q = none → q ≠ a := fun {q} e z => by subst z; rw [ha] at e; cases e
      cases s0 with
      | un => cases σ[j]? <;> trivial
      | er x d => cases σ[j]? <;> trivial
      | lk k x => cases σ[j]? <;> trivial
      | sh d =>
        show Holds _ _ _ _ _ _ _ (if nodic d then .sh d else .un)
        split
        · rename_i nd
          match hw : σ[j]?, z with
          | some (some w), z => exact Rep.minus ha z nd
        · cases σ[j]? <;> trivial
      | own ys =>
        show Holds _ _ _ _ _ _ _ (if nodicL ys then .own ys else .un)
        split
        · rename_i nd
          match hw : σ[j]?, z with
          | some (some w), ⟨q, vs, ew, hsq, hq, h0q, r⟩ => exact ⟨q, vs, ew, by rw [upd_ne (neO h0q)]; exact hsq, by rw [upd_ne (neO h0q)]; exact hq, by rw [minus_ne (neO h0q)]; exact h0q, r.minus ha nd⟩
        · cases σ[j]? <;> trivial
      | ownD ks' ys =>
        show Holds _ _ _ _ _ _ _ (if nodicL ys then .ownD ks' ys else .un)
        split
        · rename_i nd
          match hw : σ[j]?, z with
          | some (some w), ⟨q, vs, ew, hsq, hq, h0q, k, r⟩ => exact ⟨q, vs, ew, by rw [upd_ne (neO h0q)]; exact hsq, by rw [upd_ne (neO h0q)]; exact hq, by rw [minus_ne (neO h0q)]; exact h0q, k, r.minus ha nd⟩
        · cases σ[j]? <;> trivial
      | ownO q C ns ys =>
        show Holds _ _ _ _ _ _ _ (if nodicL ys then .ownO q C ns ys else .un)
        split
        · rename_i nd
          match hw : σ[j]?, z with
          | some (some w), ⟨ew, dx, fs, hsq, hq, h0q, k, r⟩ => exact ⟨ew, dx, fs, by rw [upd_ne (neO h0q)]; exact hsq, by rw [upd_ne (neO h0q)]; exact hq, by rw [minus_ne (neO h0q)]; exact h0q, k, r.minus ha nd⟩
        · cases σ[j]? <;> trivial
  · have nj : i ≠ j := fun z => by subst z; rw [at_i ej] at aj; cases aj
    have nk : i ≠ k := fun z => by subst z; rw [at_i ek] at ak; cases ak
    obtain ⟨s0, e0, rfl⟩ := of nj ej
    obtain ⟨t0, f0, rfl⟩ := of nk ek
    exact c.one j k s0 t0 p e0 f0 (lkS_alone aj) (lkS_alone ak) hj hk
theorem Stn.unlock (c : Stn K et ce Hs H0s σ H H0 Γ) (ha : H0 a = some (.dK kvs)) (c1 : Stn K et (some (a, .none, none)) (upd Hs a (.frz od (.dK kvs))) (minus H0s a) σ1 H1 G1 Γ1) (g : Same (minus H0 a) G1) :
    H1 a = some (.frz od (.dK kvs)) ∧ Stn K et ce Hs H0s σ1 (upd H1 a (.dK kvs)) (upd G1 a (.dK kvs)) (Γ1.map unS) ∧ Same H0 (upd G1 a (.dK kvs)) := by
  have hH : H a = some (.dK kvs) := c.sub _ _ ha
  have h1 : H1 a = some (.frz od (.dK kvs)) := c1.st.big _ _ upd_same
  have g1 : G1 a = none := c1.st.apart a _ upd_same minus_same
  have up : Same G1 (upd G1 a (.dK kvs)) := same_upd' (Same.refl _) g1
  have of : ∀ {j : Nat} {s : Slot}, (Γ1.map unS)[j]? = some s → ∃ s0, Γ1[j]? = some s0 ∧ s = unS s0 := fun {j s} e => by
    rw [List.getElem?_map] at e
    obtain ⟨s0, h1, h2⟩ := Option.map_eq_some_iff.mp e
    exact ⟨s0, h1, h2.symm⟩
  have al : ∀ {s : Slot}, (unS s).alone = true → s.alone = true := fun {s} h => by cases s <;> first | exact h | cases h
  refine ⟨h1, ⟨c.z, ⟨fun b u e => ?_, fun b u e => ?_, same_both c1.sub, fun b o e n => ?_⟩, by simpa using c1.len, fun j s e => ?_, fun j k s t p ej ek aj ak hj hk => ?_⟩, fun b u e => ?_⟩
  · by_cases z : b = a
    · subst z
      have := c.st.big _ _ e
      rw [hH] at this
      cases this
      exact upd_same
    · rw [upd_ne z]
      exact c1.st.big b u (by rw [upd_ne z]; exact e)
  · by_cases z : b = a
    · subst z
      have := c.st.small _ _ e
      rw [ha] at this
      cases this
      exact upd_same
    · rw [upd_ne z]
      exact c1.st.small b u (by rw [minus_ne z]; exact e)
  · by_cases z : b = a
    · subst z
      have := c.st.apart _ _ e n
      rw [ha] at this
      cases this
    · rw [upd_ne z]
      exact c1.st.apart b o (by rw [upd_ne z]; exact e) (by rw [minus_ne z]; exact n)
  · obtain ⟨s0, e0, rfl⟩ := of e
    have z := c1.at_ j s0 e0
    have ne : ∀ {q : Addr} {u : HO}, H1 q = some u → (∀ o k, u ≠ .frz o k) → q ≠ a := fun {q u} e n z => by
      subst z; rw [h1] at e; cases e; exact n _ _ rfl
    cases s0 with
    | un => cases σ1[j]? <;> trivial
    | er x d =>
      match hw : σ1[j]?, z with
      | some (some w), ⟨_, _, _, _, _, h, _⟩ => cases h
    | sh d =>
      match hw : σ1[j]?, z with
      | some (some w), z => exact Rep.same up z
    | own ys =>
      match hw : σ1[j]?, z with
      | some (some w), ⟨q, vs, ew, hsq, hq, h0q, r⟩ =>
        have n := ne hq (fun _ _ z => by cases z)
        exact ⟨q, vs, ew, by rw [upd_ne n] at hsq; exact hsq, by rw [upd_ne n]; exact hq, by rw [upd_ne n]; exact h0q, r.same up⟩
    | ownD ks' ys =>
      match hw : σ1[j]?, z with
      | some (some w), ⟨q, vs, ew, hsq, hq, h0q, k, r⟩ =>
        have n := ne hq (fun _ _ z => by cases z)
        exact ⟨q, vs, ew, by rw [upd_ne n] at hsq; exact hsq, by rw [upd_ne n]; exact hq, by rw [upd_ne n]; exact h0q, k, r.same up⟩
    | ownO q C ns ys =>
      match hw : σ1[j]?, z with
      | some (some w), ⟨ew, dx, fs, hsq, hq, h0q, k, r⟩ =>
        have n := ne hq (fun _ _ z => by cases z)
        exact ⟨ew, dx, fs, by rw [upd_ne n] at hsq; exact hsq, by rw [upd_ne n]; exact hq, by rw [upd_ne n]; exact h0q, k, r.same up⟩
    | lk ks' ys =>
      match hw : σ1[j]?, z with
      | some (some w), ⟨q, od', kvs', eq, ew, hq, h0q, k, r⟩ =>
        cases eq
        rw [h1] at hq
        cases hq
        subst ew
        exact .dic upd_same k (r.same up)
  · obtain ⟨s0, e0, rfl⟩ := of ej
    obtain ⟨t0, f0, rfl⟩ := of ek
    exact c1.one j k s0 t0 p e0 f0 (al aj) (al ak) hj hk
  · by_cases z : b = a
    · subst z; rw [ha] at e; cases e; exact upd_same
    · rw [upd_ne z]; exact g b u (by rw [minus_ne z]; exact e)
end
/-- for .. in d, d a name that holds shared data; the body goes to its end -/
def mForD (i : Nat) (mg : D → En → Option En) (ms : En → Out) (Γ : En) : Out := match Γ[i]? with
  | some (.sh (.dic ks xs)) => if nodicL xs = true then (match forM mg ms (ks.map kD') (lkE i ks xs Γ) with
    | .nx Γ1 => .nx (Γ1.map unS)
    | _ => .stuck) else .stuck
  | _ => .stuck
def tEx {A : Type} (t : A → TS) : TS := fun D σ H => ∃ a, t a D σ H
section
variable {X : Cx} {et : ET} {ce : Caught} {W : WX} {e a b tg : Expr} {vs : List Nat} {mg : D → En → Option En} {ms : En → Out} {pos : Pos} {mb : MD}
theorem pss_ex {A : Type} {t : A → TS} {body : List Stmt} (h : ∀ a, PSs X body (t a)) : PSs X body (tEx t) := ⟨fun pins s σ H D I ⟨a, q⟩ => (h a).run pins s σ H D I q⟩
theorem rep_kD {K : PySem.W.Frag} {H : Hp} (k : Key) : Rep K H (kV k) (kD' k) := by
  cases k with
  | inl i => exact .int i
  | inr x => exact .str x
theorem ds_forD {i : Nat} {body : List Stmt} {g : TG} (hp : PassesOwn (model X.prog X.w) X.A X.env X.xe) (hc : X.calm = true) (he : PE X e (tVar i)) (pg : PG X tg g) (hg : ∀ ce, GoodG X.K et ce vs g mg) (hb : ∀ p, DSs X et (some (p, .none, none)) W body ms)
    (hs : ∀ x, foldedSetIterable e X.env x = pure x := by intro _; rfl) : DS X et ce W (.For tg e body [] pos) (mForD i mg ms) := by
  obtain ⟨tb, htb⟩ : ∃ tb : Addr → TS, ∀ p, PSs X body (tb p) ∧ GoodS X.K et (some (p, .none, none)) W (tb p) ms := Classical.axiomOfChoice fun p => (hb p).ex
  refine ⟨_, ps_lock (ps_for hp hc (pi_keys he) pg (pss_ex fun p => (htb p).1) hs), fun Hs H0s σ H H0 Γ E c q => ?_⟩
  unfold mForD at q
  split at q
  · rename_i ks xs eΓ
    split at q
    · rename_i hn
      have zz := c.at_ i _ eΓ
      match hv : σ[i]?, zz with
      | some (some v), zz =>
        have zz : Rep X.K H0 v (.dic ks xs) := zz
        cases zz with
        | dic hd0 hk0 hr =>
          rename_i p kvs
          split at q
          · rename_i ΓF eF
            refine ⟨p, _, c.sub _ _ hd0, trivial, fun od => ?_⟩
            refine ⟨.ref p, hv, p, od, rfl, .inl ⟨kvs, upd_same, ?_⟩⟩
            have hlen : (ks.map kD').length = kvs.length := by rw [← hk0, List.length_map, List.length_map]
            have c0 := Stn.lock (od := od) c hd0 hv (by
              have := (List.getElem?_eq_some_iff.mp eΓ).1
              exact this) hk0 hr hn
            have fin : ∀ {σ1 : L2.St} {H1 G : Hp}, Stn X.K et (some (p, .none, none)) (upd Hs p (.frz od (.dK kvs))) (minus H0s p) σ1 H1 G ΓF → Same (minus H0 p) G → H1 p = some (.frz od (.dK kvs)) ∧ E.nx σ1 (upd H1 p (.dK kvs)) := fun {σ1 H1 G} c1 g => by
              obtain ⟨h1, h2, h3⟩ := Stn.unlock c hd0 c1 g
              exact ⟨h1, q _ _ _ h2 h3⟩
            refine ⟨fun n m σ H => n ≤ (ks.map kD').length ∧ m = (ks.map kD').length - n ∧ ∃ G Γ, Stn X.K et (some (p, .none, none)) (upd Hs p (.frz od (.dK kvs))) (minus H0s p) σ H G Γ ∧ Same (minus H0 p) G ∧ forM mg ms ((ks.map kD').drop n) Γ = .nx ΓF,
              ⟨(ks.map kD').length, Nat.zero_le _, rfl, _, _, c0, Same.refl _, eF⟩, ?_⟩
            rintro n m σ1 H2 ⟨hi, rfl, G, Γ1, c1, s1, q1⟩
            have hfz : H2 p = some (.frz od (.dK kvs)) := c1.st.big _ _ upd_same
            by_cases hlt : n < (ks.map kD').length
            · refine .inr ⟨⟨hfz, by omega⟩, fun σ' H' => ∃ G' Γ', Stn X.K et (some (p, .none, none)) (upd Hs p (.frz od (.dK kvs))) (minus H0s p) σ' H' G' Γ' ∧ Same (minus H0 p) G' ∧ forM mg ms ((ks.map kD').drop (n + 1)) Γ' = .nx ΓF,
                fun σ' H' z => ⟨(ks.map kD').length - (n + 1), by omega, hlt, rfl, z⟩, ?_⟩
              rintro x H' ⟨rfl, k, w, hkv, rfl⟩
              have hd : (ks.map kD')[n]? = some (kD' k) := by
                rw [← hk0, List.map_map, List.getElem?_map, hkv]; rfl
              have he' : (ks.map kD').drop n = kD' k :: (ks.map kD').drop (n + 1) := by
                rw [List.drop_eq_getElem_cons hlt]
                congr 1
                rw [List.getElem?_eq_getElem hlt] at hd
                exact Option.some.inj hd
              rw [he'] at q1
              unfold forM at q1
              cases hm : mg (kD' k) Γ1 with
              | none => rw [hm] at q1; cases q1
              | some Γ2 =>
                rw [hm] at q1
                refine (hg _).go _ _ _ _ _ _ _ _ _ _ c1 (rep_kD k) hm fun σ2 _ c2 => ⟨p, (htb p).2 _ _ _ _ _ _ _ c2 ?_⟩
                revert q1
                dsimp only
                cases ms Γ2 with
                | nx Γ' => exact fun q1 σ' H3 G2 c3 z => ⟨G2, Γ', c3, Same.trans s1 z, q1⟩
                | ct Γ' => exact fun q1 σ' H3 G2 c3 z => ⟨G2, Γ', c3, Same.trans s1 z, q1⟩
                | bk Γ' =>
                  intro q1 σ' H3 G2 c3 z
                  have e1 : Γ' = ΓF := by cases q1; rfl
                  subst e1
                  exact fin c3 (Same.trans s1 z)
                | rt s => exact fun q => by cases q
                | exc x d Γ' => exact fun q => by cases q
                | stuck => exact fun q => by cases q
            · have e : n = (ks.map kD').length := by omega
              subst e
              rw [List.drop_length] at q1
              have e1 : Γ1 = ΓF := by
                unfold forM at q1
                cases q1; rfl
              subst e1
              exact .inl ⟨⟨hfz, by omega⟩, fin c1 s1⟩
          · exact q.elim
    · exact q.elim
  · exact q.elim
/-- d[k], d a name whose dict is locked -/
def eDGetL (i : Nat) (mk : MD) : MD := fun Γ => match Γ[i]? with
  | some (.lk ks xs) => (mk Γ).bind fun k => match keyD k with
    | some j => (match dVal ks xs j with | some x => .ok x | none => .stuck)
    | none => .stuck
  | _ => .stuck
theorem d_dgetL {i : Nat} (hp : ∀ t1 t2, PE X a t1 → PE X b t2 → PE X e (tDGet t1 t2)) (ha : PE X a (tVar i)) (hb : DE X et ce W b mb) : DE X et ce W e (eDGetL i mb) := by
  obtain ⟨t2, p2, g2⟩ := hb
  refine ⟨_, hp _ _ ha p2, fun Hs H0s σ H H0 Γ Q c q => ?_⟩
  unfold eDGetL at q
  split at q
  · rename_i ks xs eΓ
    have zz := c.at_ i _ eΓ
    match hv : σ[i]?, zz with
    | some (some v), ⟨p, od, kvs, _, ev, hp', h0, hk, hr⟩ =>
      subst ev
      refine ⟨.ref p, hv, g2 _ _ _ _ _ _ _ c (Post.next q fun k vk H2 H02 _ s2 rk q => ?_)⟩
      have q := q.step back_D s2
      cases hj : keyD k with
      | none => rw [hj] at q; exact q.elim
      | some j =>
        rw [hj] at q
        have q : Post X.K et W (RD X.K) σ H2 H02 Q (match dVal ks xs j with | some x => .ok x | none => .stuck) := q
        have ek := rep_key rk hj
        subst ek
        rcases val_rep (K := X.K) (H := H02) j hk (hr.same s2.small) with ⟨h1, h2⟩ | ⟨w, d, h1, h2, h3⟩
        · rw [h2] at q; exact q.elim
        · rw [h2] at q
          refine ⟨p, w, rfl, ?_, q _ _ _ (Step.refl s2.sub) h3⟩
          rw [← h1]
          exact .inl ⟨kvs, j, .inr ⟨od, s2.big _ _ hp'⟩, rfl, rfl⟩
  · exact q.elim
end
@[simp] theorem eDGetL_def (i : Nat) (mk : MD) (Γ : En) : eDGetL i mk Γ = match Γ[i]? with
  | some (.lk ks xs) => (mk Γ).bind fun k => match keyD k with
    | some j => (match dVal ks xs j with | some x => .ok x | none => .stuck)
    | none => .stuck
  | _ => .stuck := rfl
/-- {k: v} -/
def fDict1 (mk mv : MD) : En → Res (List Key × List D) := fun Γ => (mk Γ).bind fun k => (mv Γ).bind fun v => match keyD k with
  | some j => .ok ([j], [v])
  | none => .stuck
theorem back_FD' {K : PySem.W.Frag} : Back (RFD K) := fun H G H' H0 b a s h => by
  obtain ⟨p, kvs, e, n, r⟩ := h
  exact ⟨p, kvs, e, none_sub s n, r⟩
section
variable {X : Cx} {et : ET} {ce : Caught} {W : WX} {e a b : Expr} {mk mv : MD}
theorem d_dict1 (hp : ∀ t1 t2, PE X a t1 → PE X b t2 → PE X e (tDisp [(t1, t2)])) (ha : DE X et ce W a mk) (hb : DE X et ce W b mv) : DFD X et ce W e (fDict1 mk mv) := by
  obtain ⟨t1, p1, g1⟩ := ha
  obtain ⟨t2, p2, g2⟩ := hb
  refine ⟨_, hp _ _ p1 p2, fun Hs H0s σ H H0 Γ Q c q p hn => ?_⟩
  have s0 : Step H H0 (upd H p (.dK [])) H0 := Step.own c.sub hn
  have q0 : Post X.K et W (RFD X.K) σ (upd H p (.dK [])) H0 Q ((mk Γ).bind fun k => (mv Γ).bind fun v => match keyD k with | some j => .ok ([j], [v]) | none => .stuck) := q.step back_FD' s0
  refine g1 _ _ _ _ _ _ _ (c.step s0) (Post.next q0 fun k vk H1 H01 ek s1 rk q1 => g2 _ _ _ _ _ _ _ ((c.step s0).step s1) (Post.next (q1.step back_FD' s1) fun v vv H2 H02 ev s2 rv q2 => ?_))
  unfold fDict1 at q
  rw [ek] at q
  have q : Post X.K et W (RFD X.K) σ H H0 Q ((mv Γ).bind fun v => match keyD k with | some j => .ok ([j], [v]) | none => .stuck) := q
  rw [ev] at q
  have q : Post X.K et W (RFD X.K) σ H H0 Q (match keyD k with | some j => .ok ([j], [v]) | none => .stuck) := q
  cases hj : keyD k with
  | none => rw [hj] at q; exact q.elim
  | some j =>
    rw [hj] at q
    have ekk := rep_key (Rep.same s2.small rk) hj
    subst ekk
    have st := (s0.trans s1).trans s2
    have n2 : H02 p = none := (s1.trans s2).apart p _ upd_same (none_sub c.sub hn)
    refine ⟨s2.big _ _ (s1.big _ _ upd_same), [(j, vv)], rfl, by simp, q _ _ H02 ⟨?_, st.small, ?_, ?_⟩ ⟨p, [(j, vv)], rfl, hn, upd_same, n2, rfl, .cons rv .nil⟩⟩
    · exact same_upd' st.big hn
    · exact fun b' u q => by
        rw [upd_ne (fun z => by subst z; rw [n2] at q; cases q)]
        exact st.sub b' u q
    · exact st.apart
end
@[simp] theorem fDict1_def (mk mv : MD) (Γ : En) : fDict1 mk mv Γ = (mk Γ).bind fun k => (mv Γ).bind fun v => match keyD k with
  | some j => .ok ([j], [v])
  | none => .stuck := rfl
end DL
namespace PM
open PySem L2 GL DL
noncomputable section
def M_is_whole : List D → Res Slot := mBody 1
  (mRet (eAnd (eUn (gIsi .int) (eVar 0)) (eNot (eUn (gIsi .bool) (eVar 0)))))
def M_is_within : List D → Res Slot := mBody 3
  (mRet (eAnd (eCall M_is_whole (eCons (eVar 0) eNil)) (eChain gLe gLe (eVar 1) (eVar 0) (eVar 2))))
def M_is_place : List D → Res Slot := mBody 1
  (mRet (eCall M_is_within (eCons (eVar 0) (eCons (eUn gNeg (eC (.int 1000))) (eCons (eC (.int 1000)) eNil)))))
def B_power_of_1 : En → Out := (mSeq (mAug 2 gMulI (eVar 2))
  (mIf (bTruth (eOp gAnd (eOp gShr (eVar 1) (eVar 3)) (eC (.int 1))))
  (mAug 2 gMulI (eVar 0))
  sNx))
def M_power_of : List D → Res Slot := mBody 4
  (mSeq (mSet 2 (eC (.int 1)))
  (mSeq (mFor (iR3 (eCons (eOp gSub (eUn gBits (eVar 1)) (eC (.int 1))) (eCons (eUn gNeg (eC (.int 1))) (eCons (eUn gNeg (eC (.int 1))) eNil)))) (bName 3) B_power_of_1)
  (mRet (eVar 2))))
def M_has_few_digits : List D → Res Slot := mBody 1
  (mRet (eOp gLt (eUn gAbs (eVar 0)) (eCall M_power_of (eCons (eC (.int 10)) (eCons (eC (.int 300)) eNil)))))
def M_is_number : List D → Res Slot := mBody 4
  (mSeq (mIf (bOr (bNot (bB (eUn (gIsi .tuple) (eVar 1)))) (bB (eOp gNe (eUn gLen (eVar 1)) (eC (.int 2)))))
  (mRet (eC (.bl false)))
  sNx)
  (mSeq (mAsg (bOfTup [(bName 2), (bName 3)]) (eVar 1))
  (mSeq (mIf (bOr (bNot (bB (eCall M_is_whole (eCons (eVar 2) eNil)))) (bNot (bB (eCall M_is_place (eCons (eVar 3) eNil)))))
  (mRet (eC (.bl false)))
  sNx)
  (mSeq (mIf (bB (eOp gEq (eVar 2) (eC (.int 0))))
  (mRet (eOp gEq (eVar 3) (eC (.int 0))))
  sNx)
  (mRet (eAnd (eOp gNe (eOp gMod (eVar 2) (eVar 0)) (eC (.int 0))) (eCall M_has_few_digits (eCons (eVar 2) eNil))))))))
def M_is_pair : List D → Res Slot := mBody 4
  (mSeq (mIf (bOr (bNot (bB (eUn (gIsi .tuple) (eVar 1)))) (bB (eOp gNe (eUn gLen (eVar 1)) (eC (.int 2)))))
  (mRet (eC (.bl false)))
  sNx)
  (mSeq (mAsg (bOfTup [(bName 2), (bName 3)]) (eVar 1))
  (mRet (eAnd (eCall M_is_number (eCons (eVar 0) (eCons (eVar 2) eNil))) (eCall M_is_place (eCons (eVar 3) eNil))))))
def B_law_numbers_1 : En → Out := (mIf (bAnd (bB (eOp gGe (eVar 3) (eOp gPow (eC (.int 10)) (eC (.int 18))))) (bB (eOp gGt (eVar 4) (eC (.int 0)))))
  (mSeq (mApp 5 (eOp gMod (eVar 4) (eOp gIx (eVar 2) (eVar 6))))
  (mSet 4 (eOp gDiv (eVar 4) (eOp gIx (eVar 2) (eVar 6)))))
  (mSeq (mSet 7 (eOp gMod (eOp gPow (eOp gAdd (eOp gAdd (eOp gMod (eVar 3) (eC (.int 2147483629))) (eOp gMul (eC (.int 7919)) (eVar 1))) (eC (.int 1))) (eC (.int 3))) (eC (.int 2147483647))))
  (mSeq (mSet 7 (eOp gMod (eOp gMul (eOp gAdd (eVar 7) (eOp gMul (eC (.int 104729)) (eOp gAdd (eVar 6) (eC (.int 1))))) (eOp gAdd (eVar 6) (eC (.int 3)))) (eC (.int 2147483629))))
  (mSeq (mSet 7 (eOp gMod (eOp gMul (eOp gMod (eOp gPow (eVar 7) (eC (.int 5))) (eC (.int 2147483647))) (eC (.int 48271))) (eC (.int 2147483629))))
  (mApp 5 (eOp gMod (eOp gDiv (eVar 7) (eC (.int 16))) (eOp gIx (eVar 2) (eVar 6))))))))
def M_law_numbers : List D → Res Slot := mBody 8
  (mSeq (mSet 3 (eOp gMax (eVar 0) (eOp gSub (eUn gNeg (eC (.int 1))) (eVar 0))))
  (mSeq (mSet 4 (eVar 3))
  (mSeq (mSetF 5 (fLst eNil))
  (mSeq (mFor (iR1 (eCons (eUn gLen (eVar 2)) eNil)) (bName 6) B_law_numbers_1)
  (mRetO 5)))))
def T_law_reduced_1 : En → Res Bool := (bAnd (bB (eOp gNe (eVar 1) (eC (.int 0)))) (bB (eOp gEq (eOp gMod (eVar 1) (eVar 0)) (eC (.int 0)))))
def B_law_reduced_1 : En → Out := (mPar 1 2 (eCons (eOp gDiv (eVar 1) (eVar 0)) (eCons (eOp gAdd (eVar 2) (eC (.int 1))) eNil)))
def M_law_reduced : List D → Res Slot := mBody 3
  (mSeq (whileM T_law_reduced_1 B_law_reduced_1 1000000)
  (mRet (eIf (bB (eOp gNe (eVar 1) (eC (.int 0)))) (eTup (eCons (eVar 1) (eCons (eVar 2) eNil))) (eTup (eCons (eC (.int 0)) (eCons (eC (.int 0)) eNil))))))
def B_law_integer_1 : En → Out := (mSet 3 (eOp gAdd (eOp gMul (eVar 3) (eC (.int 420))) (eVar 4)))
def M_law_integer : List D → Res Slot := mBody 5
  (mSeq (mPar 1 2 (eCons (eOp gMod (eOp gIx (eVar 0) (eC (.int 0))) (eC (.int 5))) (eCons (eOp gIx (eAll (fLst (eCons (eC (.int 1)) (eCons (eUn gNeg (eC (.int 1))) eNil)))) (eOp gMod (eOp gIx (eVar 0) (eC (.int 1))) (eC (.int 2)))) eNil)))
  (mSeq (mIf (bB (eOp gLt (eVar 1) (eC (.int 3))))
  (mRet (eOp gMul (eVar 2) (eOp gIx (eAll (fLst (eCons (eC (.int 0)) (eCons (eOp gMod (eOp gIx (eVar 0) (eC (.int 2))) (eC (.int 40))) (eCons (eOp gAdd (eOp gMul (eOp gIx (eVar 0) (eC (.int 2))) (eC (.int 420))) (eOp gIx (eVar 0) (eC (.int 3)))) eNil))))) (eVar 1))))
  sNx)
  (mSeq (mSet 3 (eC (.int 0)))
  (mSeq (mFor (iLst (eSl (eVar 0) (pS (eC (.int 2))) (pS (eOp gAdd (eC (.int 2)) (eOp gIx (eAll (fLst (eCons (eC (.int 8)) (eCons (eC (.int 30)) eNil)))) (eOp gSub (eVar 1) (eC (.int 3)))))))) (bName 4) B_law_integer_1)
  (mRet (eOp gMul (eVar 2) (eVar 3)))))))
def T_law_form_1 : En → Res Bool := (bAnd (bB (eOp gNe (eVar 1) (eC (.int 0)))) (bB (eOp gEq (eOp gMod (eVar 1) (eVar 0)) (eC (.int 0)))))
def B_law_form_1 : En → Out := (mPar 1 2 (eCons (eOp gDiv (eVar 1) (eVar 0)) (eCons (eOp gAdd (eVar 2) (eC (.int 1))) eNil)))
def M_law_form : List D → Res Slot := mBody 3
  (mSeq (whileM T_law_form_1 B_law_form_1 1000000)
  (mRet (eIf (bB (eOp gNe (eVar 1) (eC (.int 0)))) (eTup (eCons (eVar 1) (eCons (eVar 2) eNil))) (eTup (eCons (eC (.int 0)) (eCons (eC (.int 0)) eNil))))))
def T_without_factors_1 : En → Res Bool := (bB (eOp gEq (eOp gMod (eVar 1) (eOp gMul (eOp gIx (eVarO 2) (eUn gNeg (eC (.int 1)))) (eOp gIx (eVarO 2) (eUn gNeg (eC (.int 1)))))) (eC (.int 0))))
def B_without_factors_1 : En → Out := (mApp 2 (eOp gMul (eOp gIx (eVarO 2) (eUn gNeg (eC (.int 1)))) (eOp gIx (eVarO 2) (eUn gNeg (eC (.int 1))))))
def B_without_factors_2 : En → Out := (mSeq (mAug 3 gMulI (eC (.int 2)))
  (mIf (bB (eOp gEq (eOp gMod (eVar 1) (eVar 4)) (eC (.int 0))))
  (mSeq (mAug 1 gDiv (eVar 4))
  (mAug 3 gAddI (eC (.int 1))))
  sNx))
def M_without_factors : List D → Res Slot := mBody 5
  (mSeq (mSetF 2 (fLst (eCons (eVar 0) eNil)))
  (mSeq (whileM T_without_factors_1 B_without_factors_1 1000000)
  (mSeq (mSet 3 (eC (.int 0)))
  (mSeq (sFrz 2 (mFor (iRevr (eVar 2)) (bName 4) B_without_factors_2))
  (mRet (eTup (eCons (eVar 1) (eCons (eVar 3) eNil))))))))
def M_form_of : List D → Res Slot := mBody 5
  (mSeq (mIf (bB (eOp gEq (eVar 1) (eC (.int 0))))
  (mRet (eTup (eCons (eC (.int 0)) (eCons (eC (.int 0)) eNil))))
  sNx)
  (mSeq (mAsg (bOfTup [(bName 3), (bName 4)]) (eCall M_without_factors (eCons (eVar 0) (eCons (eVar 1) eNil))))
  (mRet (eTup (eCons (eVar 3) (eCons (eOp gAdd (eVar 2) (eVar 4)) eNil))))))
def T_law_power_v2_1 : En → Res Bool := (bB (eOp gGt (eVar 1) (eC (.int 0))))
def B_law_power_v2_1 : En → Out := (mSeq (mIf (bB (eOp gEq (eOp gMod (eVar 1) (eC (.int 2))) (eC (.int 1))))
  (mSet 2 (eOp gMul (eVar 2) (eVar 0)))
  sNx)
  (mPar 0 1 (eCons (eOp gMul (eVar 0) (eVar 0)) (eCons (eOp gDiv (eVar 1) (eC (.int 2))) eNil))))
def M_law_power_v2 : List D → Res Slot := mBody 3
  (mSeq (mSet 2 (eC (.int 1)))
  (mSeq (whileM T_law_power_v2_1 B_law_power_v2_1 1000000)
  (mRet (eVar 2))))
def M_law_sum_v2 : List D → Res Slot := mBody 5
  (mSeq (mSet 3 (eOp gMin (eOp gIx (eVar 1) (eC (.int 1))) (eOp gIx (eVar 2) (eC (.int 1)))))
  (mSeq (mSet 4 (eOp gMul (eOp gIx (eVar 1) (eC (.int 0))) (eCall M_law_power_v2 (eCons (eVar 0) (eCons (eOp gSub (eOp gIx (eVar 1) (eC (.int 1))) (eVar 3)) eNil)))))
  (mRet (eCall M_law_reduced (eCons (eVar 0) (eCons (eOp gAdd (eVar 4) (eOp gMul (eOp gIx (eVar 2) (eC (.int 0))) (eCall M_law_power_v2 (eCons (eVar 0) (eCons (eOp gSub (eOp gIx (eVar 2) (eC (.int 1))) (eVar 3)) eNil))))) (eCons (eVar 3) eNil)))))))
def M_Sweep_moves (CS : Addr) : List D → Res Slot := mBody 2
  (mRet (eOp gSub (eOp gMul (eC (.int 2)) (eVar 1)) (eFld CS "span" (eVar 0))))
def M_Sweep_end_cost (CR CS : Addr) : List D → Res Slot := mBody 4
  (mSeq (mSet 3 (eOp gAdd (eOp gIx (eFld CS "floors" (eVar 0)) (eVar 1)) (eVar 2)))
  (mRet (eOp gAdd (eOp gMul (eProp CR 2 (eFld CS "row" (eVar 0))) (eUn gAbs (eVar 3))) (eOp gMul (eProp CR 1 (eFld CS "row" (eVar 0))) (eMeth CS "moves" (M_Sweep_moves CS) (eVar 0) (eCons (eVar 1) eNil))))))
def C_Sweep_ends_1 (CR CS : Addr) : MD := (eTup (eCons (eOp gAdd (eVar 4) (eMeth CS "end_cost" (M_Sweep_end_cost CR CS) (eVar 0) (eCons (eVar 2) (eCons (eVar 3) eNil)))) (eCons (eVar 2) (eCons (eVar 3) eNil))))
def M_Sweep_ends (CR CS : Addr) : List D → Res Slot := mBody 5
  (mRetF (mCompT2 [2, 3, 4] [3, 4] (iR2 (eCons (eFld CS "ready" (eVar 0)) (eCons (eUn gLen (eFld CS "floors" (eVar 0))) eNil))) (bName 2) bYes (iEnumrT (eOp gIx (eVar 1) (eVar 2))) (bOfTup [(bName 3), (bName 4)]) (bB (eOp gNotN (eVar 4) (eC .non))) (C_Sweep_ends_1 CR CS)))
def M_Sweep_choices (CR CS : Addr) : List D → Res Slot := mBody 5
  (mSeq (mSet 3 (eProp CR 0 (eFld CS "row" (eVar 0))))
  (mSeq (mSet 4 (eOp gAdd (eOp gMod (eOp gIx (eFld CS "floors" (eVar 0)) (eVar 1)) (eVar 3)) (eVar 2)))
  (mSeq (mIf (bOr (bB (eOp gEq (eVar 4) (eC (.int 0)))) (bB (eOp gEq (eVar 4) (eVar 3))))
  (mRetF (fLst (eCons (eTup (eCons (eC (.int 0)) (eCons (eOp gDiv (eVar 4) (eVar 3)) eNil))) eNil)))
  sNx)
  (mRetF (fLst (eCons (eTup (eCons (eVar 4) (eCons (eC (.int 0)) eNil))) (eCons (eTup (eCons (eOp gSub (eVar 4) (eVar 3)) (eCons (eC (.int 1)) eNil))) eNil)))))))
def C_Sweep_steps_1 (CR CS : Addr) : MD := (eTup (eCons (eOp gAdd (eVar 4) (eOp gMul (eProp CR 2 (eFld CS "row" (eVar 0))) (eUn gAbs (eVar 5)))) (eCons (eVar 5) (eCons (eVar 3) (eCons (eVar 6) eNil)))))
def M_Sweep_steps (CR CS : Addr) : List D → Res Slot := mBody 7
  (mRetF (mCompT2 [3, 4, 5, 6] [5, 6] (iEnumrT (eVar 2)) (bOfTup [(bName 3), (bName 4)]) (bB (eOp gNotN (eVar 4) (eC .non))) (iLst (eAll (fMeth CS "choices" (M_Sweep_choices CR CS) (eVar 0) (eCons (eVar 1) (eCons (eVar 3) eNil))))) (bOfTup [(bName 5), (bName 6)]) bYes (C_Sweep_steps_1 CR CS)))
def C_Sweep_least_costs_1 (CR CS : Addr) : MD := (eOp gMinD (eAll (mComp [6] (iLst (eVar 3)) (bName 6) (bB (eOp gEq (eOp gIx (eVar 6) (eC (.int 3))) (eVar 5))) (eOp gIx (eVar 6) (eC (.int 0))))) (eC .non))
def B_Sweep_least_costs_1 (CR CS : Addr) : En → Out := (mSeq (mSet 3 (eAll (fMeth CS "steps" (M_Sweep_steps CR CS) (eVar 0) (eCons (eVar 2) (eCons (eOp gIx (eVarO 1) (eUn gNeg (eC (.int 1)))) eNil)))))
  (mSeq (mSet 4 (eAll (mComp [5] (iTupl (eTup (eCons (eC (.int 0)) (eCons (eC (.int 1)) eNil)))) (bName 5) bYes (C_Sweep_least_costs_1 CR CS))))
  (mApp 1 (eUn gTupl (eVar 4)))))
def M_Sweep_least_costs (CR CS : Addr) : List D → Res Slot := mBody 7
  (mSeq (mSetF 1 (fLst (eCons (eTup (eCons (eC (.int 0)) (eCons (eC .non) eNil))) eNil)))
  (mSeq (mFor (iR1 (eCons (eOp gSub (eUn gLen (eFld CS "floors" (eVar 0))) (eC (.int 1))) eNil)) (bName 2) (B_Sweep_least_costs_1 CR CS))
  (mRetO 1)))
def M_least_cost (CR CS : Addr) : List D → Res Slot := mBody 2
  (mRet (eUn gMin1 (eAll (mComp [1] (iLst (eAll (fMeth CS "ends" (M_Sweep_ends CR CS) (eVar 0) (eCons (eAll (fMeth CS "least_costs" (M_Sweep_least_costs CR CS) (eVar 0) eNil)) eNil)))) (bName 1) bYes (eOp gIx (eVar 1) (eC (.int 0)))))))
def M_is_state (CR : Addr) : List D → Res Slot := mBody 5
  (mSeq (mIf (bNot (bB (eCall M_is_pair (eCons (eProp CR 0 (eVar 0)) (eCons (eVar 1) eNil)))))
  (mRet (eC (.bl false)))
  sNx)
  (mSeq (mAsg (bOfTup [(bOfTup [(bName 2), (bName 3)]), (bName 4)]) (eVar 1))
  (mSeq (mIf (bNot (bB (eHas CR (eVar 0) (eVar 4))))
  (mRet (eC (.bl false)))
  sNx)
  (mRet (eOr (eOp gEq (eVar 2) (eC (.int 0))) (eOr (eOp gIsN (eProp CR 3 (eVar 0)) (eC .non)) (eOp gGe (eVar 3) (eProp CR 3 (eVar 0)))))))))
def M_require_state (CR : Addr) : List D → Res Slot := mBody 2
  (mIf (bNot (bB (eCall (M_is_state CR) (eCons (eVar 0) (eCons (eVar 1) eNil)))))
  (mRaise "InvalidState" (eVar 1))
  sNx)
def B_require_states_1 (CR : Addr) : En → Out := (mExpr (eCall (M_require_state CR) (eCons (eVar 0) (eCons (eVar 2) eNil))))
def M_require_states (CR : Addr) : List D → Res Slot := mBody 3
  (mFor (iSeq 1) (bName 2) (B_require_states_1 CR))
def T_floors_up_1 (CR : Addr) : En → Res Bool := (bAnd (bB (eOp gLt (eVar 6) (eVar 4))) (bOr (bB (eOp gLt (eVar 6) (eVar 3))) (bB (eOp (gIn true) (eVar 1) (eTup (eCons (eUn gNeg (eC (.int 1))) (eCons (eC (.int 0)) eNil)))))))
def B_floors_up_1 (CR : Addr) : En → Out := (mSeq (mAug 1 gDiv (eProp CR 0 (eVar 0)))
  (mSeq (mApp 5 (eVar 1))
  (mAug 6 gAddI (eC (.int 1)))))
def M_floors_up (CR : Addr) : List D → Res Slot := mBody 7
  (mSeq (mSet 4 (eIf (bB (eOp gIsN (eProp CR 4 (eVar 0)) (eC .non))) (eC (.int 1000)) (eProp CR 4 (eVar 0))))
  (mSeq (mSetF 5 (fLst (eCons (eVar 1) eNil)))
  (mSeq (mSet 6 (eVar 2))
  (mSeq (whileM (T_floors_up_1 CR) (B_floors_up_1 CR) 1000000)
  (mRetO 5)))))
def M_units : List D → Res Slot := mBody 5
  (mSeq (mAsg (bOfTup [(bName 3), (bName 4)]) (eVar 1))
  (mSeq (mIf (bB (eOp gLt (eVar 4) (eVar 2)))
  (mRet (eOp gDiv (eVar 3) (eCall M_power_of (eCons (eVar 0) (eCons (eOp gSub (eVar 2) (eVar 4)) eNil)))))
  sNx)
  (mRet (eOp gMul (eVar 3) (eCall M_power_of (eCons (eVar 0) (eCons (eOp gSub (eVar 4) (eVar 2)) eNil)))))))
def M_Sweep_init (CR CS : Addr) : Addr → List D → Res D := mInit CS 6
  ((mSeq (mSet 5 (eAll (fIf (bB (eOp gEq (eOp gIx (eVar 2) (eC (.int 0))) (eC (.int 0)))) (fLst (eCons (eVar 3) (eCons (eVar 4) eNil))) (fLst (eCons (eVar 3) (eCons (eVar 4) (eCons (eOp gIx (eVar 2) (eC (.int 1))) eNil)))))))
  (mSeq (mSetA CS 0 "row" (eVar 1))
  (mSeq (mSetA CS 0 "low" (eUn gMin1 (eVar 5)))
  (mSeq (mSetA CS 0 "span" (eUn gAbs (eOp gSub (eVar 4) (eVar 3))))
  (mSeq (mSetA CS 0 "ready" (eOp gSub (eOp gMax (eVar 3) (eVar 4)) (eSelf CS 0 "low")))
  (mSetA CS 0 "floors" (eAll (fCall (M_floors_up CR) (eCons (eVar 1) (eCons (eCall M_units (eCons (eProp CR 0 (eVar 1)) (eCons (eVar 2) (eCons (eSelf CS 0 "low") eNil)))) (eCons (eSelf CS 0 "low") (eCons (eOp gMax (eVar 3) (eVar 4)) eNil)))))))))))))
def B_sum_of_1 : En → Out := (mIf (bB (eOp gNe (eVar 3) (eC (.int 0))))
  (mPutD 2 (eVar 4) (eOp gAdd (eDGet2 (eVarO 2) (eVar 4) (eC (.int 0))) (eVar 3)))
  sNx)
def B_sum_of_2 : En → Out := (mSeq (mSet 6 (eOp gAdd (eOp gMul (eVar 6) (eCall M_power_of (eCons (eVar 0) (eCons (eOp gSub (eVar 5) (eVar 4)) eNil)))) (eDGet (eVarO 2) (eVar 4))))
  (mSet 5 (eVar 4)))
def M_sum_of : List D → Res Slot := mBody 7
  (mSeq (mSetFD 2 fDict0)
  (mSeq (mFor (iLst (eVar 1)) (bOfTup [(bName 3), (bName 4)]) B_sum_of_1)
  (mSeq (mSet 5 (eOp gMaxD (eVarO 2) (eC (.int 0))))
  (mSeq (mSet 6 (eC (.int 0)))
  (mSeq (mFor (iLst (eUn gSortD (eVarO 2))) (bName 4) B_sum_of_2)
  (mRet (eCall M_form_of (eCons (eVar 0) (eCons (eVar 6) (eCons (eVar 5) eNil))))))))))
def M_negative : List D → Res Slot := mBody 3
  (mSeq (mAsg (bOfTup [(bName 1), (bName 2)]) (eVar 0))
  (mRet (eTup (eCons (eUn gNeg (eVar 1)) (eCons (eVar 2) eNil)))))
def M_difference : List D → Res Slot := mBody 3
  (mRet (eCall M_sum_of (eCons (eVar 0) (eCons (eAll (fLst (eCons (eOp gIx (eVar 2) (eC (.int 0))) (eCons (eCall M_negative (eCons (eOp gIx (eVar 1) (eC (.int 0))) eNil)) eNil)))) eNil))))
def M_sweep_of_any (CR CS : Addr) : List D → Res Slot := mBody 3
  (mRet (eNew (M_Sweep_init CR CS) (eCons (eVar 0) (eCons (eCall M_difference (eCons (eProp CR 0 (eVar 0)) (eCons (eVar 1) (eCons (eVar 2) eNil)))) (eCons (eOp gIx (eVar 1) (eC (.int 1))) (eCons (eOp gIx (eVar 2) (eC (.int 1))) eNil))))))
def M_sweep_between (CR CS : Addr) : List D → Res Slot := mBody 3
  (mSeq (mExpr (eCall (M_require_states CR) (eCons (eVar 0) (eCons (eAll (fLst (eCons (eVar 1) (eCons (eVar 2) eNil)))) eNil))))
  (mRet (eCall (M_sweep_of_any CR CS) (eCons (eVar 0) (eCons (eVar 1) (eCons (eVar 2) eNil))))))
def M_distance (CR CS : Addr) : List D → Res Slot := mBody 3
  (mRet (eCall (M_least_cost CR CS) (eCons (eCall (M_sweep_between CR CS) (eCons (eVar 0) (eCons (eVar 1) (eCons (eVar 2) eNil)))) eNil)))
def M_law_floor_v2 : List D → Res Slot := mBody 3
  (mSeq (mIf (bOr (bB (eOp gEq (eOp gIx (eVar 1) (eC (.int 0))) (eC (.int 0)))) (bB (eOp gGe (eOp gIx (eVar 1) (eC (.int 1))) (eVar 2))))
  (mRet (eOp gMul (eOp gIx (eVar 1) (eC (.int 0))) (eCall M_law_power_v2 (eCons (eVar 0) (eCons (eOp gSub (eOp gIx (eVar 1) (eC (.int 1))) (eVar 2)) eNil)))))
  sNx)
  (mRet (eOp gDiv (eOp gIx (eVar 1) (eC (.int 0))) (eCall M_law_power_v2 (eCons (eVar 0) (eCons (eOp gSub (eVar 2) (eOp gIx (eVar 1) (eC (.int 1)))) eNil))))))
def M_law_position : List D → Res Slot := mBody 4
  (mSeq (mSet 2 (eIf (bB (eOp gIsN (eOp gIx (eVar 0) (eC (.int 3))) (eC .non))) (eUn gNeg (eC (.int 6))) (eOp gIx (eVar 0) (eC (.int 3)))))
  (mSeq (mSet 3 (eIf (bB (eOp gIsN (eOp gIx (eVar 0) (eC (.int 4))) (eC .non))) (eC (.int 6)) (eOp gIx (eVar 0) (eC (.int 4)))))
  (mRet (eOp gAdd (eVar 2) (eOp gMod (eVar 1) (eOp gAdd (eOp gSub (eVar 3) (eVar 2)) (eC (.int 1))))))))
def M_law_state_v2 : List D → Res Slot := mBody 4
  (mSeq (mSet 2 (eIf (bB (eOp gIsN (eOp gIx (eVar 0) (eC (.int 3))) (eC .non))) (eUn gNeg (eC (.int 4))) (eOp gIx (eVar 0) (eC (.int 3)))))
  (mSeq (mSet 3 (eCall M_law_reduced (eCons (eOp gIx (eVar 0) (eC (.int 0))) (eCons (eCall M_law_integer (eCons (eSl (eVar 1) (pS (eC (.int 2))) pN) eNil)) (eCons (eOp gAdd (eVar 2) (eOp gMod (eOp gIx (eVar 1) (eC (.int 0))) (eC (.int 6)))) eNil)))))
  (mRet (eTup (eCons (eVar 3) (eCons (eCall M_law_position (eCons (eVar 0) (eCons (eOp gIx (eVar 1) (eC (.int 1))) eNil))) eNil))))))
def M_law_spec : List D → Res Slot := mBody 4
  (mSeq (mSet 1 (eOp gIx (eAll (fLst (eCons (eC (.int 2)) (eCons (eC (.int 3)) (eCons (eC (.int 4)) (eCons (eC (.int 5)) (eCons (eC (.int 10)) (eCons (eC (.int 16)) eNil)))))))) (eOp gMod (eOp gIx (eVar 0) (eC (.int 0))) (eC (.int 6)))))
  (mSeq (mSet 2 (eOp gIx (eAll (fLst (eCons (eC .non) (eCons (eUn gNeg (eOp gMod (eOp gIx (eVar 0) (eC (.int 4))) (eC (.int 4)))) eNil)))) (eOp gMod (eOp gIx (eVar 0) (eC (.int 3))) (eC (.int 2)))))
  (mSeq (mSet 3 (eOp gIx (eAll (fLst (eCons (eC .non) (eCons (eOp gMod (eOp gIx (eVar 0) (eC (.int 5))) (eC (.int 5))) eNil)))) (eOp gMod (eOp gDiv (eOp gIx (eVar 0) (eC (.int 3))) (eC (.int 2))) (eC (.int 2)))))
  (mRet (eTup (eCons (eVar 1) (eCons (eOp gIx (eAll (fLst (eCons (eC (.int 1)) (eCons (eC (.int 2)) (eCons (eC (.int 3)) (eCons (eC (.int 1)) (eCons (eC (.int 7)) (eCons (eC (.int 100)) eNil)))))))) (eOp gMod (eOp gIx (eVar 0) (eC (.int 1))) (eC (.int 6)))) (eCons (eOp gIx (eAll (fLst (eCons (eC (.int 1)) (eCons (eC (.int 1)) (eCons (eC (.int 2)) (eCons (eC (.int 5)) (eCons (eC (.int 3)) (eCons (eC (.int 100)) eNil)))))))) (eOp gMod (eOp gIx (eVar 0) (eC (.int 2))) (eC (.int 6)))) (eCons (eVar 2) (eCons (eVar 3) eNil))))))))))
def M_law_row (CR : Addr) : List D → Res Slot := mBody 1
  (mRet (eNewRow CR 1 4 a_move_add_first_last (eCons (eOp gIx (eVar 0) (eC (.int 0))) eNil) (eCons (eOp gIx (eVar 0) (eC (.int 1))) (eCons (eOp gIx (eVar 0) (eC (.int 2))) (eCons (eOp gIx (eVar 0) (eC (.int 3))) (eCons (eOp gIx (eVar 0) (eC (.int 4))) eNil))))))
def B_law_later_1 : En → Out := (mIf (bB (eOp gEq (eOp gMod (eOp gSub (eVar 3) (eVar 4)) (eVar 0)) (eC (.int 0))))
  (mSeq (mSet 5 (eOp gDiv (eOp gSub (eVar 3) (eVar 4)) (eVar 0)))
  (mSeq (mSet 6 (eOp gAdd (eDGetL 1 (eVar 3)) (eOp gMax (eVar 4) (eUn gNeg (eVar 4)))))
  (mPutD 2 (eVar 5) (eOp gMin (eVar 6) (eDGet2 (eVarO 2) (eVar 5) (eVar 6))))))
  sNx)
def B_law_later_2 : En → Out := (mFor (iR2 (eCons (eOp gSub (eUn gNeg (eVar 0)) (eC (.int 1))) (eCons (eOp gAdd (eVar 0) (eC (.int 2))) eNil))) (bName 4) B_law_later_1)
def M_law_later : List D → Res Slot := mBody 7
  (mSeq (mSetFD 2 fDict0)
  (mSeq (mForD 1 (bName 3) B_law_later_2)
  (mRetO 2)))
def T_law_least_from_1 : En → Res Bool := (bB (eOp (gIn true) (eCall M_law_floor_v2 (eCons (eOp gIx (eVar 0) (eC (.int 0))) (eCons (eVar 1) (eCons (eVar 6) eNil)))) (eAll (fLst (eCons (eUn gNeg (eC (.int 1))) (eCons (eC (.int 0)) eNil))))))
def B_law_least_from_1 : En → Out := (mSet 6 (eOp gAdd (eVar 6) (eC (.int 1))))
def B_law_least_from_2 : En → Out := (mSeq (mSet 12 (eOp gAdd (eOp gMul (eOp gIx (eVar 0) (eC (.int 2))) (eOp gAdd (eDGetL 7 (eVar 11)) (eOp gMax (eVar 11) (eUn gNeg (eVar 11))))) (eOp gMul (eOp gIx (eVar 0) (eC (.int 1))) (eOp gSub (eOp gMul (eC (.int 2)) (eOp gSub (eVar 10) (eVar 4))) (eVar 9)))))
  (mSet 8 (eIf (bOr (bB (eOp gIsN (eVar 8) (eC .non))) (bB (eOp gLt (eVar 12) (eVar 8)))) (eVar 12) (eVar 8))))
def B_law_least_from_3 : En → Out := (mSeq (mIf (bAnd (bB (eOp gGe (eVar 10) (eVar 5))) (bOr (bB (eOp gIsN (eOp gIx (eVar 0) (eC (.int 4))) (eC .non))) (bB (eOp gLe (eVar 10) (eOp gIx (eVar 0) (eC (.int 4)))))))
  (mForD 7 (bName 11) B_law_least_from_2)
  sNx)
  (mSet 7 (eCall M_law_later (eCons (eOp gIx (eVar 0) (eC (.int 0))) (eCons (eVar 7) eNil)))))
def M_law_least_from : List D → Res Slot := mBody 13
  (mSeq (mAsg (bOfTup [(bName 4), (bName 5)]) (eVar 2))
  (mSeq (mSet 6 (eVar 5))
  (mSeq (whileM T_law_least_from_1 B_law_least_from_1 1000000)
  (mSeq (mSet 7 (eAllD (fDict1 (eOp gMul (eOp gIx (eVar 1) (eC (.int 0))) (eCall M_law_power_v2 (eCons (eOp gIx (eVar 0) (eC (.int 0))) (eCons (eOp gSub (eOp gIx (eVar 1) (eC (.int 1))) (eVar 4)) eNil)))) (eC (.int 0)))))
  (mSeq (mPar 8 9 (eCons (eC .non) (eCons (eOp gMax (eVar 3) (eUn gNeg (eVar 3))) eNil)))
  (mSeq (mFor (iR2 (eCons (eVar 4) (eCons (eOp gAdd (eVar 6) (eC (.int 4))) eNil))) (bName 10) B_law_least_from_3)
  (mRet (eVar 8))))))))
def M_law_least : List D → Res Slot := mBody 12
  (mSeq (mAsg (bOfTup [(bName 3), (bName 4), (bName 5), (bName 6), (bName 7)]) (eVar 0))
  (mSeq (mSet 8 (eCall M_law_sum_v2 (eCons (eVar 3) (eCons (eOp gIx (eVar 2) (eC (.int 0))) (eCons (eTup (eCons (eUn gNeg (eOp gIx (eOp gIx (eVar 1) (eC (.int 0))) (eC (.int 0)))) (eCons (eOp gIx (eOp gIx (eVar 1) (eC (.int 0))) (eC (.int 1))) eNil))) eNil)))))
  (mSeq (mPar 9 10 (eCons (eOp gMin (eOp gIx (eVar 1) (eC (.int 1))) (eOp gIx (eVar 2) (eC (.int 1)))) (eCons (eOp gMax (eOp gIx (eVar 1) (eC (.int 1))) (eOp gIx (eVar 2) (eC (.int 1)))) eNil)))
  (mSeq (mIf (bB (eOp gNe (eOp gIx (eVar 8) (eC (.int 0))) (eC (.int 0))))
  (mSet 9 (eOp gMin (eVar 9) (eOp gIx (eVar 8) (eC (.int 1)))))
  sNx)
  (mSeq (mSet 11 (eCall M_law_least_from (eCons (eVar 0) (eCons (eVar 8) (eCons (eTup (eCons (eVar 9) (eCons (eVar 10) eNil))) (eCons (eOp gSub (eOp gIx (eVar 1) (eC (.int 1))) (eOp gIx (eVar 2) (eC (.int 1)))) eNil))))))
  (mSeq (mIf (bAnd (bB (eOp gNotN (eVar 6) (eC .non))) (bB (eOp gEq (eVar 9) (eVar 6))))
  (mRet (eVar 11))
  sNx)
  (mRet (eOp gMin (eVar 11) (eCall M_law_least_from (eCons (eVar 0) (eCons (eVar 8) (eCons (eTup (eCons (eOp gSub (eVar 9) (eC (.int 1))) (eCons (eVar 10) eNil))) (eCons (eOp gSub (eOp gIx (eVar 1) (eC (.int 1))) (eOp gIx (eVar 2) (eC (.int 1)))) eNil)))))))))))))
def B_law_K16_1 (CR CS : Addr) : En → Out := (mSeq (mSet 3 (eAll (fCall M_law_numbers (eCons (eVar 2) (eCons (eOp gAdd (eC (.int 1600)) (eVar 1)) (eCons (eOp gMul (eAll (fLst (eCons (eC (.int 420)) eNil))) (eC (.int 90))) eNil))))))
  (mSeq (mSet 4 (eOp gAdd (eTup (eCons (eOp gAdd (eC (.int 2)) (eOp gMod (eOp gIx (eVar 3) (eC (.int 80))) (eC (.int 35)))) eNil)) (eSlT (eCall M_law_spec (eCons (eVar 3) eNil)) (pS (eC (.int 1))) pN)))
  (mSeq (mPar 5 6 (eCons (eCall M_law_state_v2 (eCons (eVar 4) (eCons (eSl (eVar 3) (pS (eC (.int 6))) pN) eNil))) (eCons (eCall M_law_state_v2 (eCons (eVar 4) (eCons (eSl (eVar 3) (pS (eC (.int 42))) pN) eNil))) eNil)))
  (mSeq (mSet 7 (eCall (M_law_row CR) (eCons (eVar 4) eNil)))
  (mSeq (mSet 8 (eCall M_law_least (eCons (eVar 4) (eCons (eVar 5) (eCons (eVar 6) eNil)))))
  (mIf (bOr (bB (eOp gNe (eCall (M_distance CR CS) (eCons (eVar 7) (eCons (eVar 5) (eCons (eVar 6) eNil)))) (eVar 8))) (bOr (bB (eOp gNe (eCall (M_distance CR CS) (eCons (eVar 7) (eCons (eVar 6) (eCons (eVar 5) eNil)))) (eVar 8))) (bB (eOp gNe (eCall (M_distance CR CS) (eCons (eVar 7) (eCons (eVar 5) (eCons (eVar 5) eNil)))) (eC (.int 0))))))
  (mRet (eC (.bl false)))
  sNx))))))
def M_law_K16 (CR CS : Addr) : List D → Res Slot := mBody 9
  (mSeq (mFor (iEnumr (eOp gAdd (eSl (eVar 0) pN (pS (eC (.int 4)))) (eOp gMul (eAll (fLst (eCons (eC (.int 7)) eNil))) (eUn gInt (eOp gEq (eVar 0) (eAll (fLst eNil))))))) (bOfTup [(bName 1), (bName 2)]) (B_law_K16_1 CR CS))
  (mRet (eC (.bl true))))
end
end PM
namespace PM
open PySem L2 GL DL
def isWhole : D → Bool
  | .int _ => true
  | _ => false
theorem is_whole_eq {d : D} (h : noObj d = true) : M_is_whole [d] = .ok (.sh (.bl (isWhole d))) := by
  cases d <;> first | rfl | cases h
def within (lo hi : Int) : D → Bool
  | .int i => decide (lo ≤ i) && decide (i ≤ hi)
  | _ => false
theorem is_within_eq {d : D} (h : noObj d = true) (lo hi : Int) : M_is_within [d, .int lo, .int hi] = .ok (.sh (.bl (within lo hi d))) := by
  have e := is_whole_eq h
  unfold M_is_within
  rw [body_eq]
  cases d <;> simp [e, isWhole, within]
  rename_i i
  by_cases h1 : lo ≤ i <;> simp [h1]
theorem is_place_eq {d : D} (h : noObj d = true) : M_is_place [d] = .ok (.sh (.bl (within (-1000) 1000 d))) := by
  have e := is_within_eq h (-1000) 1000
  unfold M_is_place
  rw [body_eq]
  simp [e]
/-- n digits, each below its size -/
def Digs (z : Int) (n : Nat) (ds : List Int) : Prop := ds.length = n ∧ ∀ d ∈ ds, 0 ≤ d ∧ d < z
theorem Digs.get {z : Int} {n : Nat} {ds : List Int} (h : Digs z n ds) {i : Nat} (hi : i < n) : ∃ d, ds[i]? = some d ∧ 0 ≤ d ∧ d < z := by
  have hl : i < ds.length := by rw [h.1]; exact hi
  exact ⟨ds[i], List.getElem?_eq_getElem hl, h.2 _ (List.getElem_mem hl)⟩
theorem numbers_turn {c salt : D} {sa : Int} (hsa : salt = .int sa) (hs0 : 0 ≤ sa) (hs1 : sa ≤ 100000) {z : Int} (hz0 : 0 < z) (hz1 : z < 2 ^ 30) {sizes : List D} {N L : Int} (hN : 0 ≤ N) (hL : 0 ≤ L) {acc : List D} (hacc : acc.length < 1000) {i : Nat} (hi : i < 1000)
    (ix : gIx (.lst sizes) (.int (i : Int)) = some (.val (.int z))) (x7 : DL.Slot) :
    ∃ L' d x7', 0 ≤ L' ∧ 0 ≤ d ∧ d < z ∧ B_law_numbers_1 [.sh c, .sh salt, .sh (.lst sizes), .sh (.int N), .sh (.int L), .own acc, .sh (.int (i : Int)), x7] =
      .nx [.sh c, .sh salt, .sh (.lst sizes), .sh (.int N), .sh (.int L'), .own (acc ++ [.int d]), .sh (.int (i : Int)), x7'] := by
  subst hsa
  have p18 : gPow (.int 10) (.int 18) = some (.val (.int (10 ^ 18))) := pow_ok (j := 18) (a := 4) (by decide) (by decide)
  have big : acc.length < 1000000 := by omega
  unfold B_law_numbers_1
  by_cases h1 : (1000000000000000000 : Int) ≤ N ∧ 0 < L
  · refine ⟨L / z, L % z, x7, Int.ediv_nonneg hL (by omega), Int.emod_nonneg _ (by omega), Int.emod_lt_of_pos _ hz0, ?_⟩
    have dv : gDiv (.int L) (.int z) = some (.val (.int (L / z))) := div_ok hz0 (lt_pow (by omega) hz1) (by decide) (by decide)
    simp [p18, h1, ix, hz0, big, dv]
  · have m1 : gMul (.int 7919) (.int sa) = some (.val (.int (7919 * sa))) := mul_ok (a := 13) (b := 17) (by decide) (lt_pow hs0 (by omega)) (by decide) (by decide) (by decide)
    generalize hA : N % 2147483629 + 7919 * sa + 1 = A
    have hA0 : 0 ≤ A ∧ A < 2 ^ 32 := by have := Int.emod_nonneg N (show (2147483629 : Int) ≠ 0 by decide); have := Int.emod_lt_of_pos N (show (0 : Int) < 2147483629 by decide); omega
    have p3 : gPow (.int A) (.int 3) = some (.val (.int (A ^ 3))) := pow_ok (j := 3) (a := 32) (lt_pow hA0.1 hA0.2) (by decide)
    have m2 : gMul (.int 104729) (.int ((i : Int) + 1)) = some (.val (.int (104729 * ((i : Int) + 1)))) := mul_ok (a := 17) (b := 11) (by decide) (lt_pow (by omega) (by omega)) (by decide) (by decide) (by decide)
    generalize hB : A ^ 3 % 2147483647 = B
    have hB0 : 0 ≤ B ∧ B < 2147483647 := by rw [← hB]; exact ⟨Int.emod_nonneg _ (by decide), Int.emod_lt_of_pos _ (by decide)⟩
    have m3 : gMul (.int (B + 104729 * ((i : Int) + 1))) (.int ((i : Int) + 3)) = some (.val (.int ((B + 104729 * ((i : Int) + 1)) * ((i : Int) + 3)))) := mul_ok (a := 33) (b := 11) (lt_pow (by omega) (by omega)) (lt_pow (by omega) (by omega)) (by decide) (by decide) (by decide)
    generalize hC : (B + 104729 * ((i : Int) + 1)) * ((i : Int) + 3) % 2147483629 = C
    have hC0 : 0 ≤ C ∧ C < 2147483629 := by rw [← hC]; exact ⟨Int.emod_nonneg _ (by decide), Int.emod_lt_of_pos _ (by decide)⟩
    have p5 : gPow (.int C) (.int 5) = some (.val (.int (C ^ 5))) := pow_ok (j := 5) (a := 31) (lt_pow hC0.1 (by omega)) (by decide)
    generalize hE : C ^ 5 % 2147483647 = E
    have hE0 : 0 ≤ E ∧ E < 2147483647 := by rw [← hE]; exact ⟨Int.emod_nonneg _ (by decide), Int.emod_lt_of_pos _ (by decide)⟩
    have m4 : gMul (.int E) (.int 48271) = some (.val (.int (E * 48271))) := mul_ok (a := 31) (b := 16) (lt_pow (by omega) (by omega)) (by decide) (by decide) (by decide) (by decide)
    generalize hF : E * 48271 % 2147483629 = F
    have hF0 : 0 ≤ F ∧ F < 2147483629 := by rw [← hF]; exact ⟨Int.emod_nonneg _ (by decide), Int.emod_lt_of_pos _ (by decide)⟩
    have d16 : gDiv (.int F) (.int 16) = some (.val (.int (F / 16))) := div_ok (a := 5) (by decide) (by decide) (by decide) (by decide)
    refine ⟨L, F / 16 % z, .sh (.int F), hL, Int.emod_nonneg _ (by omega), Int.emod_lt_of_pos _ hz0, ?_⟩
    have run : ∀ t : Bool, (if t = true then .ok false else .ok false : Res Bool) = .ok false := fun t => by cases t <;> rfl
    by_cases h2 : (1000000000000000000 : Int) ≤ N
    · have h3 : ¬ 0 < L := fun h => h1 ⟨h2, h⟩
      simp [p18, h2, h3, m1, hA, p3, m2, hB, m3, hC, p5, hE, m4, hF, d16, ix, hz0, big]
    · simp [p18, h2, m1, hA, p3, m2, hB, m3, hC, p5, hE, m4, hF, d16, ix, hz0, big]
theorem numbers_ok (cell salt : Int) (hs0 : 0 ≤ salt) (hs1 : salt ≤ 100000) (z : Int) (hz0 : 0 < z) (hz1 : z < 2 ^ 30) (n : Nat) (hn : n ≤ 999) :
    ∃ ds, Digs z n ds ∧ M_law_numbers [.int cell, .int salt, .lst (List.replicate n (.int z))] = .ok (.own (ds.map .int)) := by
  unfold M_law_numbers
  rw [body_eq]
  generalize hN : (if -1 - cell > cell then -1 - cell else cell) = N
  have hN0 : 0 ≤ N := by rw [← hN]; split <;> omega
  obtain ⟨Γ', e1, L, ds, x6, x7, rfl, hL, hd, hp⟩ := forM_inv (g := bName 6) (b := B_law_numbers_1) (fun k Γ => ∃ L ds x6 x7, Γ = [.sh (.int cell), .sh (.int salt), .sh (.lst (List.replicate n (.int z))), .sh (.int N), .sh (.int L), .own (ds.map .int), x6, x7] ∧ 0 ≤ L ∧ ds.length = k ∧ ∀ d ∈ ds, 0 ≤ d ∧ d < z)
    (rangeD 0 n) 0 [.sh (.int cell), .sh (.int salt), .sh (.lst (List.replicate n (.int z))), .sh (.int N), .sh (.int N), .own [], .un, .un] ⟨N, [], .un, .un, rfl, hN0, rfl, fun _ h => nomatch h⟩ (by
      rintro i x Γ hx ⟨L, ds, x6, x7, rfl, hL, hd, hp⟩
      have hi : i < n := by
        have := (List.getElem?_eq_some_iff.mp hx).1
        rwa [rangeD_len] at this
      rw [rangeD_get 0 hi] at hx
      cases hx
      rw [Int.zero_add]
      have ix : gIx (.lst (List.replicate n (.int z))) (.int (i : Int)) = some (.val (.int z)) := by
        rw [gIx_lst, atI_nat (j := i) (v := D.int z) (by simp [hi])]
        rfl
      obtain ⟨L', d, x7', h1, h2, h3, h4⟩ := numbers_turn (c := .int cell) rfl hs0 hs1 hz0 hz1 hN0 hL (acc := ds.map .int) (by simp; omega) (i := i) (by omega) ix x7
      refine ⟨_, _, rfl, .inl h4, L', ds ++ [d], .sh (.int (i : Int)), x7', by simp, h1, by simp; omega, fun y hy => ?_⟩
      rcases List.mem_append.mp hy with hy | hy
      · exact hp y hy
      · rw [List.mem_singleton.mp hy]; exact ⟨h2, h3⟩)
  rw [rangeD_len] at hd
  refine ⟨ds, ⟨by omega, hp⟩, ?_⟩
  have nn : (-1000000 : Int) ≤ n ∧ (n : Int) ≤ 1000000 := by omega
  simp [hN, nn, e1]
end PM
namespace PM
open PySem L2 GL DL
theorem power_turn {b : Int} (hb0 : 0 ≤ b) (hb : b ≤ 36) {c k : Nat} (hc : c < 2 ^ 14) (x3 : DL.Slot) :
    B_power_of_1 [.sh (.int b), .sh (.int c), .sh (.int (b ^ (c / 2 ^ (k + 1)))), .sh (.int (k : Int))] = .nx [.sh (.int b), .sh (.int c), .sh (.int (b ^ (c / 2 ^ k))), .sh (.int (k : Int))] := by
  unfold B_power_of_1
  have st := NM.shift_step c k
  have q1 : c / 2 ^ (k + 1) < 2 ^ 14 := Nat.lt_of_le_of_lt (Nat.div_le_self _ _) hc
  have q2 : 2 * (c / 2 ^ (k + 1)) < 2 ^ 15 := by omega
  have s1 := NM.pow_small hb0 hb (c / 2 ^ (k + 1))
  have s2 := NM.pow_small hb0 hb (2 * (c / 2 ^ (k + 1)))
  have m1 : gMulI (.int (b ^ (c / 2 ^ (k + 1)))) (.int (b ^ (c / 2 ^ (k + 1)))) = some (.val (.int (b ^ (2 * (c / 2 ^ (k + 1)))))) := by
    rw [mulI_ok s1 s1 (by omega) (by omega) (by omega), NM.pow_two_mul]
  have m2 : gMulI (.int (b ^ (2 * (c / 2 ^ (k + 1))))) (.int b) = some (.val (.int (b ^ (2 * (c / 2 ^ (k + 1)) + 1)))) := by
    rw [mulI_ok (b := 6) s2 (lt_pow hb0 (by omega)) (by omega) (by omega) (by omega), Int.pow_succ]
  have sh : gShr (.int (c : Int)) (.int (k : Int)) = some (.val (.int ((c / 2 ^ k : Nat) : Int))) := by
    rw [gShr_int, giv_pos (by omega)]
    rw [Int.natCast_ediv]
    simp
  have an : gAnd (.int ((c / 2 ^ k : Nat) : Int)) (.int 1) = some (.val (.int ((c / 2 ^ k % 2 : Nat) : Int))) := by rw [gAnd_int, PyProof.Rows.bitAnd_m1]; simp
  generalize b ^ (c / 2 ^ (k + 1)) = p1 at m1 ⊢
  rcases Nat.mod_two_eq_zero_or_one (c / 2 ^ k) with ev | odd
  · rw [ev] at an
    rw [st, ev, Nat.add_zero]
    generalize b ^ (2 * (c / 2 ^ (k + 1))) = p2 at m1 ⊢
    generalize ((c / 2 ^ k : Nat) : Int) = s at sh an
    simp [m1, sh, an]
  · rw [odd] at an
    rw [st, odd]
    generalize b ^ (2 * (c / 2 ^ (k + 1)) + 1) = p3 at m2 ⊢
    generalize b ^ (2 * (c / 2 ^ (k + 1))) = p2 at m1 m2 ⊢
    generalize ((c / 2 ^ k : Nat) : Int) = s at sh an
    simp [m1, sh, an, m2]
theorem power_of_eq {b : Int} (hb0 : 0 ≤ b) (hb : b ≤ 36) {c : Nat} (hc : c < 2 ^ 14) : M_power_of [.int b, .int c] = .ok (.sh (.int (b ^ c))) := by
  unfold M_power_of
  rw [body_eq]
  have hbits := NM.lt_bits c
  have hle := NM.bits_le hc
  generalize hn : Builtin.Int.intBits (c : Int) = n at hbits hle
  obtain ⟨Γ', e1, x3, rfl⟩ := forM_inv (g := bName 3) (b := B_power_of_1) (fun i Γ => ∃ x3, Γ = [.sh (.int b), .sh (.int c), .sh (.int (b ^ (c / 2 ^ (n - i)))), x3]) (downD ((n : Int) - 1) n) 0 [.sh (.int b), .sh (.int c), .sh (.int 1), .un]
    ⟨.un, by rw [Nat.sub_zero, Nat.div_eq_of_lt hbits, Int.pow_zero]⟩ (by
      rintro i x Γ hx ⟨x3, rfl⟩
      have hi : i < n := by
        have := (List.getElem?_eq_some_iff.mp hx).1
        rwa [downD_len] at this
      rw [downD_get _ hi] at hx
      cases hx
      have e : (n : Int) - 1 - (i : Int) = ((n - 1 - i : Nat) : Int) := by omega
      rw [e, Nat.zero_add, show n - i = n - 1 - i + 1 by omega, show n - (i + 1) = n - 1 - i by omega]
      exact ⟨_, _, rfl, .inl (power_turn hb0 hb hc x3), _, rfl⟩)
  rw [downD_len, Nat.zero_add, Nat.sub_self] at e1
  have r : rng3 [.int ((n : Int) - 1), .int (-1), .int (-1)] = .ok (downD ((n : Int) - 1) n) := by
    rw [rng3_int, need_pos ⟨rfl, by omega, by omega, by omega, by omega⟩]
    congr 2
    omega
  simp [hn, r, e1]
/-- fewer than three hundred and one digits -/
def few (n : Int) : Bool := decide ((if n < 0 then -n else n) < (10 : Int) ^ 300)
theorem few_eq (n : Int) : M_has_few_digits [.int n] = .ok (.sh (.bl (few n))) := by
  have p : M_power_of [.int 10, .int 300] = .ok (.sh (.int (10 ^ 300))) := power_of_eq (c := 300) (by decide) (by decide) (by decide)
  unfold M_has_few_digits few
  rw [body_eq]
  generalize (10 : Int) ^ 300 = L at p ⊢
  simp [p]
/-- no instance within, and no argument of a law -/
def fair : D → Bool
  | .tup xs => xs.all noObj
  | d => noObj d
def isNum (b : Int) : D → Bool
  | .tup [.int n, .int e] => decide (-1000 ≤ e ∧ e ≤ 1000) && (if n = 0 then decide (e = 0) else decide (n % b ≠ 0) && few n)
  | _ => false
theorem is_number_eq {b : Int} (hb : 0 < b) {d : D} (h : fair d = true) : M_is_number [.int b, d] = .ok (.sh (.bl (isNum b d))) := by
  unfold M_is_number
  rw [body_eq]
  cases d with
  | tup xs =>
    match xs, h with
    | [], _ => simp [isNum]
    | [_], _ => simp [isNum]
    | x :: y :: z :: r, _ =>
      have : ¬ ((r.length : Int) + 1 + 1 + 1 = 2) := by omega
      simp [isNum, this]
    | [x, y], h =>
      have hx : noObj x = true := by unfold fair at h; simp at h; exact h.1
      have hy : noObj y = true := by unfold fair at h; simp at h; exact h.2
      have e1 := is_whole_eq hx
      have e2 := is_place_eq hy
      cases x with
      | int n =>
        cases y with
        | int e =>
          have e3 := few_eq n
          by_cases h0 : n = 0
          · subst h0
            by_cases h1 : -1000 ≤ e <;> by_cases h2 : e ≤ 1000 <;> simp [isNum, e1, e2, isWhole, within, h1, h2]
            rw [Bool.eq_iff_iff]; simp
          · by_cases h3 : n % b = 0 <;> by_cases h1 : -1000 ≤ e <;> by_cases h2 : e ≤ 1000 <;> simp [isNum, e1, e2, isWhole, within, h1, h2, h0, hb, e3, h3]
        | _ => simp [isNum, e1, e2, isWhole, within]
      | _ => simp [isNum, e1, isWhole]
  | obj C ns xs => cases h
  | _ => simp [isNum]
theorem isNum_pair {b : Int} {d : D} (h : isNum b d = true) : ∃ n e, d = .tup [.int n, .int e] ∧ -1000 ≤ e ∧ e ≤ 1000 ∧ few n = true := by
  unfold isNum at h
  split at h
  · rename_i n e
    rw [Bool.and_eq_true] at h
    obtain ⟨h1, h2⟩ := h
    have h1 := of_decide_eq_true h1
    refine ⟨n, e, rfl, h1.1, h1.2, ?_⟩
    split at h2
    · rename_i h0; subst h0; unfold few; exact decide_eq_true (by decide +kernel)
    · rw [Bool.and_eq_true] at h2; exact h2.2
  · cases h
/-- a tuple of a number and a place -/
def isPair (b : Int) : D → Bool
  | .tup [x, y] => isNum b x && within (-1000) 1000 y
  | _ => false
/-- fair, and its items fair -/
def fair2 : D → Bool
  | .tup xs => xs.all fair
  | d => noObj d
theorem fair_noObj {d : D} (h : fair d = true) : noObj d = true := by cases d <;> first | rfl | exact h
theorem is_pair_eq {b : Int} (hb : 0 < b) {d : D} (h : fair2 d = true) : M_is_pair [.int b, d] = .ok (.sh (.bl (isPair b d))) := by
  unfold M_is_pair
  rw [body_eq]
  cases d with
  | tup xs =>
    match xs, h with
    | [], _ => simp [isPair]
    | [_], _ => simp [isPair]
    | x :: y :: z :: r, _ =>
      have : ¬ ((r.length : Int) + 1 + 1 + 1 = 2) := by omega
      simp [isPair, this]
    | [x, y], h =>
      have hx : fair x = true := by unfold fair2 at h; simp at h; exact h.1
      have hy : fair y = true := by unfold fair2 at h; simp at h; exact h.2
      have e1 := is_number_eq hb hx
      have e2 := is_place_eq (fair_noObj hy)
      cases h1 : isNum b x <;> simp [isPair, e1, e2, h1]
  | obj C ns xs => cases h
  | _ => simp [isPair]
end PM
namespace PM
open PySem L2 GL DL
theorem sIx_nat (n k d : Nat) (h : k ≤ n) : HT.sIx n d (some (k : Int)) = k := by
  rw [HT.sIx_nat]
  omega
theorem sl_from (xs : List D) (k : Nat) (h : k ≤ xs.length) : gSl (some (k : Int)) none (.lst xs) = some (.newL (xs.drop k)) := by
  show some (Giv.newL (cutL xs (some (k : Int)) none)) = _
  unfold cutL
  rw [sIx_nat _ _ _ h]
  rw [show HT.sIx xs.length xs.length none = xs.length from rfl, List.take_of_length_le (by simp)]
theorem sl_mid (xs : List D) (i j : Nat) (h : i ≤ j) (h2 : j ≤ xs.length) : gSl (some (i : Int)) (some (j : Int)) (.lst xs) = some (.newL ((xs.drop i).take (j - i))) := by
  show some (Giv.newL (cutL xs (some (i : Int)) (some (j : Int)))) = _
  unfold cutL
  rw [sIx_nat xs.length i 0 (by omega), sIx_nat xs.length j xs.length h2]
theorem rep_one (x : D) : ∀ n, repD n [x] = List.replicate n x
  | 0 => rfl
  | n + 1 => by
    show [x] ++ repD n [x] = _
    rw [rep_one x n]; rfl
theorem mul_rep (x : D) (n : Nat) (h : n ≤ 1000000) : gMul (.lst [x]) (.int (n : Int)) = some (.newL (List.replicate n x)) := by
  show (if -1000000 ≤ (n : Int) ∧ (n : Int) ≤ 1000000 ∧ [x].length * (n : Int).toNat ≤ 1000000 then some (Giv.newL (repD (n : Int).toNat [x])) else none) = _
  rw [if_pos ⟨by omega, by omega, by simp; omega⟩, Int.toNat_natCast, rep_one]
theorem Digs.drop {z : Int} {n : Nat} {ds : List Int} (h : Digs z n ds) (k : Nat) : Digs z (n - k) (ds.drop k) := ⟨by rw [List.length_drop, h.1], fun d hd => h.2 d (List.mem_of_mem_drop hd)⟩
theorem Digs.take {z : Int} {n : Nat} {ds : List Int} (h : Digs z n ds) {k : Nat} (hk : k ≤ n) : Digs z k (ds.take k) := ⟨by rw [List.length_take, h.1]; omega, fun d hd => h.2 d (List.mem_of_mem_take hd)⟩
theorem Digs.ix {z : Int} {n : Nat} {ds : List Int} (h : Digs z n ds) {i : Nat} (hi : i < n) : ∃ d, gIx (.lst (ds.map .int)) (.int (i : Int)) = some (.val (.int d)) ∧ 0 ≤ d ∧ d < z := by
  obtain ⟨d, e, h0, h1⟩ := h.get hi
  refine ⟨d, ?_, h0, h1⟩
  rw [gIx_lst, atI_nat (j := i) (v := D.int d) (by rw [List.getElem?_map, e]; rfl)]
  rfl
theorem cat_lst {xs ys : List D} (h : xs.length + ys.length ≤ 1000000) : gAdd (.lst xs) (.lst ys) = some (.newL (xs ++ ys)) := if_pos h
theorem integer_turn (ds : List D) (a1 a2 : DL.Slot) {v d : Int} {k : Nat} (h0 : 0 ≤ v) (h1 : v < 2 ^ (9 * k)) (hk : k ≤ 100) (d0 : 0 ≤ d) (d1 : d < 420) :
    0 ≤ v * 420 + d ∧ v * 420 + d < 2 ^ (9 * (k + 1)) ∧ B_law_integer_1 [.sh (.lst ds), a1, a2, .sh (.int v), .sh (.int d)] = .nx [.sh (.lst ds), a1, a2, .sh (.int (v * 420 + d)), .sh (.int d)] := by
  have e : (2 : Int) ^ (9 * (k + 1)) = 2 ^ (9 * k) * 512 := by rw [show 9 * (k + 1) = 9 * k + 9 by omega, Int.pow_add]; rfl
  have m : gMul (.int v) (.int 420) = some (.val (.int (v * 420))) := mul_ok (a := 9 * k + 1) (b := 9) (Nat.lt_of_lt_of_le (lt_pow h0 h1) (Nat.pow_le_pow_right (by decide) (by omega))) (by decide) (by omega) (by decide) (by omega)
  refine ⟨by omega, by rw [e]; omega, ?_⟩
  unfold B_law_integer_1
  simp [m]
theorem integer_eq {ds : List Int} {n : Nat} (hd : Digs 420 n ds) (hn : 33 ≤ n) : ∃ i, M_law_integer [.lst (ds.map .int)] = .ok (.sh (.int i)) ∧ i.natAbs < 2 ^ 280 := by
  unfold M_law_integer
  rw [body_eq]
  obtain ⟨x0, g0, p0, q0⟩ := hd.ix (i := 0) (by omega)
  obtain ⟨x1, g1, p1, q1⟩ := hd.ix (i := 1) (by omega)
  obtain ⟨x2, g2, p2, q2⟩ := hd.ix (i := 2) (by omega)
  obtain ⟨x3, g3, p3, q3⟩ := hd.ix (i := 3) (by omega)
  have g0 : gIx (.lst (ds.map .int)) (.int 0) = some (.val (.int x0)) := g0
  have g1 : gIx (.lst (ds.map .int)) (.int 1) = some (.val (.int x1)) := g1
  have g2 : gIx (.lst (ds.map .int)) (.int 2) = some (.val (.int x2)) := g2
  have g3 : gIx (.lst (ds.map .int)) (.int 3) = some (.val (.int x3)) := g3
  have hm := Int.emod_nonneg x0 (show (5 : Int) ≠ 0 by decide)
  have hm2 := Int.emod_lt_of_pos x0 (show (0 : Int) < 5 by decide)
  have hs := Int.emod_nonneg x1 (show (2 : Int) ≠ 0 by decide)
  have hs2 := Int.emod_lt_of_pos x1 (show (0 : Int) < 2 by decide)
  have sg : ∃ s : Int, gIx (.lst [.int 1, .int (-1)]) (.int (x1 % 2)) = some (.val (.int s)) ∧ s.natAbs < 2 ^ 1 := by
    have : x1 % 2 = 0 ∨ x1 % 2 = 1 := by omega
    rcases this with h | h <;> rw [h]
    · exact ⟨1, rfl, by decide⟩
    · exact ⟨-1, rfl, by decide⟩
  obtain ⟨s, hs3, hs4⟩ := sg
  generalize hA : x0 % 5 = A at hm hm2
  generalize hB : x1 % 2 = B at hs hs2 hs3
  by_cases h3 : A < 3
  · have m1 : gMul (.int x2) (.int 420) = some (.val (.int (x2 * 420))) := mul_ok (a := 9) (b := 9) (lt_pow p2 (by omega)) (by decide) (by decide) (by decide) (by decide)
    obtain ⟨v, hv, hv2⟩ : ∃ v : Int, gIx (.lst [.int 0, .int (x2 % 40), .int (x2 * 420 + x3)]) (.int A) = some (.val (.int v)) ∧ v.natAbs < 2 ^ 20 := by
      have : A = 0 ∨ A = 1 ∨ A = 2 := by omega
      rcases this with h | h | h <;> subst h
      · exact ⟨0, rfl, by decide⟩
      · exact ⟨x2 % 40, rfl, by omega⟩
      · exact ⟨x2 * 420 + x3, rfl, by omega⟩
    have m2 : gMul (.int s) (.int v) = some (.val (.int (s * v))) := mul_ok hs4 hv2 (by decide) (by decide) (by decide)
    refine ⟨s * v, ?_, ?_⟩
    · simp [g0, g1, g2, g3, hA, hB, hs3, h3, m1, hv, m2]
    · rw [Int.natAbs_mul]
      have : s.natAbs * v.natAbs ≤ 1 * v.natAbs := Nat.mul_le_mul_right _ (by omega)
      have : (2 : Nat) ^ 20 ≤ 2 ^ 280 := Nat.pow_le_pow_right (by decide) (by decide)
      omega
  · obtain ⟨c, hc, hc2⟩ : ∃ c : Nat, gIx (.lst [.int 8, .int 30]) (.int (A - 3)) = some (.val (.int (c : Int))) ∧ c ≤ 30 := by
      have : A = 3 ∨ A = 4 := by omega
      rcases this with h | h <;> subst h
      · exact ⟨8, rfl, by decide⟩
      · exact ⟨30, rfl, by decide⟩
    have dg : Digs 420 c ((ds.drop 2).take c) := (hd.drop 2).take (by omega)
    have sl : gSl (some 2) (some (2 + (c : Int))) (.lst (ds.map .int)) = some (.newL (((ds.drop 2).take c).map .int)) := by
      have e := sl_mid (ds.map .int) 2 (2 + c) (by omega) (by rw [List.length_map, hd.1]; omega)
      rw [List.map_take, List.map_drop]
      rw [show 2 + c - 2 = c by omega] at e
      rw [← e]
      simp
    generalize (ds.drop 2).take c = zs at dg sl
    obtain ⟨Γ', e1, v, x4, rfl, v0, v1⟩ := forM_inv (g := bName 4) (b := B_law_integer_1) (fun k Γ => ∃ v x4, Γ = [.sh (.lst (ds.map .int)), .sh (.int A), .sh (.int s), .sh (.int v), x4] ∧ 0 ≤ v ∧ v < 2 ^ (9 * k))
      (zs.map .int) 0 [.sh (.lst (ds.map .int)), .sh (.int A), .sh (.int s), .sh (.int 0), .un] ⟨0, .un, rfl, by decide, by decide⟩ (by
        rintro i x Γ hx ⟨v, x4, rfl, v0, v1⟩
        have hi : i < zs.length := by
          have := (List.getElem?_eq_some_iff.mp hx).1
          rwa [List.length_map] at this
        obtain ⟨d, hd1, hd2, hd3⟩ := dg.get (by rw [← dg.1]; exact hi)
        rw [List.getElem?_map, hd1] at hx
        cases hx
        rw [Nat.zero_add] at v1 ⊢
        obtain ⟨t1, t2, t3⟩ := integer_turn (ds.map .int) (.sh (.int A)) (.sh (.int s)) v0 v1 (by have := dg.1; omega) hd2 hd3
        exact ⟨_, _, rfl, .inl t3, _, _, rfl, t1, t2⟩)
    rw [Nat.zero_add, List.length_map, dg.1] at v1
    have v2 : v.natAbs < 2 ^ 271 := Nat.lt_of_lt_of_le (lt_pow v0 v1) (Nat.pow_le_pow_right (by decide) (by omega))
    have m2 : gMul (.int s) (.int v) = some (.val (.int (s * v))) := mul_ok hs4 v2 (by decide) (by decide) (by decide)
    refine ⟨s * v, ?_, ?_⟩
    · simp [g0, g1, hA, hB, hs3, h3, hc, sl, e1, m2]
    · rw [Int.natAbs_mul]
      have : s.natAbs * v.natAbs ≤ 1 * v.natAbs := Nat.mul_le_mul_right _ (by omega)
      have : (2 : Nat) ^ 271 ≤ 2 ^ 280 := Nat.pow_le_pow_right (by decide) (by decide)
      omega
theorem lay_ints : ∀ ns : List Int, PyData.canLayAll0 (ns.map .int) = true
  | [] => by simp only [List.map_nil, PyData.canLayAll0]
  | n :: r => by simp only [List.map_cons, PyData.canLayAll0, PyData.canLay0, lay_ints r, Bool.and_self]
theorem depth_ints : ∀ ns : List Int, PyData.depthAll (ns.map .int) ≤ 1
  | [] => by simp only [List.map_nil, PyData.depthAll]; omega
  | n :: r => by
    have h := depth_ints r
    simp only [List.map_cons, PyData.depthAll, PyData.depth]
    omega
theorem eqOk_scr (ns : List Int) : eqOk (.scr ns) = true := by
  unfold eqOk
  have e1 : DL.plain (.scr ns) = true := by unfold DL.plain; rfl
  have e2 : py (.scr ns) = .list (ns.map .int) := by unfold py; rfl
  rw [e1, e2]
  unfold SeqAt.shaped
  have h1 := lay_ints ns
  have h2 := depth_ints ns
  have e3 : (PyData.list (ns.map .int)).canLay0 = true := by simpa only [PyData.canLay0] using h1
  have e4 : (PyData.list (ns.map .int)).depth ≤ 64 := by simp only [PyData.depth]; omega
  rw [e3, decide_eq_true e4]
  rfl
theorem eqOk_nil : eqOk (.lst []) = true := by decide +kernel
theorem scr_nil (ns : List Int) : gEq (.scr ns) (.lst []) = some (.val (.bl ns.isEmpty)) := by
  show gEqD (.scr ns) (.lst []) = _
  unfold gEqD
  rw [giv_pos ⟨eqOk_scr ns, eqOk_nil⟩]
  have e2 : py (.scr ns) = .list (ns.map .int) := by unfold py; rfl
  have e3 : py (.lst []) = .list [] := by unfold py pyAll; rfl
  rw [e2, e3]
  cases ns with
  | nil => simp only [List.map_nil, PyData.eqv, PyData.eqvAll, List.isEmpty]
  | cons a r => simp only [List.map_cons, PyData.eqv, PyData.eqvAll, List.isEmpty]
/-- the cells that a law walks -/
theorem cells_eq (ns : List Int) (hn : ns.length ≤ 63) (c : Nat) : ∃ cs : List Int, cs.length ≤ 1000 ∧ ∃ xs, gSl none (some (c : Int)) (.scr ns) = some (.newL xs) ∧ ∃ k : Int, gInt (.bl ns.isEmpty) = some (.val (.int k)) ∧ ∃ ys, gMul (.lst [.int 7]) (.int k) = some (.newL ys) ∧ gAdd (.lst xs) (.lst ys) = some (.newL (cs.map .int)) := by
  refine ⟨cutL ns none (some (c : Int)) ++ List.replicate (if ns.isEmpty then 1 else 0) 7, ?_, (cutL ns none (some (c : Int))).map .int, ?_, (if ns.isEmpty then 1 else 0 : Nat), ?_, _, mul_rep (.int 7) _ (by split <;> decide), ?_⟩
  · have : (cutL ns none (some (c : Int))).length ≤ ns.length := by
      unfold cutL
      rw [List.length_take, List.length_drop]
      omega
    rw [List.length_append, List.length_replicate]
    split <;> omega
  · show some (Giv.newL (cutL (ns.map .int) none (some (c : Int)))) = _
    unfold cutL
    rw [List.length_map, List.map_take, List.map_drop]
  · cases ns <;> rfl
  · rw [cat_lst, List.map_append, List.map_replicate]
    have : (cutL ns none (some (c : Int))).length ≤ ns.length := by
      unfold cutL
      rw [List.length_take, List.length_drop]
      omega
    rw [List.length_map, List.length_replicate]
    split <;> omega
end PM
namespace PM
open PySem L2 GL DL
/-- n' and e' are the form of n * b ^ e -/
def IsForm (b n e n' e' : Int) : Prop := (n = 0 ∧ n' = 0 ∧ e' = 0) ∨ (n ≠ 0 ∧ ∃ f : Nat, n = n' * b ^ f ∧ n' % b ≠ 0 ∧ e' = e + f)
theorem IsForm.one {b n e n1 e1 n2 e2 : Int} (hb : 2 ≤ b) (h : IsForm b n e n1 e1) (g : IsForm b n e n2 e2) : n1 = n2 ∧ e1 = e2 := by
  rcases h with ⟨h0, rfl, rfl⟩ | ⟨h0, f, h1, h2, rfl⟩
  · rcases g with ⟨_, rfl, rfl⟩ | ⟨g0, _⟩
    · exact ⟨rfl, rfl⟩
    · exact absurd h0 g0
  · rcases g with ⟨g0, _⟩ | ⟨_, f2, g1, g2, rfl⟩
    · exact absurd g0 h0
    · obtain ⟨e1, e2⟩ := NM.one_form hb h1 h2 g1 g2
      subst e2
      exact ⟨e1, rfl⟩
theorem IsForm.small {b n e n' e' : Int} (hb : 2 ≤ b) (h : IsForm b n e n' e') : n'.natAbs ≤ n.natAbs := by
  rcases h with ⟨_, rfl, _⟩ | ⟨_, f, h1, _, _⟩
  · simp
  · rw [h1, Int.natAbs_mul]
    exact Nat.le_mul_of_pos_right _ (by have := NM.pow_pos hb f; omega)
theorem form_eq {b : Int} (hb : 2 ≤ b) (hb2 : b ≤ 36) {n e : Int} {m : Nat} (hm : n.natAbs < 2 ^ m) (hm2 : m ≤ 900000) :
    ∃ n' e', IsForm b n e n' e' ∧ M_law_form [.int b, .int n, .int e] = .ok (.sh (.tup [.int n', .int e'])) := by
  unfold M_law_form
  rw [body_eq]
  obtain ⟨Γ', m', h1, ⟨n', e', f, rfl, hn, he, hn', hm'⟩, h3⟩ := whileM_inv (t := T_law_form_1) (b := B_law_form_1) (fun m' Γ => ∃ n' e', ∃ f : Nat, Γ = [.sh (.int b), .sh (.int n'), .sh (.int e')] ∧ n = n' * b ^ f ∧ e' = e + f ∧ n'.natAbs < 2 ^ m' ∧ m' ≤ m) (by
    rintro k Γ ⟨n', e', f, rfl, hn, he, hk, hkm⟩
    by_cases h0 : n' = 0
    · left; unfold T_law_form_1; simp [h0]
    · by_cases hd : n' % b = 0
      · right
        have dv : gDiv (.int n') (.int b) = some (.val (.int (n' / b))) := div_ok (a := 6) (by omega) (lt_pow (by omega) (by omega)) (by decide) (by decide)
        have e1 : b * (n' / b) = n' := by have := Int.mul_ediv_add_emod n' b; omega
        have e2 : b.natAbs * (n' / b).natAbs = n'.natAbs := by rw [← Int.natAbs_mul, e1]
        have e3 : 2 * (n' / b).natAbs ≤ n'.natAbs := by rw [← e2]; exact Nat.mul_le_mul_right _ (by omega)
        have hk0 : 0 < k := Nat.pos_of_ne_zero fun hk0 => by subst hk0; simp at hk; exact h0 hk
        obtain ⟨j, rfl⟩ : ∃ j, k = j + 1 := ⟨k - 1, by omega⟩
        rw [Nat.pow_succ] at hk
        have hz : n = n' / b * b ^ (f + 1) := by rw [hn, Int.pow_succ, Int.mul_comm (b ^ f) b, ← Int.mul_assoc, Int.mul_comm (n' / b) b, e1]
        refine ⟨by unfold T_law_form_1; simp [h0, hd, show 0 < b by omega], _, j, .inl ?_, by omega, n' / b, e' + 1, f + 1, rfl, hz, by omega, by omega, by omega⟩
        unfold B_law_form_1
        simp [dv]
      · left; unfold T_law_form_1; simp [h0, hd, show 0 < b by omega])
    1000000 m [.sh (.int b), .sh (.int n), .sh (.int e)] ⟨n, e, 0, rfl, by simp, by simp, hm, Nat.le_refl _⟩ (by omega)
  by_cases h0 : n' = 0
  · refine ⟨0, 0, .inl ⟨by rw [hn, h0]; simp, rfl, rfl⟩, ?_⟩
    simp [h1, h0]
  · have hnb : n' % b ≠ 0 := by
      intro hz
      unfold T_law_form_1 at h3
      simp [h0, hz, show 0 < b by omega] at h3
    refine ⟨n', e', .inr ⟨fun z => ?_, f, hn, hnb, he⟩, ?_⟩
    · rw [z] at hn
      have := NM.pow_pos hb f
      rcases Int.mul_eq_zero.mp hn.symm with h | h
      · exact h0 h
      · omega
    · simp [h1, h0]
def pws (b : Int) (J : Nat) : List D := (List.range (J + 1)).map fun i => .int (b ^ 2 ^ i)
theorem pws_len (b : Int) (J : Nat) : (pws b J).length = J + 1 := by simp [pws]
theorem pws_last (b : Int) (J : Nat) : gIx (.lst (pws b J)) (.int (-1)) = some (.val (.int (b ^ 2 ^ J))) := by
  rw [gIx_lst]
  unfold atI ixN
  rw [pws_len, if_neg (by decide), if_pos (by omega)]
  have : (-1 + ((J + 1 : Nat) : Int)).toNat = J := by omega
  rw [this]
  simp [pws]
theorem pws_succ (b : Int) (J : Nat) : pws b (J + 1) = pws b J ++ [.int (b ^ 2 ^ (J + 1))] := by
  unfold pws
  rw [List.range_succ, List.map_append]
  rfl
theorem pws_rev_get (b : Int) {J i : Nat} (h : i < J + 1) : (pws b J).reverse[i]? = some (.int (b ^ 2 ^ (J - i))) := by
  rw [List.getElem?_reverse (by rw [pws_len]; exact h), pws_len, show J + 1 - 1 - i = J - i by omega]
  unfold pws
  rw [List.getElem?_map, List.getElem?_range (by omega)]
  rfl
theorem sq_mul {b : Int} (h0 : 0 ≤ b) (hb : b ≤ 36) {J : Nat} (hJ : J ≤ 13) : gMul (.int (b ^ 2 ^ J)) (.int (b ^ 2 ^ J)) = some (.val (.int (b ^ 2 ^ (J + 1)))) := by
  have h1 : 2 ^ J ≤ 2 ^ 13 := Nat.pow_le_pow_right (by decide) hJ
  have h2 := NM.pow_small h0 hb (2 ^ J)
  rw [mul_ok h2 h2 (by omega) (by omega) (by omega), NM.sq_succ]
/-- what divides n is small -/
def Few (b n : Int) : Prop := ∀ k : Nat, n % b ^ k = 0 → (b ^ k).natAbs < 2 ^ 8900
theorem few_of {b n : Int} (h0 : n ≠ 0) (hn : n.natAbs < 2 ^ 8900) : Few b n := fun k hd =>
  Nat.lt_of_le_of_lt (Nat.le_of_dvd (by omega) (Int.natAbs_dvd_natAbs.mpr (Int.dvd_of_emod_eq_zero hd))) hn
theorem Few.exp {b n : Int} (hb : 2 ≤ b) (h : Few b n) {k : Nat} (hd : n % b ^ k = 0) : k < 8900 :=
  (Nat.pow_lt_pow_iff_right (a := 2) (by decide)).mp (Nat.lt_of_le_of_lt (NM.two_pow_le hb k) (h k hd))
theorem factors_turn {b : Int} (hb : 2 ≤ b) (hb2 : b ≤ 36) {n : Int} (hn : Few b n) (h0 : n ≠ 0) (ps : List D) {s : Int} {f j : Nat} (L : NM.Left b n s f (j + 1)) :
    ∃ s' f', NM.Left b n s' f' j ∧ B_without_factors_2 [.sh (.int b), .sh (.int s), .sh (.lst ps), .sh (.int (f : Int)), .sh (.int (b ^ 2 ^ j))] = .nx [.sh (.int b), .sh (.int s'), .sh (.lst ps), .sh (.int ((f' : Nat) : Int)), .sh (.int (b ^ 2 ^ j))] := by
  have q3 := NM.pow_pos hb (2 ^ j)
  have hs0 : s ≠ 0 := L.ne
  have hf : f < 8900 := by
    by_cases hf0 : f = 0
    · omega
    · have e : n % b ^ (f * 2 ^ (j + 1)) = 0 := by rw [L.eq]; exact Int.mul_emod_left _ _
      have := hn.exp hb e
      have h1 : f * 1 ≤ f * 2 ^ (j + 1) := Nat.mul_le_mul_left _ Nat.one_le_two_pow
      omega
  have m1 : gMulI (.int (f : Int)) (.int 2) = some (.val (.int ((f : Int) * 2))) := mulI_ok (a := 14) (b := 2) (lt_pow (by omega) (by omega)) (by decide) (by decide) (by decide) (by decide)
  unfold B_without_factors_2
  by_cases hd : s % b ^ 2 ^ j = 0
  · have hle : (b ^ 2 ^ j).natAbs < 2 ^ 8900 := by
      refine hn (2 ^ j) (Int.emod_eq_zero_of_dvd ?_)
      rw [L.eq]
      exact Int.dvd_trans (Int.dvd_of_emod_eq_zero hd) (Int.dvd_mul_right _ _)
    have dv : gDiv (.int s) (.int (b ^ 2 ^ j)) = some (.val (.int (s / b ^ 2 ^ j))) := div_ok q3 hle (by decide) (by decide)
    refine ⟨s / b ^ 2 ^ j, f * 2 + 1, L.take hb hd, ?_⟩
    generalize b ^ 2 ^ j = B at q3 hd dv
    simp [m1, q3, hd, dv]
  · refine ⟨s, f * 2, L.keep hd, ?_⟩
    generalize b ^ 2 ^ j = B at q3 hd
    simp [m1, q3, hd]
theorem factors_eq {b : Int} (hb : 2 ≤ b) (hb2 : b ≤ 36) {n : Int} (h0 : n ≠ 0) (hn : Few b n) :
    ∃ (s : Int) (f : Nat), n = s * b ^ f ∧ s % b ≠ 0 ∧ M_without_factors [.int b, .int n] = .ok (.sh (.tup [.int s, .int (f : Int)])) := by
  unfold M_without_factors
  rw [body_eq]
  obtain ⟨Γ', m', w1, ⟨J, rfl, hJ⟩, w3⟩ := whileM_inv (t := T_without_factors_1) (b := B_without_factors_1) (fun m Γ => ∃ J, Γ = [.sh (.int b), .sh (.int n), .own (pws b J), .un, .un] ∧ m + J = 13) (by
    rintro m Γ ⟨J, rfl, hm⟩
    have q1 := pws_last b J
    have q2 := sq_mul (by omega) hb2 (J := J) (by omega)
    have q3 := NM.pow_pos hb (2 ^ (J + 1))
    generalize hB : b ^ 2 ^ (J + 1) = B at q2 q3
    generalize b ^ 2 ^ J = A at q1 q2
    have ps := pws_succ b J
    rw [hB] at ps
    have pl := pws_len b J
    generalize pws b J = ps0 at q1 ps pl
    by_cases hd : n % B = 0
    · right
      have hx : 2 ^ (J + 1) < 8900 := hn.exp hb (by rw [hB]; exact hd)
      have hJ : J + 1 ≤ 13 := NM.lt_two_pow_13 hx
      have big : ps0.length < 1000000 := by omega
      refine ⟨by unfold T_without_factors_1; simp [q1, q2, q3, hd], _, m - 1, .inl ?_, by omega, J + 1, rfl, by omega⟩
      unfold B_without_factors_1
      simp [q1, q2, big, ps]
    · left
      unfold T_without_factors_1
      simp [q1, q2, q3, hd])
    1000000 13 [.sh (.int b), .sh (.int n), .own (pws b 0), .un, .un] ⟨0, rfl, rfl⟩ (by decide)
  have L0 : NM.Left b n n 0 (J + 1) := by
    refine ⟨by simp, fun hz => ?_⟩
    have q1 := pws_last b J
    have q2 := sq_mul (by omega) hb2 (J := J) (by omega)
    have q3 := NM.pow_pos hb (2 ^ (J + 1))
    unfold T_without_factors_1 at w3
    generalize b ^ 2 ^ (J + 1) = B at q2 q3 hz
    generalize b ^ 2 ^ J = A at q1 q2
    generalize pws b J = ps0 at q1 w3
    simp [q1, q2, q3, hz] at w3
  obtain ⟨Γ', e1, s, f, x4, rfl, L⟩ := forM_inv (g := bName 4) (b := B_without_factors_2) (fun k Γ => ∃ s, ∃ f : Nat, ∃ x4, Γ = [.sh (.int b), .sh (.int s), .sh (.lst (pws b J)), .sh (.int (f : Int)), x4] ∧ NM.Left b n s f (J + 1 - k))
    (pws b J).reverse 0 [.sh (.int b), .sh (.int n), .sh (.lst (pws b J)), .sh (.int 0), .un] ⟨n, 0, .un, rfl, L0⟩ (by
      rintro i x Γ hx ⟨s, f, x4, rfl, L⟩
      have hi : i < J + 1 := by
        have := (List.getElem?_eq_some_iff.mp hx).1
        rwa [List.length_reverse, pws_len] at this
      rw [pws_rev_get b hi] at hx
      cases hx
      rw [Nat.zero_add] at L ⊢
      rw [show J + 1 - i = J - i + 1 by omega] at L
      obtain ⟨s', f', L', e⟩ := factors_turn hb hb2 hn h0 (pws b J) L
      exact ⟨_, _, rfl, .inl e, s', f', .sh (.int (b ^ 2 ^ (J - i))), rfl, by rw [show J + 1 - (i + 1) = J - i by omega]; exact L'⟩)
  rw [Nat.zero_add, List.length_reverse, pws_len, Nat.sub_self] at L
  have b1 : b ^ 1 = b := by rw [Int.pow_succ, Int.pow_zero, Int.one_mul]
  refine ⟨s, f, by have := L.eq; simpa using this, by have := L.no; rw [Nat.pow_zero, b1] at this; exact this, ?_⟩
  have w1 : whileM T_without_factors_1 B_without_factors_1 1000000 [.sh (.int b), .sh (.int n), .own [.int b], .un, .un] = .nx [.sh (.int b), .sh (.int n), .own (pws b J), .un, .un] := by
    rw [← w1]; simp [pws, b1]
  generalize pws b J = ps at w1 e1
  simp [w1, e1, frz]
theorem form_of_few {b : Int} (hb : 2 ≤ b) (hb2 : b ≤ 36) {n : Int} (e : Int) (hn : n ≠ 0 → Few b n) :
    ∃ n' e', IsForm b n e n' e' ∧ M_form_of [.int b, .int n, .int e] = .ok (.sh (.tup [.int n', .int e'])) := by
  unfold M_form_of
  rw [body_eq]
  by_cases h0 : n = 0
  · exact ⟨0, 0, .inl ⟨h0, rfl, rfl⟩, by simp [h0]⟩
  · obtain ⟨s, f, h1, h2, h3⟩ := factors_eq hb hb2 h0 (hn h0)
    exact ⟨s, e + f, .inr ⟨h0, f, h1, h2, rfl⟩, by simp [h0, h3]⟩
end PM
namespace NR
/-- the worth of a place -/
def W (b e : Int) : Rat := (b : Rat) ^ e
section
variable {b : Int} (hb : 2 ≤ b)
include hb
theorem cast_ne : (b : Rat) ≠ 0 := fun h => by
  have : b = 0 := by exact_mod_cast h
  omega
theorem W_add (i j : Int) : W b (i + j) = W b i * W b j := Rat.zpow_add (cast_ne hb) i j
theorem W_pos (e : Int) : 0 < W b e := Rat.zpow_pos (by exact_mod_cast (show (0 : Int) < b by omega))
theorem W_ne (e : Int) : W b e ≠ 0 := Rat.ne_of_gt (W_pos hb e)
end
theorem W_zero (b : Int) : W b 0 = 1 := Rat.zpow_zero _
theorem W_nat (b : Int) (n : Nat) : W b n = ((b ^ n : Int) : Rat) := by
  unfold W
  rw [Rat.zpow_natCast]
  simp
theorem W_one (b : Int) : W b 1 = b := by
  have := W_nat b 1
  simpa using this
theorem W_toNat (b : Int) {e : Int} (h : 0 ≤ e) : W b e = ((b ^ e.toNat : Int) : Rat) := by
  rw [← W_nat, Int.toNat_of_nonneg h]
/-- n and e are the form of the value v -/
def Is (b : Int) (v : Rat) (n e : Int) : Prop := v = n * W b e ∧ (n % b ≠ 0 ∨ (n = 0 ∧ e = 0))
theorem mul_W_eq {b : Int} (hb : 2 ≤ b) {n m e f : Int} (h : (n : Rat) * W b e = m * W b f) (hf : f ≤ e) : m = n * b ^ (e - f).toNat := by
  have h1 : W b e = W b (e - f) * W b f := by rw [← W_add hb]; congr 1; omega
  rw [h1, W_toNat b (by omega), ← Rat.mul_assoc] at h
  have h3 := W_ne hb f
  have h2 : (n : Rat) * ((b ^ (e - f).toNat : Int) : Rat) = m := by
    generalize (n : Rat) * ((b ^ (e - f).toNat : Int) : Rat) = x at h ⊢
    generalize W b f = w at h h3
    grind
  exact_mod_cast h2.symm
theorem Is.one {b : Int} (hb : 2 ≤ b) {v : Rat} {n e m f : Int} (h : Is b v n e) (g : Is b v m f) : n = m ∧ e = f := by
  obtain ⟨h1, h2⟩ := h
  obtain ⟨g1, g2⟩ := g
  have key : ∀ {n e m f : Int}, (n : Rat) * W b e = m * W b f → f ≤ e → (n % b ≠ 0 ∨ (n = 0 ∧ e = 0)) → (m % b ≠ 0 ∨ (m = 0 ∧ f = 0)) → n = m ∧ e = f := by
    intro n e m f q hf hn hm
    have e1 := mul_W_eq hb q hf
    by_cases hz : n = 0
    · subst hz
      rw [Int.zero_mul] at e1
      subst e1
      rcases hn with hn | hn
      · simp at hn
      · rcases hm with hm | hm
        · simp at hm
        · exact ⟨rfl, by omega⟩
    · by_cases hd : e = f
      · subst hd
        rw [Int.sub_self] at e1
        simp at e1
        exact ⟨e1.symm, rfl⟩
      · exfalso
        obtain ⟨k, hk⟩ : ∃ k, (e - f).toNat = k + 1 := ⟨(e - f).toNat - 1, by omega⟩
        rw [hk, Int.pow_succ, ← Int.mul_assoc] at e1
        rcases hm with hm | ⟨hm, _⟩
        · exact hm (by rw [e1]; exact Int.mul_emod_left _ _)
        · rw [hm] at e1
          have hp : 0 < b ^ k := Int.pow_pos (by omega)
          rcases Int.mul_eq_zero.mp e1.symm with h | h
          · rcases Int.mul_eq_zero.mp h with h | h
            · exact hz h
            · omega
          · omega
  have q := h1.symm.trans g1
  rcases Int.le_total f e with l | l
  · exact key q l h2 g2
  · obtain ⟨a, c⟩ := key q.symm l g2 h2
    exact ⟨a.symm, c.symm⟩
open Classical in
noncomputable def pick (b : Int) (v : Rat) : Int × Int := if h : ∃ p : Int × Int, Is b v p.1 p.2 then choose h else (0, 0)
/-- the numerator and the exponent of a value -/
noncomputable def nm (b : Int) (v : Rat) : Int := (pick b v).1
noncomputable def ex (b : Int) (v : Rat) : Int := (pick b v).2
theorem pick_of {b : Int} {v : Rat} {n e : Int} (h : Is b v n e) : Is b v (nm b v) (ex b v) := by
  unfold nm ex pick
  rw [dif_pos ⟨(n, e), h⟩]
  exact Classical.choose_spec (p := fun p : Int × Int => Is b v p.1 p.2) ⟨(n, e), h⟩
theorem Is.eq {b : Int} (hb : 2 ≤ b) {v : Rat} {n e : Int} (h : Is b v n e) : n = nm b v ∧ e = ex b v := h.one hb (pick_of h)
/-- a value that has a form -/
def Dy (b : Int) (v : Rat) : Prop := ∃ n e : Int, v = n * W b e
theorem has_form {b : Int} (hb : 2 ≤ b) : ∀ (k : Nat) (n e : Int), n.natAbs ≤ k → ∃ m f, Is b (n * W b e) m f ∧ m.natAbs ≤ n.natAbs ∧ (n ≠ 0 → e ≤ f)
  | 0, n, e, h => by
    obtain rfl : n = 0 := by omega
    exact ⟨0, 0, ⟨by rw [show ((0 : Int) : Rat) = 0 from rfl, Rat.zero_mul, Rat.zero_mul], .inr ⟨rfl, rfl⟩⟩, Nat.le_refl _, fun h => absurd rfl h⟩
  | k + 1, n, e, h => by
    by_cases h0 : n = 0
    · subst h0
      exact ⟨0, 0, ⟨by rw [show ((0 : Int) : Rat) = 0 from rfl, Rat.zero_mul, Rat.zero_mul], .inr ⟨rfl, rfl⟩⟩, Nat.le_refl _, fun h => absurd rfl h⟩
    by_cases hd : n % b = 0
    · have e1 : b * (n / b) = n := by have := Int.mul_ediv_add_emod n b; omega
      have e2 : b.natAbs * (n / b).natAbs = n.natAbs := by rw [← Int.natAbs_mul, e1]
      have e3 : 2 * (n / b).natAbs ≤ n.natAbs := by rw [← e2]; exact Nat.mul_le_mul_right _ (by omega)
      obtain ⟨m, f, h1, h2, h3⟩ := has_form hb k (n / b) (e + 1) (by omega)
      refine ⟨m, f, ?_, by omega, fun _ => ?_⟩
      · have : (n : Rat) * W b e = ((n / b : Int) : Rat) * W b (e + 1) := by
          rw [W_add hb, W_one]
          have e4 : (n : Rat) = (b : Rat) * ((n / b : Int) : Rat) := by exact_mod_cast e1.symm
          rw [e4]
          generalize ((n / b : Int) : Rat) = q
          generalize W b e = w
          grind
        rw [this]; exact h1
      · have : n / b ≠ 0 := fun z => by rw [z] at e1; omega
        have := h3 this
        omega
    · exact ⟨n, e, ⟨rfl, .inl hd⟩, Nat.le_refl _, fun _ => Int.le_refl _⟩
section
variable {b : Int} (hb : 2 ≤ b)
include hb
theorem Dy.is {v : Rat} (h : Dy b v) : Is b v (nm b v) (ex b v) := by
  obtain ⟨n, e, rfl⟩ := h
  obtain ⟨m, f, h1, _⟩ := has_form hb n.natAbs n e (Nat.le_refl _)
  exact pick_of h1
theorem Dy.eq {v : Rat} (h : Dy b v) : (nm b v : Rat) * W b (ex b v) = v := ((h.is hb).1).symm
theorem nm_le {n e : Int} : (nm b (n * W b e)).natAbs ≤ n.natAbs := by
  obtain ⟨m, f, h1, h2, _⟩ := has_form hb n.natAbs n e (Nat.le_refl _)
  rw [← (h1.eq hb).1]; exact h2
theorem ex_ge {n e : Int} (h0 : n ≠ 0) : e ≤ ex b (n * W b e) := by
  obtain ⟨m, f, h1, _, h3⟩ := has_form hb n.natAbs n e (Nat.le_refl _)
  rw [← (h1.eq hb).2]; exact h3 h0
theorem nm_zero : nm b 0 = 0 := by
  have h : Is b 0 0 0 := ⟨by rw [show ((0 : Int) : Rat) = 0 from rfl, Rat.zero_mul], .inr ⟨rfl, rfl⟩⟩
  exact (h.eq hb).1.symm
theorem ex_zero : ex b 0 = 0 := by
  have h : Is b 0 0 0 := ⟨by rw [show ((0 : Int) : Rat) = 0 from rfl, Rat.zero_mul], .inr ⟨rfl, rfl⟩⟩
  exact (h.eq hb).2.symm
theorem Dy.add {v w : Rat} (h : Dy b v) (g : Dy b w) : Dy b (v + w) := by
  obtain ⟨n, e, rfl⟩ := h
  obtain ⟨m, f, rfl⟩ := g
  have key : ∀ lo, lo ≤ e → lo ≤ f → (n : Rat) * W b e + m * W b f = ((n * b ^ (e - lo).toNat + m * b ^ (f - lo).toNat : Int) : Rat) * W b lo := by
    intro lo h1 h2
    rw [show W b e = W b (e - lo) * W b lo by rw [← W_add hb]; congr 1; omega, show W b f = W b (f - lo) * W b lo by rw [← W_add hb]; congr 1; omega, W_toNat b (show 0 ≤ e - lo by omega), W_toNat b (show 0 ≤ f - lo by omega)]
    rw [Rat.intCast_add, Rat.intCast_mul, Rat.intCast_mul]
    grind
  exact ⟨_, _, key (min e f) (Int.min_le_left _ _) (Int.min_le_right _ _)⟩
theorem Dy.int (n : Int) : Dy b n := ⟨n, 0, by rw [W_zero, Rat.mul_one]⟩
theorem Dy.w (e : Int) : Dy b (W b e) := ⟨1, e, by rw [show ((1 : Int) : Rat) = 1 from rfl, Rat.one_mul]⟩
theorem Dy.neg {v : Rat} (h : Dy b v) : Dy b (-v) := by
  obtain ⟨n, e, rfl⟩ := h
  exact ⟨-n, e, by rw [Rat.intCast_neg]; grind⟩
theorem Dy.sub {v w : Rat} (h : Dy b v) (g : Dy b w) : Dy b (v - w) := by
  rw [Rat.sub_eq_add_neg]; exact h.add hb (g.neg hb)
end
end NR
namespace PM
open PySem L2 GL DL NR
/-- the data of a value -/
noncomputable def numD (b : Int) (v : Rat) : D := .tup [.int (nm b v), .int (ex b v)]
theorem IsForm.is {b n e n' e' : Int} (hb : 2 ≤ b) (h : IsForm b n e n' e') : Is b (n * W b e) n' e' := by
  rcases h with ⟨rfl, rfl, rfl⟩ | ⟨h0, f, h1, h2, rfl⟩
  · exact ⟨by rw [show ((0 : Int) : Rat) = 0 from rfl, Rat.zero_mul, Rat.zero_mul], .inr ⟨rfl, rfl⟩⟩
  · refine ⟨?_, .inl h2⟩
    rw [W_add hb, W_nat, h1, Rat.intCast_mul]
    grind
theorem IsForm.num {b n e n' e' : Int} (hb : 2 ≤ b) (h : IsForm b n e n' e') : n' = nm b (n * W b e) ∧ e' = ex b (n * W b e) := (h.is hb).eq hb
theorem law_form_val {b : Int} (hb : 2 ≤ b) (hb2 : b ≤ 36) {n : Int} (e : Int) {m : Nat} (hm : n.natAbs < 2 ^ m) (hm2 : m ≤ 900000) : M_law_form [.int b, .int n, .int e] = .ok (.sh (numD b (n * W b e))) := by
  obtain ⟨n', e', h1, h2⟩ := form_eq hb hb2 (e := e) hm hm2
  obtain ⟨rfl, rfl⟩ := h1.num hb
  exact h2
theorem form_of_val {b : Int} (hb : 2 ≤ b) (hb2 : b ≤ 36) {n : Int} (e : Int) (hn : n ≠ 0 → Few b n) : M_form_of [.int b, .int n, .int e] = .ok (.sh (numD b (n * W b e))) := by
  obtain ⟨n', e', h1, h2⟩ := form_of_few hb hb2 e hn
  obtain ⟨rfl, rfl⟩ := h1.num hb
  exact h2
abbrev Am := List (Int × Int)
def kA (am : Am) : List Key := am.map fun p => .inl p.1
def xA (am : Am) : List D := am.map fun p => .int p.2
def getA : Am → Int → Option Int
  | [], _ => none
  | (k, a) :: r, e => if k = e then some a else getA r e
def putA : Am → Int → Int → Am
  | [], e, n => [(e, n)]
  | (k, a) :: r, e, n => if k = e then (k, a + n) :: r else (k, a) :: putA r e n
abbrev hasA (am : Am) (e : Int) : Prop := e ∈ am.map (·.1)
def soleA (am : Am) : Prop := (am.map (·.1)).Nodup
def valA (b : Int) (am : Am) : Rat := (am.map fun p => (p.2 : Rat) * W b p.1).sum
def absA (am : Am) : Nat := (am.map fun p => p.2.natAbs).sum
theorem dVal_am (e : Int) : ∀ am : Am, dVal (kA am) (xA am) (.inl e) = (getA am e).map .int
  | [] => rfl
  | (k, a) :: r => by
    have ih := dVal_am e r
    show dVal (Sum.inl k :: kA r) (.int a :: xA r) (.inl e) = _
    by_cases h : k = e
    · simp [dVal, getA, h]
    · have h2 : ¬ ((Sum.inl k : Key) = Sum.inl e) := fun z => h (Sum.inl.inj z)
      simp only [dVal, getA, if_neg h, if_neg h2, ih]
theorem getA_none {e : Int} : ∀ {am : Am}, ¬ hasA am e → getA am e = none
  | [], _ => rfl
  | (k, a) :: r, h => by
    unfold hasA at h
    simp only [List.map_cons, List.mem_cons, not_or] at h
    rw [getA, if_neg (fun z => h.1 z.symm)]
    exact getA_none h.2
theorem dSet_not {e : Int} {d : D} : ∀ {am : Am}, ¬ hasA am e → dSet (kA am) (xA am) (.inl e) d = xA am
  | [], _ => rfl
  | (k, a) :: r, h => by
    unfold hasA at h
    simp only [List.map_cons, List.mem_cons, not_or] at h
    have h2 : ¬ ((Sum.inl k : Key) = Sum.inl e) := fun z => h.1 (Sum.inl.inj z).symm
    show (if (Sum.inl k : Key) = Sum.inl e then d else .int a) :: dSet (kA r) (xA r) (.inl e) d = _
    rw [if_neg h2, dSet_not h.2]; rfl
theorem dSet_am {e n : Int} : ∀ {am : Am}, soleA am → hasA am e → dSet (kA am) (xA am) (.inl e) (.int ((getA am e).getD 0 + n)) = xA (putA am e n) ∧ kA (putA am e n) = kA am
  | [], _, h => by cases h
  | (k, a) :: r, s, h => by
    unfold soleA at s
    simp only [List.map_cons, List.nodup_cons] at s
    by_cases hk : k = e
    · subst hk
      have := dSet_not (am := r) (e := k) (d := .int (a + n)) s.1
      rw [getA, putA, if_pos rfl, if_pos rfl]
      refine ⟨?_, rfl⟩
      show (if (Sum.inl k : Key) = Sum.inl k then D.int ((some a).getD 0 + n) else .int a) :: dSet (kA r) (xA r) (.inl k) (D.int ((some a).getD 0 + n)) = _
      rw [if_pos rfl]
      show D.int (a + n) :: dSet (kA r) (xA r) (.inl k) (.int (a + n)) = _
      rw [this]; rfl
    · have h2 : ¬ ((Sum.inl k : Key) = Sum.inl e) := fun z => hk (Sum.inl.inj z)
      have hr : hasA r e := by
        rcases List.mem_cons.mp h with z | z
        · exact absurd z.symm hk
        · exact z
      obtain ⟨i1, i2⟩ := dSet_am (n := n) (am := r) s.2 hr
      rw [getA, putA, if_neg hk, if_neg hk]
      refine ⟨?_, ?_⟩
      · show (if (Sum.inl k : Key) = Sum.inl e then D.int ((getA r e).getD 0 + n) else .int a) :: dSet (kA r) (xA r) (.inl e) (D.int ((getA r e).getD 0 + n)) = _
        rw [if_neg h2, i1]; rfl
      · show Sum.inl k :: kA (putA r e n) = _
        rw [i2]; rfl
theorem putA_not {e n : Int} : ∀ {am : Am}, ¬ hasA am e → putA am e n = am ++ [(e, n)]
  | [], _ => rfl
  | (k, a) :: r, h => by
    unfold hasA at h
    simp only [List.map_cons, List.mem_cons, not_or] at h
    rw [putA, if_neg (fun z => h.1 z.symm), putA_not h.2]; rfl
theorem dPut_am {am : Am} (s : soleA am) (e n : Int) : dPut (kA am) (xA am) (.inl e) (.int ((getA am e).getD 0 + n)) = (kA (putA am e n), xA (putA am e n)) := by
  unfold dPut
  have ha : ((kA am).any fun j => decide (j = .inl e)) = decide (hasA am e) := by
    rw [Bool.eq_iff_iff, List.any_eq_true, decide_eq_true_iff]
    unfold kA hasA
    simp only [List.mem_map, decide_eq_true_iff]
    constructor
    · rintro ⟨x, ⟨p, hp, rfl⟩, h⟩
      exact ⟨p, hp, Sum.inl.inj h⟩
    · rintro ⟨p, hp, h⟩
      exact ⟨_, ⟨p, hp, rfl⟩, by rw [h]⟩
  rw [ha]
  by_cases h : hasA am e
  · obtain ⟨h1, h2⟩ := dSet_am (n := n) s h
    rw [if_pos (decide_eq_true h), h1, h2]
  · rw [if_neg (by simpa using h), putA_not h, getA_none h]
    show (kA am ++ [.inl e], xA am ++ [.int (0 + n)]) = _
    rw [Int.zero_add]
    simp [kA, xA]
theorem putA_keys {e n x : Int} : ∀ {am : Am}, hasA (putA am e n) x → x = e ∨ hasA am x
  | [], h => by
    unfold hasA putA at h
    simp at h
    exact .inl h
  | (k, a) :: r, h => by
    rw [putA] at h
    split at h
    · exact .inr h
    · rcases List.mem_cons.mp h with h | h
      · exact .inr (List.mem_cons.mpr (.inl h))
      · rcases putA_keys (am := r) h with h | h
        · exact .inl h
        · exact .inr (List.mem_cons_of_mem _ h)
theorem putA_sole {e n : Int} : ∀ {am : Am}, soleA am → soleA (putA am e n)
  | [], _ => by simp [putA, soleA]
  | (k, a) :: r, s => by
    unfold soleA at s
    simp only [List.map_cons, List.nodup_cons] at s
    rw [putA]
    split
    · exact List.nodup_cons.mpr s
    · rename_i h
      refine List.nodup_cons.mpr ⟨fun z => ?_, putA_sole (am := r) s.2⟩
      rcases putA_keys z with z | z
      · exact h z
      · exact s.1 z
theorem putA_val {b e n : Int} : ∀ (am : Am), valA b (putA am e n) = valA b am + n * W b e
  | [] => by simp [putA, valA, Rat.add_comm]
  | (k, a) :: r => by
    have ih := putA_val (b := b) (e := e) (n := n) r
    unfold valA at ih ⊢
    rw [putA]
    split
    · rename_i h
      subst h
      simp only [List.map_cons, List.sum_cons, Rat.intCast_add]
      grind
    · simp only [List.map_cons, List.sum_cons, ih]
      grind
theorem putA_abs {e n : Int} : ∀ (am : Am), absA (putA am e n) ≤ absA am + n.natAbs
  | [] => by simp [putA, absA]
  | (k, a) :: r => by
    have ih := putA_abs (e := e) (n := n) r
    unfold absA at ih ⊢
    rw [putA]
    split
    · simp only [List.map_cons, List.sum_cons]
      omega
    · simp only [List.map_cons, List.sum_cons]
      omega
theorem putA_len {e n : Int} : ∀ (am : Am), (putA am e n).length ≤ am.length + 1
  | [] => by simp [putA]
  | (k, a) :: r => by
    have ih := putA_len (e := e) (n := n) r
    rw [putA]
    split
    · simp
    · simp only [List.length_cons]; omega
/-- parts: (numerator, exponent) -/
abbrev Pt := Int × Int
def ptD (p : Pt) : D := .tup [.int p.1, .int p.2]
def accA (am : Am) (p : Pt) : Am := if p.1 = 0 then am else putA am p.2 p.1
def valP (b : Int) (ps : List Pt) : Rat := (ps.map fun p => (p.1 : Rat) * W b p.2).sum
def absP (ps : List Pt) : Nat := (ps.map fun p => p.1.natAbs).sum
theorem sum_loop1 (B P : D) : ∀ (ps : List Pt) (am : Am) (x3 x4 : DL.Slot), soleA am → am.length + ps.length < 1000000 →
    ∃ y3 y4, DL.forM (bOfTup [(bName 3), (bName 4)]) B_sum_of_1 (ps.map ptD) [.sh B, .sh P, .ownD (kA am) (xA am), x3, x4, .un, .un] = .nx [.sh B, .sh P, .ownD (kA (ps.foldl accA am)) (xA (ps.foldl accA am)), y3, y4, .un, .un]
  | [], am, x3, x4, s, h => ⟨x3, x4, rfl⟩
  | (n, e) :: ps, am, x3, x4, s, h => by
    simp only [List.length_cons] at h
    have hl : (kA am).length = am.length := by simp [kA]
    have hlt : (kA am).length < 1000000 := by omega
    have e2 := dVal_am e am
    have e3 := dPut_am s e n
    have fc := forM_cons (bOfTup [(bName 3), (bName 4)]) B_sum_of_1 (ptD (n, e)) (ps.map ptD) [.sh B, .sh P, .ownD (kA am) (xA am), x3, x4, .un, .un] [.sh B, .sh P, .ownD (kA am) (xA am), .sh (.int n), .sh (.int e), .un, .un] rfl
    rw [List.foldl_cons]
    by_cases h0 : n = 0
    · subst h0
      have e1 : accA am (0, e) = am := rfl
      rw [e1]
      obtain ⟨y3, y4, q⟩ := sum_loop1 B P ps am (.sh (.int 0)) (.sh (.int e)) s (by omega)
      have hb : B_sum_of_1 [.sh B, .sh P, .ownD (kA am) (xA am), .sh (.int 0), .sh (.int e), .un, .un] = .nx [.sh B, .sh P, .ownD (kA am) (xA am), .sh (.int 0), .sh (.int e), .un, .un] := by
        unfold B_sum_of_1; simp
      rw [hb] at fc
      exact ⟨y3, y4, fc.trans q⟩
    · have e1 : accA am (n, e) = putA am e n := by simp [accA, h0]
      rw [e1]
      have hp := putA_len (e := e) (n := n) am
      obtain ⟨y3, y4, q⟩ := sum_loop1 B P ps (putA am e n) (.sh (.int n)) (.sh (.int e)) (putA_sole s) (by omega)
      have hb : B_sum_of_1 [.sh B, .sh P, .ownD (kA am) (xA am), .sh (.int n), .sh (.int e), .un, .un] = .nx [.sh B, .sh P, .ownD (kA (putA am e n)) (xA (putA am e n)), .sh (.int n), .sh (.int e), .un, .un] := by
        clear fc q
        generalize kA am = ks at *
        generalize xA am = xs at *
        generalize kA (putA am e n) = ks2 at *
        generalize xA (putA am e n) = xs2 at *
        unfold B_sum_of_1
        cases hg : getA am e with
        | none =>
          rw [hg] at e2 e3
          simp at e3
          simp [mPutD, eDGet2, keyD, e2, e3, h0, hlt]
        | some a =>
          rw [hg] at e2 e3
          simp at e3
          simp [mPutD, eDGet2, keyD, e2, e3, h0, hlt]
      rw [hb] at fc
      exact ⟨y3, y4, fc.trans q⟩
end PM
namespace PM
open PySem L2 GL DL NR
theorem pow36 {b : Int} (hb0 : 0 ≤ b) (hb : b ≤ 36) (c : Nat) : (b ^ c).natAbs ≤ 36 ^ c := by
  rw [NM.natAbs_pow]
  exact Nat.pow_le_pow_left (by omega) c
theorem pow36_lt (c : Nat) : 36 ^ c ≤ 2 ^ (6 * c) := by
  rw [show 2 ^ (6 * c) = (2 ^ 6) ^ c from Nat.pow_mul 2 6 c]
  exact Nat.pow_le_pow_left (by decide) c
/-- what the sum has so far -/
theorem sum_loop2 {b : Int} (hb : 2 ≤ b) (hb2 : b ≤ 36) (P : D) (am : Am) {S D : Nat} {top : Int} (hS : S * 36 ^ D < 2 ^ 80000) (hD : D < 10000) : ∀ (ys : List Int) (place total : Int) (s : Nat) (x3 x4 : DL.Slot),
    (∀ y ∈ ys, hasA am y ∧ y ≤ place ∧ top - y ≤ D) → place ≤ top → ys.Pairwise (· ≥ ·) → total.natAbs ≤ s * 36 ^ (top - place).toNat → s + (ys.map fun y => ((getA am y).getD 0).natAbs).sum ≤ S → top - place ≤ D →
    ∃ place' total' x4', DL.forM (bName 4) B_sum_of_2 (ys.map .int) [.sh (.int b), .sh P, .ownD (kA am) (xA am), x3, x4, .sh (.int place), .sh (.int total)] = .nx [.sh (.int b), .sh P, .ownD (kA am) (xA am), x3, x4', .sh (.int place'), .sh (.int total')] ∧
      (total' : Rat) * W b place' = total * W b place + (ys.map fun y => (((getA am y).getD 0 : Int) : Rat) * W b y).sum ∧ (place' = place ∨ place' ∈ ys)
  | [], place, total, s, x3, x4, _, _, _, ht, hs, hd => by
    exact ⟨place, total, x4, rfl, by simp [Rat.add_zero], .inl rfl⟩
  | y :: ys, place, total, s, x3, x4, hy, hp, hw, ht, hs, hd => by
    obtain ⟨h1, h2, h3⟩ := hy y List.mem_cons_self
    rw [List.pairwise_cons] at hw
    have hg := dVal_am y am
    obtain ⟨a, ha⟩ : ∃ a, getA am y = some a := by
      clear hg hs ht hy
      induction am with
      | nil => cases h1
      | cons p r ih =>
        obtain ⟨k, a⟩ := p
        rw [getA]
        split
        · exact ⟨a, rfl⟩
        · rename_i hk
          rcases List.mem_cons.mp h1 with z | z
          · exact absurd z.symm hk
          · exact ih z
    rw [ha] at hg
    obtain ⟨c, hc, hc2⟩ : ∃ c : Nat, place - y = (c : Int) ∧ c ≤ D := ⟨(place - y).toNat, by omega, by omega⟩
    have pw := power_of_eq (b := b) (by omega) hb2 (c := c) (by omega)
    have htS : total.natAbs < 2 ^ 80000 := Nat.lt_of_le_of_lt ht (Nat.lt_of_le_of_lt (Nat.mul_le_mul (show s ≤ S by simp only [List.map_cons, List.sum_cons] at hs; omega) (Nat.pow_le_pow_right (by decide) (by omega))) hS)
    have m1 : gMul (.int total) (.int (b ^ c)) = some (.val (.int (total * b ^ c))) := mul_ok htS (NM.pow_small (by omega) hb2 c) (by decide) (by omega) (by omega)
    simp only [List.map_cons, List.sum_cons, ha, Option.getD_some] at hs ⊢
    have hb3 : (total * b ^ c + a).natAbs ≤ (s + a.natAbs) * 36 ^ (top - y).toNat := by
      have e1 : (top - y).toNat = (top - place).toNat + c := by omega
      have e2 : (total * b ^ c).natAbs ≤ s * 36 ^ (top - y).toNat := by
        rw [Int.natAbs_mul, e1, Nat.pow_add, ← Nat.mul_assoc]
        exact Nat.mul_le_mul ht (pow36 (by omega) hb2 c)
      have e3 : a.natAbs ≤ a.natAbs * 36 ^ (top - y).toNat := Nat.le_mul_of_pos_right _ (Nat.pow_pos (by decide))
      rw [Nat.add_mul]
      omega
    obtain ⟨p', t', x', q1, q2, q3⟩ := sum_loop2 hb hb2 P am hS hD ys y (total * b ^ c + a) (s + a.natAbs) x3 (.sh (.int y)) (fun z hz => ⟨(hy z (List.mem_cons_of_mem _ hz)).1, hw.1 z hz, (hy z (List.mem_cons_of_mem _ hz)).2.2⟩) (by omega) hw.2 hb3 (by omega) h3
    refine ⟨p', t', x', ?_, ?_, .inr (by rcases q3 with q3 | q3; · rw [q3]; exact List.mem_cons_self
                                         · exact List.mem_cons_of_mem _ q3)⟩
    · have fc := forM_cons (bName 4) B_sum_of_2 (.int y) (ys.map .int) [.sh (.int b), .sh P, .ownD (kA am) (xA am), x3, x4, .sh (.int place), .sh (.int total)] [.sh (.int b), .sh P, .ownD (kA am) (xA am), x3, .sh (.int y), .sh (.int place), .sh (.int total)] rfl
      have hb : B_sum_of_2 [.sh (.int b), .sh P, .ownD (kA am) (xA am), x3, .sh (.int y), .sh (.int place), .sh (.int total)] = .nx [.sh (.int b), .sh P, .ownD (kA am) (xA am), x3, .sh (.int y), .sh (.int y), .sh (.int (total * b ^ c + a))] := by
        clear fc q1
        generalize kA am = ks at *
        generalize xA am = xs at *
        unfold B_sum_of_2
        simp [hc, pw, m1, eDGet, keyD, hg]
      rw [hb] at fc
      exact fc.trans q1
    · rw [q2]
      have e1 : W b place = W b c * W b y := by rw [← W_add hb]; congr 1; omega
      rw [e1, W_nat, Rat.intCast_add, Rat.intCast_mul]
      grind
theorem acc_sole : ∀ (ps : List Pt) (am : Am), soleA am → soleA (ps.foldl accA am)
  | [], am, s => s
  | p :: ps, am, s => acc_sole ps _ (by unfold accA; split; exact s; exact putA_sole s)
theorem acc_val {b : Int} : ∀ (ps : List Pt) (am : Am), valA b (ps.foldl accA am) = valA b am + valP b ps
  | [], am => by simp [valP, Rat.add_zero]
  | p :: ps, am => by
    rw [List.foldl_cons, acc_val ps]
    unfold accA
    split
    · rename_i h
      simp [valP, h, Rat.zero_add]
    · rw [putA_val]
      simp only [valP, List.map_cons, List.sum_cons]
      grind
theorem acc_abs : ∀ (ps : List Pt) (am : Am), absA (ps.foldl accA am) ≤ absA am + absP ps
  | [], am => by simp [absP]
  | p :: ps, am => by
    rw [List.foldl_cons]
    have h1 := acc_abs ps (accA am p)
    have h2 : absA (accA am p) ≤ absA am + p.1.natAbs := by
      unfold accA; split
      · omega
      · exact putA_abs _
    simp only [absP, List.map_cons, List.sum_cons] at h1 ⊢
    omega
theorem acc_len : ∀ (ps : List Pt) (am : Am), (ps.foldl accA am).length ≤ am.length + ps.length
  | [], am => by simp
  | p :: ps, am => by
    rw [List.foldl_cons]
    have h1 := acc_len ps (accA am p)
    have h2 : (accA am p).length ≤ am.length + 1 := by
      unfold accA; split
      · omega
      · exact putA_len _
    simp only [List.length_cons]
    omega
theorem acc_keys {x : Int} : ∀ (ps : List Pt) (am : Am), hasA (ps.foldl accA am) x → hasA am x ∨ ∃ p ∈ ps, p.1 ≠ 0 ∧ p.2 = x
  | [], am, h => .inl h
  | p :: ps, am, h => by
    rcases acc_keys ps _ h with h | ⟨q, h1, h2⟩
    · unfold accA at h
      split at h
      · exact .inl h
      · rename_i h0
        rcases putA_keys h with h | h
        · exact .inr ⟨p, List.mem_cons_self, h0, h.symm⟩
        · exact .inl h
    · exact .inr ⟨q, List.mem_cons_of_mem _ h1, h2⟩
theorem sum_perm_rat {α : Type} (f : α → Rat) {xs ys : List α} (h : xs.Perm ys) : (xs.map f).sum = (ys.map f).sum := by
  induction h with
  | nil => rfl
  | cons x _ ih => simp only [List.map_cons, List.sum_cons, ih]
  | swap x y l => simp only [List.map_cons, List.sum_cons]; grind
  | trans _ _ h1 h2 => exact h1.trans h2
theorem sum_perm_nat {α : Type} (f : α → Nat) {xs ys : List α} (h : xs.Perm ys) : (xs.map f).sum = (ys.map f).sum := by
  induction h with
  | nil => rfl
  | cons x _ ih => simp only [List.map_cons, List.sum_cons, ih]
  | swap x y l => simp only [List.map_cons, List.sum_cons]; omega
  | trans _ _ h1 h2 => exact h1.trans h2
theorem get_head {k a : Int} {r : Am} : getA ((k, a) :: r) k = some a := by rw [getA, if_pos rfl]
theorem get_tail {k a e : Int} {r : Am} (s : soleA ((k, a) :: r)) (h : e ∈ r.map (·.1)) : getA ((k, a) :: r) e = getA r e := by
  unfold soleA at s
  simp only [List.map_cons, List.nodup_cons] at s
  rw [getA, if_neg (fun z => s.1 (by rw [z]; exact h))]
theorem vals_get {b : Int} : ∀ {am : Am}, soleA am → ((am.map (·.1)).map fun y => (((getA am y).getD 0 : Int) : Rat) * W b y).sum = valA b am
  | [], _ => rfl
  | (k, a) :: r, s => by
    have ih := vals_get (b := b) (am := r) (by unfold soleA at s ⊢; exact (List.nodup_cons.mp s).2)
    unfold valA at ih ⊢
    simp only [List.map_cons, List.sum_cons, get_head, Option.getD_some]
    rw [← ih]
    congr 2
    exact List.map_congr_left fun y hy => by rw [get_tail s hy]
theorem abs_get : ∀ {am : Am}, soleA am → ((am.map (·.1)).map fun y => ((getA am y).getD 0).natAbs).sum = absA am
  | [], _ => rfl
  | (k, a) :: r, s => by
    have ih := abs_get (am := r) (by unfold soleA at s ⊢; exact (List.nodup_cons.mp s).2)
    unfold absA at ih ⊢
    simp only [List.map_cons, List.sum_cons, get_head, Option.getD_some]
    rw [← ih]
    congr 2
    exact List.map_congr_left fun y hy => by rw [get_tail s hy]
theorem intsK_kA (am : Am) : intsK (kA am) = some (am.map (·.1)) := by
  induction am with
  | nil => rfl
  | cons p r ih =>
    show (intsK (kA r)).map (p.1 :: ·) = _
    rw [ih]; rfl
theorem downI_perm (is : List Int) : (downI is).Perm is := List.mergeSort_perm _ _
theorem downI_sorted (is : List Int) : (downI is).Pairwise (· ≥ ·) := by
  have h1 := List.pairwise_mergeSort (le := fun a b : Int => decide (b ≤ a)) (fun a b c x y => by simp at *; omega) (fun a b => by simp; omega) is
  exact h1.imp fun h => by simpa using h
theorem sum_of_few {b : Int} (hb : 2 ≤ b) (hb2 : b ≤ 36) (ps : List Pt) (hl : ps.length < 400000) {S D : Nat} (hS : absP ps ≤ S) (hSD : S * 36 ^ D < 2 ^ 80000) (hD : D < 10000)
    (hf : ∀ n e : Int, valP b ps = n * W b e → (∃ p ∈ ps, p.1 ≠ 0 ∧ p.2 = e) → n ≠ 0 → Few b n) (hd : ∀ p ∈ ps, ∀ q ∈ ps, p.1 ≠ 0 → q.1 ≠ 0 → p.2 - q.2 ≤ D) : M_sum_of [.int b, .lst (ps.map ptD)] = .ok (.sh (numD b (valP b ps))) := by
  have s0 : soleA [] := by simp [soleA]
  obtain ⟨x3, x4, l1⟩ := sum_loop1 (.int b) (.lst (ps.map ptD)) ps [] .un .un s0 (by simp; omega)
  generalize hA : ps.foldl accA [] = am at l1
  have sA : soleA am := by rw [← hA]; exact acc_sole ps [] s0
  have vA : valA b am = valP b ps := by rw [← hA, acc_val]; simp [valA, Rat.zero_add]
  have aA : absA am ≤ absP ps := by rw [← hA]; have := acc_abs ps []; simpa [absA] using this
  have nA : am.length ≤ ps.length := by rw [← hA]; have := acc_len ps []; simpa using this
  have kAm : ∀ x, hasA am x → ∃ p ∈ ps, p.1 ≠ 0 ∧ p.2 = x := fun x h => by
    rw [← hA] at h
    rcases acc_keys ps [] h with h | h
    · cases h
    · exact h
  generalize his : am.map (·.1) = is
  have hik : intsK (kA am) = some is := by rw [intsK_kA, his]
  have hil : is.length < 500000 := by rw [← his, List.length_map]; omega
  by_cases h0 : is = []
  · have ham : am = [] := by rw [← his] at h0; simpa using h0
    subst ham
    have z : valP b ps = 0 := by rw [← vA]; rfl
    have f := form_of_val hb hb2 (n := 0) 0 (fun h => absurd rfl h)
    rw [show ((0 : Int) : Rat) = 0 from rfl, Rat.zero_mul] at f
    rw [z]
    unfold M_sum_of
    rw [body_eq]
    have z1 : kA [] = [] := rfl
    have z2 : xA [] = [] := rfl
    rw [z1, z2] at l1
    simp [mSetFD, l1, gMaxD, gSortD, intsK, downI, f, forM_nil]
  · have hm := topI_mem h0
    have hle := topI_le (is := is)
    generalize htop : topI is = top at hm hle
    have hdown := downI_perm is
    have hsort := downI_sorted is
    have hD2 : ∀ y ∈ is, top - y ≤ D := fun y hy => by
      obtain ⟨p, hp, p0, p1⟩ := kAm top (by unfold hasA; rw [his]; exact hm)
      obtain ⟨q, hq, q0, q1⟩ := kAm y (by unfold hasA; rw [his]; exact hy)
      have := hd p hp q hq p0 q0
      omega
    have hab : ((downI is).map fun y => ((getA am y).getD 0).natAbs).sum = absA am := by
      rw [sum_perm_nat _ hdown, ← his]; exact abs_get sA
    have hva : ((downI is).map fun y => (((getA am y).getD 0 : Int) : Rat) * W b y).sum = valA b am := by
      rw [sum_perm_rat _ hdown, ← his]; exact vals_get sA
    obtain ⟨place', total', x4', q1, q2, q3⟩ := sum_loop2 hb hb2 (.lst (ps.map ptD)) am (S := S) (D := D) (top := top) hSD hD (downI is) top 0 0 x3 x4 (fun y hy => by
      have hy2 := hdown.mem_iff.mp hy
      exact ⟨by unfold hasA; rw [his]; exact hy2, hle y hy2, hD2 y hy2⟩) (Int.le_refl _) hsort (by simp) (by rw [hab]; omega) (by omega)
    rw [hva, vA, show ((0 : Int) : Rat) = 0 from rfl, Rat.zero_mul, Rat.zero_add] at q2
    have q3 : ∃ p ∈ ps, p.1 ≠ 0 ∧ p.2 = place' := by
      have : place' ∈ is := by
        rcases q3 with q3 | q3
        · rw [q3]; exact hm
        · exact hdown.mem_iff.mp q3
      exact kAm place' (by unfold hasA; rw [his]; exact this)
    have f := form_of_val hb hb2 (n := total') place' (hf total' place' q2.symm q3)
    rw [q2] at f
    have z1 : kA [] = [] := rfl
    have z2 : xA [] = [] := rfl
    rw [z1, z2] at l1
    unfold M_sum_of
    rw [body_eq]
    generalize kA am = ks at *
    generalize xA am = xs at *
    simp [mSetFD, l1, gMaxD, gSortD, hik, hil, h0, htop, q1, f]
end PM
namespace DL
open PySem L2 PySem.Spec PyProof.Rows GL
/-- i has at most a bits -/
class Bd (i : Int) (a : outParam Nat) : Prop where
  lt : i.natAbs < 2 ^ a
theorem two_add {a b : Nat} : 2 ^ a + 2 ^ b ≤ 2 ^ (a + b + 1) := by
  have h1 : 2 ^ a ≤ 2 ^ (a + b) := Nat.pow_le_pow_right (by decide) (by omega)
  have h2 : 2 ^ b ≤ 2 ^ (a + b) := Nat.pow_le_pow_right (by decide) (by omega)
  rw [Nat.pow_succ]; omega
section
variable {i j : Int} {a b : Nat}
instance Bd.mul [h : Bd i a] [g : Bd j b] : Bd (i * j) (a + b) := ⟨by rw [Int.natAbs_mul, Nat.pow_add]; exact Nat.mul_lt_mul'' h.lt g.lt⟩
instance Bd.add [h : Bd i a] [g : Bd j b] : Bd (i + j) (a + b + 1) := ⟨by have := two_add (a := a) (b := b); have := h.lt; have := g.lt; have := Int.natAbs_add_le i j; omega⟩
instance Bd.sub [h : Bd i a] [g : Bd j b] : Bd (i - j) (a + b + 1) := ⟨by have := two_add (a := a) (b := b); have := h.lt; have := g.lt; have := Int.natAbs_sub_le i j; omega⟩
instance Bd.neg [h : Bd i a] : Bd (-i) a := ⟨by rw [Int.natAbs_neg]; exact h.lt⟩
instance Bd.lit {n : Nat} : Bd (OfNat.ofNat n : Int) (n.log2 + 1) := ⟨by
  show (n : Int).natAbs < _
  rw [Int.natAbs_natCast]
  exact Nat.lt_log2_self⟩
instance Bd.modLit {n : Nat} [NeZero n] : Bd (i % (OfNat.ofNat n : Int)) (n.log2 + 1) := ⟨by
  have h0 : n ≠ 0 := NeZero.ne n
  have h1 := Int.emod_nonneg i (show (n : Int) ≠ 0 by omega)
  have h2 := Int.emod_lt_of_pos i (show (0 : Int) < n by omega)
  have h3 : n < 2 ^ (n.log2 + 1) := Nat.lt_log2_self
  show (i % (n : Int)).natAbs < _
  omega⟩
instance (priority := low) Bd.mod [h : Bd i a] [g : Bd j b] : Bd (i % j) (a + b) := ⟨by
  by_cases h0 : j = 0
  · subst h0
    rw [Int.emod_zero]
    exact Nat.lt_of_lt_of_le h.lt (Nat.pow_le_pow_right (by decide) (by omega))
  · have h1 := Int.emod_nonneg i h0
    have h2 := Int.emod_lt i h0
    have h3 : 2 ^ b ≤ 2 ^ (a + b) := Nat.pow_le_pow_right (by decide) (by omega)
    have := g.lt
    omega⟩
instance Bd.div [h : Bd i a] : Bd (i / j) a := ⟨Nat.lt_of_le_of_lt (Int.natAbs_ediv_le_natAbs i j) h.lt⟩
instance Bd.pow {n : Nat} [h : Bd i a] : Bd (i ^ n) (a * n + 1) := ⟨by
  rw [NM.natAbs_pow]
  have h1 : i.natAbs ^ n ≤ (2 ^ a) ^ n := Nat.pow_le_pow_left (Nat.le_of_lt h.lt) n
  rw [← Nat.pow_mul] at h1
  exact Nat.lt_of_le_of_lt h1 (Nat.pow_lt_pow_right (by decide) (by omega))⟩
instance Bd.ite {c : Prop} [Decidable c] [h : Bd i a] [g : Bd j b] : Bd (if c then i else j) (a + b) := ⟨by
  have h1 : 2 ^ a ≤ 2 ^ (a + b) := Nat.pow_le_pow_right (by decide) (by omega)
  have h2 : 2 ^ b ≤ 2 ^ (a + b) := Nat.pow_le_pow_right (by decide) (by omega)
  have := h.lt
  have := g.lt
  split <;> omega⟩
end
end DL
namespace NR
/-- v is an integer below 2 ^ A, times the worth of lo -/
def Sz (b : Int) (v : Rat) (A : Nat) (lo : Int) : Prop := ∃ n : Int, v = n * W b lo ∧ n.natAbs < 2 ^ A
section
variable {b : Int} (hb : 2 ≤ b) {v w : Rat} {A B : Nat} {lo : Int}
theorem Sz.dy (h : Sz b v A lo) : Dy b v := by obtain ⟨n, e, _⟩ := h; exact ⟨n, lo, e⟩
theorem Sz.mono (h : Sz b v A lo) (l : A ≤ B) : Sz b v B lo := by
  obtain ⟨n, e, s⟩ := h
  exact ⟨n, e, Nat.lt_of_lt_of_le s (Nat.pow_le_pow_right (by decide) l)⟩
theorem Sz.add (h : Sz b v A lo) (g : Sz b w A lo) : Sz b (v + w) (A + 1) lo := by
  obtain ⟨n, rfl, s⟩ := h
  obtain ⟨m, rfl, t⟩ := g
  refine ⟨n + m, by rw [Rat.intCast_add]; grind, ?_⟩
  have := Int.natAbs_add_le n m
  rw [Nat.pow_succ]; omega
theorem Sz.neg (h : Sz b v A lo) : Sz b (-v) A lo := by
  obtain ⟨n, rfl, s⟩ := h
  exact ⟨-n, by rw [Rat.intCast_neg]; grind, by rw [Int.natAbs_neg]; exact s⟩
theorem Sz.sub (h : Sz b v A lo) (g : Sz b w A lo) : Sz b (v - w) (A + 1) lo := by
  rw [Rat.sub_eq_add_neg]; exact h.add g.neg
theorem Sz.of {n e : Int} (h : n.natAbs < 2 ^ A) : Sz b (n * W b e) A e := ⟨n, rfl, h⟩
theorem Sz.int {n : Int} (h : n.natAbs < 2 ^ A) : Sz b n A 0 := ⟨n, by rw [W_zero, Rat.mul_one], h⟩
include hb
theorem Sz.nm (h : Sz b v A lo) : (nm b v).natAbs < 2 ^ A := by
  obtain ⟨n, rfl, s⟩ := h
  exact Nat.lt_of_le_of_lt (nm_le hb) s
theorem nm_ne (h : Dy b v) (h0 : v ≠ 0) : NR.nm b v ≠ 0 := fun z => by
  have := h.eq hb
  rw [z] at this
  apply h0
  rw [← this, show ((0 : Int) : Rat) = 0 from rfl, Rat.zero_mul]
theorem nm_eq0 (h : Dy b v) (h0 : NR.nm b v = 0) : v = 0 := Classical.byContradiction fun z => nm_ne hb h z h0
theorem Sz.ex_lo (h : Sz b v A lo) (h0 : v ≠ 0) : lo ≤ ex b v := by
  obtain ⟨n, rfl, s⟩ := h
  refine ex_ge hb fun z => h0 ?_
  rw [z, show ((0 : Int) : Rat) = 0 from rfl, Rat.zero_mul]
theorem Sz.ex_hi (h : Sz b v A lo) (h0 : v ≠ 0) : ex b v < lo + A := by
  have h1 := h.ex_lo hb h0
  have h2 := h.dy.eq hb
  have h3 := nm_ne hb h.dy h0
  obtain ⟨n, e, s⟩ := h
  have h4 := mul_W_eq hb (h2.trans e) h1
  have h5 : 2 ^ (ex b v - lo).toNat < 2 ^ A := by
    refine Nat.lt_of_le_of_lt ?_ s
    rw [h4, Int.natAbs_mul]
    refine Nat.le_trans ?_ (Nat.le_mul_of_pos_left _ (by omega))
    rw [NM.natAbs_pow]
    exact Nat.pow_le_pow_left (by omega) _
  have := (Nat.pow_lt_pow_iff_right (a := 2) (by decide)).mp h5
  omega
theorem Sz.down (hb2 : b ≤ 36) (h : Sz b v A lo) {l : Int} (hl : l ≤ lo) : Sz b v (A + 6 * (lo - l).toNat) l := by
  obtain ⟨n, rfl, s⟩ := h
  refine ⟨n * b ^ (lo - l).toNat, ?_, ?_⟩
  · rw [show W b lo = W b (lo - l) * W b l by rw [← W_add hb]; congr 1; omega, W_toNat b (by omega), Rat.intCast_mul]
    grind
  · rw [Int.natAbs_mul, Nat.pow_add]
    have h1 : (b ^ (lo - l).toNat).natAbs ≤ 2 ^ (6 * (lo - l).toNat) := Nat.le_trans (PM.pow36 (by omega) hb2 _) (PM.pow36_lt _)
    exact Nat.lt_of_lt_of_le (Nat.mul_lt_mul_of_pos_right s (by have := NM.pow_pos hb (lo - l).toNat; omega)) (Nat.mul_le_mul_left _ h1)
theorem Sz.to (hb2 : b ≤ 36) (h : Sz b v A lo) {l : Int} (hl : l ≤ lo) (hB : A + 6 * (lo - l).toNat ≤ B) : Sz b v B l := (h.down hb hb2 hl).mono hB
end
end NR
namespace PM
open PySem L2 GL DL NR
section
variable {b : Int} (hb : 2 ≤ b) (hb2 : b ≤ 36)
/-- the data of an effect -/
noncomputable abbrev effD (b : Int) (v : Rat) (q : Int) : D := .tup [numD b v, .int q]
theorem ten300 : (2 : Nat) ^ 996 ≤ 10 ^ 300 := by decide +kernel
theorem few_nat {n : Int} (h : n.natAbs < 2 ^ 996) : few n = true := by
  unfold few
  refine decide_eq_true ?_
  have h1 := ten300
  have h2 : ((10 ^ 300 : Nat) : Int) = (10 : Int) ^ 300 := by simp
  rw [← h2]
  generalize 10 ^ 300 = T at *
  generalize 2 ^ 996 = S at *
  split <;> omega
/-- v is the value of a number -/
def NumV (b : Int) (v : Rat) : Prop := Dy b v ∧ few (nm b v) = true ∧ -1000 ≤ ex b v ∧ ex b v ≤ 1000
include hb
theorem numV_of {v : Rat} {A : Nat} {lo : Int} (h : Sz b v A lo) (hA : A ≤ 996) (hl : -1000 ≤ lo) (hh : lo + A ≤ 1001) : NumV b v := by
  refine ⟨h.dy, few_nat (Nat.lt_of_lt_of_le (h.nm hb) (Nat.pow_le_pow_right (by decide) hA)), ?_⟩
  by_cases h0 : v = 0
  · subst h0
    rw [ex_zero hb]; omega
  · have h1 := h.ex_lo hb h0
    have h2 := h.ex_hi hb h0
    omega
theorem isNum_numD {v : Rat} (h : NumV b v) : isNum b (numD b v) = true := by
  obtain ⟨hd, h1, h2, h3⟩ := h
  show (decide (-1000 ≤ ex b v ∧ ex b v ≤ 1000) && (if nm b v = 0 then decide (ex b v = 0) else decide (nm b v % b ≠ 0) && few (nm b v))) = true
  rw [decide_eq_true ⟨h2, h3⟩, Bool.true_and]
  split
  · rename_i h0
    have := nm_eq0 hb hd h0
    rw [this, ex_zero hb]; rfl
  · rename_i h0
    rw [h1, Bool.and_true]
    refine decide_eq_true ?_
    rcases (hd.is hb).2 with h | ⟨h, _⟩
    · exact h
    · exact absurd h h0
include hb2
end
section
variable (b : Int) (v : Rat)
@[simp] theorem numD_ix0 : gIx (numD b v) (.int 0) = some (.val (.int (nm b v))) := rfl
@[simp] theorem numD_ix1 : gIx (numD b v) (.int 1) = some (.val (.int (ex b v))) := rfl
@[simp] theorem numD_of (fs : List (D → En → Option En)) (Γ : En) : bOfTup fs (numD b v) Γ = bTup fs [.int (nm b v), .int (ex b v)] Γ := rfl
@[simp] theorem numD_noObj : noObj (numD b v) = true := rfl
@[simp] theorem numD_fair : fair (numD b v) = true := rfl
theorem tup_ix0 (x : D) (r : List D) : gIx (.tup (x :: r)) (.int 0) = some (.val x) := by
  rw [gIx_tup, atI_nn (i := 0) (a := x) (by decide) rfl]; rfl
theorem tup_ix1 (x y : D) (r : List D) : gIx (.tup (x :: y :: r)) (.int 1) = some (.val y) := by
  rw [gIx_tup, atI_nn (i := 1) (a := y) (by decide) rfl]; rfl
end
end PM
namespace PM
open PySem L2 GL DL NR
theorem bd_pow {b : Int} (hb0 : 0 ≤ b) (hb : b ≤ 36) {c m : Nat} (h : 6 * c + 1 ≤ m) : (b ^ c).natAbs < 2 ^ m := Nat.lt_of_lt_of_le (NM.pow_small hb0 hb c) (Nat.pow_le_pow_right (by decide) h)
theorem power2_eq {b : Int} (hb0 : 0 ≤ b) (hb : b ≤ 36) {c0 : Nat} (h0 : c0 ≤ 4000) : M_law_power_v2 [.int b, .int (c0 : Int)] = .ok (.sh (.int (b ^ c0))) := by
  unfold M_law_power_v2
  rw [body_eq]
  obtain ⟨Γ', m', e1, ⟨i, j, c, rfl, hs, hm⟩, e3⟩ := whileM_inv (t := T_law_power_v2_1) (b := B_law_power_v2_1) (fun m Γ => ∃ i j c : Nat, Γ = [.sh (.int (b ^ j)), .sh (.int (c : Int)), .sh (.int (b ^ i))] ∧ i + j * c = c0 ∧ m = c) (by
    rintro m Γ ⟨i, j, c, rfl, hs, rfl⟩
    by_cases hc : m = 0
    · left; unfold T_law_power_v2_1; simp [hc]
    · right
      have hj : j ≤ c0 := by have : j * 1 ≤ j * m := Nat.mul_le_mul_left _ (by omega); omega
      have hi : i ≤ c0 := by omega
      have m1 : gMul (.int (b ^ i)) (.int (b ^ j)) = some (.val (.int (b ^ (i + j)))) := by
        rw [mul_ok (a := 24001) (b := 24001) (bd_pow hb0 hb (by omega)) (bd_pow hb0 hb (by omega)) (by decide) (by decide) (by decide), Int.pow_add]
      have m2 : gMul (.int (b ^ j)) (.int (b ^ j)) = some (.val (.int (b ^ (j + j)))) := by
        rw [mul_ok (a := 24001) (b := 24001) (bd_pow hb0 hb (by omega)) (bd_pow hb0 hb (by omega)) (by decide) (by decide) (by decide), Int.pow_add]
      have d1 : gDiv (.int (m : Int)) (.int 2) = some (.val (.int ((m / 2 : Nat) : Int))) := by
        rw [div_ok (a := 2) (by decide) (by decide) (by decide) (by decide)]; rfl
      have hc2 : (0 : Int) < m := by omega
      have hd := Nat.div_add_mod m 2
      refine ⟨by unfold T_law_power_v2_1; simp; omega, ?_⟩
      generalize hA : b ^ i = bi at m1 ⊢
      generalize hB : b ^ j = bj at m1 m2 ⊢
      rcases Nat.mod_two_eq_zero_or_one m with h2 | h2
      · have h3 : ¬ ((m : Int) % 2 = 1) := by omega
        refine ⟨[.sh (.int (b ^ (j + j))), .sh (.int ((m / 2 : Nat) : Int)), .sh (.int bi)], m / 2, .inl (by unfold B_law_power_v2_1; simp [h3, m2, d1]), by omega, i, j + j, m / 2, by rw [hA], ?_, rfl⟩
        rw [h2, Nat.add_zero] at hd
        rw [← hs, Nat.add_mul, ← Nat.mul_add, ← Nat.two_mul, hd]
      · have h3 : (m : Int) % 2 = 1 := by omega
        refine ⟨[.sh (.int (b ^ (j + j))), .sh (.int ((m / 2 : Nat) : Int)), .sh (.int (b ^ (i + j)))], m / 2, .inl (by unfold B_law_power_v2_1; simp [h3, m1, m2, d1]), by omega, i + j, j + j, m / 2, rfl, ?_, rfl⟩
        have e : j * m = (j + j) * (m / 2) + j := by
          conv => lhs; rw [← hd, h2]
          rw [Nat.mul_add, Nat.mul_one, ← Nat.two_mul, ← Nat.mul_assoc, Nat.mul_comm j 2]
        omega)
    1000000 c0 [.sh (.int b), .sh (.int (c0 : Int)), .sh (.int 1)] ⟨0, 1, c0, by rw [Int.pow_zero, Int.pow_succ, Int.pow_zero, Int.one_mul], by omega, rfl⟩ (by omega)
  have hc : c = 0 := by
    unfold T_law_power_v2_1 at e3
    simp at e3
    omega
  subst hc
  rw [Nat.mul_zero, Nat.add_zero] at hs
  subst hs
  generalize b ^ i = bi at e1 ⊢
  simp [e1]
theorem reduced_is_form : M_law_reduced = M_law_form := rfl
section
variable {b : Int} (hb : 2 ≤ b) (hb2 : b ≤ 36)
include hb hb2
theorem reduced_val {n : Int} (e : Int) {m : Nat} (hm : n.natAbs < 2 ^ m) (hm2 : m ≤ 900000) : M_law_reduced [.int b, .int n, .int e] = .ok (.sh (numD b (n * W b e))) := by
  rw [reduced_is_form]; exact law_form_val hb hb2 e hm hm2
theorem sum_low {n1 e1 n2 e2 lo : Int} (h1 : lo ≤ e1) (h2 : lo ≤ e2) : ((n1 * b ^ (e1 - lo).toNat + n2 * b ^ (e2 - lo).toNat : Int) : Rat) * W b lo = n1 * W b e1 + n2 * W b e2 := by
  rw [show W b e1 = W b (e1 - lo) * W b lo by rw [← W_add hb]; congr 1; omega, show W b e2 = W b (e2 - lo) * W b lo by rw [← W_add hb]; congr 1; omega, W_toNat b (show 0 ≤ e1 - lo by omega), W_toNat b (show 0 ≤ e2 - lo by omega)]
  rw [Rat.intCast_add, Rat.intCast_mul, Rat.intCast_mul]
  grind
theorem law_sum2_pt {n1 e1 n2 e2 : Int} (h1 : n1.natAbs < 2 ^ 9000) (h2 : n2.natAbs < 2 ^ 9000) (hd : (e1 - e2).natAbs ≤ 4000) :
    M_law_sum_v2 [.int b, .tup [.int n1, .int e1], .tup [.int n2, .int e2]] = .ok (.sh (numD b (n1 * W b e1 + n2 * W b e2))) := by
  unfold M_law_sum_v2
  rw [body_eq]
  generalize hlo : (if e2 < e1 then e2 else e1) = lo
  have l1 : lo ≤ e1 := by rw [← hlo]; split <;> omega
  have l2 : lo ≤ e2 := by rw [← hlo]; split <;> omega
  have l3 : e1 - lo ≤ 4000 ∧ e2 - lo ≤ 4000 := by rw [← hlo]; split <;> omega
  obtain ⟨c1, k1⟩ : ∃ c : Nat, e1 - lo = c := ⟨(e1 - lo).toNat, by omega⟩
  obtain ⟨c2, k2⟩ : ∃ c : Nat, e2 - lo = c := ⟨(e2 - lo).toNat, by omega⟩
  have hv := sum_low hb hb2 (n1 := n1) (n2 := n2) l1 l2
  rw [k1, k2, Int.toNat_natCast, Int.toNat_natCast] at hv
  have p1 := power2_eq (b := b) (by omega) hb2 (c0 := c1) (by omega)
  have p2 := power2_eq (b := b) (by omega) hb2 (c0 := c2) (by omega)
  have s1 : (b ^ c1).natAbs < 2 ^ 24001 := bd_pow (by omega) hb2 (by omega)
  have s2 : (b ^ c2).natAbs < 2 ^ 24001 := bd_pow (by omega) hb2 (by omega)
  have m1 : gMul (.int n1) (.int (b ^ c1)) = some (.val (.int (n1 * b ^ c1))) := mul_ok h1 s1 (by decide) (by decide) (by decide)
  have m2 : gMul (.int n2) (.int (b ^ c2)) = some (.val (.int (n2 * b ^ c2))) := mul_ok h2 s2 (by decide) (by decide) (by decide)
  have bd : (n1 * b ^ c1 + n2 * b ^ c2).natAbs < 2 ^ 66003 := by
    haveI : Bd n1 9000 := ⟨h1⟩
    haveI : Bd n2 9000 := ⟨h2⟩
    haveI : Bd (b ^ c1) 24001 := ⟨s1⟩
    haveI : Bd (b ^ c2) 24001 := ⟨s2⟩
    exact (inferInstance : Bd (n1 * b ^ c1 + n2 * b ^ c2) (9000 + 24001 + (9000 + 24001) + 1)).lt
  have r := reduced_val hb hb2 lo bd (by decide)
  rw [hv] at r
  generalize b ^ c1 = P1 at *
  generalize b ^ c2 = P2 at *
  simp [tup_ix0, tup_ix1, hlo, k1, k2, p1, p2, m1, m2, r]
/-- numerators and exponents of a value within the limits -/
theorem box {v : Rat} {A : Nat} {lo : Int} (h : Sz b v A lo) : (nm b v).natAbs < 2 ^ A ∧ ((lo ≤ ex b v ∧ ex b v ≤ lo + A) ∨ ex b v = 0) := by
  refine ⟨h.nm hb, ?_⟩
  by_cases h0 : v = 0
  · right; rw [h0]; exact ex_zero hb
  · left
    have h1 := h.ex_lo hb h0
    have h2 := h.ex_hi hb h0
    omega
theorem law_sum2_val {v w : Rat} {A : Nat} {lo : Int} (h : Sz b v A lo) (g : Sz b w A lo) (hA : A ≤ 2000) (l1 : -1500 ≤ lo) (l2 : lo ≤ 1500) : M_law_sum_v2 [.int b, numD b v, numD b w] = .ok (.sh (numD b (v + w))) := by
  obtain ⟨a1, a2⟩ := box hb hb2 h
  obtain ⟨b1, b2⟩ := box hb hb2 g
  have lt := Nat.pow_le_pow_right (n := 2) (by decide) (show A ≤ 9000 by omega)
  have e := law_sum2_pt hb hb2 (Nat.lt_of_lt_of_le a1 lt) (Nat.lt_of_lt_of_le b1 lt) (e1 := ex b v) (e2 := ex b w) (by omega)
  rw [h.dy.eq hb, g.dy.eq hb] at e
  exact e
theorem negative_eq (n e : Int) : M_negative [.tup [.int n, .int e]] = .ok (.sh (.tup [.int (-n), .int e])) := by
  unfold M_negative
  rw [body_eq]
  simp
end
end PM
namespace NR
end NR
namespace PM
open PySem L2 GL DL NR
end PM
namespace PM
open PySem L2 GL DL NR
end PM
namespace PM
open PySem L2 GL DL NR
theorem seq_step {a b : En → Out} {Γ Γ' : En} {o : Out} (h : a Γ = .nx Γ') (g : b Γ' = o) : mSeq a b Γ = o := by rw [seq_eq, h, then_nx, g]
theorem law_loop {M : List D → Res DL.Slot} {B : En → Out} {N : Nat} {m : Nat} (hN : N ≤ 63)
    (hM : M = mBody (m + 3) (mSeq (mFor (iEnumr (eOp gAdd (eSl (eVar 0) pN (pS (eC (.int (N : Int))))) (eOp gMul (eAll (fLst (eCons (eC (.int 7)) eNil))) (eUn gInt (eOp gEq (eVar 0) (eAll (fLst eNil))))))) (bOfTup [(bName 1), (bName 2)]) B) (mRet (eC (.bl true)))))
    (turn : ∀ (ns : List Int) (k : Nat) (c : Int) (r : En), k < 1000 → r.length = m → ∃ r', r'.length = m ∧ B (.sh (.scr ns) :: .sh (.int (k : Int)) :: .sh (.int c) :: r) = .nx (.sh (.scr ns) :: .sh (.int (k : Int)) :: .sh (.int c) :: r')) : LawTrue M := by
  intro ns hn
  rw [hM, body_eq]
  obtain ⟨cs, hc, xs, e1, k, e2, ys, e3, e4⟩ := cells_eq ns hn N
  have e5 := scr_nil ns
  obtain ⟨Γ', e6, x1, x2, r, rfl, hr⟩ := forM_inv (g := bOfTup [bName 1, bName 2]) (b := B) (fun _ Γ => ∃ x1 x2 r, Γ = .sh (.scr ns) :: x1 :: x2 :: r ∧ r.length = m)
    (enumD 0 (cs.map .int)) 0 (.sh (.scr ns) :: .un :: .un :: List.replicate m .un) ⟨_, _, _, rfl, by simp⟩ (by
      rintro i x Γ hx ⟨x1, x2, r, rfl, hr⟩
      have hi : i < cs.length := by
        have := (List.getElem?_eq_some_iff.mp hx).1
        rwa [enumD_len, List.length_map] at this
      rw [enumD_get (d := D.int cs[i]) (by rw [List.getElem?_map, List.getElem?_eq_getElem hi]; rfl)] at hx
      cases hx
      rw [Nat.zero_add]
      obtain ⟨r', hr', h⟩ := turn ns i cs[i] r (by omega) hr
      exact ⟨_, _, rfl, .inl h, _, _, _, rfl, hr'⟩)
  simp [e1, e5, e2, e3, e4, e6, List.replicate_succ]
/-- the digit at k -/
def dg (ds : List Int) (k : Nat) : Int := ds.getD k 0
theorem Digs.at_ {z : Int} {n : Nat} {ds : List Int} (h : Digs z n ds) {k : Nat} (hk : k < n) : gIx (.lst (ds.map .int)) (.int (k : Int)) = some (.val (.int (dg ds k))) ∧ 0 ≤ dg ds k ∧ dg ds k < z := by
  have hl : k < ds.length := by rw [h.1]; exact hk
  have e : ds[k]? = some ds[k] := List.getElem?_eq_getElem hl
  have e2 : dg ds k = ds[k] := by unfold dg; rw [List.getD_eq_getElem?_getD, e]; rfl
  refine ⟨?_, ?_⟩
  · rw [gIx_lst, atI_nat (j := k) (v := D.int (dg ds k)) (by rw [List.getElem?_map, e, e2]; rfl)]
    rfl
  · rw [e2]; exact h.2 _ (List.getElem_mem hl)
theorem Digs.from_ {z : Int} {n : Nat} {ds : List Int} (h : Digs z n ds) {k : Nat} (hk : k ≤ n) : gSl (some (k : Int)) none (.lst (ds.map .int)) = some (.newL ((ds.drop k).map .int)) := by
  have e := sl_from (ds.map .int) k (by rw [List.length_map, h.1]; exact hk)
  rw [List.map_drop]
  exact e
end PM
namespace PM
open PySem L2 GL DL NR
end PM
namespace PM
open PySem L2 GL DL NR
end PM
namespace PM
open PySem L2 GL DL NR
end PM
namespace NR
end NR
namespace PM
open PySem L2 GL DL NR
end PM
namespace PM
open PySem L2 GL DL NR
@[simp] theorem isNon_eff (b : Int) (v : Rat) (q : Int) : DL.isNon (effD b v q) = false := rfl
@[simp] theorem isNon_num (b : Int) (v : Rat) : DL.isNon (numD b v) = false := rfl
section
variable {b : Int} (hb : 2 ≤ b) (hb2 : b ≤ 36)
include hb hb2
omit hb hb2 in
@[simp] theorem isN_non : gIsN .non .non = some (.val (.bl true)) := rfl
omit hb hb2 in
@[simp] theorem notN_non : gNotN .non .non = some (.val (.bl false)) := rfl
omit hb hb2 in
@[simp] theorem isN_num (v : Rat) : gIsN (numD b v) .non = some (.val (.bl false)) := rfl
omit hb hb2 in
@[simp] theorem notN_num (v : Rat) : gNotN (numD b v) .non = some (.val (.bl true)) := rfl
omit hb hb2 in
@[simp] theorem isN_eff (v : Rat) (q : Int) : gIsN (effD b v q) .non = some (.val (.bl false)) := rfl
omit hb hb2 in
@[simp] theorem notN_eff (v : Rat) (q : Int) : gNotN (effD b v q) .non = some (.val (.bl true)) := rfl
end
end PM
namespace NR
end NR
namespace PM
open PySem L2 GL DL NR
end PM
namespace NR
def Cg (M x y : Int) : Prop := M ∣ x - y
section
variable {M x y z w : Int}
theorem Cg.refl (x : Int) : Cg M x x := by unfold Cg; rw [Int.sub_self]; exact Int.dvd_zero _
theorem Cg.symm (h : Cg M x y) : Cg M y x := by
  unfold Cg at *
  have := (Int.dvd_neg (a := M) (b := x - y)).mpr h
  rwa [Int.neg_sub] at this
theorem Cg.trans (h : Cg M x y) (g : Cg M y z) : Cg M x z := by
  unfold Cg at *
  have := Int.dvd_add h g
  rwa [show x - y + (y - z) = x - z by omega] at this
theorem Cg.add (h : Cg M x y) (g : Cg M z w) : Cg M (x + z) (y + w) := by
  unfold Cg at *
  have := Int.dvd_add h g
  rwa [show x - y + (z - w) = x + z - (y + w) by omega] at this
theorem Cg.neg (h : Cg M x y) : Cg M (-x) (-y) := by
  unfold Cg at *
  have := (Int.dvd_neg (a := M) (b := x - y)).mpr h
  rwa [show -(x - y) = -x - -y by omega] at this
end
section
variable {b : Int} {s : Nat}
/-- the exponent of a place, modulo s -/
def rs (s : Nat) (e : Int) : Nat := (e % (s : Int)).toNat
variable (hb : 2 ≤ b) (hs : 0 < s)
include hb hs
end
end NR
namespace PM
open PySem L2 GL DL
def LL : Int := (10 ^ 60) ^ 5
section
variable (C : Addr) (b m a f l : D)
theorem rowParts_row : rowParts C (rowD C b m a f l) = some [b, m, a, f, l] := by
  unfold rowParts rowD
  simp
@[simp] theorem gRow_0 : gRow C 0 (rowD C b m a f l) = some (.val b) := by unfold gRow; rw [rowParts_row]; rfl
@[simp] theorem gRow_1 : gRow C 1 (rowD C b m a f l) = some (.val m) := by unfold gRow; rw [rowParts_row]; rfl
@[simp] theorem gRow_2 : gRow C 2 (rowD C b m a f l) = some (.val a) := by unfold gRow; rw [rowParts_row]; rfl
@[simp] theorem gRow_3 : gRow C 3 (rowD C b m a f l) = some (.val f) := by unfold gRow; rw [rowParts_row]; rfl
@[simp] theorem gRow_4 : gRow C 4 (rowD C b m a f l) = some (.val l) := by unfold gRow; rw [rowParts_row]; rfl
end
@[simp] theorem eProp_def (C : Addr) (i : Nat) (m : MD) (Γ : En) : eProp C i m Γ = (m Γ).bind fun d => toR (gRow C i d) := rfl
theorem eHas_eq {C : Addr} {b m a f l v : D} {mr mv : MD} {Γ : En} (h : mr Γ = .ok (rowD C b m a f l)) (hv : mv Γ = .ok v) (hf : isEnd f = true) (hl : isEnd l = true) (hn : noObj v = true) : eHas C mr mv Γ = .ok (.bl (hasP (kdI f) (kdI l) (kdI v))) := by
  unfold eHas
  rw [h]
  simp only [bind_ok, rowParts_row]
  unfold hasR
  rw [need_pos ⟨hf, hl⟩, hv]
  simp only [bind_ok]
  rw [need_pos hn]
@[simp] theorem gIsN_non (d : D) : gIsN d .non = some (.val (.bl (DL.isNon d))) := rfl
@[simp] theorem gNotN_non (d : D) : gNotN d .non = some (.val (.bl (!DL.isNon d))) := rfl
@[simp] theorem isNon_non : DL.isNon .non = true := rfl
@[simp] theorem isNon_int (i : Int) : DL.isNon (.int i) = false := rfl
theorem comp_eq (vs : List Nat) (mi : ML) (g : D → En → Option En) (t : En → Res Bool) (m : MD) (Γ : En) : mComp vs mi g t m Γ = (mi Γ).bind fun xs => need (xs.length < 1000000) (compM g t m (wipeE Γ vs) xs) := rfl
structure Smp (d : D) : Prop where
  pl : DL.plain d = true
  cl : (py d).canLay0 = true
  dp : (py d).depth ≤ 10
  no : noObj d = true
theorem Smp.int (i : Int) : Smp (.int i) := ⟨by unfold DL.plain; rfl, by unfold py; rfl, by unfold py; simp [PyData.depth], rfl⟩
theorem Smp.bl (b : Bool) : Smp (.bl b) := ⟨by unfold DL.plain; rfl, by unfold py; rfl, by unfold py; simp [PyData.depth], rfl⟩
theorem Smp.str {x : Str} (h : (PyData.str x).canLay0 = true) : Smp (.str x) := ⟨by unfold DL.plain; rfl, by unfold py; exact h, by unfold py; simp [PyData.depth], rfl⟩
theorem Smp.non : Smp .non := ⟨by unfold DL.plain; rfl, by unfold py; rfl, by unfold py; simp [PyData.depth], rfl⟩
def stB (b lo hi n e p : Int) : Bool := decide (lo ≤ p ∧ p ≤ hi) && (if n = 0 then decide (e = 0) else few n && (decide (lo ≤ e ∧ e ≤ 1000) && decide (n % b ≠ 0)))
def isSt (b lo hi : Int) : D → Bool
  | .tup [.tup [.int n, .int e], .int p] => stB b lo hi n e p
  | _ => false
theorem st_le {b lo hi n e p : Int} (h : stB b lo hi n e p = true) : lo ≤ p ∧ p ≤ hi := by
  unfold stB at h
  rw [Bool.and_eq_true] at h
  exact of_decide_eq_true h.1
/-- how a row's ends stand for limits -/
structure Ends (f l : D) (lo hi : Int) : Prop where
  lo_ : (f = .non ∧ lo = -1000) ∨ (f = .int lo ∧ -1000 ≤ lo)
  hi_ : (l = .non ∧ hi = 1000) ∨ (l = .int hi ∧ hi ≤ 1000)
theorem Ends.isf {f l : D} {lo hi : Int} (h : Ends f l lo hi) : isEnd f = true := by rcases h.lo_ with ⟨rfl, _⟩ | ⟨rfl, _⟩ <;> rfl
theorem Ends.isl {f l : D} {lo hi : Int} (h : Ends f l lo hi) : isEnd l = true := by rcases h.hi_ with ⟨rfl, _⟩ | ⟨rfl, _⟩ <;> rfl
theorem Ends.has {f l : D} {lo hi : Int} (h : Ends f l lo hi) (p : Int) : hasP (kdI f) (kdI l) (kdI (.int p)) = decide (lo ≤ p ∧ p ≤ hi) := by
  rcases h.lo_ with ⟨rfl, rfl⟩ | ⟨rfl, h1⟩ <;> rcases h.hi_ with ⟨rfl, rfl⟩ | ⟨rfl, h2⟩ <;> simp only [kdI, hasP, loGood, hiGood, Bool.and_true] <;> rw [Bool.eq_iff_iff] <;> simp only [Bool.and_eq_true, decide_eq_true_iff] <;> omega
theorem is_state_eq {CR : Addr} {b lo hi : Int} (hb : 0 < b) {m a f l d : D} (he : Ends f l lo hi) (h : fair2 d = true) : M_is_state CR [rowD CR (.int b) m a f l, d] = .ok (.sh (.bl (isSt b lo hi d))) := by
  unfold M_is_state
  rw [body_eq]
  have e1 := is_pair_eq hb h
  cases hp : isPair b d with
  | false =>
    have : isSt b lo hi d = false := by
      unfold isSt
      split
      · rename_i n e p
        cases hs : stB b lo hi n e p with
        | false => rfl
        | true =>
          exfalso
          have hpl := he.has p
          have h1 := st_le hs
          rw [decide_eq_true h1] at hpl
          have h2 : -1000 ≤ p ∧ p ≤ 1000 := by
            rcases he.lo_ with ⟨_, rfl⟩ | ⟨_, h3⟩ <;> rcases he.hi_ with ⟨_, rfl⟩ | ⟨_, h4⟩ <;> omega
          have h5 : -1000 ≤ lo := by rcases he.lo_ with ⟨_, rfl⟩ | ⟨_, h3⟩ <;> omega
          unfold stB at hs
          rw [Bool.and_eq_true] at hs
          have hs := hs.2
          unfold isPair isNum within at hp
          by_cases c0 : n = 0
          · rw [if_pos c0] at hs
            have := of_decide_eq_true hs
            subst c0 this
            simp [h2] at hp
          · rw [if_neg c0] at hs
            simp only [Bool.and_eq_true, decide_eq_true_iff] at hs
            simp [c0, h2, hs] at hp
            omega
      · rfl
    simp [e1, hp, this]
  | true =>
    obtain ⟨x, y, rfl, hx, hy⟩ : ∃ x y, d = .tup [x, y] ∧ isNum b x = true ∧ within (-1000) 1000 y = true := by
      unfold isPair at hp
      split at hp
      · rw [Bool.and_eq_true] at hp
        exact ⟨_, _, rfl, hp.1, hp.2⟩
      · cases hp
    obtain ⟨n, e, rfl, e1l, e1h, hfew⟩ := isNum_pair hx
    obtain ⟨p, rfl⟩ : ∃ p, y = .int p := by
      cases y with
      | int p => exact ⟨p, rfl⟩
      | _ => cases hy
    have eh : eHas CR (eVar 0) (eVar 4) [.sh (rowD CR (.int b) m a f l), .sh (.tup [.tup [.int n, .int e], .int p]), .sh (.int n), .sh (.int e), .sh (.int p)] = .ok (.bl (decide (lo ≤ p ∧ p ≤ hi))) := by
      rw [eHas_eq (b := .int b) (m := m) (a := a) (f := f) (l := l) (v := .int p) rfl rfl he.isf he.isl rfl, he.has]
    have g0 := gRow_0 CR (.int b) m a f l
    have g3 := gRow_3 CR (.int b) m a f l
    unfold isSt stB
    have hz : n ≠ 0 → n % b ≠ 0 := fun c0 => by
      have hx : (decide (-1000 ≤ e ∧ e ≤ 1000) && (if n = 0 then decide (e = 0) else decide (n % b ≠ 0) && few n)) = true := hx
      rw [if_neg c0] at hx
      simp only [Bool.and_eq_true, decide_eq_true_iff] at hx
      exact hx.2.1
    have hz0 : n = 0 → e = 0 := fun c0 => by
      have hx : (decide (-1000 ≤ e ∧ e ≤ 1000) && (if n = 0 then decide (e = 0) else decide (n % b ≠ 0) && few n)) = true := hx
      rw [if_pos c0] at hx
      simp only [Bool.and_eq_true, decide_eq_true_iff] at hx
      exact hx.2
    generalize rowD CR (.int b) m a f l = rw_ at eh g0 g3 ⊢
    by_cases c1 : lo ≤ p ∧ p ≤ hi
    · rw [decide_eq_true c1] at eh
      by_cases c0 : n = 0
      · have := hz0 c0
        subst c0 this
        simp [g0, e1, hp, eh, c1]
      · have hz := hz c0
        rcases he.lo_ with ⟨rfl, rfl⟩ | ⟨rfl, h3⟩
        · simp [g0, g3, e1, hp, eh, c1, c0, hfew, hz, e1l, e1h]
        · by_cases c3 : lo ≤ e <;> simp [g0, g3, e1, hp, eh, c1, c0, hfew, hz, e1h, c3]
    · rw [decide_eq_false c1] at eh
      simp [g0, e1, hp, eh, c1]
end PM
namespace PM
open PySem L2 GL DL NR
end PM
namespace PM
open PySem L2 GL DL NR
end PM
namespace PM
open PySem L2 GL DL NR
end PM
namespace PM
open PySem L2 GL DL NR
end PM
namespace PM
open PySem L2 GL DL NR
inductive Op where
  | R | L | A | S
  deriving DecidableEq
def Op.sh : Op → Int
  | .R => 1 | .L => -1 | .A => 0 | .S => 0
abbrev Run := Op × Int
/-- neighbours differ, counts are at least 1 -/
def Alt : Option Op → List Run → Prop
  | _, [] => True
  | p, (o, n) :: r => p ≠ some o ∧ 1 ≤ n ∧ Alt (some o) r
def posL : Int → List Run → List Int
  | _, [] => []
  | p, (o, n) :: r => (p + o.sh * n) :: posL (p + o.sh * n) r
/-- counts of a moderate size -/
def Mod1 (rs : List Run) : Prop := ∀ r ∈ rs, r.2.natAbs < 2 ^ 1400
end PM
namespace PM
open PySem L2 GL DL NR
end PM
namespace PM
open PySem L2 GL DL NR
/-- a number's numerator and exponent, an offset -/
abbrev CE := Int × Int × Int
end PM
namespace PM
open PySem L2 GL DL NR
def tO (o : Op) : List Run → Int
  | [] => 0
  | (x, n) :: r => (if x = o then n else 0) + tO o r
def absR : List Run → Nat
  | [] => 0
  | (_, n) :: r => n.natAbs + absR r
theorem absR_mem {rs : List Run} {r : Run} (h : r ∈ rs) : r.2.natAbs ≤ absR rs := by
  induction rs with
  | nil => cases h
  | cons x xs ih =>
    obtain ⟨o, n⟩ := x
    simp only [absR]
    rcases List.mem_cons.mp h with rfl | h
    · omega
    · have := ih h; omega
/-- where the positions lie -/
theorem pos_range : ∀ (rs : List Run) (s : Int), (∀ r ∈ rs, 0 ≤ r.2) → ∃ lo hi, lo ≤ s ∧ s ≤ hi ∧ (∀ p ∈ posL s rs, lo ≤ p ∧ p ≤ hi) ∧ hi ≤ s + tO .R rs ∧ s - tO .L rs ≤ lo ∧ (hi - lo ≤ tO .R rs ∨ hi - lo ≤ tO .L rs) ∧ 0 ≤ tO .R rs ∧ 0 ≤ tO .L rs
  | [], s, _ => ⟨s, s, Int.le_refl _, Int.le_refl _, (fun p hp => by cases hp), by simp [tO]⟩
  | (o, n) :: r, s, h => by
    have hn : 0 ≤ n := h (o, n) List.mem_cons_self
    obtain ⟨lo, hi, h1, h2, h3, h4, h5, h6, h7, h8⟩ := pos_range r (s + o.sh * n) fun q hq => h q (List.mem_cons_of_mem _ hq)
    have key : ∀ lo' hi' : Int, lo' ≤ lo → hi ≤ hi' → ∀ p ∈ posL s ((o, n) :: r), lo' ≤ p ∧ p ≤ hi' := fun lo' hi' a b p hp => by
      rcases List.mem_cons.mp hp with rfl | hp
      · omega
      · have := h3 p hp; omega
    cases o with
    | R =>
      simp only [Op.sh, Int.one_mul] at *
      refine ⟨min s lo, hi, by omega, by omega, key _ _ (by omega) (Int.le_refl _), ?_⟩
      simp only [tO, if_true, reduceCtorEq, if_false]
      omega
    | L =>
      simp only [Op.sh] at *
      refine ⟨lo, max s hi, by omega, by omega, key _ _ (Int.le_refl _) (by omega), ?_⟩
      simp only [tO, if_true, reduceCtorEq, if_false]
      omega
    | A =>
      simp only [Op.sh, Int.zero_mul, Int.add_zero] at *
      refine ⟨lo, hi, by omega, by omega, key _ _ (Int.le_refl _) (Int.le_refl _), ?_⟩
      simp only [tO, if_true, reduceCtorEq, if_false]
      omega
    | S =>
      simp only [Op.sh, Int.zero_mul, Int.add_zero] at *
      refine ⟨lo, hi, by omega, by omega, key _ _ (Int.le_refl _) (Int.le_refl _), ?_⟩
      simp only [tO, if_true, reduceCtorEq, if_false]
      omega
end PM
namespace PM
open PySem L2 GL DL NR
theorem alt_pos : ∀ {rs : List Run} {p : Option Op}, Alt p rs → ∀ r ∈ rs, 1 ≤ r.2
  | (o, n) :: r, p, h, q, hq => by
    rcases List.mem_cons.mp hq with rfl | hq
    · exact h.2.1
    · exact alt_pos h.2.2 q hq
end PM
namespace PM
open PySem L2 GL DL NR
/-- a sequence whose positions stay near, whose counts are small -/
structure Near (rs : List Run) (R c : Nat) : Prop where
  alt : Alt none rs
  len : rs.length ≤ 16
  tr : tO .R rs ≤ R
  tl : tO .L rs ≤ R
  abs_ : absR rs < 2 ^ c
theorem Near.pos {rs : List Run} {R c : Nat} (h : Near rs R c) : ∀ r ∈ rs, 0 ≤ r.2 := fun r hr => by have := alt_pos h.alt r hr; omega
theorem Near.range {rs : List Run} {R c : Nat} (h : Near rs R c) (s : Int) : ∃ lo, lo ≤ s ∧ s ≤ lo + R ∧ s - R ≤ lo ∧ (∀ p ∈ posL s rs, lo ≤ p ∧ p ≤ lo + R) := by
  obtain ⟨lo, hi, h1, h2, h3, h4, h5, h6, h7, h8⟩ := pos_range rs s h.pos
  have t1 := h.tr
  have t2 := h.tl
  refine ⟨lo, h1, by omega, by omega, fun p hp => ?_⟩
  have := h3 p hp
  omega
theorem Near.mod {rs : List Run} {R c : Nat} (h : Near rs R c) (hc : c ≤ 1400) : Mod1 rs := fun r hr => Nat.lt_of_le_of_lt (absR_mem hr) (Nat.lt_of_lt_of_le h.abs_ (Nat.pow_le_pow_right (by decide) hc))
end PM
namespace PM
open PySem L2 GL DL NR
theorem row_new' {CR : Addr} {b : Int} (hb : 2 ≤ b) (hb2 : b ≤ 36) {f l : D} {lo hi : Int} (he : Ends f l lo hi) (h1 : -1000 ≤ lo) (h2 : lo ≤ hi) (h3 : hi ≤ 1000) {m a : Int} (hm : 1 ≤ m ∧ m ≤ 1000000) (ha : 1 ≤ a ∧ a ≤ 1000000) : newRow CR [.int b, .int m, .int a, f, l] = .ok (rowD CR (.int b) (.int m) (.int a) f l) := by
  unfold newRow
  refine need_pos (r := Res.ok (rowD CR (.int b) (.int m) (.int a) f l)) ⟨rfl, rfl, rfl, he.isf, he.isl, ?_⟩
  have r1 : inRange (kdI (.int b)) 2 36 = true := decide_eq_true ⟨hb, hb2⟩
  have r2 : inRange (kdI (.int m)) 1 1000000 = true := decide_eq_true hm
  have r2' : inRange (kdI (.int a)) 1 1000000 = true := decide_eq_true ha
  have r3 : endGood (intV (kdI f)) (kdI f) = true := by
    rcases he.lo_ with ⟨rfl, _⟩ | ⟨rfl, _⟩
    · rfl
    · show (decide (V.int lo = .non) || decide (-1000 ≤ lo ∧ lo ≤ 1000)) = true
      have : -1000 ≤ lo ∧ lo ≤ 1000 := by omega
      simp [this]
  have r4 : endGood (intV (kdI l)) (kdI l) = true := by
    rcases he.hi_ with ⟨rfl, _⟩ | ⟨rfl, _⟩
    · rfl
    · show (decide (V.int hi = .non) || decide (-1000 ≤ hi ∧ hi ≤ 1000)) = true
      have : -1000 ≤ hi ∧ hi ≤ 1000 := by omega
      simp [this]
  unfold wrongField
  rw [r1, r2, r2', r3, r4]
  rcases he.lo_ with ⟨rfl, _⟩ | ⟨rfl, _⟩ <;> rcases he.hi_ with ⟨rfl, _⟩ | ⟨rfl, _⟩ <;> simp [kdI]
  omega
theorem isSt_effD {b : Int} (hb : 2 ≤ b) {v : Rat} (h : NumV b v) {lo hi p : Int} (h1 : lo ≤ p) (h2 : p ≤ hi) (h3 : nm b v ≠ 0 → lo ≤ ex b v) : isSt b lo hi (effD b v p) = true := by
  have hx := isNum_numD hb h
  have hx : (decide (-1000 ≤ ex b v ∧ ex b v ≤ 1000) && (if nm b v = 0 then decide (ex b v = 0) else decide (nm b v % b ≠ 0) && few (nm b v))) = true := hx
  show (decide (lo ≤ p ∧ p ≤ hi) && (if nm b v = 0 then decide (ex b v = 0) else few (nm b v) && (decide (lo ≤ ex b v ∧ ex b v ≤ 1000) && decide (nm b v % b ≠ 0)))) = true
  rw [decide_eq_true ⟨h1, h2⟩, Bool.true_and]
  rw [Bool.and_eq_true, decide_eq_true_iff] at hx
  obtain ⟨hx1, hx2⟩ := hx
  by_cases h0 : nm b v = 0
  · rw [if_pos h0] at hx2 ⊢; exact hx2
  · rw [if_neg h0] at hx2 ⊢
    rw [Bool.and_eq_true] at hx2
    rw [hx2.1, hx2.2, decide_eq_true ⟨h3 h0, hx1.2⟩]; rfl
section
variable {CR : Addr} {b : Int} (hb : 2 ≤ b) (hb2 : b ≤ 36) {f l m a : D} {lo hi : Int} (he : Ends f l lo hi)
include hb he
theorem require_state_ok {d : D} (h : fair2 d = true) (h2 : isSt b lo hi d = true) : M_require_state CR [rowD CR (.int b) m a f l, d] = .ok (.sh .non) := by
  have e := is_state_eq (CR := CR) (m := m) (a := a) (show 0 < b by omega) he h
  rw [h2] at e
  unfold M_require_state
  rw [body_eq]
  simp [e]
include hb2
end
end PM
namespace PM
open PySem L2 GL DL NR
end PM
namespace SW
def absI (i : Int) : Int := if i < 0 then -i else i
theorem absI_nat (i : Int) : absI i = i.natAbs := by unfold absI; split <;> omega
/-- digits from the lowest place -/
def val (b : Int) : List Int → Int
  | [] => 0
  | d :: r => d + b * val b r
def cost : List Int → Int
  | [] => 0
  | d :: r => absI d + cost r
theorem cost_nonneg : ∀ ds, 0 ≤ cost ds
  | [] => Int.le_refl _
  | d :: r => by
    have h1 := cost_nonneg r
    have h2 : 0 ≤ absI d := by (unfold absI; split <;> omega)
    show 0 ≤ absI d + cost r
    omega
theorem cost_pos (b : Int) : ∀ ds, val b ds ≠ 0 → 1 ≤ cost ds
  | [], h => absurd rfl h
  | d :: r, h => by
    unfold cost
    by_cases hr : val b r = 0
    · have : d ≠ 0 := fun z => h (by unfold val; rw [hr, z]; simp)
      have := cost_nonneg r
      have : 1 ≤ absI d := by unfold absI; split <;> omega
      omega
    · have := cost_pos b r hr
      have : 0 ≤ absI d := by unfold absI; split <;> omega
      omega
/-- the costs without and with a carry -/
abbrev Tb := Option Int × Option Int
def choices (b r : Int) : List (Int × Int) := if r = 0 ∨ r = b then [(0, r / b)] else [(r, 0), (r - b, 1)]
def minO : List Int → Option Int
  | [] => none
  | [i] => some i
  | i :: r => match minO r with
    | none => some i
    | some j => some (min i j)
theorem minO_le : ∀ {is : List Int} {j : Int}, j ∈ is → ∃ m, minO is = some m ∧ m ≤ j
  | [i], j, h => ⟨i, rfl, by rw [List.mem_singleton.mp h]; exact Int.le_refl _⟩
  | i :: k :: r, j, h => by
    show ∃ m, (match minO (k :: r) with | none => some i | some j => some (min i j)) = some m ∧ m ≤ j
    rcases List.mem_cons.mp h with rfl | h
    · cases minO (k :: r) with
      | none => exact ⟨_, rfl, Int.le_refl _⟩
      | some q => exact ⟨_, rfl, by omega⟩
    · obtain ⟨m, e, l⟩ := minO_le h
      rw [e]
      exact ⟨_, rfl, by omega⟩
theorem minO_mem : ∀ {is : List Int} {m : Int}, minO is = some m → m ∈ is
  | [i], m, h => by cases h; exact List.mem_singleton.mpr rfl
  | i :: k :: r, m, h => by
    have h : (match minO (k :: r) with | none => some i | some j => some (min i j)) = some m := h
    cases e : minO (k :: r) with
    | none => rw [e] at h; cases h; exact List.mem_cons_self
    | some q =>
      rw [e] at h
      have h : some (min i q) = some m := h
      have hm := minO_mem e
      cases h
      rcases Int.le_total i q with l | l
      · rw [Int.min_eq_left l]; exact List.mem_cons_self
      · rw [Int.min_eq_right l]; exact List.mem_cons_of_mem _ hm
/-- steps: the cost after it, the digit, both carries -/
def stepsO (b ad F c : Int) : Option Int → List (Int × Int × Int × Int)
  | none => []
  | some a => (choices b (F % b + c)).map fun p => (a + ad * absI p.1, p.1, c, p.2)
def steps (b ad F : Int) (t : Tb) : List (Int × Int × Int × Int) := stepsO b ad F 0 t.1 ++ stepsO b ad F 1 t.2
def least (ss : List (Int × Int × Int × Int)) (c : Int) : Option Int := minO ((ss.filter fun s => decide (s.2.2.2 = c)).map (·.1))
def step (b ad F : Int) (t : Tb) : Tb := (least (steps b ad F t) 0, least (steps b ad F t) 1)
def getC (t : Tb) (c : Int) : Option Int := if c = 0 then t.1 else if c = 1 then t.2 else none
theorem mem_steps {b ad F : Int} {t : Tb} {s : Int × Int × Int × Int} : s ∈ steps b ad F t ↔ ∃ c a d c', (c = 0 ∨ c = 1) ∧ getC t c = some a ∧ (d, c') ∈ choices b (F % b + c) ∧ s = (a + ad * absI d, d, c, c') := by
  unfold steps
  rw [List.mem_append]
  constructor
  · rintro (h | h)
    · cases e : t.1 with
      | none => rw [e] at h; cases h
      | some a =>
        rw [e] at h
        obtain ⟨⟨d, c'⟩, hp, rfl⟩ := List.mem_map.mp h
        exact ⟨0, a, d, c', .inl rfl, e, hp, rfl⟩
    · cases e : t.2 with
      | none => rw [e] at h; cases h
      | some a =>
        rw [e] at h
        obtain ⟨⟨d, c'⟩, hp, rfl⟩ := List.mem_map.mp h
        exact ⟨1, a, d, c', .inr rfl, e, hp, rfl⟩
  · rintro ⟨c, a, d, c', hc, e, hp, rfl⟩
    rcases hc with rfl | rfl
    · exact .inl (by rw [show t.1 = some a from e]; exact List.mem_map.mpr ⟨(d, c'), hp, rfl⟩)
    · exact .inr (by rw [show t.2 = some a from e]; exact List.mem_map.mpr ⟨(d, c'), hp, rfl⟩)
theorem getC_step {b ad F c : Int} {t : Tb} (hc : c = 0 ∨ c = 1) : getC (step b ad F t) c = least (steps b ad F t) c := by
  rcases hc with rfl | rfl <;> rfl
theorem step_le {b ad F c a d c' : Int} {t : Tb} (hc : c = 0 ∨ c = 1) (hc' : c' = 0 ∨ c' = 1) (h : getC t c = some a) (hp : (d, c') ∈ choices b (F % b + c)) : ∃ m, getC (step b ad F t) c' = some m ∧ m ≤ a + ad * absI d := by
  rw [getC_step hc']
  refine minO_le (List.mem_map.mpr ⟨(a + ad * absI d, d, c, c'), List.mem_filter.mpr ⟨mem_steps.mpr ⟨c, a, d, c', hc, h, hp, rfl⟩, by simp⟩, rfl⟩)
theorem step_mem {b ad F c' m : Int} {t : Tb} (hc' : c' = 0 ∨ c' = 1) (h : getC (step b ad F t) c' = some m) : ∃ c a d, (c = 0 ∨ c = 1) ∧ getC t c = some a ∧ (d, c') ∈ choices b (F % b + c) ∧ m = a + ad * absI d := by
  rw [getC_step hc'] at h
  obtain ⟨s, hs, rfl⟩ := List.mem_map.mp (minO_mem h)
  obtain ⟨h1, h2⟩ := List.mem_filter.mp hs
  obtain ⟨c, a, d, c2, hc, e, hp, rfl⟩ := mem_steps.mp h1
  have : c2 = c' := by simpa using h2
  subst this
  exact ⟨c, a, d, hc, e, hp, rfl⟩
/-- whatever reaches the floor and c costs C: one of the two ways is no dearer -/
def Dom (ad : Int) (t : Tb) (c C : Int) : Prop := ∃ c0 a, (c0 = 0 ∨ c0 = 1) ∧ getC t c0 = some a ∧ a + ad * absI (c - c0) ≤ C
theorem mul_pos_le {b x : Int} (hb : 2 ≤ b) (hx : 0 ≤ x) : x ≤ b * x := by
  have := Int.mul_le_mul_of_nonneg_right (show (1 : Int) ≤ b by omega) hx
  omega
theorem dom_core {b r c1 : Int} (hb : 2 ≤ b) (hr : 0 ≤ r) (hr2 : r ≤ b) : ∃ d c0, (c0 = 0 ∨ c0 = 1) ∧ (d, c0) ∈ choices b r ∧ absI d + absI (c1 - c0) ≤ absI (r - b * c1) := by
  unfold choices
  by_cases h0 : r = 0
  · rw [if_pos (.inl h0)]
    subst h0
    refine ⟨0, 0, .inl rfl, by simp, ?_⟩
    rcases Int.le_total 0 c1 with h | h
    · have := mul_pos_le hb h
      unfold absI; repeat' split
      all_goals omega
    · have := mul_pos_le hb (show 0 ≤ -c1 by omega)
      rw [Int.mul_neg] at this
      unfold absI; repeat' split
      all_goals omega
  · by_cases h1 : r = b
    · rw [if_pos (.inr h1)]
      subst h1
      refine ⟨0, 1, .inr rfl, by rw [Int.ediv_self (by omega)]; simp, ?_⟩
      have e : r - r * c1 = r * (1 - c1) := by rw [Int.mul_sub, Int.mul_one]
      rw [e]
      rcases Int.le_total 0 (1 - c1) with h | h
      · have := mul_pos_le hb h
        unfold absI; repeat' split
        all_goals omega
      · have := mul_pos_le hb (show 0 ≤ -(1 - c1) by omega)
        rw [Int.mul_neg] at this
        unfold absI; repeat' split
        all_goals omega
    · rw [if_neg (by omega)]
      rcases Int.le_total c1 0 with h | h
      · refine ⟨r, 0, .inl rfl, by simp, ?_⟩
        have := mul_pos_le hb (show 0 ≤ -c1 by omega)
        rw [Int.mul_neg] at this
        unfold absI; repeat' split
        all_goals omega
      · by_cases hz : c1 = 0
        · subst hz
          refine ⟨r, 0, .inl rfl, by simp, ?_⟩
          rw [Int.mul_zero]
          unfold absI; repeat' split
          all_goals omega
        · refine ⟨r - b, 1, .inr rfl, by simp, ?_⟩
          have := mul_pos_le hb (show 0 ≤ c1 - 1 by omega)
          rw [Int.mul_sub, Int.mul_one] at this
          unfold absI; repeat' split
          all_goals omega
theorem absI_add (x y : Int) : absI (x + y) ≤ absI x + absI y := by unfold absI; repeat' split
                                                                    all_goals omega
theorem mod_eq {b F : Int} : F = b * (F / b) + F % b := (Int.mul_ediv_add_emod F b).symm
theorem step_dom {b ad F c C d c1 : Int} {t : Tb} (hb : 2 ≤ b) (ha : 0 ≤ ad) (h : Dom ad t c C) (e : F + c = d + b * (F / b + c1)) : Dom ad (step b ad F t) c1 (C + ad * absI d) := by
  obtain ⟨c0, a, hc0, g, l⟩ := h
  have m1 := Int.emod_nonneg F (show b ≠ 0 by omega)
  have m2 := Int.emod_lt_of_pos F (show 0 < b by omega)
  have e1 : F % b + c = d + b * c1 := by
    have := mod_eq (b := b) (F := F)
    rw [Int.mul_add] at e
    omega
  obtain ⟨d2, c2, hc2, hm, l2⟩ := dom_core (b := b) (r := F % b + c0) (c1 := c1) hb (by omega) (by omega)
  obtain ⟨m, em, lm⟩ := step_le (ad := ad) hc0 hc2 g hm
  refine ⟨c2, m, hc2, em, ?_⟩
  have l3 : absI d2 + absI (c1 - c2) ≤ absI (c - c0) + absI d := by
    refine Int.le_trans l2 ?_
    have e2 : F % b + c0 - b * c1 = d + -(c - c0) := by omega
    rw [e2]
    have := absI_add d (-(c - c0))
    have : absI (-(c - c0)) = absI (c - c0) := by unfold absI; repeat' split
                                                  all_goals omega
    omega
  have l4 := Int.mul_le_mul_of_nonneg_left l3 ha
  rw [Int.mul_add, Int.mul_add] at l4
  omega
/-- the table after j steps -/
def iter (b ad : Int) : Nat → Int → Tb → Tb
  | 0, _, t => t
  | j + 1, F, t => iter b ad j (F / b) (step b ad F t)
def floorN (b : Int) : Nat → Int → Int
  | 0, F => F
  | j + 1, F => floorN b j (F / b)
/-- a way that ends at the place j costs no more than C -/
def Ends (b ad : Int) (j : Nat) (F : Int) (t : Tb) (C : Int) : Prop := ∃ c0 a, (c0 = 0 ∨ c0 = 1) ∧ getC (iter b ad j F t) c0 = some a ∧ a + ad * absI (floorN b j F + c0) ≤ C
theorem ends_le {b ad : Int} (hb : 2 ≤ b) (ha : 0 ≤ ad) : ∀ (j : Nat) (ds : List Int) (F : Int) (t : Tb) (c C : Int), Dom ad t c C → val b ds = F + c → j + 1 ≤ ds.length → (ds.length = j + 1 ∨ floorN b j F = 0 ∨ floorN b j F = -1) → Ends b ad j F t (C + ad * cost ds)
  | 0, ds, F, t, c, C, h, e, hl, hs => by
    obtain ⟨c0, a, hc0, g, l⟩ := h
    by_cases h1 : ds.length = 1
    · match ds, h1 with
      | [d], _ =>
        refine ⟨c0, a, hc0, g, ?_⟩
        have ed : d = F + c := by simpa [val] using e
        have ec : cost [d] = absI d := by simp [cost]
        rw [ec, ed]
        have l3 : absI (F + c0) ≤ absI (c - c0) + absI (F + c) := by
          have z1 := absI_add (F + c) (-(c - c0))
          have z2 : absI (-(c - c0)) = absI (c - c0) := by unfold absI; repeat' split
                                                           all_goals omega
          have e9 : F + c + -(c - c0) = F + c0 := by omega
          rw [e9] at z1
          omega
        have l4 := Int.mul_le_mul_of_nonneg_left l3 ha
        rw [Int.mul_add] at l4
        show a + ad * absI (F + c0) ≤ _
        omega
    · have hF : F = 0 ∨ F = -1 := by rcases hs with h | h | h; exact absurd h h1; exact .inl h; exact .inr h
      refine ⟨c0, a, hc0, g, ?_⟩
      show a + ad * absI (F + c0) ≤ _
      have key : absI (F + c0) ≤ absI (c - c0) + cost ds := by
        have k0 := cost_nonneg ds
        by_cases hv : val b ds = 0
        · unfold absI; repeat' split
          all_goals omega
        · have := cost_pos b ds hv
          unfold absI; repeat' split
          all_goals omega
      have l4 := Int.mul_le_mul_of_nonneg_left key ha
      rw [Int.mul_add] at l4
      omega
  | j + 1, [], F, t, c, C, h, e, hl, hs => by simp at hl
  | j + 1, d :: r, F, t, c, C, h, e, hl, hs => by
    have e : d + b * val b r = F + c := e
    have h2 := step_dom (c1 := val b r - F / b) (d := d) hb ha h (by rw [← e]; congr 2; omega)
    have := ends_le hb ha j r (F / b) (step b ad F t) (val b r - F / b) (C + ad * absI d) h2 (by omega) (by simpa using hl) (by
      rcases hs with h | h
      · exact .inl (by simpa using h)
      · exact .inr h)
    obtain ⟨c0, a, hc0, g, l⟩ := this
    refine ⟨c0, a, hc0, g, ?_⟩
    show _ ≤ C + ad * (absI d + cost r)
    rw [Int.mul_add]
    show a + ad * absI (floorN b j (F / b) + c0) ≤ _
    omega
/-- digits below the place do not help -/
theorem dom_low {b ad : Int} (hb : 2 ≤ b) (ha : 0 ≤ ad) : ∀ (l : Nat) (ds : List Int) (V c : Int), val b ds = V * b ^ l + c * b ^ l → l ≤ ds.length → ∀ C, ad * absI c ≤ C → ∃ c1 C1 es, val b es = V + c1 ∧ es.length + l = ds.length ∧ C1 + ad * cost es ≤ C + ad * cost ds ∧ ad * absI c1 ≤ C1
  | 0, ds, V, c, e, _, C, hC => ⟨c, C, ds, by simpa using e, by simp, Int.le_refl _, hC⟩
  | l + 1, [], V, c, e, hl, C, hC => by simp at hl
  | l + 1, d :: r, V, c, e, hl, C, hC => by
    have e : d + b * val b r = V * b ^ (l + 1) + c * b ^ (l + 1) := e
    have hp : b ^ (l + 1) = b ^ l * b := Int.pow_succ _ _
    have hd : d = b * (V * b ^ l + c * b ^ l - val b r) := by
      rw [Int.mul_sub, Int.mul_add]
      have h1 : b * (V * b ^ l) = V * b ^ (l + 1) := by rw [hp]; rw [Int.mul_left_comm, Int.mul_comm b (b ^ l)]
      have h2 : b * (c * b ^ l) = c * b ^ (l + 1) := by rw [hp]; rw [Int.mul_left_comm, Int.mul_comm b (b ^ l)]
      rw [h1, h2]; omega
    generalize hx : V * b ^ l + c * b ^ l - val b r = x at hd
    match r with
    | [] =>
      -- the last place
      have : l = 0 := by simp at hl; omega
      subst this
      refine ⟨V * 1 * 0 + (0 - V), C + ad * absI d, [], by simp [val]; omega, by simp, ?_, ?_⟩
      · simp [cost]
      · have : x = V + c := by simpa [val] using hx.symm
        subst this
        have l1 : absI (0 - V) ≤ absI c + absI d := by
          have h1 := absI_add (-(V + c)) c
          have h2 : absI (-(V + c)) ≤ absI d := by
            rw [hd]
            rcases Int.le_total 0 (V + c) with h | h
            · have := mul_pos_le hb h
              unfold absI; repeat' split
              all_goals omega
            · have := mul_pos_le hb (show 0 ≤ -(V + c) by omega)
              rw [Int.mul_neg] at this
              unfold absI; repeat' split
              all_goals omega
          have : -(V + c) + c = 0 - V := by omega
          rw [this] at h1
          omega
        have l4 := Int.mul_le_mul_of_nonneg_left l1 ha
        rw [Int.mul_add] at l4
        have : V * 1 * 0 + (0 - V) = 0 - V := by simp
        rw [this]
        omega
    | d1 :: r2 =>
      have e2 : val b ((d1 + x) :: r2) = V * b ^ l + c * b ^ l := by
        show d1 + x + b * val b r2 = _
        have : val b (d1 :: r2) = d1 + b * val b r2 := rfl
        rw [this] at hx
        omega
      have l1 : absI (d1 + x) ≤ absI d1 + absI d := by
        have h1 := absI_add d1 x
        have h2 : absI x ≤ absI d := by
          rw [hd]
          rcases Int.le_total 0 x with h | h
          · have := mul_pos_le hb h
            unfold absI; repeat' split
            all_goals omega
          · have := mul_pos_le hb (show 0 ≤ -x by omega)
            rw [Int.mul_neg] at this
            unfold absI; repeat' split
            all_goals omega
        omega
      obtain ⟨c1, C1, es, k1, k2, k3, k4⟩ := dom_low hb ha l ((d1 + x) :: r2) V c e2 (by simpa using hl) C hC
      refine ⟨c1, C1, es, k1, by simp at k2 ⊢; omega, ?_, k4⟩
      have l4 := Int.mul_le_mul_of_nonneg_left l1 ha
      have hcc : cost ((d1 + x) :: r2) = absI (d1 + x) + cost r2 := rfl
      have hcd : cost (d :: d1 :: r2) = absI d + (absI d1 + cost r2) := rfl
      rw [hcc, Int.mul_add] at k3
      rw [hcd, Int.mul_add, Int.mul_add]
      rw [Int.mul_add] at l4
      omega
end SW
namespace SW
open NR
theorem val_append (b : Int) : ∀ (xs ys : List Int), val b (xs ++ ys) = val b xs + b ^ xs.length * val b ys
  | [], ys => by simp [val]
  | x :: xs, ys => by
    show x + b * val b (xs ++ ys) = x + b * val b xs + b ^ (xs.length + 1) * val b ys
    rw [val_append b xs ys, Int.mul_add, Int.pow_succ, Int.mul_comm (b ^ xs.length) b, Int.mul_assoc, Int.add_assoc]
theorem cost_append : ∀ (xs ys : List Int), cost (xs ++ ys) = cost xs + cost ys
  | [], ys => by simp [cost]
  | x :: xs, ys => by
    show absI x + cost (xs ++ ys) = absI x + cost xs + cost ys
    rw [cost_append xs ys, Int.add_assoc]
theorem choices_eq {b r d c : Int} (hb : 2 ≤ b) (h : (d, c) ∈ choices b r) (hr : 0 ≤ r) (hr2 : r ≤ b) : r = d + b * c ∧ (c = 0 ∨ c = 1) := by
  unfold choices at h
  split at h
  · rename_i hz
    cases List.mem_singleton.mp h
    rcases hz with rfl | rfl
    · rw [Int.zero_ediv]; simp
    · rw [Int.ediv_self (by omega)]; simp
  · rcases List.mem_cons.mp h with h | h
    · cases h; simp
    · cases List.mem_singleton.mp h
      exact ⟨by omega, .inr rfl⟩
theorem realize {b ad : Int} (hb : 2 ≤ b) : ∀ (j : Nat) (F : Int) (t : Tb) (c a : Int), (c = 0 ∨ c = 1) → getC (iter b ad j F t) c = some a →
    ∃ c0 a0 ds, (c0 = 0 ∨ c0 = 1) ∧ getC t c0 = some a0 ∧ ds.length = j ∧ val b (ds ++ [floorN b j F + c]) = F + c0 ∧ a = a0 + ad * cost ds
  | 0, F, t, c, a, hc, h => ⟨c, a, [], hc, h, rfl, by simp [val, floorN], by simp [cost]⟩
  | j + 1, F, t, c, a, hc, h => by
    obtain ⟨c1, a1, ds, hc1, g, hl, hv, ha⟩ := realize hb j (F / b) (step b ad F t) c a hc h
    obtain ⟨c0, a0, d, hc0, g0, hm, e⟩ := step_mem hc1 g
    have m1 := Int.emod_nonneg F (show b ≠ 0 by omega)
    have m2 := Int.emod_lt_of_pos F (show 0 < b by omega)
    obtain ⟨e2, _⟩ := choices_eq hb hm (by omega) (by omega)
    refine ⟨c0, a0, d :: ds, hc0, g0, by simp [hl], ?_, ?_⟩
    · show d + b * val b (ds ++ [floorN b j (F / b) + c]) = F + c0
      rw [hv, Int.mul_add]
      have := mod_eq (b := b) (F := F)
      omega
    · show a = a0 + ad * (absI d + cost ds)
      rw [Int.mul_add]; omega
def t0 : Tb := (some 0, none)
def digs (b : Int) : Nat → Int → List Int
  | 0, F => [F]
  | j + 1, F => F % b :: digs b j (F / b)
theorem digs_len (b : Int) : ∀ j F, (digs b j F).length = j + 1
  | 0, _ => rfl
  | j + 1, F => by simp [digs, digs_len b j]
theorem digs_val (b : Int) : ∀ j F, val b (digs b j F) = F
  | 0, F => by simp [digs, val]
  | j + 1, F => by
    show F % b + b * val b (digs b j (F / b)) = F
    rw [digs_val b j]
    have := mod_eq (b := b) (F := F)
    omega
/-- what a way costs in all that ends at the place k with the carry c -/
def endX (b ad mv span V : Int) (k : Nat) (c a : Int) : Int := a + (ad * absI (floorN b k V + c) + mv * (2 * k - span))
def IsEnd (b ad mv span V : Int) (ready m : Nat) (x : Int) : Prop := ∃ k c a, ready ≤ k ∧ k ≤ m ∧ (c = 0 ∨ c = 1) ∧ getC (iter b ad k V t0) c = some a ∧ x = endX b ad mv span V k c a
/-- a plan: the digits from the place l to the place h -/
structure Plan (b lo hi p1 p2 : Int) (q : Rat) (l h : Int) (ds : List Int) : Prop where
  lo : lo ≤ l
  lm : l ≤ p1 ∧ l ≤ p2
  hm : p1 ≤ h ∧ p2 ≤ h
  hi : h ≤ hi
  len : (ds.length : Int) = h - l + 1
  val : ((val b ds : Int) : Rat) * W b l = q
def planCost (ad mv p1 p2 l h : Int) (ds : List Int) : Int := ad * cost ds + mv * (2 * (h - l) - absI (p2 - p1))
/-- x is the least cost of a plan -/
structure Dist (b ad mv lo hi p1 p2 : Int) (q : Rat) (x : Int) : Prop where
  at_ : ∃ l h ds, Plan b lo hi p1 p2 q l h ds ∧ x = planCost ad mv p1 p2 l h ds
  le : ∀ l h ds, Plan b lo hi p1 p2 q l h ds → x ≤ planCost ad mv p1 p2 l h ds
theorem Dist.one {b ad mv lo hi p1 p2 : Int} {q : Rat} {x y : Int} (h : Dist b ad mv lo hi p1 p2 q x) (g : Dist b ad mv lo hi p1 p2 q y) : x = y := by
  obtain ⟨l, u, ds, p, rfl⟩ := h.at_
  obtain ⟨l2, u2, ds2, p2, rfl⟩ := g.at_
  have := h.le _ _ _ p2
  have := g.le _ _ _ p
  omega
section
variable {b ad mv lo hi p1 p2 : Int} {q : Rat} {V low : Int} {ready m : Nat} (hb : 2 ≤ b) (ha : 0 ≤ ad) (hm : 0 ≤ mv)
include hb
theorem end_plan (hq : q = V * W b low) (h1 : lo ≤ low) (h2 : low ≤ p1 ∧ low ≤ p2) (h3 : p1 ≤ low + ready ∧ p2 ≤ low + ready) (h4 : low + m ≤ hi) {x : Int} (h : IsEnd b ad mv (absI (p2 - p1)) V ready m x) :
    ∃ l h ds, Plan b lo hi p1 p2 q l h ds ∧ x = planCost ad mv p1 p2 l h ds := by
  obtain ⟨k, c, a, hk, hk2, hc, g, rfl⟩ := h
  obtain ⟨c0, a0, ds, hc0, g0, hl, hv, e⟩ := realize hb k V t0 c a hc g
  have z : c0 = 0 ∧ a0 = 0 := by
    rcases hc0 with rfl | rfl
    · exact ⟨rfl, (Option.some.inj (show some (0 : Int) = some a0 from g0)).symm⟩
    · cases (show (none : Option Int) = some a0 from g0)
  obtain ⟨rfl, rfl⟩ := z
  refine ⟨low, low + k, ds ++ [floorN b k V + c], ⟨h1, h2, ⟨by omega, by omega⟩, by omega, by simp [hl]; omega, by rw [hv, Int.add_zero]; exact hq.symm⟩, ?_⟩
  unfold endX planCost
  rw [cost_append, e]
  have : cost [floorN b k V + c] = absI (floorN b k V + c) := by simp [cost]
  rw [this, Int.mul_add]
  have e2 : low + (k : Int) - low = k := by omega
  rw [e2]
  omega
include ha hm
theorem plan_end (hq : q = V * W b low) (hlow : ∀ l Z, l ≤ p1 → l ≤ p2 → (Z : Int) * W b l = q → l ≤ low) (h3 : ready = 0 ∨ low + ready ≤ p1 ∨ low + ready ≤ p2) (h5 : low ≤ p1) (hr : ready ≤ m) (hs : floorN b m V = 0 ∨ floorN b m V = -1 ∨ low + m = hi)
    {l h : Int} {ds : List Int} (p : Plan b lo hi p1 p2 q l h ds) : ∃ x, IsEnd b ad mv (absI (p2 - p1)) V ready m x ∧ x ≤ planCost ad mv p1 p2 l h ds := by
  have hl := hlow l (val b ds) p.lm.1 p.lm.2 p.val
  have e1 := mul_W_eq hb (n := V) (e := low) (m := val b ds) (f := l) (by rw [p.val, hq]) hl
  have hlen := p.len
  have hge : low + ready ≤ h := by
    have g1 := p.hm.1
    have g2 := p.hm.2
    omega
  obtain ⟨c1, C1, es, k1, k2, k3, k4⟩ := dom_low hb ha (low - l).toNat ds V 0 (by rw [e1]; simp) (by omega) 0 (by simp [absI])
  -- the place where the way is cut
  have key : ∀ j : Nat, ready ≤ j → j ≤ m → j + 1 ≤ es.length → (es.length = j + 1 ∨ floorN b j V = 0 ∨ floorN b j V = -1) → ∃ x, IsEnd b ad mv (absI (p2 - p1)) V ready m x ∧ x ≤ planCost ad mv p1 p2 l h ds := by
    intro j hj hjm hjl hst
    obtain ⟨c0, a, hc0, g, le⟩ := ends_le hb ha j es V t0 c1 C1 ⟨0, 0, .inl rfl, rfl, by rw [Int.sub_zero]; omega⟩ k1 hjl hst
    refine ⟨_, ⟨j, c0, a, hj, hjm, hc0, g, rfl⟩, ?_⟩
    unfold endX planCost
    have hjh : (2 * (j : Int) - absI (p2 - p1)) ≤ 2 * (h - l) - absI (p2 - p1) := by omega
    have l4 := Int.mul_le_mul_of_nonneg_left hjh hm
    simp only [Int.mul_zero, Int.zero_add] at k3
    omega
  by_cases hc : es.length ≤ m + 1
  · exact key (es.length - 1) (by omega) (by omega) (by omega) (.inl (by omega))
  · refine key m hr (Nat.le_refl _) (by omega) ?_
    rcases hs with h | h | h
    · exact .inr (.inl h)
    · exact .inr (.inr h)
    · have := p.hi
      omega
theorem dist_of (hq : q = V * W b low) (hlow : ∀ l Z, l ≤ p1 → l ≤ p2 → (Z : Int) * W b l = q → l ≤ low) (h1 : lo ≤ low) (h2 : low ≤ p1 ∧ low ≤ p2) (h3 : p1 ≤ low + ready ∧ p2 ≤ low + ready) (h3' : low + ready = p1 ∨ low + ready = p2) (h4 : low + m ≤ hi) (hr : ready ≤ m)
    (hs : floorN b m V = 0 ∨ floorN b m V = -1 ∨ low + m = hi) {x : Int} (hx : IsEnd b ad mv (absI (p2 - p1)) V ready m x) (hle : ∀ y, IsEnd b ad mv (absI (p2 - p1)) V ready m y → x ≤ y) : Dist b ad mv lo hi p1 p2 q x := by
  refine ⟨end_plan hb hq h1 h2 h3 h4 hx, fun l h ds p => ?_⟩
  obtain ⟨y, hy, le⟩ := plan_end hb ha hm hq hlow (by omega) h2.1 hr hs p
  exact Int.le_trans (hle y hy) le
theorem end_some (V : Int) (span : Int) (hr : ready ≤ m) : ∃ x, IsEnd b ad mv span V ready m x := by
  obtain ⟨c0, a, hc0, g, le⟩ := ends_le hb ha ready (digs b ready V) V t0 0 0 ⟨0, 0, .inl rfl, rfl, by simp [absI]⟩ (by rw [digs_val]; simp) (by rw [digs_len]; exact Nat.le_refl _) (.inl (digs_len _ _ _))
  exact ⟨_, ready, c0, a, Nat.le_refl _, hr, hc0, g, rfl⟩
end
end SW
namespace PM
open PySem L2 GL DL NR
/-- an object of the class Sweep -/
def swD (CS : Addr) (row : D) (low span ready : Int) (fl : List Int) : D := .obj CS ["row", "low", "span", "ready", "floors"] [row, .int low, .int span, .int ready, .lst (fl.map .int)]
section
variable {CR CS : Addr} {row : D} {low span ready : Int} {fl : List Int}
@[simp] theorem fld_row : gFld CS "row" (swD CS row low span ready fl) = some (.val row) := (if_pos rfl).trans rfl
@[simp] theorem fld_low : gFld CS "low" (swD CS row low span ready fl) = some (.val (.int low)) := (if_pos rfl).trans rfl
@[simp] theorem fld_span : gFld CS "span" (swD CS row low span ready fl) = some (.val (.int span)) := (if_pos rfl).trans rfl
@[simp] theorem fld_ready : gFld CS "ready" (swD CS row low span ready fl) = some (.val (.int ready)) := (if_pos rfl).trans rfl
@[simp] theorem fld_floors : gFld CS "floors" (swD CS row low span ready fl) = some (.val (.lst (fl.map .int))) := (if_pos rfl).trans rfl
theorem isO_of {m : Str} (h : (["row", "low", "span", "ready", "floors"] : List Str).contains m = false) : isO CS m (swD CS row low span ready fl) = true := by unfold isO swD; simp only [h]; simp
@[simp] theorem isO_choices : isO CS "choices" (swD CS row low span ready fl) = true := isO_of (by decide +kernel)
@[simp] theorem isO_steps : isO CS "steps" (swD CS row low span ready fl) = true := isO_of (by decide +kernel)
@[simp] theorem isO_least : isO CS "least_costs" (swD CS row low span ready fl) = true := isO_of (by decide +kernel)
@[simp] theorem isO_ends : isO CS "ends" (swD CS row low span ready fl) = true := isO_of (by decide +kernel)
@[simp] theorem isO_end : isO CS "end_cost" (swD CS row low span ready fl) = true := isO_of (by decide +kernel)
@[simp] theorem isO_moves : isO CS "moves" (swD CS row low span ready fl) = true := isO_of (by decide +kernel)
end
@[simp] theorem eFld_def (C : Addr) (f : Str) (m : MD) (Γ : En) : eFld C f m Γ = (m Γ).bind fun d => toR (gFld C f d) := rfl
@[simp] theorem eMeth_def (C : Addr) (mn : Str) (M : List D → Res Slot) (mo : MD) (mas : ML) (Γ : En) : eMeth C mn M mo mas Γ = (mo Γ).bind fun d => need (isO C mn d = true) ((mas Γ).bind fun ds => (M (d :: ds)).bind slotD) := rfl
@[simp] theorem fMeth_def (C : Addr) (mn : Str) (M : List D → Res Slot) (mo : MD) (mas : ML) (Γ : En) : fMeth C mn M mo mas Γ = (mo Γ).bind fun d => need (isO C mn d = true) ((mas Γ).bind fun ds => (M (d :: ds)).bind slotF) := rfl
theorem ix_at {fl : List Int} {k : Nat} {F : Int} (h : fl[k]? = some F) : gIx (.lst (fl.map .int)) (.int k) = some (.val (.int F)) := by
  rw [gIx_lst, atI_nn (a := D.int F) (by omega) (by rw [Int.toNat_natCast, List.getElem?_map, h]; rfl)]
  rfl
def stD (p : Int × Int) : D := .tup [.int p.1, .int p.2]
section
variable {CR CS : Addr} {b mv ad low span ready : Int} {f l : D} {fl : List Int}
theorem choices_val (hb : 2 ≤ b) (hb2 : b ≤ 36) {k : Nat} {F c : Int} (hF : fl[k]? = some F) :
    M_Sweep_choices CR CS [swD CS (rowD CR (.int b) (.int mv) (.int ad) f l) low span ready fl, .int k, .int c] = .ok (.own ((SW.choices b (F % b + c)).map stD)) := by
  unfold M_Sweep_choices
  rw [body_eq]
  have e := ix_at hF
  have g : gMod (.int F) (.int b) = some (.val (.int (F % b))) := giv_pos (by omega)
  have g2 : ∀ r, gDiv (.int r) (.int b) = some (.val (.int (r / b))) := fun r => div_ok (a := 6) (by omega) (by omega) (by decide) (by decide)
  generalize hr : F % b + c = r
  unfold SW.choices
  by_cases h0 : r = 0
  · subst h0
    simp [e, g, g2, hr, stD]
  · by_cases h1 : r = b
    · subst h1
      simp [e, g, g2, hr, stD, h0]
    · simp [e, g, g2, hr, stD, h0, h1, DL.gSub, i2]
theorem absI_if (d : Int) : (if d < 0 then -d else d) = SW.absI d := rfl
def optD : Option Int → D
  | none => .non
  | some i => .int i
def tabD (t : SW.Tb) : D := .tup [optD t.1, optD t.2]
def qD (s : Int × Int × Int × Int) : D := .tup [.int s.1, .int s.2.1, .int s.2.2.1, .int s.2.2.2]
theorem choice_bd (hb : 2 ≤ b) (hb2 : b ≤ 36) {r d c : Int} (hr : 0 ≤ r) (hr2 : r ≤ b) (h : (d, c) ∈ SW.choices b r) : d.natAbs < 2 ^ 6 := by
  unfold SW.choices at h
  split at h
  · cases List.mem_singleton.mp h; decide
  · rcases List.mem_cons.mp h with h | h
    · cases h; omega
    · cases List.mem_singleton.mp h; omega
def stepF (ad a c : Int) : D → D
  | .tup [.int d, .int c'] => qD (a + ad * SW.absI d, d, c, c')
  | d => d
theorem inner_val (hb : 2 ≤ b) (hb2 : b ≤ 36) (ha : 0 ≤ ad ∧ ad ≤ 1000000) {k : D} {r c a : Int} {tab : D} {x5 x6 : DL.Slot} (hr : 0 ≤ r) (hr2 : r ≤ b) :
    compM (bOfTup [bName 5, bName 6]) bYes (C_Sweep_steps_1 CR CS) [.sh (swD CS (rowD CR (.int b) (.int mv) (.int ad) f l) low span ready fl), .sh k, .sh tab, .sh (.int c), .sh (.int a), x5, x6] ((SW.choices b r).map stD) = .ok ((SW.choices b r).map fun p => qD (a + ad * SW.absI p.1, p.1, c, p.2)) := by
  rw [compM_map (stepF ad a c)]
  · rw [List.map_map]; rfl
  · intro x hx
    obtain ⟨⟨d, c'⟩, hp, rfl⟩ := List.mem_map.mp hx
    have bd := choice_bd hb hb2 hr hr2 hp
    have m1 : gMul (.int ad) (.int (SW.absI d)) = some (.val (.int (ad * SW.absI d))) := mul_ok (a := 20) (b := 6) (by omega) (by rw [SW.absI_nat, Int.natAbs_natCast]; exact bd) (by decide) (by decide) (by decide)
    refine ⟨[.sh (swD CS (rowD CR (.int b) (.int mv) (.int ad) f l) low span ready fl), .sh k, .sh tab, .sh (.int c), .sh (.int a), .sh (.int d), .sh (.int c')], by simp [stD], ?_⟩
    unfold C_Sweep_steps_1
    simp [stepF, stD, qD, gAbs, absI_if, m1, gAdd, i2]
theorem steps_val (hb : 2 ≤ b) (hb2 : b ≤ 36) (ha : 0 ≤ ad ∧ ad ≤ 1000000) {k : Nat} {F : Int} (hF : fl[k]? = some F) (t : SW.Tb) :
    M_Sweep_steps CR CS [swD CS (rowD CR (.int b) (.int mv) (.int ad) f l) low span ready fl, .int k, tabD t] = .ok (.own ((SW.steps b ad F t).map qD)) := by
  have m1 := Int.emod_nonneg F (show b ≠ 0 by omega)
  have m2 := Int.emod_lt_of_pos F (show 0 < b by omega)
  have c0 := choices_val (CR := CR) (CS := CS) (b := b) (mv := mv) (ad := ad) (low := low) (span := span) (ready := ready) (f := f) (l := l) hb hb2 (c := 0) hF
  have c1 := choices_val (CR := CR) (CS := CS) (b := b) (mv := mv) (ad := ad) (low := low) (span := span) (ready := ready) (f := f) (l := l) hb hb2 (c := 1) hF
  have i0 := fun a tab x5 x6 => inner_val (CR := CR) (CS := CS) (mv := mv) (low := low) (span := span) (ready := ready) (f := f) (l := l) (fl := fl) (k := .int k) hb hb2 ha (r := F % b) (c := 0) (a := a) (tab := tab) (x5 := x5) (x6 := x6) (by omega) (by omega)
  have i1 := fun a tab x5 x6 => inner_val (CR := CR) (CS := CS) (mv := mv) (low := low) (span := span) (ready := ready) (f := f) (l := l) (fl := fl) (k := .int k) hb hb2 ha (r := F % b + 1) (c := 1) (a := a) (tab := tab) (x5 := x5) (x6 := x6) (by omega) (by omega)
  have len : ∀ r, (SW.choices b r).length ≤ 2 := fun r => by unfold SW.choices; split <;> simp
  have l0 : (SW.choices b (F % b)).length < 1000000 := by have := len (F % b); omega
  have l1 : (SW.choices b (F % b + 1)).length < 1000000 := by have := len (F % b + 1); omega
  have l01 : (SW.choices b (F % b)).length + (SW.choices b (F % b + 1)).length < 1000000 := by have := len (F % b); have := len (F % b + 1); omega
  unfold M_Sweep_steps
  rw [body_eq]
  unfold SW.steps
  generalize hS : swD CS (rowD CR (.int b) (.int mv) (.int ad) f l) low span ready fl = S at *
  have is1 : isO CS "choices" S = true := by rw [← hS]; simp
  obtain ⟨t1, t2⟩ := t
  cases t1 with
  | none =>
    cases t2 with
    | none => simp [mCompT2, compT2, enumD, tabD, optD, SW.stepsO, gNotN, DL.isNon, wipeE, calm, l0, l1, l01]
    | some a2 => simp [mCompT2, compT2, enumD, tabD, optD, SW.stepsO, gNotN, DL.isNon, wipeE, calm, l0, l1, l01, is1, c1, i1]
  | some a1 =>
    cases t2 with
    | none => simp [mCompT2, compT2, enumD, tabD, optD, SW.stepsO, gNotN, DL.isNon, wipeE, calm, l0, l1, l01, is1, c0, i0]
    | some a2 => simp [mCompT2, compT2, enumD, tabD, optD, SW.stepsO, gNotN, DL.isNon, wipeE, calm, l0, l1, l01, is1, c0, i0, c1, i1]
                 rfl
end
theorem intsZ_minO (is : List Int) : gMinD (.lst (is.map .int)) .non = some (.val (optD (SW.minO is))) := by
  show minOf (intsZ (is.map .int)) .non = _
  rw [intsZ_of]
  match is with
  | [] => rfl
  | i :: r =>
    have e : ∀ (i : Int) (r : List Int), SW.minO (i :: r) = some (minI (i :: r)) := by
      intro i r
      induction r generalizing i with
      | nil => rfl
      | cons k r ih =>
        show (match SW.minO (k :: r) with | none => some i | some j => some (min i j)) = _
        rw [ih k]
        rfl
    rw [e]
    rfl
theorem ix_last (xs : List D) (x : D) : gIx (.lst (xs ++ [x])) (.int (-1)) = some (.val x) := by
  rw [gIx_lst]
  unfold atI ixN
  rw [if_neg (by decide), if_pos (by simp; omega)]
  have : (-1 + ((xs ++ [x]).length : Int)).toNat = xs.length := by simp; omega
  rw [this]
  simp
theorem tup_ix3 (x y z w : D) (r : List D) : gIx (.tup (x :: y :: z :: w :: r)) (.int 3) = some (.val w) := by
  show (atI (x :: y :: z :: w :: r) 3).map Giv.val = _
  rw [atI_nn (a := w) (by decide) rfl]; rfl
def step0 : D → D
  | .tup (d :: _) => d
  | d => d
def step3 (c : Int) : D → Bool
  | .tup [_, _, _, .int k] => k == c
  | _ => false
section
variable {CR CS : Addr} {b mv ad low span ready : Int} {f l : D} {fl : List Int}
theorem least_val (ss : List (Int × Int × Int × Int)) (c : Int) {s0 s1 s2 s4 s6 : DL.Slot} (hl : ss.length < 1000000) :
    C_Sweep_least_costs_1 CR CS [s0, s1, s2, .sh (.lst (ss.map qD)), s4, .sh (.int c), s6] = .ok (optD (SW.least ss c)) := by
  unfold C_Sweep_least_costs_1
  have e : compM (bName 6) (bB (eOp gEq (eOp gIx (eVar 6) (eC (.int 3))) (eVar 5))) (eOp gIx (eVar 6) (eC (.int 0))) [s0, s1, s2, .sh (.lst (ss.map qD)), s4, .sh (.int c), .un] (ss.map qD) = .ok (((ss.filter fun s => decide (s.2.2.2 = c)).map (·.1)).map .int) := by
    rw [compM_filter (step3 c) step0]
    · congr 1
      rw [List.filter_map, List.map_map, List.map_map]
      have : step3 c ∘ qD = fun s => decide (s.2.2.2 = c) := by funext s; rfl
      rw [this]
      rfl
    · intro x hx
      obtain ⟨s, hs, rfl⟩ := List.mem_map.mp hx
      exact ⟨[s0, s1, s2, .sh (.lst (ss.map qD)), s4, .sh (.int c), .sh (qD s)], by simp, by simp [qD, step3, tup_ix3], fun _ => by simp [qD, step0, tup_ix0]⟩
  simp only [eOp_def, eAll_def, comp_eq, iLst_def, eVar_def, eC_def]
  simp only [getS_0, getS_s, bind_ok, asL_lst, List.length_map, need_pos hl]
  have e2 : wipeE [s0, s1, s2, .sh (.lst (ss.map qD)), s4, .sh (.int c), s6] [6] = [s0, s1, s2, .sh (.lst (ss.map qD)), s4, .sh (.int c), .un] := by simp [wipeE]
  rw [e2, e]
  simp only [bind_ok]
  rw [intsZ_minO]
  rfl
/-- the tables before a place -/
def tabs (b ad V : Int) (k : Nat) : List D := (List.range k).map fun i => tabD (SW.iter b ad i V SW.t0)
def flo (b V : Int) (m : Nat) : List Int := (List.range (m + 1)).map fun i => SW.floorN b i V
theorem flo_at {b V : Int} {m k : Nat} (h : k ≤ m) : (flo b V m)[k]? = some (SW.floorN b k V) := by
  unfold flo
  rw [List.getElem?_map, List.getElem?_range (by omega)]; rfl
theorem flo_len (b V : Int) (m : Nat) : (flo b V m).length = m + 1 := by simp [flo]
theorem floorN_succ (b : Int) : ∀ (j : Nat) (F : Int), SW.floorN b (j + 1) F = SW.floorN b j F / b
  | 0, F => rfl
  | j + 1, F => by
    show SW.floorN b (j + 1) (F / b) = SW.floorN b j (F / b) / b
    exact floorN_succ b j (F / b)
theorem iter_succ (b ad : Int) : ∀ (j : Nat) (F : Int) (t : SW.Tb), SW.iter b ad (j + 1) F t = SW.step b ad (SW.floorN b j F) (SW.iter b ad j F t)
  | 0, F, t => rfl
  | j + 1, F, t => by
    show SW.iter b ad (j + 1) (F / b) (SW.step b ad F t) = _
    rw [iter_succ b ad j (F / b) (SW.step b ad F t)]
    rfl
theorem tabs_succ (b ad V : Int) (k : Nat) : tabs b ad V (k + 1) = tabs b ad V k ++ [tabD (SW.iter b ad k V SW.t0)] := by simp [tabs, List.range_succ]
theorem tabs_len (b ad V : Int) (k : Nat) : (tabs b ad V k).length = k := by simp [tabs]
theorem steps_len (b ad F : Int) (t : SW.Tb) : (SW.steps b ad F t).length ≤ 4 := by
  have len : ∀ r, (SW.choices b r).length ≤ 2 := fun r => by unfold SW.choices; split <;> simp
  have h : ∀ c o, (SW.stepsO b ad F c o).length ≤ 2 := fun c o => by
    cases o with
    | none => simp [SW.stepsO]
    | some a => simp only [SW.stepsO, List.length_map]; exact len _
  unfold SW.steps
  rw [List.length_append]
  have := h 0 t.1
  have := h 1 t.2
  omega
theorem costs_turn (hb : 2 ≤ b) (hb2 : b ≤ 36) (ha : 0 ≤ ad ∧ ad ≤ 1000000) {V : Int} {m k : Nat} (hk : k < m) (hm : m ≤ 900000) {x3 x4 x5 x6 : DL.Slot} :
    ∃ y3 y4 y5 y6, B_Sweep_least_costs_1 CR CS [.sh (swD CS (rowD CR (.int b) (.int mv) (.int ad) f l) low span ready (flo b V m)), .own (tabs b ad V (k + 1)), .sh (.int k), x3, x4, x5, x6] = .nx [.sh (swD CS (rowD CR (.int b) (.int mv) (.int ad) f l) low span ready (flo b V m)), .own (tabs b ad V (k + 1 + 1)), .sh (.int k), y3, y4, y5, y6] := by
  have st := steps_val (CR := CR) (CS := CS) (mv := mv) (low := low) (span := span) (ready := ready) (f := f) (l := l) hb hb2 ha (flo_at (b := b) (V := V) (Nat.le_of_lt hk)) (SW.iter b ad k V SW.t0)
  have sl := steps_len b ad (SW.floorN b k V) (SW.iter b ad k V SW.t0)
  have it := iter_succ b ad k V SW.t0
  generalize hSS : SW.steps b ad (SW.floorN b k V) (SW.iter b ad k V SW.t0) = ss at *
  have ta := tabs_succ b ad V k
  have tb := tabs_succ b ad V (k + 1)
  have tl := tabs_len b ad V (k + 1)
  have hst : SW.iter b ad (k + 1) V SW.t0 = (SW.least ss 0, SW.least ss 1) := by rw [it]; unfold SW.step; rw [hSS]
  have is1 : isO CS "steps" (swD CS (rowD CR (.int b) (.int mv) (.int ad) f l) low span ready (flo b V m)) = true := by simp
  generalize swD CS (rowD CR (.int b) (.int mv) (.int ad) f l) low span ready (flo b V m) = S at *
  have l0 := fun (s0 s1 s2 s4 s6 : DL.Slot) => least_val (CR := CR) (CS := CS) ss 0 (s0 := s0) (s1 := s1) (s2 := s2) (s4 := s4) (s6 := s6) (by omega)
  have l1 := fun (s0 s1 s2 s4 s6 : DL.Slot) => least_val (CR := CR) (CS := CS) ss 1 (s0 := s0) (s1 := s1) (s2 := s2) (s4 := s4) (s6 := s6) (by omega)
  have il : gIx (.lst (tabs b ad V (k + 1))) (.int (-1)) = some (.val (tabD (SW.iter b ad k V SW.t0))) := by rw [ta]; exact ix_last _ _
  generalize hT : tabD (SW.iter b ad k V SW.t0) = T at *
  generalize tabs b ad V (k + 1) = acc at *
  have el : tabs b ad V (k + 1 + 1) = acc ++ [.tup [optD (SW.least ss 0), optD (SW.least ss 1)]] := by rw [tb, hst]; rfl
  rw [el]
  refine ⟨.sh (.lst (ss.map qD)), .sh (.lst [optD (SW.least ss 0), optD (SW.least ss 1)]), x5, x6, ?_⟩
  unfold B_Sweep_least_costs_1
  refine seq_step (Γ' := [.sh S, .own acc, .sh (.int k), .sh (.lst (ss.map qD)), x4, x5, x6]) (by simp [is1, il, st]) ?_
  refine seq_step (Γ' := [.sh S, .own acc, .sh (.int k), .sh (.lst (ss.map qD)), .sh (.lst [optD (SW.least ss 0), optD (SW.least ss 1)]), x5, x6]) (by simp [comp_eq, compM, wipeE, l0, l1]) ?_
  simp [gTupl, tl, show k + 1 < 1000000 by omega]
theorem costs_val (hb : 2 ≤ b) (hb2 : b ≤ 36) (ha : 0 ≤ ad ∧ ad ≤ 1000000) {V : Int} {m : Nat} (hm : m ≤ 900000) :
    M_Sweep_least_costs CR CS [swD CS (rowD CR (.int b) (.int mv) (.int ad) f l) low span ready (flo b V m)] = .ok (.own (tabs b ad V (m + 1))) := by
  unfold M_Sweep_least_costs
  rw [body_eq]
  have is1 := fld_floors (CS := CS) (row := rowD CR (.int b) (.int mv) (.int ad) f l) (low := low) (span := span) (ready := ready) (fl := flo b V m)
  have turn := fun (k : Nat) (hk : k < m) (x3 x4 x5 x6 : DL.Slot) => costs_turn (CR := CR) (CS := CS) (mv := mv) (low := low) (span := span) (ready := ready) (f := f) (l := l) (V := V) hb hb2 ha hk hm (x3 := x3) (x4 := x4) (x5 := x5) (x6 := x6)
  generalize swD CS (rowD CR (.int b) (.int mv) (.int ad) f l) low span ready (flo b V m) = S at *
  have t1 : tabs b ad V 1 = [.tup [.int 0, .non]] := rfl
  have go := forM_inv (g := bName 2) (b := B_Sweep_least_costs_1 CR CS) (fun k Γ => ∃ x2 x3 x4 x5 x6, Γ = [.sh S, .own (tabs b ad V (k + 1)), x2, x3, x4, x5, x6]) (rangeD 0 m) 0 [.sh S, .own (tabs b ad V 1), .un, .un, .un, .un, .un] ⟨_, _, _, _, _, rfl⟩ fun i x Γ hx hp => by
    obtain ⟨x2, x3, x4, x5, x6, rfl⟩ := hp
    have hi : i < m := by
      by_cases hi : i < m
      · exact hi
      · rw [List.getElem?_eq_none (by rw [rangeD_len]; omega)] at hx; cases hx
    rw [rangeD_get 0 hi] at hx
    cases hx
    obtain ⟨y3, y4, y5, y6, e⟩ := turn i hi x3 x4 x5 x6
    refine ⟨_, _, rfl, .inl (by rw [Int.zero_add, Nat.zero_add]; exact e), ⟨.sh (.int i), y3, y4, y5, y6, by rw [Nat.zero_add]⟩⟩
  obtain ⟨Γ', e, x2, x3, x4, x5, x6, rfl⟩ := go
  rw [rangeD_len, Nat.zero_add] at e
  have hr : rng1 [.int ((m : Int) + 1 - 1)] = .ok (rangeD 0 m) := by
    rw [rng1_int, need_pos (by omega)]
    congr 2
    omega
  show Out.res _ = Out.res (.rt (.own (tabs b ad V (m + 1))))
  congr 1
  refine seq_step (Γ' := [.sh S, .own (tabs b ad V 1), .un, .un, .un, .un, .un]) (by simp [startD]; rfl) ?_
  refine seq_step (Γ' := [.sh S, .own (tabs b ad V (m + 1)), x2, x3, x4, x5, x6]) (by simp [is1, gLen, flo_len, DL.gSub, i2, show (m : Int) ≤ 1000000 by omega, show (-1000000 : Int) ≤ (m : Int) by omega, e]) ?_
  simp
theorem floorN_abs (hb : 2 ≤ b) {V : Int} {A : Nat} (h : V.natAbs < 2 ^ A) : ∀ (j : Nat) , (SW.floorN b j V).natAbs < 2 ^ A
  | 0 => h
  | j + 1 => by
    have ih := floorN_abs hb h j
    rw [floorN_succ]
    generalize SW.floorN b j V = F at *
    have e := Int.mul_ediv_add_emod F b
    have m1 := Int.emod_nonneg F (show b ≠ 0 by omega)
    have m2 := Int.emod_lt_of_pos F (show 0 < b by omega)
    refine Nat.lt_of_le_of_lt ?_ ih
    rcases Int.le_total 0 (F / b) with h | h
    · have := SW.mul_pos_le hb h
      omega
    · have h2 := Int.mul_le_mul_of_nonneg_right (show (2 : Int) ≤ b by omega) (show 0 ≤ -(F / b) by omega)
      rw [Int.mul_neg, Int.mul_neg] at h2
      by_cases hz : F / b = 0
      · omega
      · by_cases h1 : F / b = -1
        · rw [h1] at e ⊢
          omega
        · have h3 := Int.mul_le_mul_of_nonneg_left (show (1 : Int) ≤ -(F / b) - 1 by omega) (show (0 : Int) ≤ b by omega)
          rw [Int.mul_sub, Int.mul_neg] at h3
          have h4 := Int.mul_le_mul_of_nonneg_right (show (2 : Int) ≤ b by omega) (show 0 ≤ -(F / b) - 1 by omega)
          rw [Int.mul_sub, Int.mul_neg, Int.mul_sub, Int.mul_neg] at h4
          omega
theorem moves_val {k : Nat} (hk : k ≤ 900000) : M_Sweep_moves CS [swD CS (rowD CR (.int b) (.int mv) (.int ad) f l) low span ready fl, .int k] = .ok (.sh (.int (2 * k - span))) := by
  have m1 : gMul (.int 2) (.int k) = some (.val (.int (2 * (k : Int)))) := mul_ok (a := 2) (b := 20) (by decide) (by omega) (by decide) (by decide) (by decide)
  unfold M_Sweep_moves
  rw [body_eq]
  simp [m1, DL.gSub, i2]
theorem end_val (ha : 0 ≤ ad ∧ ad ≤ 1000000) (hv : 0 ≤ mv ∧ mv ≤ 1000000) {k : Nat} (hk : k ≤ 900000) (hs : 0 ≤ span ∧ span ≤ 2000000) {F c : Int} (hF : fl[k]? = some F) (hc : c = 0 ∨ c = 1) (hA : F.natAbs < 2 ^ 90000) :
    M_Sweep_end_cost CR CS [swD CS (rowD CR (.int b) (.int mv) (.int ad) f l) low span ready fl, .int k, .int c] = .ok (.sh (.int (ad * SW.absI (F + c) + mv * (2 * k - span)))) := by
  have ix := ix_at hF
  have mo := moves_val (CR := CR) (CS := CS) (b := b) (mv := mv) (ad := ad) (low := low) (span := span) (ready := ready) (f := f) (l := l) (fl := fl) hk
  have m1 : gMul (.int ad) (.int (SW.absI (F + c))) = some (.val (.int (ad * SW.absI (F + c)))) := mul_ok (a := 20) (b := 90001) (by omega) (by
    rw [SW.absI_nat, Int.natAbs_natCast, Nat.pow_succ]
    generalize 2 ^ 90000 = B at *
    omega) (by decide) (by decide) (by decide)
  have m2 : gMul (.int mv) (.int (2 * (k : Int) - span)) = some (.val (.int (mv * (2 * (k : Int) - span)))) := mul_ok (a := 20) (b := 22) (by omega) (by omega) (by decide) (by decide) (by decide)
  unfold M_Sweep_end_cost
  rw [body_eq]
  simp [ix, mo, gAdd, i2, gAbs, absI_if, m1, m2]
theorem compT2_map {mg : D → En → Option En} {mt : En → Res Bool} {mi1 : ML} {mg1 : D → En → Option En} {mt1 : En → Res Bool} {m : MD} {vs1 : List Nat} {Γ : En} (F : D → List D) : ∀ (xs : List D), (∀ x ∈ xs, ∃ Γ1 ys, mg x Γ = some Γ1 ∧ mt Γ1 = .ok true ∧ mi1 (Γ1.map calm) = .ok ys ∧ compM mg1 mt1 m (wipeE (Γ1.map calm) vs1) ys = .ok (F x)) →
    compT2 mg mt mi1 mg1 mt1 m vs1 Γ xs = .ok (xs.flatMap F)
  | [], _ => rfl
  | x :: r, h => by
    obtain ⟨Γ1, ys, e1, e2, e3, e4⟩ := h x List.mem_cons_self
    have ih := compT2_map F r fun y hy => h y (List.mem_cons_of_mem _ hy)
    unfold compT2
    rw [e1]
    simp only [e2, e3, noX_ok, bind_ok, if_true]
    rw [e4]
    simp only [noX_ok, bind_ok]
    rw [ih]
    simp
end
def tripD (s : Int × Int × Int) : D := .tup [.int s.1, .int s.2.1, .int s.2.2]
def endsO (b ad mv span V : Int) (k : Nat) (c : Int) : Option Int → List (Int × Int × Int)
  | none => []
  | some a => [(SW.endX b ad mv span V k c a, (k : Int), c)]
def endsAt (b ad mv span V : Int) (k : Nat) : List (Int × Int × Int) := endsO b ad mv span V k 0 (SW.iter b ad k V SW.t0).1 ++ endsO b ad mv span V k 1 (SW.iter b ad k V SW.t0).2
def endsL (b ad mv span V : Int) (ready m : Nat) : List (Int × Int × Int) := (List.range (m + 1 - ready)).flatMap fun i => endsAt b ad mv span V (ready + i)
theorem endsAt_len (b ad mv span V : Int) (k : Nat) : (endsAt b ad mv span V k).length ≤ 2 := by
  unfold endsAt
  rw [List.length_append]
  cases (SW.iter b ad k V SW.t0).1 <;> cases (SW.iter b ad k V SW.t0).2 <;> simp [endsO]
theorem flat_len {α : Type} {f : Nat → List α} (h : ∀ i, (f i).length ≤ 2) : ∀ n, ((List.range n).flatMap f).length ≤ 2 * n
  | 0 => by simp
  | n + 1 => by
    rw [List.range_succ, List.flatMap_append, List.length_append]
    have h1 := flat_len h n
    have h2 := h n
    have h3 : (List.flatMap f [n]) = f n := by simp
    rw [h3]
    omega
theorem mem_endsL {b ad mv span V : Int} {ready m : Nat} (hr : ready ≤ m) {x : Int} : x ∈ (endsL b ad mv span V ready m).map (·.1) ↔ SW.IsEnd b ad mv span V ready m x := by
  unfold endsL SW.IsEnd
  rw [List.mem_map]
  constructor
  · rintro ⟨s, hs, rfl⟩
    obtain ⟨i, hi, hs⟩ := List.mem_flatMap.mp hs
    have hi := List.mem_range.mp hi
    unfold endsAt at hs
    rcases List.mem_append.mp hs with hs | hs
    · cases e : (SW.iter b ad (ready + i) V SW.t0).1 with
      | none => rw [e] at hs; cases hs
      | some a =>
        rw [e] at hs
        cases List.mem_singleton.mp hs
        exact ⟨ready + i, 0, a, by omega, by omega, .inl rfl, e, rfl⟩
    · cases e : (SW.iter b ad (ready + i) V SW.t0).2 with
      | none => rw [e] at hs; cases hs
      | some a =>
        rw [e] at hs
        cases List.mem_singleton.mp hs
        exact ⟨ready + i, 1, a, by omega, by omega, .inr rfl, e, rfl⟩
  · rintro ⟨k, c, a, h1, h2, hc, g, rfl⟩
    refine ⟨(SW.endX b ad mv span V k c a, (k : Int), c), List.mem_flatMap.mpr ⟨k - ready, List.mem_range.mpr (by omega), ?_⟩, rfl⟩
    rw [show ready + (k - ready) = k by omega]
    unfold endsAt
    rcases hc with rfl | rfl
    · exact List.mem_append.mpr (.inl (by rw [show (SW.iter b ad k V SW.t0).1 = some a from g]; exact List.mem_singleton.mpr rfl))
    · exact List.mem_append.mpr (.inr (by rw [show (SW.iter b ad k V SW.t0).2 = some a from g]; exact List.mem_singleton.mpr rfl))
theorem ix_listD {xs : List D} {k : Nat} {d : D} (h : xs[k]? = some d) : gIx (.lst xs) (.int k) = some (.val d) := by
  rw [gIx_lst, atI_nn (a := d) (by omega) (by rw [Int.toNat_natCast]; exact h)]; rfl
def atF (g : Nat → List D) : D → List D
  | .int k => g k.toNat
  | _ => []
section
variable {CR CS : Addr} {b mv ad low span : Int} {ready : Nat} {f l : D}
theorem ends_inner (hb : 2 ≤ b) (ha : 0 ≤ ad ∧ ad ≤ 1000000) (hv : 0 ≤ mv ∧ mv ≤ 1000000) (hs : 0 ≤ span ∧ span ≤ 2000000) {V : Int} {m k : Nat} (hk : k ≤ m) (hm : m ≤ 900000) (hA : V.natAbs < 2 ^ 90000) {x1 : D} :
    compM (bOfTup [bName 3, bName 4]) (bB (eOp gNotN (eVar 4) (eC .non))) (C_Sweep_ends_1 CR CS) [.sh (swD CS (rowD CR (.int b) (.int mv) (.int ad) f l) low span ready (flo b V m)), .sh x1, .sh (.int k), .un, .un]
      [.tup [.int 0, optD (SW.iter b ad k V SW.t0).1], .tup [.int 1, optD (SW.iter b ad k V SW.t0).2]] = .ok ((endsAt b ad mv span V k).map tripD) := by
  have hF := flo_at (b := b) (V := V) hk
  have bF := floorN_abs hb hA k
  have e0 := end_val (CR := CR) (CS := CS) (b := b) (low := low) (ready := ready) (f := f) (l := l) ha hv (k := k) (by omega) hs hF (.inl rfl) bF
  have e1 := end_val (CR := CR) (CS := CS) (b := b) (low := low) (ready := ready) (f := f) (l := l) ha hv (k := k) (by omega) hs hF (.inr rfl) bF
  have is1 : isO CS "end_cost" (swD CS (rowD CR (.int b) (.int mv) (.int ad) f l) low span ready (flo b V m)) = true := by simp
  generalize swD CS (rowD CR (.int b) (.int mv) (.int ad) f l) low span ready (flo b V m) = S at *
  unfold endsAt endsO SW.endX
  unfold C_Sweep_ends_1
  cases (SW.iter b ad k V SW.t0).1 with
  | none =>
    cases (SW.iter b ad k V SW.t0).2 with
    | none => simp [compM, optD, gNotN, DL.isNon]
    | some a2 => simp [compM, optD, gNotN, DL.isNon, is1, e1, gAdd, i2, tripD]
  | some a1 =>
    cases (SW.iter b ad k V SW.t0).2 with
    | none => simp [compM, optD, gNotN, DL.isNon, is1, e0, gAdd, i2, tripD]
    | some a2 => simp [compM, optD, gNotN, DL.isNon, is1, e0, e1, gAdd, i2, tripD]
theorem ends_val (hb : 2 ≤ b) (ha : 0 ≤ ad ∧ ad ≤ 1000000) (hv : 0 ≤ mv ∧ mv ≤ 1000000) (hs : 0 ≤ span ∧ span ≤ 2000000) {V : Int} {m : Nat} (hr : ready ≤ m) (hm : m ≤ 400000) (hA : V.natAbs < 2 ^ 90000) :
    M_Sweep_ends CR CS [swD CS (rowD CR (.int b) (.int mv) (.int ad) f l) low span ready (flo b V m), .lst (tabs b ad V (m + 1))] = .ok (.own ((endsL b ad mv span V ready m).map tripD)) := by
  have inner := fun (k : Nat) (hk : k ≤ m) (x1 : D) => ends_inner (CR := CR) (CS := CS) (low := low) (ready := ready) (f := f) (l := l) hb ha hv hs hk (by omega) hA (x1 := x1)
  have g1 := fld_floors (CS := CS) (row := rowD CR (.int b) (.int mv) (.int ad) f l) (low := low) (span := span) (ready := ready) (fl := flo b V m)
  have g2 := fld_ready (CS := CS) (row := rowD CR (.int b) (.int mv) (.int ad) f l) (low := low) (span := span) (ready := ready) (fl := flo b V m)
  generalize swD CS (rowD CR (.int b) (.int mv) (.int ad) f l) low span ready (flo b V m) = S at *
  have hT : ∀ k, k ≤ m → gIx (.lst (tabs b ad V (m + 1))) (.int k) = some (.val (tabD (SW.iter b ad k V SW.t0))) := fun k hk => ix_listD (by
    unfold tabs
    rw [List.getElem?_map, List.getElem?_range (by omega)]; rfl)
  generalize tabs b ad V (m + 1) = T at *
  have cm := compT2_map (mg := bName 2) (mt := bYes) (mi1 := iEnumrT (eOp gIx (eVar 1) (eVar 2))) (mg1 := bOfTup [bName 3, bName 4]) (mt1 := bB (eOp gNotN (eVar 4) (eC .non))) (m := C_Sweep_ends_1 CR CS) (vs1 := [3, 4]) (Γ := [.sh S, .sh (.lst T), .un, .un, .un])
    (atF fun k => (endsAt b ad mv span V k).map tripD) (rangeD ready (m + 1 - ready)) (fun x hx => by
      obtain ⟨i, hi⟩ := List.mem_iff_getElem?.mp hx
      have hi2 : i < m + 1 - ready := by
        by_cases hi2 : i < m + 1 - ready
        · exact hi2
        · rw [List.getElem?_eq_none (by rw [rangeD_len]; omega)] at hi; cases hi
      rw [rangeD_get ready hi2] at hi
      cases hi
      have ek : ((ready : Int) + (i : Int)) = ((ready + i : Nat) : Int) := by omega
      rw [ek]
      have h1 := hT (ready + i) (by omega)
      have h2 := inner (ready + i) (by omega) (.lst T)
      generalize hk : ready + i = k at *
      refine ⟨[.sh S, .sh (.lst T), .sh (.int k), .un, .un], [.tup [.int 0, optD (SW.iter b ad k V SW.t0).1], .tup [.int 1, optD (SW.iter b ad k V SW.t0).2]], rfl, rfl, ?_, ?_⟩
      · simp [calm, h1, tabD, enumD]
      · simp only [List.map_cons, List.map_nil, calm, wipeE]
        show compM _ _ _ [.sh S, .sh (.lst T), .sh (.int k), .un, .un] _ = _
        rw [h2]
        simp [atF])
  have fm : (rangeD ready (m + 1 - ready)).flatMap (atF fun k => (endsAt b ad mv span V k).map tripD) = (endsL b ad mv span V ready m).map tripD := by
    have gen : ∀ (n i : Nat), (rangeD (i : Int) n).flatMap (atF fun k => (endsAt b ad mv span V k).map tripD) = ((List.range n).flatMap fun j => endsAt b ad mv span V (i + j)).map tripD := by
      intro n
      induction n with
      | zero => intro i; rfl
      | succ n ih =>
        intro i
        rw [show rangeD (i : Int) (n + 1) = .int i :: rangeD ((i + 1 : Nat) : Int) n from rfl, List.flatMap_cons, ih (i + 1), List.range_succ_eq_map, List.flatMap_cons, List.map_append]
        congr 1
        rw [List.flatMap_map]
        congr 2
        funext j
        congr 1
        omega
    exact gen _ _
  rw [fm] at cm
  have ll : ((endsL b ad mv span V ready m).map tripD).length < 1000000 := by
    rw [List.length_map]
    have := flat_len (f := fun i => endsAt b ad mv span V (ready + i)) (fun i => endsAt_len _ _ _ _ _ _) (m + 1 - ready)
    show ((List.range (m + 1 - ready)).flatMap fun i => endsAt b ad mv span V (ready + i)).length < 1000000
    omega
  generalize (endsL b ad mv span V ready m).map tripD = out at *
  have hr2 : rng2 [.int ready, .int ((m : Int) + 1)] = .ok (rangeD ready (m + 1 - ready)) := by
    rw [rng2_int, need_pos (by omega)]
    congr 2
    omega
  unfold M_Sweep_ends
  rw [body_eq]
  have ec : mCompT2 [2, 3, 4] [3, 4] (iR2 (eCons (eFld CS "ready" (eVar 0)) (eCons (eUn gLen (eFld CS "floors" (eVar 0))) eNil))) (bName 2) bYes (iEnumrT (eOp gIx (eVar 1) (eVar 2))) (bOfTup [bName 3, bName 4]) (bB (eOp gNotN (eVar 4) (eC .non))) (C_Sweep_ends_1 CR CS) (startD 5 [S, .lst T]) = .ok out := by
    unfold mCompT2
    have e1 : iR2 (eCons (eFld CS "ready" (eVar 0)) (eCons (eUn gLen (eFld CS "floors" (eVar 0))) eNil)) (startD 5 [S, .lst T]) = .ok (rangeD ready (m + 1 - ready)) := by
      rw [← hr2]
      simp [startD, g1, g2, gLen, flo_len]
    have e2 : wipeE (startD 5 [S, .lst T]) [2, 3, 4] = [.sh S, .sh (.lst T), .un, .un, .un] := rfl
    rw [e1, e2]
    simp only [bind_ok, cm, noX_ok]
    exact need_pos ll
  rw [show (bOfTup [(bName 3), (bName 4)]) = bOfTup [bName 3, bName 4] from rfl]
  rw [retF_eq, ec]
  rfl
end
end PM
namespace PM
open PySem L2 GL DL NR
section
variable {CR CS : Addr} {b mv ad low span : Int} {ready : Nat} {f l : D}
theorem least_cost_val (hb : 2 ≤ b) (ha : 0 ≤ ad ∧ ad ≤ 1000000) (hb2 : b ≤ 36) (hv : 0 ≤ mv ∧ mv ≤ 1000000) (hs : 0 ≤ span ∧ span ≤ 2000000) {V : Int} {m : Nat} (hr : ready ≤ m) (hm : m ≤ 400000) (hA : V.natAbs < 2 ^ 90000) :
    ∃ x, M_least_cost CR CS [swD CS (rowD CR (.int b) (.int mv) (.int ad) f l) low span ready (flo b V m)] = .ok (.sh (.int x)) ∧ SW.IsEnd b ad mv span V ready m x ∧ ∀ y, SW.IsEnd b ad mv span V ready m y → x ≤ y := by
  have e1 := costs_val (CR := CR) (CS := CS) (mv := mv) (low := low) (span := span) (ready := ready) (f := f) (l := l) hb hb2 ha (V := V) (m := m) (by omega)
  have e2 := ends_val (CR := CR) (CS := CS) (low := low) (f := f) (l := l) hb ha hv hs hr hm hA
  have is1 : isO CS "ends" (swD CS (rowD CR (.int b) (.int mv) (.int ad) f l) low span ready (flo b V m)) = true := by simp
  have is2 : isO CS "least_costs" (swD CS (rowD CR (.int b) (.int mv) (.int ad) f l) low span ready (flo b V m)) = true := by simp
  generalize swD CS (rowD CR (.int b) (.int mv) (.int ad) f l) low span ready (flo b V m) = S at *
  have mem := fun x => mem_endsL (b := b) (ad := ad) (mv := mv) (span := span) (V := V) hr (x := x)
  obtain ⟨x0, hx0⟩ := SW.end_some hb ha.1 hv.1 (ready := ready) (m := m) V span hr
  have hne := (mem x0).mpr hx0
  have ll : (endsL b ad mv span V ready m).length < 1000000 := by
    have := flat_len (f := fun i => endsAt b ad mv span V (ready + i)) (fun i => endsAt_len _ _ _ _ _ _) (m + 1 - ready)
    show ((List.range (m + 1 - ready)).flatMap fun i => endsAt b ad mv span V (ready + i)).length < 1000000
    omega
  generalize endsL b ad mv span V ready m = L at *
  have cm : compM (bName 1) bYes (eOp gIx (eVar 1) (eC (.int 0))) [.sh S, .un] (L.map tripD) = .ok ((L.map (·.1)).map .int) := by
    rw [compM_map step0]
    · rw [List.map_map, List.map_map]; rfl
    · intro x hx
      obtain ⟨s, _, rfl⟩ := List.mem_map.mp hx
      exact ⟨[.sh S, .sh (tripD s)], by simp, by simp [tripD, step0, tup_ix0]⟩
  have ne : 0 < (L.map (·.1)).length := List.length_pos_of_mem hne
  have hz : intsD ((L.map (·.1)).map D.int) = some (L.map (·.1)) := by
    generalize L.map (·.1) = is
    induction is with
    | nil => rfl
    | cons i r ih => show (intsD (r.map D.int)).map (i :: ·) = _; rw [ih]; rfl
  have g : gMin1 (.lst ((L.map (·.1)).map .int)) = some (.val (.int (minL (L.map (·.1))))) := by
    show (intsD ((L.map (·.1)).map .int)).bind _ = _
    rw [hz]
    exact giv_pos ne
  -- the least
  obtain ⟨x, hx, hxl⟩ : ∃ x ∈ L.map (·.1), ∀ y ∈ L.map (·.1), x ≤ y := by
    obtain ⟨q, eq, _⟩ := SW.minO_le hne
    refine ⟨q, SW.minO_mem eq, fun y hy => ?_⟩
    obtain ⟨q2, e2, le⟩ := SW.minO_le hy
    rw [eq] at e2; cases e2; exact le
  have ex := minL_spec hx hxl
  refine ⟨x, ?_, (mem x).mp hx, fun y hy => hxl y ((mem y).mpr hy)⟩
  unfold M_least_cost
  rw [body_eq]
  simp only [ret_eq, eUn_def, eAll_def]
  have ec : mComp [1] (iLst (eAll (fMeth CS "ends" (M_Sweep_ends CR CS) (eVar 0) (eCons (eAll (fMeth CS "least_costs" (M_Sweep_least_costs CR CS) (eVar 0) eNil)) eNil)))) (bName 1) bYes (eOp gIx (eVar 1) (eC (.int 0))) (startD 2 [S]) = .ok ((L.map (·.1)).map .int) := by
    rw [comp_eq]
    have e3 : iLst (eAll (fMeth CS "ends" (M_Sweep_ends CR CS) (eVar 0) (eCons (eAll (fMeth CS "least_costs" (M_Sweep_least_costs CR CS) (eVar 0) eNil)) eNil))) (startD 2 [S]) = .ok (L.map tripD) := by
      simp [startD, is1, is2, e1, e2]
    rw [e3]
    simp only [bind_ok]
    rw [need_pos (by rw [List.length_map]; exact ll)]
    exact cm
  rw [ec]
  simp only [bind_ok, g, toR_val, mTo_ok]
  rw [ex]
  rfl
/-- the numerator over a place not above its exponent -/
def unitsI (b n e low : Int) : Int := n * b ^ (e - low).toNat
theorem units_val (hb : 2 ≤ b) (hb2 : b ≤ 36) {n e : Int} (h0 : n = 0 → e = 0) (hle : n ≠ 0 → low ≤ e) (hn : n.natAbs < 2 ^ 9000) (hd : (e - low).natAbs ≤ 4000) :
    M_units [.int b, .tup [.int n, .int e], .int low] = .ok (.sh (.int (unitsI b n e low))) ∧ (unitsI b n e low).natAbs < 2 ^ 60000 := by
  unfold unitsI
  by_cases c1 : e < low
  · have hz : n = 0 := Classical.byContradiction fun z => by have := hle z; omega
    subst hz
    obtain ⟨c, hc, hc2⟩ : ∃ c : Nat, low - e = (c : Int) ∧ c ≤ 4000 := ⟨(low - e).toNat, by omega, by omega⟩
    have pw := power_of_eq (b := b) (by omega) hb2 (c := c) (by omega)
    have pos : 0 < b ^ c := Int.pow_pos (by omega)
    have dv : gDiv (.int 0) (.int (b ^ c)) = some (.val (.int 0)) := by
      rw [gDiv_int, giv_pos ⟨pos, .inr (by decide +kernel)⟩, Int.zero_ediv]
    refine ⟨?_, by rw [Int.zero_mul]; decide +kernel⟩
    rw [Int.zero_mul]
    generalize b ^ c = P at *
    unfold M_units
    rw [body_eq]
    simp [c1, hc, pw, dv]
  · obtain ⟨c, hc, hc2⟩ : ∃ c : Nat, e - low = (c : Int) ∧ c ≤ 4000 := ⟨(e - low).toNat, by omega, by omega⟩
    have pw := power_of_eq (b := b) (by omega) hb2 (c := c) (by omega)
    have bp : (b ^ c).natAbs < 2 ^ 24001 := bd_pow (m := 24001) (by omega) hb2 (by omega)
    have ml : gMul (.int n) (.int (b ^ c)) = some (.val (.int (n * b ^ c))) := mul_ok hn bp (by decide) (by decide) (by decide)
    have cg : low ≤ e := by omega
    have ec : (e - low).toNat = c := by omega
    rw [ec]
    refine ⟨?_, ?_⟩
    · generalize b ^ c = P at *
      unfold M_units
      rw [body_eq]
      simp [c1, hc, pw, ml]
    · rw [Int.natAbs_mul]
      refine Nat.lt_of_lt_of_le (Nat.mul_lt_mul'' hn bp) ?_
      rw [← Nat.pow_add]
      exact Nat.pow_le_pow_right (by decide) (by decide)
end
theorem flo_succ (b V : Int) (k : Nat) : (flo b V (k + 1)).map D.int = (flo b V k).map D.int ++ [.int (SW.floorN b (k + 1) V)] := by
  unfold flo
  rw [List.range_succ (n := k + 1)]
  simp
theorem gIn_two {x : Int} : gIn true (.int x) (.tup [.int (-1), .int 0]) = some (.val (.bl (decide (¬ (x = 0 ∨ x = -1))))) := by
  show giv _ _ = _
  rw [giv_pos ⟨rfl, rfl⟩]
  congr 3
  show _ = decide (¬ (x = 0 ∨ x = -1))
  by_cases h0 : x = 0
  · subst h0; rfl
  · by_cases h1 : x = -1
    · subst h1; rfl
    · show (if true = true then !([V.int (-1), V.int 0].any fun y => eqV y (.int x)) else _) = _
      rw [if_pos rfl]
      have e1 : eqV (V.int (-1)) (.int x) = false := by show ((-1 : Int) == x) = false; exact beq_eq_false_iff_ne.mpr (Ne.symm h1)
      have e2 : eqV (V.int 0) (.int x) = false := by show ((0 : Int) == x) = false; exact beq_eq_false_iff_ne.mpr (Ne.symm h0)
      simp only [List.any_cons, List.any_nil, e1, e2]
      rw [decide_eq_true (by omega)]
      rfl
section
variable {CR CS : Addr} {b mv ad low span : Int} {f l : D} {lo hi : Int}
theorem floors_turn (hb : 2 ≤ b) (hb2 : b ≤ 36) {V rd : Int} {k : Nat} (hk : k < 900000) :
    B_floors_up_1 CR [.sh (rowD CR (.int b) (.int mv) (.int ad) f l), .sh (.int (SW.floorN b k V)), .sh (.int low), .sh (.int rd), .sh (.int hi), .own ((flo b V k).map .int), .sh (.int (low + k))] =
      .nx [.sh (rowD CR (.int b) (.int mv) (.int ad) f l), .sh (.int (SW.floorN b (k + 1) V)), .sh (.int low), .sh (.int rd), .sh (.int hi), .own ((flo b V (k + 1)).map .int), .sh (.int (low + (k + 1 : Nat)))] := by
  have dv : gDiv (.int (SW.floorN b k V)) (.int b) = some (.val (.int (SW.floorN b k V / b))) := div_ok (a := 6) (by omega) (by omega) (by decide) (by decide)
  have fl := flo_len b V k
  rw [flo_succ, floorN_succ]
  generalize SW.floorN b k V = F at *
  unfold B_floors_up_1
  refine seq_step (Γ' := [.sh (rowD CR (.int b) (.int mv) (.int ad) f l), .sh (.int (F / b)), .sh (.int low), .sh (.int rd), .sh (.int hi), .own ((flo b V k).map .int), .sh (.int (low + k))]) (by simp [dv]) ?_
  refine seq_step (Γ' := [.sh (rowD CR (.int b) (.int mv) (.int ad) f l), .sh (.int (F / b)), .sh (.int low), .sh (.int rd), .sh (.int hi), .own ((flo b V k).map .int ++ [.int (F / b)]), .sh (.int (low + k))]) (by simp [fl, show k + 1 < 1000000 by omega]) ?_
  simp [gAddI, i2]
  omega
theorem floors_test {V rd : Int} {k : Nat} : T_floors_up_1 CR [.sh (rowD CR (.int b) (.int mv) (.int ad) f l), .sh (.int (SW.floorN b k V)), .sh (.int low), .sh (.int rd), .sh (.int hi), .own ((flo b V k).map .int), .sh (.int (low + k))] =
    .ok (decide (low + k < hi ∧ (low + k < rd ∨ ¬ (SW.floorN b k V = 0 ∨ SW.floorN b k V = -1)))) := by
  generalize SW.floorN b k V = F
  have g := gIn_two (x := F)
  unfold T_floors_up_1
  by_cases h1 : low + k < hi
  · by_cases h2 : low + k < rd
    · simp [h1, h2]
    · simp [h1, h2, g]
  · simp [h1]
theorem floors_val (hb : 2 ≤ b) (hb2 : b ≤ 36) (he : DL.isNon l = true ∧ hi = 1000 ∨ l = .int hi) (h1 : -2000 ≤ low) (h2 : hi ≤ 1000) {V rd : Int} (h3 : low ≤ rd) (h4 : rd ≤ hi) :
    ∃ m : Nat, M_floors_up CR [rowD CR (.int b) (.int mv) (.int ad) f l, .int V, .int low, .int rd] = .ok (.own ((flo b V m).map .int)) ∧ rd ≤ low + m ∧ low + m ≤ hi ∧ (SW.floorN b m V = 0 ∨ SW.floorN b m V = -1 ∨ low + m = hi) ∧ ∀ M0 : Nat, rd ≤ low + M0 → (SW.floorN b M0 V = 0 ∨ SW.floorN b M0 V = -1) → m ≤ M0 := by
  have wh := whileM_inv (t := T_floors_up_1 CR) (b := B_floors_up_1 CR) (fun M Γ => ∃ k : Nat, M = (hi - low).toNat - k ∧ low + k ≤ hi ∧ (∀ M0 : Nat, rd ≤ low + M0 → (SW.floorN b M0 V = 0 ∨ SW.floorN b M0 V = -1) → k ≤ M0) ∧ Γ = [.sh (rowD CR (.int b) (.int mv) (.int ad) f l), .sh (.int (SW.floorN b k V)), .sh (.int low), .sh (.int rd), .sh (.int hi), .own ((flo b V k).map .int), .sh (.int (low + k))]) (fun M Γ hp => by
    obtain ⟨k, rfl, hk, hM, rfl⟩ := hp
    have ht := floors_test (CR := CR) (b := b) (mv := mv) (ad := ad) (f := f) (l := l) (low := low) (hi := hi) (V := V) (rd := rd) (k := k)
    by_cases c : low + k < hi ∧ (low + k < rd ∨ ¬ (SW.floorN b k V = 0 ∨ SW.floorN b k V = -1))
    · rw [decide_eq_true c] at ht
      exact .inr ⟨ht, _, _, .inl (floors_turn hb hb2 (by omega)), by omega, k + 1, rfl, by omega, fun M0 h1 h2 => by
        have h3 := hM M0 h1 h2
        by_cases z : k = M0
        · subst z; exact absurd c (fun c => by omega)
        · omega, rfl⟩
    · rw [decide_eq_false c] at ht
      exact .inl ht) 1000000 ((hi - low).toNat - 0) [.sh (rowD CR (.int b) (.int mv) (.int ad) f l), .sh (.int (SW.floorN b 0 V)), .sh (.int low), .sh (.int rd), .sh (.int hi), .own ((flo b V 0).map .int), .sh (.int (low + (0 : Nat)))] ⟨0, rfl, by omega, fun _ _ _ => Nat.zero_le _, rfl⟩ (by omega)
  obtain ⟨Γ', M, e, ⟨k, _, hk, hM, rfl⟩, ht⟩ := wh
  rw [floors_test] at ht
  have ht : decide (low + k < hi ∧ (low + k < rd ∨ ¬ (SW.floorN b k V = 0 ∨ SW.floorN b k V = -1))) = false := by injection ht
  rw [decide_eq_false_iff_not] at ht
  refine ⟨k, ?_, by omega, hk, by omega, hM⟩
  rw [show low + ((0 : Nat) : Int) = low by omega] at e
  have f0 : (flo b V 0).map D.int = [.int V] := rfl
  rw [f0] at e
  unfold M_floors_up
  rw [body_eq]
  show Out.res _ = Out.res (.rt (.own ((flo b V k).map .int)))
  congr 1
  refine seq_step (Γ' := [.sh (rowD CR (.int b) (.int mv) (.int ad) f l), .sh (.int V), .sh (.int low), .sh (.int rd), .sh (.int hi), .un, .un]) (by
    rcases he with ⟨h, rfl⟩ | rfl
    · simp [startD, h]
    · simp [startD]) ?_
  refine seq_step (Γ' := [.sh (rowD CR (.int b) (.int mv) (.int ad) f l), .sh (.int V), .sh (.int low), .sh (.int rd), .sh (.int hi), .own [.int V], .un]) (by simp) ?_
  refine seq_step (Γ' := [.sh (rowD CR (.int b) (.int mv) (.int ad) f l), .sh (.int V), .sh (.int low), .sh (.int rd), .sh (.int hi), .own [.int V], .sh (.int low)]) (by simp) ?_
  refine seq_step e ?_
  simp
end
end PM
namespace PM
open PySem L2 GL DL NR
theorem setA_step {C p : Addr} {f : Str} {ns : List Str} {vs : List D} {d : D} {m : MD} {r : En} (h : m (.ownO p C ns vs :: r) = .ok d) (hf : f ∉ ns) (hl : ns.length < 900) :
    mSetA C 0 f m (.ownO p C ns vs :: r) = .nx (.ownO p C (ns ++ [f]) (vs ++ [d]) :: r) := by
  unfold mSetA
  rw [h]
  show (match (some (Slot.ownO p C ns vs) : Option DL.Slot) with | some (.ownO p C' ns vs) => if C' = C ∧ f ∉ ns ∧ ns.length < 900 then Out.nx _ else .stuck | _ => .stuck) = _
  exact if_pos ⟨rfl, hf, hl⟩
theorem self_val {C p : Addr} {f : Str} {ns : List Str} {vs : List D} {d : D} {r : En} (h : fldOf f ns vs = some d) : eSelf C 0 f (.ownO p C ns vs :: r) = .ok d := by
  unfold eSelf
  show (match (some (Slot.ownO p C ns vs) : Option DL.Slot) with | some (.ownO _ C' ns vs) => if C' = C then (match fldOf f ns vs with | some d => Res.ok d | none => .stuck) else .stuck | _ => .stuck) = _
  show (if C = C then (match fldOf f ns vs with | some d => Res.ok d | none => .stuck) else .stuck) = _
  rw [if_pos rfl, h]
def lowI (n e p1 p2 : Int) : Int := if n = 0 then min p1 p2 else min (min p1 p2) e
theorem lowI_le (n e p1 p2 : Int) : lowI n e p1 p2 ≤ p1 ∧ lowI n e p1 p2 ≤ p2 ∧ (n ≠ 0 → lowI n e p1 p2 ≤ e) := by unfold lowI; split <;> omega
def maxI (p1 p2 : Int) : Int := if p2 > p1 then p2 else p1
section
variable {CR CS : Addr} {b mv ad : Int} {f l : D} {lo hi : Int} (hb : 2 ≤ b) (hb2 : b ≤ 36) (he : Ends f l lo hi)
include hb hb2 he
theorem init_val {n e p1 p2 : Int} (h0 : n = 0 → e = 0) (hn : n.natAbs < 2 ^ 9000) (hE : -1300 ≤ e ∧ e ≤ 2600) (h1 : lo ≤ p1 ∧ p1 ≤ hi) (h2 : lo ≤ p2 ∧ p2 ≤ hi) :
    ∃ m : Nat, (∀ p, M_Sweep_init CR CS p [rowD CR (.int b) (.int mv) (.int ad) f l, .tup [.int n, .int e], .int p1, .int p2] = .ok (swD CS (rowD CR (.int b) (.int mv) (.int ad) f l) (lowI n e p1 p2) (SW.absI (p2 - p1)) (maxI p1 p2 - lowI n e p1 p2) (flo b (unitsI b n e (lowI n e p1 p2)) m))) ∧
      maxI p1 p2 ≤ lowI n e p1 p2 + m ∧ lowI n e p1 p2 + m ≤ hi ∧ (SW.floorN b m (unitsI b n e (lowI n e p1 p2)) = 0 ∨ SW.floorN b m (unitsI b n e (lowI n e p1 p2)) = -1 ∨ lowI n e p1 p2 + m = hi) ∧ ∀ M0 : Nat, maxI p1 p2 ≤ lowI n e p1 p2 + M0 → (SW.floorN b M0 (unitsI b n e (lowI n e p1 p2)) = 0 ∨ SW.floorN b M0 (unitsI b n e (lowI n e p1 p2)) = -1) → m ≤ M0 := by
  have lo1 : -1000 ≤ lo := by rcases he.lo_ with ⟨_, h⟩ | ⟨_, h⟩ <;> omega
  have hi1 : hi ≤ 1000 := by rcases he.hi_ with ⟨_, h⟩ | ⟨_, h⟩ <;> omega
  have hend : DL.isNon l = true ∧ hi = 1000 ∨ l = .int hi := by
    rcases he.hi_ with ⟨rfl, h⟩ | ⟨rfl, h⟩
    · exact .inl ⟨rfl, h⟩
    · exact .inr rfl
  obtain ⟨l1, l2, l3⟩ := lowI_le n e p1 p2
  have lb : -1300 ≤ lowI n e p1 p2 := by unfold lowI; split <;> omega
  have hm : p1 ≤ maxI p1 p2 ∧ p2 ≤ maxI p1 p2 ∧ maxI p1 p2 ≤ hi := by unfold maxI; split <;> omega
  obtain ⟨un, _⟩ := units_val (low := lowI n e p1 p2) hb hb2 h0 l3 hn (by omega)
  obtain ⟨m, fv, g1, g2, g3, g4⟩ := floors_val (CR := CR) (mv := mv) (ad := ad) (f := f) (low := lowI n e p1 p2) hb hb2 hend (by omega) hi1 (V := unitsI b n e (lowI n e p1 p2)) (rd := maxI p1 p2) (by omega) hm.2.2
  refine ⟨m, fun p => ?_, g1, g2, g3, g4⟩
  clear g4
  have r0 := gRow_0 CR (.int b) (.int mv) (.int ad) f l
  unfold swD
  have mL : minL [p1, p2] = min p1 p2 := rfl
  have mL3 : minL [p1, p2, e] = min (min p1 p2) e := rfl
  have hlow : lowI n e p1 p2 = if n = 0 then min p1 p2 else min (min p1 p2) e := rfl
  generalize hL : lowI n e p1 p2 = L at *
  have hmx : maxI p1 p2 = if p2 > p1 then p2 else p1 := rfl
  generalize hX : maxI p1 p2 = X at *
  generalize unitsI b n e L = V at *
  generalize (flo b V m).map D.int = FL at *
  generalize rowD CR (.int b) (.int mv) (.int ad) f l = R at *
  unfold M_Sweep_init mInit
  have body : (mSeq (mSet 5 (eAll (fIf (bB (eOp gEq (eOp gIx (eVar 2) (eC (.int 0))) (eC (.int 0)))) (fLst (eCons (eVar 3) (eCons (eVar 4) eNil))) (fLst (eCons (eVar 3) (eCons (eVar 4) (eCons (eOp gIx (eVar 2) (eC (.int 1))) eNil)))))))
  (mSeq (mSetA CS 0 "row" (eVar 1))
  (mSeq (mSetA CS 0 "low" (eUn gMin1 (eVar 5)))
  (mSeq (mSetA CS 0 "span" (eUn gAbs (eOp DL.gSub (eVar 4) (eVar 3))))
  (mSeq (mSetA CS 0 "ready" (eOp DL.gSub (eOp gMax (eVar 3) (eVar 4)) (eSelf CS 0 "low")))
  (mSetA CS 0 "floors" (eAll (fCall (M_floors_up CR) (eCons (eVar 1) (eCons (eCall M_units (eCons (eProp CR 0 (eVar 1)) (eCons (eVar 2) (eCons (eSelf CS 0 "low") eNil)))) (eCons (eSelf CS 0 "low") (eCons (eOp gMax (eVar 3) (eVar 4)) eNil)))))))))))) (startO 6 p CS [R, .tup [.int n, .int e], .int p1, .int p2])
      = .nx [.ownO p CS ["row", "low", "span", "ready", "floors"] [R, .int L, .int (SW.absI (p2 - p1)), .int (X - L), .lst FL], .sh R, .sh (.tup [.int n, .int e]), .sh (.int p1), .sh (.int p2), .sh (.lst (if n = 0 then [.int p1, .int p2] else [.int p1, .int p2, .int e]))] := by
    have gm : gMin1 (.lst (if n = 0 then [.int p1, .int p2] else [.int p1, .int p2, .int e])) = some (.val (.int L)) := by
      by_cases hz : n = 0
      · rw [if_pos hz] at hlow ⊢
        rw [hlow, ← mL]; rfl
      · rw [if_neg hz] at hlow ⊢
        rw [hlow, ← mL3]; rfl
    have ga : gAbs (.int (p2 - p1)) = some (.val (.int (SW.absI (p2 - p1)))) := rfl
    refine seq_step (Γ' := [.ownO p CS [] [], .sh R, .sh (.tup [.int n, .int e]), .sh (.int p1), .sh (.int p2), .sh (.lst (if n = 0 then [.int p1, .int p2] else [.int p1, .int p2, .int e]))]) (by
      by_cases hz : n = 0
      · simp [startO, tup_ix0, fIf, hz]
      · simp [startO, tup_ix0, tup_ix1, fIf, hz]) ?_
    generalize (D.lst (if n = 0 then [.int p1, .int p2] else [.int p1, .int p2, .int e])) = LL at *
    refine seq_step (setA_step (d := R) (by simp) (by simp) (by decide)) ?_
    refine seq_step (setA_step (d := .int L) (by simp [gm]) (by decide +kernel) (by decide)) ?_
    refine seq_step (setA_step (d := .int (SW.absI (p2 - p1))) (by simp [DL.gSub, i2, ga]) (by decide +kernel) (by decide)) ?_
    refine seq_step (setA_step (d := .int (X - L)) (by
      have s := self_val (C := CS) (p := p) (f := "low") (ns := ["row", "low", "span"]) (vs := [R, .int L, .int (SW.absI (p2 - p1))]) (d := .int L) (r := [.sh R, .sh (.tup [.int n, .int e]), .sh (.int p1), .sh (.int p2), .sh LL]) rfl
      simp only [List.nil_append, List.cons_append] at *
      simp [s, DL.gSub, i2, ← hmx]) (by decide +kernel) (by decide)) ?_
    refine setA_step (d := .lst FL) (by
      have s := self_val (C := CS) (p := p) (f := "low") (ns := ["row", "low", "span", "ready"]) (vs := [R, .int L, .int (SW.absI (p2 - p1)), .int (X - L)]) (d := .int L) (r := [.sh R, .sh (.tup [.int n, .int e]), .sh (.int p1), .sh (.int p2), .sh LL]) rfl
      simp only [List.nil_append, List.cons_append] at *
      simp [s, ← hmx, r0, un, fv]) (by decide +kernel) (by decide)
  rw [body]
  show selfOf p _ = _
  unfold selfOf
  show (if p = p then Res.ok _ else .stuck) = _
  rw [if_pos rfl]
end
end PM
namespace PM
open PySem L2 GL DL NR
theorem numD_neg {b : Int} (hb : 2 ≤ b) {v : Rat} (h : Dy b v) : (.tup [.int (-nm b v), .int (ex b v)] : D) = numD b (-v) := by
  have h1 := h.is hb
  have h2 := (h.neg hb).is hb
  have h3 : Is b (-v) (-nm b v) (ex b v) := by
    refine ⟨?_, ?_⟩
    · rw [Rat.intCast_neg]
      have := h1.1
      generalize W b (ex b v) = w at *
      grind
    · rcases h1.2 with h | ⟨h, e⟩
      · refine .inl fun z => h ?_
        have := Int.dvd_of_emod_eq_zero z
        exact Int.emod_eq_zero_of_dvd (Int.dvd_neg.mp this)
      · exact .inr ⟨by rw [h]; rfl, e⟩
  obtain ⟨e1, e2⟩ := h3.one hb h2
  unfold numD
  rw [e1, e2]
/-- a multiple of the worth of a place -/
def On (b lo : Int) (v : Rat) : Prop := ∃ Z : Int, (Z : Rat) * W b lo = v
theorem On.sub {b lo : Int} {v w : Rat} (h : On b lo v) (g : On b lo w) : On b lo (v - w) := by
  obtain ⟨x, rfl⟩ := h
  obtain ⟨y, rfl⟩ := g
  exact ⟨x - y, by rw [Rat.intCast_sub]; grind⟩
section
variable {b : Int} (hb : 2 ≤ b)
include hb
theorem on_ex {l : Int} {v : Rat} (h : Dy b v) (g : On b l v) (h0 : nm b v ≠ 0) : l ≤ ex b v := by
  obtain ⟨Z, hz⟩ := g
  refine Classical.byContradiction fun c => ?_
  have e := h.eq hb
  have q := mul_W_eq hb (hz.trans e.symm) (by omega)
  rcases (h.is hb).2 with k | ⟨k, _⟩
  · refine k ?_
    obtain ⟨j, hj⟩ : ∃ j, (l - ex b v).toNat = j + 1 := ⟨(l - ex b v).toNat - 1, by omega⟩
    rw [q, hj, Int.pow_succ, ← Int.mul_assoc]
    exact Int.mul_emod_left _ _
  · exact h0 k
theorem units_eq {v : Rat} {low : Int} (h : Dy b v) (g : nm b v ≠ 0 → low ≤ ex b v) : v = (unitsI b (nm b v) (ex b v) low : Int) * W b low := by
  unfold unitsI
  by_cases h0 : nm b v = 0
  · rw [h0, nm_eq0 hb h h0]; simp
  · have e := h.eq hb
    have g := g h0
    have h1 : W b (ex b v) = W b (ex b v - low) * W b low := by rw [← W_add hb]; congr 1; omega
    rw [h1, W_toNat b (by omega)] at e
    rw [Rat.intCast_mul, Rat.mul_assoc]
    exact e.symm
end
section
variable {CR CS : Addr} {b mv ad : Int} {f l : D} {lo hi : Int} (hb : 2 ≤ b) (hb2 : b ≤ 36) (he : Ends f l lo hi) (ha : 0 ≤ ad ∧ ad ≤ 1000000) (hv : 0 ≤ mv ∧ mv ≤ 1000000)
include hb hb2
include he
theorem require_states_ok {x y : D} (hx : fair2 x = true) (hy : fair2 y = true) (h1 : isSt b lo hi x = true) (h2 : isSt b lo hi y = true) : M_require_states CR [rowD CR (.int b) (.int mv) (.int ad) f l, .lst [x, y]] = .ok (.sh .non) := by
  have e1 := require_state_ok (CR := CR) (m := .int mv) (a := .int ad) hb he hx h1
  have e2 := require_state_ok (CR := CR) (m := .int mv) (a := .int ad) hb he hy h2
  generalize rowD CR (.int b) (.int mv) (.int ad) f l = R at *
  unfold M_require_states
  rw [body_eq]
  simp [startD, iSeq, forM_cons, forM_nil, B_require_states_1, e1, e2]
include ha hv
end
end PM
namespace SW
open NR
theorem absI_neg (i : Int) : absI (-i) = absI i := by unfold absI; repeat' split
                                                      all_goals omega
theorem val_neg (b : Int) : ∀ ds, val b (ds.map (- ·)) = - val b ds
  | [] => rfl
  | d :: r => by
    show -d + b * val b (r.map (- ·)) = -(d + b * val b r)
    rw [val_neg b r, Int.mul_neg]; omega
theorem cost_neg : ∀ ds, cost (ds.map (- ·)) = cost ds
  | [] => rfl
  | d :: r => by
    show absI (-d) + cost (r.map (- ·)) = absI d + cost r
    rw [cost_neg r, absI_neg]
section
variable {b ad mv lo hi p1 p2 p3 : Int} {q q2 : Rat} {x y z : Int}
theorem Plan.neg {l h : Int} {ds : List Int} (p : Plan b lo hi p1 p2 q l h ds) : Plan b lo hi p1 p2 (-q) l h (ds.map (- ·)) :=
  ⟨p.lo, p.lm, p.hm, p.hi, by rw [List.length_map]; exact p.len, by rw [val_neg, Rat.intCast_neg, ← p.val, Rat.neg_mul]⟩
theorem Plan.swap {l h : Int} {ds : List Int} (p : Plan b lo hi p1 p2 q l h ds) : Plan b lo hi p2 p1 q l h ds := ⟨p.lo, ⟨p.lm.2, p.lm.1⟩, ⟨p.hm.2, p.hm.1⟩, p.hi, p.len, p.val⟩
theorem planCost_neg (l h : Int) (ds : List Int) : planCost ad mv p1 p2 l h (ds.map (- ·)) = planCost ad mv p1 p2 l h ds := by unfold planCost; rw [cost_neg]
theorem planCost_swap (l h : Int) (ds : List Int) : planCost ad mv p2 p1 l h ds = planCost ad mv p1 p2 l h ds := by
  unfold planCost
  rw [show p1 - p2 = -(p2 - p1) by omega, absI_neg]
theorem Dist.neg (d : Dist b ad mv lo hi p1 p2 q x) : Dist b ad mv lo hi p1 p2 (-q) x := by
  obtain ⟨⟨l, h, ds, p, e⟩, le⟩ := d
  refine ⟨⟨l, h, _, p.neg, by rw [planCost_neg]; exact e⟩, fun l h ds p => ?_⟩
  have p2 := p.neg
  rw [Rat.neg_neg] at p2
  have := le l h _ p2
  rw [planCost_neg] at this
  exact this
theorem Dist.swap (d : Dist b ad mv lo hi p1 p2 q x) : Dist b ad mv lo hi p2 p1 q x := by
  obtain ⟨⟨l, h, ds, p, e⟩, le⟩ := d
  refine ⟨⟨l, h, _, p.swap, by rw [planCost_swap]; exact e⟩, fun l h ds p => ?_⟩
  have := le l h _ p.swap
  rw [planCost_swap] at this
  exact this
theorem Dist.symm (d : Dist b ad mv lo hi p1 p2 q x) : Dist b ad mv lo hi p2 p1 (-q) x := d.swap.neg
theorem moves_nonneg {l h : Int} {ds : List Int} (p : Plan b lo hi p1 p2 q l h ds) : 0 ≤ 2 * (h - l) - absI (p2 - p1) := by
  have := p.lm
  have := p.hm
  unfold absI; split <;> omega
theorem Dist.zero (ha : 0 ≤ ad) (hm : 0 ≤ mv) (h1 : lo ≤ p1) (h2 : p1 ≤ hi) : Dist b ad mv lo hi p1 p1 0 0 := by
  refine ⟨⟨p1, p1, [0], ⟨h1, ⟨Int.le_refl _, Int.le_refl _⟩, ⟨Int.le_refl _, Int.le_refl _⟩, h2, by simp, by simp [val]⟩, by simp [planCost, cost, absI]⟩, fun l h ds p => ?_⟩
  unfold planCost
  have := Int.mul_nonneg ha (cost_nonneg ds)
  have := Int.mul_nonneg hm (moves_nonneg p)
  omega
theorem Dist.pos (ha : 1 ≤ ad) (hm : 1 ≤ mv) (d : Dist b ad mv lo hi p1 p2 q 0) : p1 = p2 ∧ q = 0 := by
  obtain ⟨⟨l, h, ds, p, e⟩, le⟩ := d
  unfold planCost at e
  have h1 := cost_nonneg ds
  have h2 := moves_nonneg p
  have h3 := Int.mul_le_mul_of_nonneg_right ha h1
  have h4 := Int.mul_le_mul_of_nonneg_right hm h2
  have hc : cost ds = 0 := by omega
  have hmv : 2 * (h - l) - absI (p2 - p1) = 0 := by omega
  refine ⟨?_, ?_⟩
  · have := p.lm
    have := p.hm
    unfold absI at hmv; split at hmv <;> omega
  · have hv : val b ds = 0 := Classical.byContradiction fun z => by have := cost_pos b ds z; omega
    rw [← p.val, hv]; simp
variable (hb : 2 ≤ b)
include hb
theorem floorN_div : ∀ (j : Nat) (V : Int), floorN b j V = V / b ^ j
  | 0, V => by simp [floorN]
  | j + 1, V => by
    show floorN b j (V / b) = _
    rw [floorN_div j, Int.ediv_ediv_of_nonneg (by omega), Int.pow_succ, Int.mul_comm]
theorem floorN_small {V : Int} {j : Nat} (h : V.natAbs < 2 ^ j) : floorN b j V = 0 ∨ floorN b j V = -1 := by
  rw [floorN_div hb]
  have h1 : (2 : Int) ^ j ≤ b ^ j := by
    have : ∀ j : Nat, (2 : Int) ^ j ≤ b ^ j ∧ 0 < (2 : Int) ^ j := by
      intro j
      induction j with
      | zero => simp
      | succ j ih =>
        rw [Int.pow_succ, Int.pow_succ]
        exact ⟨Int.mul_le_mul ih.1 hb (by decide) (by omega), by omega⟩
    exact (this j).1
  have h2 : V.natAbs < b ^ j := Int.lt_of_lt_of_le (by exact_mod_cast h) h1
  generalize b ^ j = P at *
  rcases Int.le_total 0 V with c | c
  · left; exact Int.ediv_eq_zero_of_lt c (by omega)
  · by_cases z : V = 0
    · left; rw [z]; simp
    · right
      have hp : 0 < P := by omega
      refine (Int.ediv_eq_iff_of_pos hp).mpr ?_
      omega
end
end SW
namespace PM
open PySem L2 GL DL NR
section
variable {b : Int} (hb : 2 ≤ b)
include hb
theorem low_spec {q : Rat} (qd : Dy b q) {p1 p2 : Int} : ∀ L Z, L ≤ p1 → L ≤ p2 → (Z : Int) * W b L = q → L ≤ lowI (nm b q) (ex b q) p1 p2 := fun L Z a c e => by
  unfold lowI
  split
  · omega
  · rename_i z
    have := on_ex hb qd ⟨Z, e⟩ z
    omega
theorem On.of_sz {v : Rat} {A : Nat} {s lo : Int} (h : Sz b v A s) (hl : lo ≤ s) : On b lo v := by
  obtain ⟨n, e, _⟩ := h
  refine ⟨n * b ^ (s - lo).toNat, ?_⟩
  have h1 : W b s = W b (s - lo) * W b lo := by rw [← W_add hb]; congr 1; omega
  rw [e, h1, W_toNat b (e := s - lo) (by omega), Rat.intCast_mul, Rat.mul_assoc]
variable (hb2 : b ≤ 36)
include hb2
end
end PM
namespace PM
open PySem L2 GL DL NR
end PM
namespace PM
open PySem L2 GL DL NR
end PM
namespace PM
open PySem L2 GL DL NR
theorem intsD_map (is : List Int) : intsD (is.map D.int) = some is := by
  induction is with
  | nil => rfl
  | cons i r ih => show (intsD (r.map D.int)).map (i :: ·) = _; rw [ih]; rfl
end PM
namespace PM
open PySem L2 GL DL NR
end PM
namespace PM
open PySem L2 GL DL NR
end PM
namespace PM
open PySem L2 GL DL NR
end PM
namespace PM
open PySem L2 GL DL NR
end PM
namespace PM
open PySem L2 GL DL NR
theorem pick6 (a0 a1 a2 a3 a4 a5 : Int) (x : Int) {lo hi : Int} (h : ∀ y ∈ [a0, a1, a2, a3, a4, a5], lo ≤ y ∧ y ≤ hi) : ∃ c, gIx (.lst [.int a0, .int a1, .int a2, .int a3, .int a4, .int a5]) (.int (x % 6)) = some (.val (.int c)) ∧ lo ≤ c ∧ c ≤ hi := by
  have h1 := Int.emod_nonneg x (show (6 : Int) ≠ 0 by decide)
  have h2 := Int.emod_lt_of_pos x (show (0 : Int) < 6 by decide)
  have : x % 6 = 0 ∨ x % 6 = 1 ∨ x % 6 = 2 ∨ x % 6 = 3 ∨ x % 6 = 4 ∨ x % 6 = 5 := by omega
  rcases this with e | e | e | e | e | e <;> rw [e]
  · exact ⟨a0, rfl, h _ (by simp)⟩
  · exact ⟨a1, rfl, h _ (by simp)⟩
  · exact ⟨a2, rfl, h _ (by simp)⟩
  · exact ⟨a3, rfl, h _ (by simp)⟩
  · exact ⟨a4, rfl, h _ (by simp)⟩
  · exact ⟨a5, rfl, h _ (by simp)⟩
theorem spec_eq63 {ds : List Int} {n : Nat} (hd : Digs 420 n ds) (hn : 6 ≤ n) : ∃ (b mv ad : Int) (f l : D) (lo hi : Int), M_law_spec [.lst (ds.map .int)] = .ok (.sh (.tup [.int b, .int mv, .int ad, f, l])) ∧ 2 ≤ b ∧ b ≤ 16 ∧ 1 ≤ mv ∧ mv ≤ 100 ∧ 1 ≤ ad ∧ ad ≤ 100 ∧
    ((f = .non ∧ lo = -1000) ∨ (f = .int lo ∧ -3 ≤ lo ∧ lo ≤ 0)) ∧ ((l = .non ∧ hi = 1000) ∨ (l = .int hi ∧ 0 ≤ hi ∧ hi ≤ 4)) := by
  have at_ : ∀ j : Nat, j < n → gIx (.lst (ds.map .int)) (.int (j : Int)) = some (.val (.int (dg ds j))) ∧ 0 ≤ dg ds j ∧ dg ds j < 420 := fun j hj => hd.at_ hj
  have g0 : gIx (.lst (ds.map .int)) (.int 0) = some (.val (.int (dg ds 0))) := (at_ 0 (by omega)).1
  have g1 : gIx (.lst (ds.map .int)) (.int 1) = some (.val (.int (dg ds 1))) := (at_ 1 (by omega)).1
  have g2 : gIx (.lst (ds.map .int)) (.int 2) = some (.val (.int (dg ds 2))) := (at_ 2 (by omega)).1
  have g3 : gIx (.lst (ds.map .int)) (.int 3) = some (.val (.int (dg ds 3))) := (at_ 3 (by omega)).1
  have g4 : gIx (.lst (ds.map .int)) (.int 4) = some (.val (.int (dg ds 4))) := (at_ 4 (by omega)).1
  have g5 : gIx (.lst (ds.map .int)) (.int 5) = some (.val (.int (dg ds 5))) := (at_ 5 (by omega)).1
  generalize dg ds 0 = x0 at *
  generalize dg ds 1 = x1 at *
  generalize dg ds 2 = x2 at *
  generalize dg ds 3 = x3 at *
  generalize dg ds 4 = x4 at *
  generalize dg ds 5 = x5 at *
  obtain ⟨b, kb, b1, b2⟩ := pick6 2 3 4 5 10 16 x0 (lo := 2) (hi := 16) (by decide)
  obtain ⟨mv, km, m1, m2⟩ := pick6 1 2 3 1 7 100 x1 (lo := 1) (hi := 100) (by decide)
  obtain ⟨ad, ka, a1, a2⟩ := pick6 1 1 2 5 3 100 x2 (lo := 1) (hi := 100) (by decide)
  have q1 := Int.emod_nonneg x4 (show (4 : Int) ≠ 0 by decide)
  have q2 := Int.emod_lt_of_pos x4 (show (0 : Int) < 4 by decide)
  have q3 := Int.emod_nonneg x5 (show (5 : Int) ≠ 0 by decide)
  have q4 := Int.emod_lt_of_pos x5 (show (0 : Int) < 5 by decide)
  obtain ⟨f, lo, kf, hf⟩ : ∃ (f : D) (lo : Int), gIx (.lst [.non, .int (-(x4 % 4))]) (.int (x3 % 2)) = some (.val f) ∧ ((f = .non ∧ lo = -1000) ∨ (f = .int lo ∧ -3 ≤ lo ∧ lo ≤ 0)) := by
    have : x3 % 2 = 0 ∨ x3 % 2 = 1 := by omega
    rcases this with e | e <;> rw [e]
    · exact ⟨.non, -1000, rfl, .inl ⟨rfl, rfl⟩⟩
    · exact ⟨.int (-(x4 % 4)), -(x4 % 4), rfl, .inr ⟨rfl, by omega, by omega⟩⟩
  obtain ⟨l, hi, kl, hl⟩ : ∃ (l : D) (hi : Int), gIx (.lst [.non, .int (x5 % 5)]) (.int (x3 / 2 % 2)) = some (.val l) ∧ ((l = .non ∧ hi = 1000) ∨ (l = .int hi ∧ 0 ≤ hi ∧ hi ≤ 4)) := by
    have : x3 / 2 % 2 = 0 ∨ x3 / 2 % 2 = 1 := by omega
    rcases this with e | e <;> rw [e]
    · exact ⟨.non, 1000, rfl, .inl ⟨rfl, rfl⟩⟩
    · exact ⟨.int (x5 % 5), x5 % 5, rfl, .inr ⟨rfl, by omega, by omega⟩⟩
  refine ⟨b, mv, ad, f, l, lo, hi, ?_, b1, b2, m1, m2, a1, a2, hf, hl⟩
  generalize D.lst (ds.map D.int) = DL_ at *
  unfold M_law_spec
  rw [body_eq]
  show Out.res _ = Out.res (.rt (.sh (.tup [.int b, .int mv, .int ad, f, l])))
  congr 1
  have dv : gDiv (.int x3) (.int 2) = some (.val (.int (x3 / 2))) := div_ok (a := 2) (by decide) (by decide) (by decide) (by decide)
  refine seq_step (Γ' := [.sh DL_, .sh (.int b), .un, .un]) (by simp [startD, g0, kb]) ?_
  refine seq_step (Γ' := [.sh DL_, .sh (.int b), .sh f, .un]) (by simp [g3, g4, kf]) ?_
  refine seq_step (Γ' := [.sh DL_, .sh (.int b), .sh f, .sh l]) (by simp [g3, g5, dv, kl]) ?_
  simp [g1, g2, km, ka]
section
variable {CR CS : Addr} {b mv ad : Int} {f l : D} {lo hi : Int} (hb : 2 ≤ b) (hb16 : b ≤ 16) (hf : (f = .non ∧ lo = -1000) ∨ (f = .int lo ∧ -3 ≤ lo ∧ lo ≤ 0)) (hl : (l = .non ∧ hi = 1000) ∨ (l = .int hi ∧ 0 ≤ hi ∧ hi ≤ 4))
include hf hl
theorem ends63 : Ends f l lo hi := by
  refine ⟨?_, ?_⟩
  · rcases hf with ⟨h1, h2⟩ | ⟨h1, h2, h3⟩
    · exact .inl ⟨h1, h2⟩
    · exact .inr ⟨h1, by omega⟩
  · rcases hl with ⟨h1, h2⟩ | ⟨h1, h2, h3⟩
    · exact .inl ⟨h1, h2⟩
    · exact .inr ⟨h1, by omega⟩
include hb hb16
omit hb hb16 in
theorem position_eq63 (x : Int) : ∃ p, M_law_position [.tup [.int b, .int mv, .int ad, f, l], .int x] = .ok (.sh (.int p)) ∧ lo ≤ p ∧ p ≤ hi ∧ -6 ≤ p ∧ p ≤ 6 := by
  have i3 : gIx (.tup [.int b, .int mv, .int ad, f, l]) (.int 3) = some (.val f) := rfl
  have i4 : gIx (.tup [.int b, .int mv, .int ad, f, l]) (.int 4) = some (.val l) := rfl
  obtain ⟨A, hA, a1, a2, a3⟩ : ∃ A : Int, (if DL.isNon f = true then D.int (-6) else f) = .int A ∧ lo ≤ A ∧ -6 ≤ A ∧ A ≤ 0 := by
    rcases hf with ⟨rfl, rfl⟩ | ⟨rfl, h2, h3⟩
    · exact ⟨-6, rfl, by decide, by decide, by decide⟩
    · exact ⟨lo, rfl, by omega, by omega, by omega⟩
  obtain ⟨Z, hZ, z1, z2, z3⟩ : ∃ Z : Int, (if DL.isNon l = true then D.int 6 else l) = .int Z ∧ Z ≤ hi ∧ 0 ≤ Z ∧ Z ≤ 6 := by
    rcases hl with ⟨rfl, rfl⟩ | ⟨rfl, h2, h3⟩
    · exact ⟨6, rfl, by decide, by decide, by decide⟩
    · exact ⟨hi, rfl, by omega, by omega, by omega⟩
  have h1 := Int.emod_nonneg x (show Z - A + 1 ≠ 0 by omega)
  have h2 := Int.emod_lt_of_pos x (show 0 < Z - A + 1 by omega)
  have md : gMod (.int x) (.int (Z - A + 1)) = some (.val (.int (x % (Z - A + 1)))) := giv_pos (by omega)
  refine ⟨A + x % (Z - A + 1), ?_, by omega, by omega, by omega, by omega⟩
  generalize D.tup [.int b, .int mv, .int ad, f, l] = T at *
  unfold M_law_position
  rw [body_eq]
  show Out.res _ = Out.res (.rt (.sh (.int (A + x % (Z - A + 1)))))
  congr 1
  refine seq_step (Γ' := [.sh T, .sh (.int x), .sh (.int A), .un]) (by
    cases hn : DL.isNon f with
    | true => rw [hn] at hA; cases hA; simp [startD, i3, hn]
    | false => rw [hn] at hA; simp at hA; simp [startD, i3, hn, hA]) ?_
  refine seq_step (Γ' := [.sh T, .sh (.int x), .sh (.int A), .sh (.int Z)]) (by
    cases hn : DL.isNon l with
    | true => rw [hn] at hZ; cases hZ; simp [i4, hn]
    | false => rw [hn] at hZ; simp at hZ; simp [i4, hn, hZ]) ?_
  simp [md]
end
end PM
namespace PM
open PySem L2 GL DL NR TL
abbrev DM := List (Int × Int)
def kI (p : Int × Int) : Key := .inl p.1
def vI (p : Int × Int) : D := .int p.2
def look : DM → Int → Option Int
  | [], _ => none
  | (j, n) :: r, k => if j = k then some n else look r k
theorem dVal_look (k : Int) : ∀ m : DM, dVal (m.map kI) (m.map vI) (.inl k) = (look m k).map D.int
  | [] => rfl
  | (j, n) :: r => by
    show (if (Sum.inl j : Key) = .inl k then some (D.int n) else dVal (r.map kI) (r.map vI) (.inl k)) = _
    unfold look
    by_cases e : j = k
    · rw [if_pos e, if_pos (by rw [e])]; rfl
    · rw [if_neg e, if_neg (fun z => e (Sum.inl.inj z))]; exact dVal_look k r
def upd1 (k n : Int) (p : Int × Int) : Int × Int := if p.1 = k then (p.1, n) else p
def put (m : DM) (k n : Int) : DM := if m.any (fun p => decide (p.1 = k)) = true then m.map (upd1 k n) else m ++ [(k, n)]
theorem upd1_k (k n : Int) (p : Int × Int) : (upd1 k n p).1 = p.1 := by unfold upd1; split <;> rfl
theorem dPut_put (m : DM) (k n : Int) : dPut (m.map kI) (m.map vI) (.inl k) (.int n) = ((put m k n).map kI, (put m k n).map vI) := by
  have ea : ((m.map kI).any fun j => decide (j = (.inl k : Key))) = m.any fun p => decide (p.1 = k) := by
    rw [List.any_map]
    congr 1
    funext p
    show decide ((Sum.inl p.1 : Key) = .inl k) = decide (p.1 = k)
    by_cases e : p.1 = k
    · rw [decide_eq_true e, decide_eq_true (by rw [e])]
    · rw [decide_eq_false e, decide_eq_false (fun z => e (Sum.inl.inj z))]
  have es : ∀ m : DM, dSet (m.map kI) (m.map vI) (.inl k) (.int n) = (m.map (upd1 k n)).map vI := by
    intro m
    induction m with
    | nil => rfl
    | cons p r ih =>
      show (if (Sum.inl p.1 : Key) = .inl k then D.int n else vI p) :: dSet (r.map kI) (r.map vI) (.inl k) (.int n) = vI (upd1 k n p) :: (r.map (upd1 k n)).map vI
      rw [ih]
      congr 1
      unfold upd1 vI
      by_cases e : p.1 = k
      · rw [if_pos e, if_pos (by rw [e])]
      · rw [if_neg e, if_neg (fun z => e (Sum.inl.inj z))]
  have ek : (m.map (upd1 k n)).map kI = m.map kI := by
    rw [List.map_map]
    refine List.map_congr_left fun p _ => ?_
    show (Sum.inl (upd1 k n p).1 : Key) = .inl p.1
    rw [upd1_k]
  unfold dPut put
  rw [ea]
  split
  · rw [es, ek]
  · rw [List.map_append, List.map_append]; rfl
theorem look_app (m : DM) (k n j : Int) : look (m ++ [(k, n)]) j = match look m j with | some x => some x | none => if k = j then some n else none := by
  induction m with
  | nil => rfl
  | cons p r ih =>
    show (if p.1 = j then some p.2 else look (r ++ [(k, n)]) j) = match (if p.1 = j then some p.2 else look r j) with | some x => some x | none => if k = j then some n else none
    by_cases e : p.1 = j
    · rw [if_pos e, if_pos e]
    · rw [if_neg e, if_neg e, ih]
theorem look_none {m : DM} {k : Int} (h : ¬ m.any (fun p => decide (p.1 = k)) = true) : look m k = none := by
  induction m with
  | nil => rfl
  | cons p r ih =>
    rw [List.any_cons, Bool.or_eq_true, not_or] at h
    show (if p.1 = k then some p.2 else look r k) = none
    rw [if_neg (fun z => h.1 (decide_eq_true z))]
    exact ih h.2
theorem look_upd {m : DM} {k n : Int} (h : m.any (fun p => decide (p.1 = k)) = true) (j : Int) : look (m.map (upd1 k n)) j = if k = j then some n else look m j := by
  have other : ∀ m : DM, k ≠ j → look (m.map (upd1 k n)) j = look m j := by
    intro m ne
    induction m with
    | nil => rfl
    | cons p r ih =>
      show (if (upd1 k n p).1 = j then some (upd1 k n p).2 else look (r.map (upd1 k n)) j) = if p.1 = j then some p.2 else look r j
      rw [upd1_k, ih]
      by_cases e : p.1 = j
      · rw [if_pos e, if_pos e]
        unfold upd1
        rw [if_neg (fun z => ne (z.symm.trans e))]
      · rw [if_neg e, if_neg e]
  by_cases e : k = j
  · subst e
    rw [if_pos rfl]
    induction m with
    | nil => cases h
    | cons p r ih =>
      show (if (upd1 k n p).1 = k then some (upd1 k n p).2 else look (r.map (upd1 k n)) k) = some n
      rw [upd1_k]
      by_cases e : p.1 = k
      · rw [if_pos e]; unfold upd1; rw [if_pos e]
      · rw [if_neg e]
        rw [List.any_cons, decide_eq_false e, Bool.false_or] at h
        exact ih h
  · rw [if_neg e]; exact other m e
theorem look_put (m : DM) (k n j : Int) : look (put m k n) j = if k = j then some n else look m j := by
  unfold put
  split
  · rename_i h; exact look_upd h j
  · rename_i h
    rw [look_app]
    by_cases e : k = j
    · subst e; rw [look_none h, if_pos rfl]
    · rw [if_neg e]
      cases look m j <;> simp [e]
theorem look_mem {m : DM} {k n : Int} (h : look m k = some n) : k ∈ m.map (·.1) := by
  induction m with
  | nil => cases h
  | cons p r ih =>
    have h : (if p.1 = k then some p.2 else look r k) = some n := h
    by_cases e : p.1 = k
    · rw [← e]; exact List.mem_cons_self
    · rw [if_neg e] at h
      exact List.mem_cons_of_mem _ (ih h)
theorem mem_look {m : DM} {k : Int} (h : k ∈ m.map (·.1)) : ∃ n, look m k = some n := by
  induction m with
  | nil => cases h
  | cons p r ih =>
    show ∃ n, (if p.1 = k then some p.2 else look r k) = some n
    by_cases e : p.1 = k
    · exact ⟨p.2, if_pos e⟩
    · rcases List.mem_cons.mp h with z | z
      · exact absurd z.symm e
      · rw [if_neg e]; exact ih z
theorem put_nodup {m : DM} {k n : Int} (h : (m.map (·.1)).Nodup) : ((put m k n).map (·.1)).Nodup := by
  unfold put
  split
  · have : (m.map (upd1 k n)).map (·.1) = m.map (·.1) := by
      rw [List.map_map]
      exact List.map_congr_left fun p _ => upd1_k k n p
    rw [this]; exact h
  · rename_i hn
    rw [List.map_append, List.nodup_append]
    refine ⟨h, by simp, fun a ha b hb => ?_⟩
    have hb : b = k := List.mem_singleton.mp hb
    subst hb
    intro z
    subst z
    obtain ⟨n, e⟩ := mem_look ha
    rw [look_none hn] at e
    cases e
theorem nodup_len : ∀ (n : Nat) (A : Int) (xs : List Int), xs.Nodup → (∀ x ∈ xs, A ≤ x ∧ x < A + n) → xs.length ≤ n
  | 0, A, xs, _, h => by
    cases xs with
    | nil => exact Nat.le_refl _
    | cons x r => have := h x List.mem_cons_self; omega
  | n + 1, A, xs, nd, h => by
    have f : ∀ xs : List Int, xs.Nodup → xs.length ≤ (xs.filter fun x => decide (x ≠ A + n)).length + 1 := by
      intro xs
      induction xs with
      | nil => intro _; simp
      | cons x r ih =>
        intro nd
        have nd := List.nodup_cons.mp nd
        by_cases e : x = A + n
        · have all : r.filter (fun x => decide (x ≠ A + n)) = r := List.filter_eq_self.mpr fun y hy => decide_eq_true fun z => nd.1 (by rw [e, ← z]; exact hy)
          rw [List.filter_cons_of_neg (by simp [e]), all]
          simp
        · rw [List.filter_cons_of_pos (by simp [e])]
          have := ih nd.2
          simp only [List.length_cons]
          omega
    have g := nodup_len n A (xs.filter fun x => decide (x ≠ A + n)) (nd.filter _) fun x hx => by
      obtain ⟨h1, h2⟩ := List.mem_filter.mp hx
      have h2 := of_decide_eq_true h2
      have := h x h1
      omega
    have := f xs nd
    omega
/-- the later dict, amid its loops -/
structure Lt (b F' : Int) (m : DM) (P : Int → Int → Prop) (r : DM) : Prop where
  nd : (r.map (·.1)).Nodup
  rg : ∀ key ∈ r.map (·.1), F' - 3 ≤ key ∧ key ≤ F' + 4
  sn : ∀ key n, look r key = some n → ∃ left n0 d, look m left = some n0 ∧ left = d + b * key ∧ n = n0 + SW.absI d ∧ SW.absI d ≤ b + 1
  cp : ∀ left d key, P left d → left = d + b * key → ∃ n n0, look r key = some n ∧ look m left = some n0 ∧ n ≤ n0 + SW.absI d
theorem Lt.len {b F' : Int} {m : DM} {P : Int → Int → Prop} {r : DM} (h : Lt b F' m P r) : r.length ≤ 8 := by
  have := nodup_len 8 (F' - 3) (r.map (·.1)) h.nd fun x hx => by
    have := h.rg x hx
    omega
  rwa [List.length_map] at this
def mn (i j : Int) : Int := if j < i then j else i
theorem Lt.put {b F' : Int} (hb : 2 ≤ b) {m : DM} {P : Int → Int → Prop} {r : DM} (h : Lt b F' m P r) {left n0 d key : Int} (hl : look m left = some n0) (e : left = d + b * key) (hk : F' - 3 ≤ key ∧ key ≤ F' + 4) (hd : SW.absI d ≤ b + 1) :
    Lt b F' m (fun l x => P l x ∨ (l = left ∧ x = d)) (put r key (mn (n0 + SW.absI d) ((look r key).getD (n0 + SW.absI d)))) := by
  have val : mn (n0 + SW.absI d) ((look r key).getD (n0 + SW.absI d)) ≤ n0 + SW.absI d ∧ (∀ n, look r key = some n → mn (n0 + SW.absI d) ((look r key).getD (n0 + SW.absI d)) ≤ n) ∧ (mn (n0 + SW.absI d) ((look r key).getD (n0 + SW.absI d)) = n0 + SW.absI d ∨ look r key = some (mn (n0 + SW.absI d) ((look r key).getD (n0 + SW.absI d)))) := by
    cases hr : look r key with
    | none => unfold mn; simp
    | some n =>
      unfold mn
      simp only [Option.getD_some]
      split
      · exact ⟨by omega, fun x z => by cases z; omega, .inr rfl⟩
      · exact ⟨by omega, fun x z => by cases z; omega, .inl rfl⟩
  generalize mn (n0 + SW.absI d) ((look r key).getD (n0 + SW.absI d)) = v at *
  obtain ⟨v1, v2, v3⟩ := val
  refine ⟨put_nodup h.nd, fun x hx => ?_, fun x n hx => ?_, fun l x y hp el => ?_⟩
  · obtain ⟨n, hn⟩ := mem_look hx
    rw [look_put] at hn
    by_cases z : key = x
    · rw [← z]; exact hk
    · rw [if_neg z] at hn; exact h.rg x (look_mem hn)
  · rw [look_put] at hx
    by_cases z : key = x
    · subst z
      rw [if_pos rfl] at hx
      cases hx
      rcases v3 with v3 | v3
      · exact ⟨left, n0, d, hl, e, v3, hd⟩
      · exact h.sn key v v3
    · rw [if_neg z] at hx; exact h.sn x n hx
  · rw [look_put]
    rcases hp with hp | ⟨rfl, rfl⟩
    · obtain ⟨n, n1, h1, h2, h3⟩ := h.cp l x y hp el
      by_cases z : key = y
      · subst z
        exact ⟨v, n1, if_pos rfl, h2, by have := v2 n h1; omega⟩
      · exact ⟨n, n1, by rw [if_neg z]; exact h1, h2, h3⟩
    · by_cases z : key = y
      · exact ⟨v, n0, if_pos z, hl, v1⟩
      · refine absurd ?_ z
        have e2 : b * key = b * y := by omega
        exact Int.eq_of_mul_eq_mul_left (by omega) e2
end PM
namespace PM
open PySem L2 GL DL NR TL
theorem key_range {b F left d key : Int} (hb : 2 ≤ b) (hl : F - 3 ≤ left ∧ left ≤ F + 4) (hd : -b - 1 ≤ d ∧ d ≤ b + 1) (e : left = d + b * key) : F / b - 3 ≤ key ∧ key ≤ F / b + 4 := by
  have h1 := Int.mul_ediv_add_emod F b
  have h2 := Int.emod_nonneg F (show b ≠ 0 by omega)
  have h3 := Int.emod_lt_of_pos F (show 0 < b by omega)
  generalize F / b = F' at *
  generalize F % b = r at *
  constructor
  · refine Classical.byContradiction fun c => ?_
    have : b * (key + 4) ≤ b * F' := Int.mul_le_mul_of_nonneg_left (by omega) (by omega)
    rw [Int.mul_add] at this
    omega
  · refine Classical.byContradiction fun c => ?_
    have : b * (F' + 5) ≤ b * key := Int.mul_le_mul_of_nonneg_left (by omega) (by omega)
    rw [Int.mul_add] at this
    omega
theorem absMax (d : Int) : gMax (.int d) (.int (-d)) = some (.val (.int (SW.absI d))) := by
  rw [gMax_int]
  congr 2
  unfold SW.absI
  split <;> split <;> first | rfl | (congr 1; omega)
theorem forM_all {g : D → En → Option En} {bo : En → Out} (P : Nat → En → Prop) (xs : List D) (Γ : En) (h : P 0 Γ) (hs : ∀ i x Γ, xs[i]? = some x → P i Γ → ∃ Γ1 Γ', g x Γ = some Γ1 ∧ (bo Γ1 = .nx Γ' ∨ bo Γ1 = .ct Γ') ∧ P (i + 1) Γ') : ∃ Γ', DL.forM g bo xs Γ = .nx Γ' ∧ P xs.length Γ' := by
  obtain ⟨Γ', e, p⟩ := forM_inv (g := g) (b := bo) P xs 0 Γ h (fun i x Γ hx hp => by
    rw [Nat.zero_add] at hp ⊢
    exact hs i x Γ hx hp)
  rw [Nat.zero_add] at p
  exact ⟨Γ', e, p⟩
section
variable {b : Int} (hb : 2 ≤ b) (hb2 : b ≤ 36) {F : Int} {m : DM} (hm : ∀ x ∈ m.map (·.1), F - 3 ≤ x ∧ x ≤ F + 4)
include hb hb2 hm
theorem inner16 {left n0 : Int} (hl : look m left = some n0) {P : Int → Int → Prop} {r : DM} (h : Lt b (F / b) m P r) (s4 s5 s6 : DL.Slot) :
    ∃ r' z4 z5 z6, B_law_later_2 [.sh (.int b), .lk (m.map kI) (m.map vI), .ownD (r.map kI) (r.map vI), .sh (.int left), s4, s5, s6] = .nx [.sh (.int b), .lk (m.map kI) (m.map vI), .ownD (r'.map kI) (r'.map vI), .sh (.int left), z4, z5, z6] ∧
      Lt b (F / b) m (fun l x => P l x ∨ (l = left ∧ -b - 1 ≤ x ∧ x ≤ b + 1)) r' := by
  have hlr := hm left (look_mem hl)
  obtain ⟨Γ', e, r', z4, z5, z6, rfl, hP⟩ := forM_all (g := bName 4) (bo := B_law_later_1) (fun k Γ => ∃ r' z4 z5 z6, Γ = [.sh (.int b), .lk (m.map kI) (m.map vI), .ownD (r'.map kI) (r'.map vI), .sh (.int left), z4, z5, z6] ∧ Lt b (F / b) m (fun l x => P l x ∨ (l = left ∧ -b - 1 ≤ x ∧ x < -b - 1 + k)) r')
    (rangeD (-b - 1) (b + 2 - (-b - 1)).toNat) [.sh (.int b), .lk (m.map kI) (m.map vI), .ownD (r.map kI) (r.map vI), .sh (.int left), s4, s5, s6] ⟨r, s4, s5, s6, rfl, h.nd, h.rg, h.sn, fun l x key hp el => by
      rcases hp with hp | ⟨_, h1, h2⟩
      · exact h.cp l x key hp el
      · omega⟩ (by
    rintro i x Γ hx ⟨r', z4, z5, z6, rfl, hP⟩
    have hi : i < (b + 2 - (-b - 1)).toNat := by
      have := (List.getElem?_eq_some_iff.mp hx).1
      rwa [rangeD_len] at this
    rw [rangeD_get _ hi] at hx
    cases hx
    obtain ⟨d, hd⟩ : ∃ d : Int, d = -b - 1 + (i : Int) := ⟨_, rfl⟩
    rw [← hd]
    have md : gMod (.int (left - d)) (.int b) = some (.val (.int ((left - d) % b))) := by rw [gMod_int]; exact giv_pos (by omega)
    have dv : gDiv (.int (left - d)) (.int b) = some (.val (.int ((left - d) / b))) := by
      rw [gDiv_int]
      exact giv_pos ⟨by omega, .inl (by
        have := Nat.log2_lt (n := b.natAbs) (k := 6) (by omega)
        have : b.natAbs.log2 < 6 := this.mpr (by omega)
        omega)⟩
    by_cases z : (left - d) % b = 0
    · obtain ⟨key, hk⟩ : ∃ key, key = (left - d) / b := ⟨_, rfl⟩
      have el : left = d + b * key := by
        have := Int.mul_ediv_add_emod (left - d) b
        rw [← hk] at this
        omega
      have hk2 := key_range hb hlr ⟨by omega, by omega⟩ el
      have hP' := hP.put hb hl el hk2 (by unfold SW.absI; split <;> omega)
      refine ⟨_, _, rfl, .inl ?_, put r' key (mn (n0 + SW.absI d) ((look r' key).getD (n0 + SW.absI d))), .sh (.int d), .sh (.int key), .sh (.int (n0 + SW.absI d)), rfl, hP'.nd, hP'.rg, hP'.sn, fun l x y hp ey => hP'.cp l x y (by
        rcases hp with hp | ⟨h1, h2, h3⟩
        · exact .inl (.inl hp)
        · by_cases q : x = d
          · exact .inr ⟨h1, q⟩
          · exact .inl (.inr ⟨h1, h2, by omega⟩)) ey⟩
      have v1 := dVal_look left m
      rw [hl] at v1
      have v2 := dVal_look key r'
      have v3 := dPut_put r' key (mn (n0 + SW.absI d) ((look r' key).getD (n0 + SW.absI d)))
      have am := absMax d
      have ll : (r'.map kI).length < 1000000 := by rw [List.length_map]; have := hP.len; omega
      have gd : ((look r' key).map D.int).getD (.int (n0 + SW.absI d)) = .int ((look r' key).getD (n0 + SW.absI d)) := by cases look r' key <;> rfl
      have gm : gMin (.int (n0 + SW.absI d)) (.int ((look r' key).getD (n0 + SW.absI d))) = some (.val (.int (mn (n0 + SW.absI d) ((look r' key).getD (n0 + SW.absI d))))) := gMin_int _ _
      generalize (look r' key).getD (n0 + SW.absI d) = gg at *
      generalize mn (n0 + SW.absI d) gg = vv at *
      generalize (put r' key vv).map kI = PK at *
      generalize (put r' key vv).map vI = PV_ at *
      generalize r'.map kI = RK at *
      generalize r'.map vI = RV at *
      generalize m.map kI = MK at *
      generalize m.map vI = MV at *
      show B_law_later_1 [.sh (.int b), .lk MK MV, .ownD RK RV, .sh (.int left), .sh (.int d), z5, z6] = _
      unfold B_law_later_1
      rw [mIf]
      have t : bB (eOp gEq (eOp gMod (eOp gSub (eVar 3) (eVar 4)) (eVar 0)) (eC (.int 0))) [.sh (.int b), .lk MK MV, .ownD RK RV, .sh (.int left), .sh (.int d), z5, z6] = .ok true := by simp [md, z]
      rw [t]
      show mSeq _ _ _ = _
      refine seq_step (Γ' := [.sh (.int b), .lk MK MV, .ownD RK RV, .sh (.int left), .sh (.int d), .sh (.int key), z6]) (by simp [dv, hk]) ?_
      refine seq_step (Γ' := [.sh (.int b), .lk MK MV, .ownD RK RV, .sh (.int left), .sh (.int d), .sh (.int key), .sh (.int (n0 + SW.absI d))]) (by simp [keyD, v1, am]) ?_
      simp [mPutD, eDGet2, eVarO, getO, keyD, v2, gd, gm, ll, v3]
    · refine ⟨_, _, rfl, .inl ?_, r', .sh (.int d), z5, z6, rfl, hP.nd, hP.rg, hP.sn, fun l x y hp ey => ?_⟩
      · show B_law_later_1 [.sh (.int b), .lk (m.map kI) (m.map vI), .ownD (r'.map kI) (r'.map vI), .sh (.int left), .sh (.int d), z5, z6] = _
        generalize m.map kI = MK at *
        generalize m.map vI = MV at *
        unfold B_law_later_1
        simp [md, z]
      · rcases hp with hp | ⟨h1, h2, h3⟩
        · exact hP.cp l x y (.inl hp) ey
        · by_cases q : x = d
          · subst q h1
            exact absurd (by rw [show l - x = b * y by omega]; exact Int.mul_emod_right _ _) z
          · exact hP.cp l x y (.inr ⟨h1, h2, by omega⟩) ey)
  refine ⟨r', z4, z5, z6, ?_, hP.nd, hP.rg, hP.sn, fun l x y hp ey => hP.cp l x y (by
    rcases hp with hp | ⟨h1, h2, h3⟩
    · exact .inl hp
    · exact .inr ⟨h1, h2, by rw [rangeD_len]; omega⟩) ey⟩
  unfold B_law_later_2
  have r2 : rng2 [.int (-b - 1), .int (b + 2)] = .ok (rangeD (-b - 1) (b + 2 - (-b - 1)).toNat) := by
    rw [rng2_int, need_pos (by omega)]
  generalize m.map kI = MK at *
  generalize m.map vI = MV at *
  generalize r'.map kI = RK' at *
  generalize r'.map vI = RV' at *
  generalize r.map kI = RK at *
  generalize r.map vI = RV at *
  show DL.mFor _ _ _ _ = _
  have ei : iR2 (eCons (eOp gSub (eUn gNeg (eVar 0)) (eC (.int 1))) (eCons (eOp gAdd (eVar 0) (eC (.int 2))) eNil)) [.sh (.int b), .lk MK MV, .ownD RK RV, .sh (.int left), s4, s5, s6] = .ok (rangeD (-b - 1) (b + 2 - (-b - 1)).toNat) := by
    rw [← r2]; simp
  unfold mFor
  rw [ei]
  exact e
theorem later16 : ∃ r : DM, M_law_later [.int b, .dic (m.map kI) (m.map vI)] = .ok (.ownD (r.map kI) (r.map vI)) ∧ Lt b (F / b) m (fun l x => l ∈ m.map (·.1) ∧ -b - 1 ≤ x ∧ x ≤ b + 1) r := by
  have nd : nodicL (m.map vI) = true := by
    rw [nodicL_all, List.all_map, List.all_eq_true]
    intro p _
    show nodic (.int p.2) = true
    unfold nodic; rfl
  have ni : nodic (.int b) = true := by unfold nodic; rfl
  have kd : (m.map kI).map kD' = (m.map (·.1)).map D.int := by rw [List.map_map, List.map_map]; rfl
  obtain ⟨Γ', e, r, z3, z4, z5, z6, rfl, hP⟩ := forM_all (g := bName 3) (bo := B_law_later_2) (fun k Γ => ∃ r z3 z4 z5 z6, Γ = [.sh (.int b), .lk (m.map kI) (m.map vI), .ownD (r.map kI) (r.map vI), z3, z4, z5, z6] ∧ Lt b (F / b) m (fun l x => l ∈ (m.map (·.1)).take k ∧ -b - 1 ≤ x ∧ x ≤ b + 1) r)
    ((m.map (·.1)).map D.int) [.sh (.int b), .lk (m.map kI) (m.map vI), .ownD [] [], .un, .un, .un, .un] ⟨[], .un, .un, .un, .un, rfl, .nil, (fun _ h => by cases h), (fun _ _ h => by cases h), fun l x key hp _ => by
      rw [List.take_zero] at hp; cases hp.1⟩ (by
    rintro i x Γ hx ⟨r, z3, z4, z5, z6, rfl, hP⟩
    rw [List.getElem?_map] at hx
    obtain ⟨left, hL, rfl⟩ := Option.map_eq_some_iff.mp hx
    obtain ⟨n0, hn⟩ := mem_look (List.mem_of_getElem? hL)
    obtain ⟨r', y4, y5, y6, e, hP'⟩ := inner16 hb hb2 hm hn hP z4 z5 z6
    refine ⟨_, _, rfl, .inl e, r', .sh (.int left), y4, y5, y6, rfl, hP'.nd, hP'.rg, hP'.sn, fun l x key hp ek => hP'.cp l x key ?_ ek⟩
    rw [List.take_add_one, hL] at hp
    rcases List.mem_append.mp hp.1 with z | z
    · exact .inl ⟨z, hp.2⟩
    · have z : l = left := by simpa using z
      exact .inr ⟨z, hp.2⟩)
  refine ⟨r, ?_, hP.nd, hP.rg, hP.sn, fun l x key hp ek => hP.cp l x key ⟨by rw [List.take_of_length_le (by simp)]; exact hp.1, hp.2⟩ ek⟩
  unfold M_law_later
  rw [body_eq]
  show Out.res _ = Out.res (.rt (.ownD (r.map kI) (r.map vI)))
  refine congrArg Out.res ?_
  refine seq_step (Γ' := [.sh (.int b), .sh (.dic (m.map kI) (m.map vI)), .ownD [] [], .un, .un, .un, .un]) (by simp [startD, mSetFD]) ?_
  have lkd : lkE 1 (m.map kI) (m.map vI) [.sh (.int b), .sh (.dic (m.map kI) (m.map vI)), .ownD [] [], .un, .un, .un, .un] = [.sh (.int b), .lk (m.map kI) (m.map vI), .ownD [] [], .un, .un, .un, .un] := by
    unfold lkE
    simp [lkS, ni, nodicL]
  refine seq_step (Γ' := [unS (.sh (.int b)), .sh (.dic (m.map kI) (m.map vI)), .ownD (r.map kI) (r.map vI), unS z3, unS z4, unS z5, unS z6]) (by
    show mForD 1 (bName 3) B_law_later_2 [.sh (.int b), .sh (.dic (m.map kI) (m.map vI)), .ownD [] [], .un, .un, .un, .un] = _
    unfold mForD
    show (if nodicL (m.map vI) = true then _ else _) = _
    rw [if_pos nd, kd, lkd, e]
    rfl) ?_
  simp [mRetO]
end
end PM
namespace PM
open PySem L2 GL DL NR
theorem pow_lt8 {n : Int} {A : Nat} (h : n.natAbs < 2 ^ A) (hA : A ≤ 8900) : n.natAbs < 2 ^ 8900 := Nat.lt_of_lt_of_le h (Nat.pow_le_pow_right (by decide) hA)
section
variable {b : Int} (hb : 2 ≤ b) (hb2 : b ≤ 36)
include hb hb2
/-- a sum whose parts lie wide apart -/
theorem sum_tot {ps : List Pt} {A B : Nat} {lo : Int} (hl : ps.length < 8000) (hp : ∀ p ∈ ps, p.1.natAbs < 2 ^ B ∧ (p.1 ≠ 0 → lo ≤ p.2 ∧ p.2 ≤ lo + 2000)) (hB : B ≤ 20000) (hs : Sz b (valP b ps) A lo) (hA : A ≤ 8900) :
    M_sum_of [.int b, .lst (ps.map ptD)] = .ok (.sh (numD b (valP b ps))) := by
  refine sum_of_few hb hb2 ps (by omega) (S := 2 ^ (B + 13)) (D := 2000) ?_ ?_ (by decide) ?_ ?_
  · have h1 : absP ps ≤ ps.length * 2 ^ B := by
      clear hl hs
      induction ps with
      | nil => simp [absP]
      | cons p r ih =>
        have h2 := ih fun q hq => hp q (List.mem_cons_of_mem _ hq)
        have h3 := (hp p List.mem_cons_self).1
        unfold absP at h2 ⊢
        simp only [List.map_cons, List.sum_cons, List.length_cons]
        rw [Nat.add_mul]; omega
    refine Nat.le_trans h1 ?_
    rw [Nat.pow_add, Nat.mul_comm]
    exact Nat.mul_le_mul_left _ (by omega)
  · refine Nat.lt_of_le_of_lt (Nat.mul_le_mul_left _ (pow36_lt 2000)) ?_
    rw [← Nat.pow_add]
    exact Nat.pow_lt_pow_right (by decide) (by omega)
  · intro n e hv ⟨p, hpm, p0, pe⟩ h0
    have h2 := ((hp p hpm).2 p0).1
    obtain ⟨N, hN, hN2⟩ := hs
    have k := mul_W_eq hb (n := n) (e := e) (m := N) (f := lo) (hv.symm.trans hN) (by omega)
    refine few_of h0 (pow_lt8 (Nat.lt_of_le_of_lt ?_ hN2) hA)
    rw [k, Int.natAbs_mul]
    exact Nat.le_mul_of_pos_right _ (Int.natAbs_pos.mpr (Int.ne_of_gt (Int.pow_pos (by omega))))
  · intro p h q g p0 q0
    have h1 := (hp p h).2 p0
    have h2 := (hp q g).2 q0
    omega
theorem ex_num {v : Rat} {A : Nat} {s : Int} (h : Sz b v A s) (nv : NumV b v) (hs : -1000 ≤ s) (z : nm b v ≠ 0) : s ≤ ex b v ∧ ex b v ≤ s + 2000 := by
  have h0 : v ≠ 0 := fun e => z (by rw [e]; exact nm_zero hb)
  have h1 := h.ex_lo hb h0
  have h2 := nv.2.2.2
  omega
theorem difference_wide {v w : Rat} {A : Nat} {s p1 p2 : Int} (h : Sz b v A s) (g : Sz b w A s) (hA : A ≤ 8800) (hs : -1000 ≤ s) (nv : NumV b v) (nw : NumV b w) : M_difference [.int b, effD b v p1, effD b w p2] = .ok (.sh (numD b (w - v))) := by
  have hv : valP b [(nm b w, ex b w), (-nm b v, ex b v)] = w - v := by
    unfold valP
    simp only [List.map_cons, List.map_nil, List.sum_cons, List.sum_nil, h.dy.eq hb, g.dy.eq hb, Rat.add_zero, Rat.intCast_neg, Rat.neg_mul]
    rw [Rat.sub_eq_add_neg]
  have e := sum_tot hb hb2 (ps := [(nm b w, ex b w), (-nm b v, ex b v)]) (A := A + 1) (B := A) (lo := s) (by simp) (by
    intro p hp
    rcases List.mem_cons.mp hp with rfl | hp
    · exact ⟨g.nm hb, fun z => ex_num hb hb2 g nw hs z⟩
    · rw [List.mem_singleton.mp hp]
      exact ⟨by rw [Int.natAbs_neg]; exact h.nm hb, fun z => ex_num hb hb2 h nv hs fun z2 => z (by rw [z2]; rfl)⟩) (by omega) (by rw [hv]; exact g.sub h) (by omega)
  rw [hv] at e
  have ng := negative_eq hb hb2 (nm b v) (ex b v)
  have e : M_sum_of [.int b, .lst [numD b w, .tup [.int (-nm b v), .int (ex b v)]]] = .ok (.sh (numD b (w - v))) := e
  rw [show (.tup [.int (nm b v), .int (ex b v)] : D) = numD b v from rfl] at ng
  unfold M_difference
  rw [body_eq]
  unfold effD
  generalize numD b v = x at *
  generalize numD b w = y at *
  generalize (.tup [.int (-nm b v), .int (ex b v)] : D) = z at *
  simp [tup_ix0, ng, e]
end
section
variable {CR CS : Addr} {b mv ad : Int} {f l : D} {lo hi : Int} (hb : 2 ≤ b) (hb2 : b ≤ 36) (he : Ends f l lo hi) (ha : 0 ≤ ad ∧ ad ≤ 1000000) (hv : 0 ≤ mv ∧ mv ≤ 1000000)
include hb hb2 he ha hv
omit hb2 he ha hv in
theorem num_low {u : Rat} (nu : NumV b u) : ∃ n : Int, u = n * W b (-1000) ∧ n.natAbs < 2 ^ 997 * b.natAbs ^ 2000 := by
  have e := nu.1.eq hb
  have f := nu.2.1
  have e1 := nu.2.2.1
  have e2 := nu.2.2.2
  have n1 : (nm b u).natAbs < 2 ^ 997 := by
    unfold few at f
    have f := of_decide_eq_true f
    have t : ((10 : Int) ^ 300) < 2 ^ 997 := by decide +kernel
    have t2 : ((2 ^ 997 : Nat) : Int) = 2 ^ 997 := by simp
    have : ((nm b u).natAbs : Int) < ((2 ^ 997 : Nat) : Int) := by
      rw [t2]
      generalize (10 : Int) ^ 300 = X at *
      generalize (2 : Int) ^ 997 = Y at *
      split at f <;> omega
    exact Int.ofNat_lt.mp this
  refine ⟨nm b u * b ^ (ex b u - -1000).toNat, ?_, ?_⟩
  · have h1 : W b (ex b u) = W b (ex b u - -1000) * W b (-1000) := by rw [← W_add hb]; congr 1; omega
    rw [h1, W_toNat b (by omega)] at e
    rw [Rat.intCast_mul, Rat.mul_assoc]
    exact e.symm
  · rw [Int.natAbs_mul, NM.natAbs_pow]
    refine Nat.lt_of_lt_of_le (Nat.mul_lt_mul_of_pos_right n1 (Nat.pow_pos (by omega))) (Nat.mul_le_mul_left _ (Nat.pow_le_pow_right (by omega) (by omega)))
omit hb2 he ha hv in
theorem ex_top {v w : Rat} (nv : NumV b v) (nw : NumV b w) (z : w - v ≠ 0) (d : Dy b (w - v)) (lo : -1000 ≤ ex b (w - v)) : ex b (w - v) ≤ 2600 := by
  obtain ⟨n, hn, ln⟩ := num_low hb nv
  obtain ⟨m, hm, lm⟩ := num_low hb nw
  have e := d.eq hb
  have hs : w - v = ((m - n : Int) : Rat) * W b (-1000) := by
    rw [hn, hm, Rat.intCast_sub]; grind
  have k := mul_W_eq hb (n := nm b (w - v)) (e := ex b (w - v)) (m := m - n) (f := -1000) (e.trans hs) lo
  have n0 := nm_ne hb d z
  have le : b.natAbs ^ (ex b (w - v) - -1000).toNat ≤ (m - n).natAbs := by
    rw [k, Int.natAbs_mul, NM.natAbs_pow]
    exact Nat.le_mul_of_pos_left _ (by omega)
  have l2 : (m - n).natAbs < b.natAbs ^ 2998 := by
    have h1 : (2 : Nat) ^ 998 ≤ b.natAbs ^ 998 := Nat.pow_le_pow_left (by omega) _
    have h2 : (2 : Nat) ^ 998 * b.natAbs ^ 2000 ≤ b.natAbs ^ 2998 := by
      rw [show 2998 = 998 + 2000 from rfl, Nat.pow_add]
      exact Nat.mul_le_mul_right _ h1
    have h3 : (2 : Nat) ^ 998 * b.natAbs ^ 2000 = 2 * (2 ^ 997 * b.natAbs ^ 2000) := by
      rw [show 998 = 997 + 1 from rfl, Nat.pow_succ]
      generalize (2 : Nat) ^ 997 = X
      generalize b.natAbs ^ 2000 = Y
      rw [Nat.mul_comm X 2, Nat.mul_assoc]
    have h4 := Int.natAbs_sub_le m n
    generalize (2 : Nat) ^ 997 * b.natAbs ^ 2000 = Z at *
    omega
  have := (Nat.pow_lt_pow_iff_right (a := b.natAbs) (by omega)).mp (Nat.lt_of_le_of_lt le l2)
  omega
theorem sweep_wide {v w : Rat} {A : Nat} {s p1 p2 : Int} (h : Sz b v A s) (g : Sz b w A s) (hA : A ≤ 8800) (hs : -1000 ≤ s) (nv : NumV b v) (nw : NumV b w) (h1 : lo ≤ p1 ∧ p1 ≤ hi) (h2 : lo ≤ p2 ∧ p2 ≤ hi) (o1 : On b lo v) (o2 : On b lo w) :
    ∃ (L V : Int) (r m : Nat), M_sweep_between CR CS [rowD CR (.int b) (.int mv) (.int ad) f l, effD b v p1, effD b w p2] = .ok (.sh (swD CS (rowD CR (.int b) (.int mv) (.int ad) f l) L (SW.absI (p2 - p1)) r (flo b V m))) ∧
      w - v = V * W b L ∧ (∀ k Z, k ≤ p1 → k ≤ p2 → (Z : Int) * W b k = w - v → k ≤ L) ∧ lo ≤ L ∧ (L ≤ p1 ∧ L ≤ p2) ∧ (p1 ≤ L + r ∧ p2 ≤ L + r) ∧ (L + r = p1 ∨ L + r = p2) ∧ L + m ≤ hi ∧ r ≤ m ∧ (SW.floorN b m V = 0 ∨ SW.floorN b m V = -1 ∨ L + m = hi) ∧ V.natAbs < 2 ^ 60000 ∧ m ≤ 3000 ∧ ∀ M0 : Nat, p1 ≤ L + M0 → p2 ≤ L + M0 → (SW.floorN b M0 V = 0 ∨ SW.floorN b M0 V = -1) → m ≤ M0 := by
  have rs := require_states_ok (CR := CR) (mv := mv) (ad := ad) hb hb2 he (x := effD b v p1) (y := effD b w p2) rfl rfl (isSt_effD hb nv h1.1 h1.2 fun z => on_ex hb nv.1 o1 z) (isSt_effD hb nw h2.1 h2.2 fun z => on_ex hb nw.1 o2 z)
  have df := difference_wide (p1 := p1) (p2 := p2) hb hb2 h g hA hs nv nw
  have sz := g.sub h
  have qd := sz.dy
  have hn : (nm b (w - v)).natAbs < 2 ^ 9000 := Nat.lt_of_lt_of_le (sz.nm hb) (Nat.pow_le_pow_right (by decide) (by omega))
  have h0 : nm b (w - v) = 0 → ex b (w - v) = 0 := fun z => by rw [nm_eq0 hb qd z, ex_zero hb]
  have hE : -1300 ≤ ex b (w - v) ∧ ex b (w - v) ≤ 2600 := by
    by_cases z : w - v = 0
    · rw [z, ex_zero hb]; decide
    · have k1 := sz.ex_lo hb z
      have top := ex_top hb nv nw z qd (by omega)
      omega
  have lo1 : -1000 ≤ lo := by rcases he.lo_ with ⟨_, h⟩ | ⟨_, h⟩ <;> omega
  have hi1 : hi ≤ 1000 := by rcases he.hi_ with ⟨_, h⟩ | ⟨_, h⟩ <;> omega
  obtain ⟨m, iv, k1, k2, k3, k4⟩ := init_val (CR := CR) (CS := CS) (mv := mv) (ad := ad) hb hb2 he h0 hn hE h1 h2
  obtain ⟨l1, l2, l3⟩ := lowI_le (nm b (w - v)) (ex b (w - v)) p1 p2
  have lb : -1300 ≤ lowI (nm b (w - v)) (ex b (w - v)) p1 p2 := by unfold lowI; split <;> omega
  have hq := units_eq hb qd l3
  have hVA := (units_val (low := lowI (nm b (w - v)) (ex b (w - v)) p1 p2) hb hb2 h0 l3 hn (by omega)).2
  have hlow := low_spec hb qd (p1 := p1) (p2 := p2)
  have hll : lo ≤ lowI (nm b (w - v)) (ex b (w - v)) p1 p2 := by
    obtain ⟨Z, e⟩ := o2.sub o1
    exact hlow lo Z h1.1 h2.1 e
  have hmx : p1 ≤ maxI p1 p2 ∧ p2 ≤ maxI p1 p2 ∧ (maxI p1 p2 = p1 ∨ maxI p1 p2 = p2) := by unfold maxI; split <;> omega
  rw [show (.tup [.int (nm b (w - v)), .int (ex b (w - v))] : D) = numD b (w - v) from rfl] at iv
  generalize lowI (nm b (w - v)) (ex b (w - v)) p1 p2 = L at *
  generalize unitsI b (nm b (w - v)) (ex b (w - v)) L = V at *
  generalize maxI p1 p2 = X at *
  have hc : X - L = ((X - L).toNat : Int) := by omega
  rw [hc] at iv
  refine ⟨L, V, (X - L).toNat, m, ?_, hq, hlow, hll, ⟨l1, l2⟩, by omega, by omega, k2, by omega, k3, hVA, by omega, fun M0 a c => k4 M0 (by omega)⟩
  clear k4
  have al := allP_eq (MI := M_Sweep_init CR CS) iv
  have r0 := gRow_0 CR (.int b) (.int mv) (.int ad) f l
  generalize swD CS (rowD CR (.int b) (.int mv) (.int ad) f l) L (SW.absI (p2 - p1)) ((X - L).toNat : Int) (flo b V m) = S at *
  generalize rowD CR (.int b) (.int mv) (.int ad) f l = R at *
  have so : M_sweep_of_any CR CS [R, effD b v p1, effD b w p2] = .ok (.sh S) := by
    unfold M_sweep_of_any
    rw [body_eq]
    unfold effD at *
    generalize numD b v = x1 at *
    generalize numD b w = x2 at *
    generalize numD b (w - v) = x3 at *
    simp [eNew, r0, df, tup_ix1, al]
  unfold M_sweep_between
  rw [body_eq]
  generalize effD b v p1 = x1 at *
  generalize effD b w p2 = x2 at *
  simp [rs, so]
theorem distance_wide {v w : Rat} {A : Nat} {s p1 p2 : Int} (h : Sz b v A s) (g : Sz b w A s) (hA : A ≤ 8800) (hs : -1000 ≤ s) (nv : NumV b v) (nw : NumV b w) (h1 : lo ≤ p1 ∧ p1 ≤ hi) (h2 : lo ≤ p2 ∧ p2 ≤ hi) (o1 : On b lo v) (o2 : On b lo w) :
    ∃ x, M_distance CR CS [rowD CR (.int b) (.int mv) (.int ad) f l, effD b v p1, effD b w p2] = .ok (.sh (.int x)) ∧ SW.Dist b ad mv lo hi p1 p2 (w - v) x := by
  obtain ⟨L, V, r, m, sw, hq, hlow, hll, l12, r12, r3, hm, hrm, hst, hV, hm2, hM⟩ := sweep_wide (CR := CR) (CS := CS) hb hb2 he ha hv h g hA hs nv nw h1 h2 o1 o2
  have lo1 : -1000 ≤ lo := by rcases he.lo_ with ⟨_, h⟩ | ⟨_, h⟩ <;> omega
  have hi1 : hi ≤ 1000 := by rcases he.hi_ with ⟨_, h⟩ | ⟨_, h⟩ <;> omega
  have hsp : 0 ≤ SW.absI (p2 - p1) ∧ SW.absI (p2 - p1) ≤ 2000000 := by rw [SW.absI_nat]; omega
  obtain ⟨x, lc, c1, c2⟩ := least_cost_val (CR := CR) (CS := CS) (low := L) (f := f) (l := l) hb ha hb2 hv hsp (ready := r) (m := m) (V := V) (by omega) (by omega) (Nat.lt_of_lt_of_le hV (Nat.pow_le_pow_right (by decide) (by decide)))
  refine ⟨x, ?_, SW.dist_of hb ha.1 hv.1 hq hlow hll l12 r12 r3 hm hrm hst c1 c2⟩
  clear hM hlow
  generalize swD CS (rowD CR (.int b) (.int mv) (.int ad) f l) L (SW.absI (p2 - p1)) (r : Int) (flo b V m) = S at *
  generalize rowD CR (.int b) (.int mv) (.int ad) f l = R at *
  unfold M_distance
  rw [body_eq]
  generalize effD b v p1 = x1 at *
  generalize effD b w p2 = x2 at *
  simp [sw, lc]
end
end PM
namespace PM
open PySem L2 GL DL NR TL
/-- the dict at a place -/
structure Dp (b ad V : Int) (k : Nat) (m : DM) : Prop where
  nd : (m.map (·.1)).Nodup
  rg : ∀ key ∈ m.map (·.1), SW.floorN b k V - 3 ≤ key ∧ key ≤ SW.floorN b k V + 4
  sn : ∀ key n, look m key = some n → (0 ≤ n ∧ n ≤ (b + 1) * k) ∧ ∃ ds : List Int, ds.length = k ∧ SW.cost ds = n ∧ SW.val b ds + b ^ k * key = V
  cp : ∀ c a, (c = 0 ∨ c = 1) → SW.getC (SW.iter b ad k V SW.t0) c = some a → ∃ n, look m (SW.floorN b k V + c) = some n ∧ ad * n ≤ a
theorem Dp.zero (b ad V : Int) : Dp b ad V 0 [(V, 0)] := by
  refine ⟨by simp, fun key h => ?_, fun key n h => ?_, fun c a hc h => ?_⟩
  · have : key = V := by simpa using h
    subst this
    show key - 3 ≤ key ∧ key ≤ key + 4
    omega
  · have h : (if V = key then some 0 else none) = some n := h
    by_cases e : V = key
    · rw [if_pos e] at h
      cases h
      exact ⟨by simp, [], rfl, rfl, by subst e; simp [SW.val]⟩
    · rw [if_neg e] at h; cases h
  · rcases hc with rfl | rfl
    · cases (show some (0 : Int) = some a from h)
      refine ⟨0, ?_, by simp⟩
      show (if V = V + 0 then some 0 else none) = some 0
      rw [if_pos (by omega)]
    · cases (show (none : Option Int) = some a from h)
theorem Dp.succ {b ad V : Int} {k : Nat} {m r : DM} (hb : 2 ≤ b) (ha : 0 ≤ ad) (h : Dp b ad V k m) (l : Lt b (SW.floorN b k V / b) m (fun l x => l ∈ m.map (·.1) ∧ -b - 1 ≤ x ∧ x ≤ b + 1) r) : Dp b ad V (k + 1) r := by
  refine ⟨l.nd, fun key hk => ?_, fun key n hk => ?_, fun c' a' hc' g => ?_⟩
  · rw [floorN_succ]; exact l.rg key hk
  · obtain ⟨left, n0, d, h1, h2, h3, h4⟩ := l.sn key n hk
    obtain ⟨⟨b1, b2⟩, ds, e1, e2, e3⟩ := h.sn left n0 h1
    have d0 : 0 ≤ SW.absI d := by unfold SW.absI; split <;> omega
    refine ⟨⟨by omega, ?_⟩, ds ++ [d], by simp [e1], ?_, ?_⟩
    · rw [show ((k + 1 : Nat) : Int) = (k : Int) + 1 by omega, Int.mul_add, Int.mul_one]
      omega
    · rw [SW.cost_append, e2, h3]
      show n0 + (SW.absI d + 0) = _
      omega
    · rw [SW.val_append, e1, Int.pow_succ, Int.mul_assoc, Int.add_assoc, ← Int.mul_add]
      rw [show SW.val b [d] + b * key = left by show d + b * 0 + b * key = left; rw [Int.mul_zero]; omega]
      exact e3
  · rw [iter_succ] at g
    obtain ⟨c, a, d, hc, g0, hp, rfl⟩ := SW.step_mem hc' g
    obtain ⟨n, hn, le⟩ := h.cp c a hc g0
    have m1 := Int.emod_nonneg (SW.floorN b k V) (show b ≠ 0 by omega)
    have m2 := Int.emod_lt_of_pos (SW.floorN b k V) (show 0 < b by omega)
    obtain ⟨e1, _⟩ := SW.choices_eq hb hp (by omega) (by omega)
    have e2 := Int.mul_ediv_add_emod (SW.floorN b k V) b
    have dr : -b - 1 ≤ d ∧ d ≤ b + 1 := by
      unfold SW.choices at hp
      split at hp
      · have : d = 0 := by
          have := List.mem_singleton.mp hp
          exact congrArg Prod.fst this
        omega
      · rcases List.mem_cons.mp hp with z | z
        · have := congrArg Prod.fst z
          dsimp only at this
          omega
        · have := congrArg Prod.fst (List.mem_singleton.mp z)
          dsimp only at this
          omega
    have el : SW.floorN b k V + c = d + b * (SW.floorN b k V / b + c') := by rw [Int.mul_add]; omega
    obtain ⟨n', n0, h1, h2, h3⟩ := l.cp _ d _ ⟨look_mem hn, dr⟩ el
    rw [hn] at h2
    cases h2
    refine ⟨n', by rw [floorN_succ]; exact h1, ?_⟩
    have := Int.mul_le_mul_of_nonneg_left h3 ha
    rw [Int.mul_add] at this
    omega
/-- the best so far -/
def Bst (S Q : Int → Prop) (o : Option Int) : Prop := (∀ x, o = some x → S x) ∧ ∀ y, Q y → ∃ x, o = some x ∧ x ≤ y
def upB (o : Option Int) (c : Int) : Option Int := match o with
  | none => some c
  | some x => if c < x then some c else some x
theorem Bst.up {S Q : Int → Prop} {o : Option Int} (h : Bst S Q o) {c : Int} (hc : S c) : Bst S (fun y => Q y ∨ c ≤ y) (upB o c) := by
  cases o with
  | none =>
    refine ⟨fun x e => by cases e; exact hc, fun y hy => ?_⟩
    rcases hy with hy | hy
    · obtain ⟨x, e, _⟩ := h.2 y hy; cases e
    · exact ⟨c, rfl, hy⟩
  | some x =>
    by_cases l : c < x
    · rw [show upB (some x) c = some c from if_pos l]
      refine ⟨fun z e => by cases e; exact hc, fun y hy => ?_⟩
      rcases hy with hy | hy
      · obtain ⟨z, e, le⟩ := h.2 y hy; cases e; exact ⟨c, rfl, by omega⟩
      · exact ⟨c, rfl, hy⟩
    · rw [show upB (some x) c = some x from if_neg l]
      refine ⟨h.1, fun y hy => ?_⟩
      rcases hy with hy | hy
      · exact h.2 y hy
      · exact ⟨x, rfl, by omega⟩
theorem nodic_int (i : Int) : nodic (.int i) = true := by unfold nodic; rfl
theorem nodic_opt (o : Option Int) : nodic (optD o) = true := by cases o <;> (unfold optD nodic; rfl)
section
variable {b mv ad : Int} {f l : D} (hb : 2 ≤ b) (ha : 1 ≤ ad ∧ ad ≤ 1000) (hv : 1 ≤ mv ∧ mv ≤ 1000) (nf : nodic f = true) (nl : nodic l = true)
include hb ha hv nf nl
theorem best_turn {m : DM} {N EN : D} (nN : nodic N = true) (nE : nodic EN = true) {sh low high top st place : Int} (hpl : (place - low).natAbs ≤ 2000) (hst : st.natAbs ≤ 3000) {S : Int → Prop} {C : Int → Int → Int} (hC : ∀ key n, C key n = ad * (n + SW.absI key) + mv * (2 * (place - low) - st))
    (hS : ∀ key n, look m key = some n → (0 ≤ n ∧ n < 2 ^ 40 ∧ key.natAbs < 2 ^ 500) ∧ S (C key n)) {Q : Int → Prop} {o : Option Int} (h : Bst S Q o) (s11 s12 : DL.Slot) :
    ∃ o' z11 z12, mForD 7 (bName 11) B_law_least_from_2 [.sh (.tup [.int b, .int mv, .int ad, f, l]), .sh N, .sh EN, .sh (.int sh), .sh (.int low), .sh (.int high), .sh (.int top), .sh (.dic (m.map kI) (m.map vI)), .sh (optD o), .sh (.int st), .sh (.int place), s11, s12] =
      .nx [.sh (.tup [.int b, .int mv, .int ad, f, l]), .sh N, .sh EN, .sh (.int sh), .sh (.int low), .sh (.int high), .sh (.int top), .sh (.dic (m.map kI) (m.map vI)), .sh (optD o'), .sh (.int st), .sh (.int place), z11, z12] ∧
      Bst S (fun y => Q y ∨ ∃ key n, look m key = some n ∧ C key n ≤ y) o' := by
  have nd : nodicL (m.map vI) = true := by
    rw [nodicL_all, List.all_map, List.all_eq_true]
    intro p _
    exact nodic_int p.2
  have nS : nodic (.tup [.int b, .int mv, .int ad, f, l]) = true := by
    unfold nodic nodicL nodicL nodicL nodicL nodicL nodicL
    rw [nodic_int, nodic_int, nodic_int, nf, nl]; rfl
  have kd : (m.map kI).map kD' = (m.map (·.1)).map D.int := by rw [List.map_map, List.map_map]; rfl
  have sp1 : gIx (.tup [.int b, .int mv, .int ad, f, l]) (.int 1) = some (.val (.int mv)) := rfl
  have sp2 : gIx (.tup [.int b, .int mv, .int ad, f, l]) (.int 2) = some (.val (.int ad)) := rfl
  generalize D.tup [.int b, .int mv, .int ad, f, l] = SP at *
  obtain ⟨Γ', e, o', z11, z12, rfl, hP⟩ := forM_all (g := bName 11) (bo := B_law_least_from_2) (fun k Γ => ∃ o' z11 z12, Γ = [.sh SP, .sh N, .sh EN, .sh (.int sh), .sh (.int low), .sh (.int high), .sh (.int top), .lk (m.map kI) (m.map vI), .sh (optD o'), .sh (.int st), .sh (.int place), z11, z12] ∧ Bst S (fun y => Q y ∨ ∃ key n, key ∈ (m.map (·.1)).take k ∧ look m key = some n ∧ C key n ≤ y) o')
    ((m.map (·.1)).map D.int) [.sh SP, .sh N, .sh EN, .sh (.int sh), .sh (.int low), .sh (.int high), .sh (.int top), .lk (m.map kI) (m.map vI), .sh (optD o), .sh (.int st), .sh (.int place), lkS s11, lkS s12] ⟨o, _, _, rfl, h.1, fun y hy => by
      rcases hy with hy | ⟨_, _, hm, _⟩
      · exact h.2 y hy
      · rw [List.take_zero] at hm; cases hm⟩ (by
    rintro i x Γ hx ⟨o', z11, z12, rfl, hP⟩
    rw [List.getElem?_map] at hx
    obtain ⟨key, hK, rfl⟩ := Option.map_eq_some_iff.mp hx
    obtain ⟨n, hn⟩ := mem_look (List.mem_of_getElem? hK)
    obtain ⟨⟨n0, n1, n2⟩, hs⟩ := hS key n hn
    refine ⟨_, _, rfl, .inl ?_, upB o' (C key n), .sh (.int key), .sh (.int (C key n)), rfl, (hP.up hs).1, fun y hy => (hP.up hs).2 y ?_⟩
    · have v1 := dVal_look key m
      rw [hn] at v1
      have am := absMax key
      have a0 : 0 ≤ SW.absI key ∧ (SW.absI key).natAbs = key.natAbs := by unfold SW.absI; split <;> omega
      have mu1 : gMul (.int ad) (.int (n + SW.absI key)) = some (.val (.int (ad * (n + SW.absI key)))) := mul_ok (a := 11) (b := 502) (by omega) (by
        have : (2 : Nat) ^ 502 = 4 * 2 ^ 500 := by decide +kernel
        have : (2 : Nat) ^ 40 ≤ 2 ^ 500 := Nat.pow_le_pow_right (by decide) (by decide)
        generalize (2 : Nat) ^ 502 = A at *
        generalize (2 : Nat) ^ 500 = B at *
        omega) (by decide) (by decide) (by decide)
      have mu2 : gMul (.int 2) (.int (place - low)) = some (.val (.int (2 * (place - low)))) := mul_ok (a := 3) (b := 12) (by decide) (by omega) (by decide) (by decide) (by decide)
      have mu3 : gMul (.int mv) (.int (2 * (place - low) - st)) = some (.val (.int (mv * (2 * (place - low) - st)))) := mul_ok (a := 11) (b := 13) (by omega) (by omega) (by decide) (by decide) (by decide)
      have hc := hC key n
      clear hS hC hP h
      generalize m.map kI = MK at *
      generalize m.map vI = MV at *
      show B_law_least_from_2 [.sh SP, .sh N, .sh EN, .sh (.int sh), .sh (.int low), .sh (.int high), .sh (.int top), .lk MK MV, .sh (optD o'), .sh (.int st), .sh (.int place), .sh (.int key), z12] = _
      unfold B_law_least_from_2
      refine seq_step (Γ' := [.sh SP, .sh N, .sh EN, .sh (.int sh), .sh (.int low), .sh (.int high), .sh (.int top), .lk MK MV, .sh (optD o'), .sh (.int st), .sh (.int place), .sh (.int key), .sh (.int (C key n))]) (by simp [sp1, sp2, keyD, v1, am, mu1, mu2, mu3, hc]) ?_
      cases o' with
      | none => simp [optD, upB]
      | some x =>
        by_cases z : C key n < x
        · simp [optD, upB, z]
        · simp [optD, upB, z]
    · rcases hy with hy | ⟨k2, n2', hk2, hn2, le⟩
      · exact .inl (.inl hy)
      · rw [List.take_add_one, hK] at hk2
        rcases List.mem_append.mp hk2 with q | q
        · exact .inl (.inr ⟨k2, n2', q, hn2, le⟩)
        · have q : k2 = key := by simpa using q
          subst q
          rw [hn] at hn2
          cases hn2
          exact .inr le)
  refine ⟨o', unS z11, unS z12, ?_, hP.1, fun y hy => hP.2 y (by
    rcases hy with hy | ⟨key, n, h1, h2⟩
    · exact .inl hy
    · exact .inr ⟨key, n, by rw [List.take_of_length_le (by simp)]; exact look_mem h1, h1, h2⟩)⟩
  have lkd : lkE 7 (m.map kI) (m.map vI) [.sh SP, .sh N, .sh EN, .sh (.int sh), .sh (.int low), .sh (.int high), .sh (.int top), .sh (.dic (m.map kI) (m.map vI)), .sh (optD o), .sh (.int st), .sh (.int place), s11, s12] = [.sh SP, .sh N, .sh EN, .sh (.int sh), .sh (.int low), .sh (.int high), .sh (.int top), .lk (m.map kI) (m.map vI), .sh (optD o), .sh (.int st), .sh (.int place), lkS s11, lkS s12] := by
    unfold lkE
    have k1 : ∀ d : D, nodic d = true → lkS (.sh d) = .sh d := fun d h => if_pos h
    simp [k1 _ nS, k1 _ nN, k1 _ nE, k1 _ (nodic_int sh), k1 _ (nodic_int low), k1 _ (nodic_int high), k1 _ (nodic_int top), k1 _ (nodic_opt o), k1 _ (nodic_int st), k1 _ (nodic_int place)]
  unfold mForD
  show (if nodicL (m.map vI) = true then _ else _) = _
  rw [if_pos nd, kd, lkd, e]
  rfl
end
theorem power_neg {b c : Int} (h : c ≤ 0) : M_law_power_v2 [.int b, .int c] = .ok (.sh (.int 1)) := by
  unfold M_law_power_v2
  rw [body_eq]
  show Out.res _ = Out.res (.rt (.sh (.int 1)))
  refine congrArg Out.res ?_
  refine seq_step (Γ' := [.sh (.int b), .sh (.int c), .sh (.int 1)]) (by simp [startD]) ?_
  have t : T_law_power_v2_1 [.sh (.int b), .sh (.int c), .sh (.int 1)] = .ok false := by
    unfold T_law_power_v2_1
    simp
    omega
  obtain ⟨Γ', m', e, rfl, _⟩ := whileM_inv (b := B_law_power_v2_1) (fun _ Γ => Γ = [.sh (.int b), .sh (.int c), .sh (.int 1)]) (fun m Γ hΓ => by subst hΓ; exact .inl t) 1000000 0 _ rfl (by decide)
  refine seq_step (Γ' := [.sh (.int b), .sh (.int c), .sh (.int 1)]) e ?_
  simp
theorem pow_b {b : Int} (hb : 2 ≤ b) (hb2 : b ≤ 36) {c : Nat} {A : Nat} (h : 6 * c ≤ A) : (b ^ c).natAbs < 2 ^ A ∨ c = 0 := by
  by_cases z : c = 0
  · exact .inr z
  · left
    rw [Int.natAbs_pow]
    have e1 : b.natAbs ^ c < 64 ^ c := Nat.pow_lt_pow_left (by omega) z
    have e2 : (64 : Nat) ^ c = 2 ^ (6 * c) := by rw [Nat.pow_mul]
    have e3 : (2 : Nat) ^ (6 * c) ≤ 2 ^ A := Nat.pow_le_pow_right (by decide) h
    omega
theorem pow_b' {b : Int} (hb : 2 ≤ b) (hb2 : b ≤ 36) {c : Nat} {A : Nat} (h : 6 * c ≤ A) (hA : 1 ≤ A) : (b ^ c).natAbs < 2 ^ A := by
  rcases pow_b hb hb2 h with e | e
  · exact e
  · subst e
    have : 2 ^ 1 ≤ 2 ^ A := Nat.pow_le_pow_right (by decide) hA
    simp
    omega
theorem floor16 {b n e low place : Int} (hb : 2 ≤ b) (hb2 : b ≤ 36) (h0 : n = 0 → e = 0) (hle : n ≠ 0 → low ≤ e) (hn : n.natAbs < 2 ^ 400) (hp : low ≤ place ∧ place ≤ low + 900) (hw : -100 ≤ low ∧ low ≤ 100) (he : e ≤ 400) : M_law_floor_v2 [.int b, .tup [.int n, .int e], .int place] = .ok (.sh (.int (SW.floorN b (place - low).toNat (unitsI b n e low)))) := by
  rw [SW.floorN_div hb]
  have i0 : gIx (.tup [.int n, .int e]) (.int 0) = some (.val (.int n)) := rfl
  have i1 : gIx (.tup [.int n, .int e]) (.int 1) = some (.val (.int e)) := rfl
  unfold unitsI
  by_cases z : n = 0
  · have e0 := h0 z
    subst z e0
    rw [Int.zero_mul, Int.zero_ediv]
    obtain ⟨w, hw, ww⟩ : ∃ w : Int, M_law_power_v2 [.int b, .int (0 - place)] = .ok (.sh (.int w)) ∧ w.natAbs < 2 ^ 7000 := by
      by_cases c : place ≤ 0
      · refine ⟨b ^ (0 - place).toNat, ?_, pow_b' hb hb2 (by omega) (by decide)⟩
        have := power2_eq (b := b) (by omega) hb2 (c0 := (0 - place).toNat) (by omega)
        rw [show (((0 - place).toNat : Nat) : Int) = 0 - place by omega] at this
        exact this
      · exact ⟨1, power_neg (by omega), by decide +kernel⟩
    have mu : gMul (.int 0) (.int w) = some (.val (.int 0)) := by
      have := mul_ok (i := 0) (j := w) (a := 1) (b := 7000) (by decide) ww (by decide) (by decide) (by decide)
      rw [Int.zero_mul] at this
      exact this
    generalize D.tup [.int 0, .int 0] = N at *
    rw [show (0 : Int) - place = -place by omega] at hw
    unfold M_law_floor_v2
    rw [body_eq]
    simp [i0, i1, hw, mu]
  · have le := hle z
    by_cases c : place ≤ e
    · have p := power2_eq (b := b) (by omega) hb2 (c0 := (e - place).toNat) (by omega)
      rw [show (((e - place).toNat : Nat) : Int) = e - place by omega] at p
      have mu : gMul (.int n) (.int (b ^ (e - place).toNat)) = some (.val (.int (n * b ^ (e - place).toNat))) := mul_ok (a := 400) (b := 7000) hn (pow_b' hb hb2 (by omega) (by decide)) (by decide) (by decide) (by decide)
      have ev : n * b ^ (e - low).toNat / b ^ (place - low).toNat = n * b ^ (e - place).toNat := by
        rw [show (e - low).toNat = (e - place).toNat + (place - low).toNat by omega, Int.pow_add, ← Int.mul_assoc]
        exact Int.mul_ediv_cancel _ (Int.ne_of_gt (Int.pow_pos (by omega)))
      rw [ev]
      generalize D.tup [.int n, .int e] = N at *
      unfold M_law_floor_v2
      rw [body_eq]
      simp [i0, i1, z, c, p, mu]
    · have p := power2_eq (b := b) (by omega) hb2 (c0 := (place - e).toNat) (by omega)
      rw [show (((place - e).toNat : Nat) : Int) = place - e by omega] at p
      have ps : 0 < b ^ (place - e).toNat := Int.pow_pos (by omega)
      have dv : gDiv (.int n) (.int (b ^ (place - e).toNat)) = some (.val (.int (n / b ^ (place - e).toNat))) := by
        rw [gDiv_int]
        exact giv_pos ⟨ps, .inr (Nat.lt_of_lt_of_le hn (Nat.pow_le_pow_right (by decide) (by decide)))⟩
      have ev : n * b ^ (e - low).toNat / b ^ (place - low).toNat = n / b ^ (place - e).toNat := by
        rw [show (place - low).toNat = (place - e).toNat + (e - low).toNat by omega, Int.pow_add]
        exact Int.mul_ediv_mul_of_pos_left _ _ (Int.pow_pos (by omega))
      rw [ev]
      generalize D.tup [.int n, .int e] = N at *
      unfold M_law_floor_v2
      rw [body_eq]
      simp [i0, i1, z, c, p, dv]
end PM
namespace DL
end DL
namespace PM
open PySem L2 GL DL NR
end PM
namespace PM
open PySem L2 GL DL NR
def zT : SW.Tb := (none, none)
theorem getD_some {ts : List SW.Tb} {k : Nat} (h : k < ts.length) : ts[k]? = some (ts.getD k zT) := by
  rw [List.getD_eq_getElem?_getD, List.getElem?_eq_getElem h]; rfl
end PM
namespace PM
open PySem L2 GL DL NR
/-- the facts of a sweep between two states -/
structure Swp (b lo hi p1 p2 : Int) (q : Rat) (L V : Int) (r m : Nat) : Prop where
  val : q = V * W b L
  top : ∀ k Z, k ≤ p1 → k ≤ p2 → (Z : Int) * W b k = q → k ≤ L
  lo_ : lo ≤ L
  le : L ≤ p1 ∧ L ≤ p2
  rd : p1 ≤ L + r ∧ p2 ≤ L + r
  rd2 : L + r = p1 ∨ L + r = p2
  hi_ : L + m ≤ hi
  rm : r ≤ m
  stop : SW.floorN b m V = 0 ∨ SW.floorN b m V = -1 ∨ L + m = hi
  size : V.natAbs < 2 ^ 60000
  m_ : m ≤ 3000
  min_ : ∀ M0 : Nat, p1 ≤ L + M0 → p2 ≤ L + M0 → (SW.floorN b M0 V = 0 ∨ SW.floorN b M0 V = -1) → m ≤ M0
theorem Swp.low {b lo hi p1 p2 : Int} {q : Rat} {L V : Int} {r m : Nat} (hb : 2 ≤ b) (s : Swp b lo hi p1 p2 q L V r m) (qd : Dy b q) : L = lowI (nm b q) (ex b q) p1 p2 ∧ V = unitsI b (nm b q) (ex b q) L := by
  obtain ⟨l1, l2, l3⟩ := lowI_le (nm b q) (ex b q) p1 p2
  have h1 := low_spec hb qd L V s.le.1 s.le.2 s.val.symm
  have hq := units_eq hb qd l3
  have h2 := s.top _ _ l1 l2 hq.symm
  have e : L = lowI (nm b q) (ex b q) p1 p2 := by omega
  refine ⟨e, ?_⟩
  have k := mul_W_eq hb (n := unitsI b (nm b q) (ex b q) L) (e := L) (m := V) (f := L) (by rw [← s.val]; rw [← e] at hq; exact hq.symm) (Int.le_refl _)
  rw [k]; simp
theorem gIn_twoL {x : Int} : gIn true (.int x) (.lst [.int (-1), .int 0]) = some (.val (.bl (decide (¬ (x = 0 ∨ x = -1))))) := by
  show giv _ _ = _
  rw [giv_pos ⟨rfl, rfl⟩]
  congr 3
  show _ = decide (¬ (x = 0 ∨ x = -1))
  by_cases h0 : x = 0
  · subst h0; rfl
  · by_cases h1 : x = -1
    · subst h1; rfl
    · show (if true = true then !([V.int (-1), V.int 0].any fun y => eqV y (.int x)) else _) = _
      rw [if_pos rfl]
      have e1 : eqV (V.int (-1)) (.int x) = false := by show ((-1 : Int) == x) = false; exact beq_eq_false_iff_ne.mpr (Ne.symm h1)
      have e2 : eqV (V.int 0) (.int x) = false := by show ((0 : Int) == x) = false; exact beq_eq_false_iff_ne.mpr (Ne.symm h0)
      simp only [List.any_cons, List.any_nil, e1, e2]
      rw [decide_eq_true (by omega)]
      rfl
end PM
namespace PM
open PySem L2 GL DL NR TL
section
variable {b mv ad : Int} {f l : D} {lo hi : Int} (hb : 2 ≤ b) (hb2 : b ≤ 36) (he : Ends f l lo hi) (ha : 1 ≤ ad ∧ ad ≤ 1000) (hv : 1 ≤ mv ∧ mv ≤ 1000)
include hb hb2 he ha hv
theorem lfrom16 {n e low high p1 p2 : Int} {q : Rat} (h0 : n = 0 → e = 0) (hle : n ≠ 0 → low ≤ e) (hn : n.natAbs < 2 ^ 400) (hw : -100 ≤ low ∧ low ≤ 100) (he4 : e ≤ 400) (hV : (unitsI b n e low).natAbs < 2 ^ 400) (hq : q = (unitsI b n e low : Rat) * W b low) (h1 : lo ≤ low) (h2 : low ≤ p1 ∧ low ≤ p2) (h3 : p1 ≤ high ∧ p2 ≤ high) (h3' : high = p1 ∨ high = p2) (h4 : high ≤ hi) (h5 : high ≤ 100) :
    ∃ (o : Option Int) (T : Nat), M_law_least_from [.tup [.int b, .int mv, .int ad, f, l], .tup [.int n, .int e], .tup [.int low, .int high], .int (p1 - p2)] = .ok (.sh (optD o)) ∧ (SW.floorN b T (unitsI b n e low) = 0 ∨ SW.floorN b T (unitsI b n e low) = -1) ∧ high ≤ low + T ∧
      Bst (fun x => ∃ h ds, SW.Plan b lo hi p1 p2 q low h ds ∧ x = SW.planCost ad mv p1 p2 low h ds) (fun y => ∃ (k : Nat) (c a : Int), high ≤ low + k ∧ low + k ≤ hi ∧ k ≤ T + 3 ∧ (c = 0 ∨ c = 1) ∧ SW.getC (SW.iter b ad k (unitsI b n e low) SW.t0) c = some a ∧ SW.endX b ad mv (SW.absI (p2 - p1)) (unitsI b n e low) k c a ≤ y) o := by
  obtain ⟨V, hVe⟩ : ∃ V, V = unitsI b n e low := ⟨_, rfl⟩
  have fl := fun (place : Int) (hp : low ≤ place ∧ place ≤ low + 900) => floor16 (b := b) (n := n) (e := e) (low := low) (place := place) hb hb2 h0 hle hn hp hw he4
  rw [← hVe] at hV hq fl ⊢
  have nf : nodic f = true := by rcases he.lo_ with ⟨h, _⟩ | ⟨h, _⟩ <;> (rw [h]; unfold nodic; rfl)
  have nl : nodic l = true := by rcases he.hi_ with ⟨h, _⟩ | ⟨h, _⟩ <;> (rw [h]; unfold nodic; rfl)
  have nN : nodic (.tup [.int n, .int e]) = true := by unfold nodic nodicL nodicL nodicL; rw [nodic_int, nodic_int]; rfl
  have nE : nodic (.tup [.int low, .int high]) = true := by unfold nodic nodicL nodicL nodicL; rw [nodic_int, nodic_int]; rfl
  have sp0 : gIx (.tup [.int b, .int mv, .int ad, f, l]) (.int 0) = some (.val (.int b)) := rfl
  have sp4 : gIx (.tup [.int b, .int mv, .int ad, f, l]) (.int 4) = some (.val l) := rfl
  have i0 : gIx (.tup [.int n, .int e]) (.int 0) = some (.val (.int n)) := rfl
  have i1 : gIx (.tup [.int n, .int e]) (.int 1) = some (.val (.int e)) := rfl
  -- the units
  obtain ⟨w, hpw, mu⟩ : ∃ w : Int, M_law_power_v2 [.int b, .int (e - low)] = .ok (.sh (.int w)) ∧ gMul (.int n) (.int w) = some (.val (.int V)) := by
    by_cases c : low ≤ e
    · have p := power2_eq (b := b) (by omega) hb2 (c0 := (e - low).toNat) (by omega)
      rw [show (((e - low).toNat : Nat) : Int) = e - low by omega] at p
      refine ⟨_, p, ?_⟩
      rw [hVe]
      exact mul_ok (a := 400) (b := 7000) hn (pow_b' hb hb2 (by omega) (by decide)) (by decide) (by decide) (by decide)
    · have z : n = 0 := Classical.byContradiction fun z => c (hle z)
      refine ⟨1, power_neg (by omega), ?_⟩
      rw [hVe]
      unfold unitsI
      rw [z, Int.zero_mul]
      have := mul_ok (i := 0) (j := 1) (a := 1) (b := 2) (by decide) (by decide) (by decide) (by decide) (by decide)
      exact this
  -- the top
  obtain ⟨Γt, mt, et, ⟨Tp, hT1, hT2, rfl⟩, ft⟩ := whileM_inv (t := T_law_least_from_1) (b := B_law_least_from_1) (fun m Γ => ∃ Tp : Int, high ≤ Tp ∧ Tp + m = high + 400 ∧ Γ = [.sh (.tup [.int b, .int mv, .int ad, f, l]), .sh (.tup [.int n, .int e]), .sh (.tup [.int low, .int high]), .sh (.int (p1 - p2)), .sh (.int low), .sh (.int high), .sh (.int Tp), .un, .un, .un, .un, .un, .un])
    (by
      rintro m Γ ⟨Tp, t1, t2, rfl⟩
      have fv := fl Tp (by omega)
      generalize D.tup [.int b, .int mv, .int ad, f, l] = SP at *
      generalize D.tup [.int n, .int e] = N at *
      generalize D.tup [.int low, .int high] = EN at *
      by_cases z : SW.floorN b (Tp - low).toNat V = 0 ∨ SW.floorN b (Tp - low).toNat V = -1
      · left
        unfold T_law_least_from_1
        simp [sp0, fv, gIn_twoL, z]
      · right
        have m0 : m ≠ 0 := fun m0 => z (SW.floorN_small hb (Nat.lt_of_lt_of_le hV (Nat.pow_le_pow_right (by decide) (by omega))))
        refine ⟨by unfold T_law_least_from_1; simp [sp0, fv, gIn_twoL, z], [.sh SP, .sh N, .sh EN, .sh (.int (p1 - p2)), .sh (.int low), .sh (.int high), .sh (.int (Tp + 1)), .un, .un, .un, .un, .un, .un], m - 1, .inl (by unfold B_law_least_from_1; simp), by omega, Tp + 1, by omega, by omega, rfl⟩) 1000000 400
    [.sh (.tup [.int b, .int mv, .int ad, f, l]), .sh (.tup [.int n, .int e]), .sh (.tup [.int low, .int high]), .sh (.int (p1 - p2)), .sh (.int low), .sh (.int high), .sh (.int high), .un, .un, .un, .un, .un, .un] ⟨high, by omega, by omega, rfl⟩ (by decide)
  have fT : SW.floorN b (Tp - low).toNat V = 0 ∨ SW.floorN b (Tp - low).toNat V = -1 := by
    have fv := fl Tp (by omega)
    generalize D.tup [.int b, .int mv, .int ad, f, l] = SP at *
    generalize D.tup [.int n, .int e] = N at *
    generalize D.tup [.int low, .int high] = EN at *
    unfold T_law_least_from_1 at ft
    refine Classical.byContradiction fun z => ?_
    simp [sp0, fv, gIn_twoL, z] at ft
  obtain ⟨T, hT⟩ : ∃ T : Nat, T = (Tp - low).toNat := ⟨_, rfl⟩
  have st : SW.absI (p2 - p1) = SW.absI (p1 - p2) := by unfold SW.absI; split <;> split <;> omega
  have am := absMax (p1 - p2)
  have hst : (SW.absI (p1 - p2)).natAbs ≤ 3000 := by rw [SW.absI_nat]; omega
  have hi1 : hi ≤ 1000 := by rcases he.hi_ with ⟨_, h⟩ | ⟨_, h⟩ <;> omega
  -- the places
  obtain ⟨Γ', el, o, m, z10, z11, z12, rfl, _, hP⟩ := forM_all (g := bName 10) (bo := B_law_least_from_3) (fun k Γ => ∃ o m z10 z11 z12, Γ = [.sh (.tup [.int b, .int mv, .int ad, f, l]), .sh (.tup [.int n, .int e]), .sh (.tup [.int low, .int high]), .sh (.int (p1 - p2)), .sh (.int low), .sh (.int high), .sh (.int Tp), .sh (.dic (m.map kI) (m.map vI)), .sh (optD o), .sh (.int (SW.absI (p1 - p2))), z10, z11, z12] ∧ Dp b ad V k m ∧
      Bst (fun x => ∃ h ds, SW.Plan b lo hi p1 p2 q low h ds ∧ x = SW.planCost ad mv p1 p2 low h ds) (fun y => ∃ (j : Nat) (c a : Int), j < k ∧ high ≤ low + j ∧ low + j ≤ hi ∧ (c = 0 ∨ c = 1) ∧ SW.getC (SW.iter b ad j V SW.t0) c = some a ∧ SW.endX b ad mv (SW.absI (p2 - p1)) V j c a ≤ y) o)
    (rangeD low (Tp + 4 - low).toNat) [.sh (.tup [.int b, .int mv, .int ad, f, l]), .sh (.tup [.int n, .int e]), .sh (.tup [.int low, .int high]), .sh (.int (p1 - p2)), .sh (.int low), .sh (.int high), .sh (.int Tp), .sh (.dic [.inl V] [.int 0]), .sh .non, .sh (.int (SW.absI (p1 - p2))), .un, .un, .un]
    ⟨none, [(V, 0)], .un, .un, .un, rfl, Dp.zero b ad V, fun x e => (by cases e), fun y hy => (by obtain ⟨j, _, _, h, _⟩ := hy; omega)⟩ (by
    rintro k x Γ hx ⟨o, m, z10, z11, z12, rfl, hD, hB⟩
    have hk : k < (Tp + 4 - low).toNat := by
      have := (List.getElem?_eq_some_iff.mp hx).1
      rwa [rangeD_len] at this
    rw [rangeD_get _ hk] at hx
    cases hx
    obtain ⟨r, er, hr⟩ := later16 hb hb2 hD.rg
    have hD' := hD.succ hb (by omega) hr
    have lv : (if DL.isNon l = true then true else decide (low + (k : Int) ≤ hi)) = decide (low + (k : Int) ≤ hi) := by
      rcases he.hi_ with ⟨rfl, e⟩ | ⟨rfl, _⟩
      · rw [show DL.isNon .non = true from rfl, if_pos rfl, decide_eq_true (by omega)]
      · rw [show DL.isNon (.int hi) = false from rfl]; rfl
    -- the test
    have tst : ∀ Γ : En, getS Γ 0 = .ok (.tup [.int b, .int mv, .int ad, f, l]) → getS Γ 10 = .ok (.int (low + (k : Int))) → getS Γ 5 = .ok (.int high) → bAnd (bB (eOp gGe (eVar 10) (eVar 5))) (bOr (bB (eOp gIsN (eOp gIx (eVar 0) (eC (.int 4))) (eC .non))) (bB (eOp gLe (eVar 10) (eOp gIx (eVar 0) (eC (.int 4)))))) Γ = .ok (decide (high ≤ low + (k : Int)) && decide (low + (k : Int) ≤ hi)) := fun Γ g0 g10 g5 => by
      generalize D.tup [.int b, .int mv, .int ad, f, l] = SP at *
      by_cases c1 : high ≤ low + (k : Int)
      · rcases he.hi_ with ⟨rfl, e⟩ | ⟨rfl, _⟩
        · simp [g0, g10, g5, sp4, c1]
          omega
        · simp [g0, g10, g5, sp4, c1]
      · simp [g0, g10, g5, sp4, c1]
    by_cases cc : high ≤ low + (k : Int) ∧ low + (k : Int) ≤ hi
    · obtain ⟨o', y11, y12, eb, hB'⟩ := best_turn (f := f) (l := l) (m := m) hb ha hv nf nl nN nE (sh := p1 - p2) (low := low) (high := high) (top := Tp) (st := SW.absI (p1 - p2)) (place := low + (k : Int)) (by omega) hst
        (S := fun x => ∃ h ds, SW.Plan b lo hi p1 p2 q low h ds ∧ x = SW.planCost ad mv p1 p2 low h ds) (C := fun key n => ad * (n + SW.absI key) + mv * (2 * (low + (k : Int) - low) - SW.absI (p1 - p2))) (fun _ _ => rfl)
        (fun key n hkn => by
          obtain ⟨⟨b1, b2⟩, ds, e1, e2, e3⟩ := hD.sn key n hkn
          have rg := hD.rg key (look_mem hkn)
          have fa := floorN_abs hb hV k
          refine ⟨⟨b1, ?_, ?_⟩, low + k, ds ++ [key], ⟨h1, h2, by omega, cc.2, by simp [e1]; omega, ?_⟩, ?_⟩
          · have : (b + 1) * (k : Int) ≤ 37 * 2000 := Int.mul_le_mul (by omega) (by omega) (by omega) (by decide)
            have : (2 : Int) ^ 40 = 1099511627776 := by decide
            omega
          · have : (2 : Nat) ^ 400 + 5 ≤ 2 ^ 500 := by decide +kernel
            generalize (2 : Nat) ^ 400 = A at *
            generalize (2 : Nat) ^ 500 = B at *
            omega
          · rw [SW.val_append, e1, show SW.val b [key] = key by show key + b * 0 = key; omega, e3]
            exact hq.symm
          · unfold SW.planCost
            rw [SW.cost_append, e2, show SW.cost [key] = SW.absI key by show SW.absI key + 0 = _; omega, st]) hB z11 z12
      refine ⟨_, _, rfl, .inl ?_, o', r, .sh (.int (low + (k : Int))), y11, y12, rfl, hD', hB'.1, fun y hy => hB'.2 y ?_⟩
      · show B_law_least_from_3 [.sh (.tup [.int b, .int mv, .int ad, f, l]), .sh (.tup [.int n, .int e]), .sh (.tup [.int low, .int high]), .sh (.int (p1 - p2)), .sh (.int low), .sh (.int high), .sh (.int Tp), .sh (.dic (m.map kI) (m.map vI)), .sh (optD o), .sh (.int (SW.absI (p1 - p2))), .sh (.int (low + (k : Int))), z11, z12] = _
        have t := tst [.sh (.tup [.int b, .int mv, .int ad, f, l]), .sh (.tup [.int n, .int e]), .sh (.tup [.int low, .int high]), .sh (.int (p1 - p2)), .sh (.int low), .sh (.int high), .sh (.int Tp), .sh (.dic (m.map kI) (m.map vI)), .sh (optD o), .sh (.int (SW.absI (p1 - p2))), .sh (.int (low + (k : Int))), z11, z12] rfl rfl rfl
        rw [decide_eq_true cc.1, decide_eq_true cc.2] at t
        unfold B_law_least_from_3
        refine seq_step (Γ' := [.sh (.tup [.int b, .int mv, .int ad, f, l]), .sh (.tup [.int n, .int e]), .sh (.tup [.int low, .int high]), .sh (.int (p1 - p2)), .sh (.int low), .sh (.int high), .sh (.int Tp), .sh (.dic (m.map kI) (m.map vI)), .sh (optD o'), .sh (.int (SW.absI (p1 - p2))), .sh (.int (low + (k : Int))), y11, y12]) (by
          rw [mIf, t]
          exact eb) ?_
        generalize D.tup [.int b, .int mv, .int ad, f, l] = SP at *
        generalize D.tup [.int n, .int e] = N at *
        generalize D.tup [.int low, .int high] = EN at *
        generalize m.map kI = MK at *
        generalize m.map vI = MV at *
        generalize r.map kI = RK at *
        generalize r.map vI = RV at *
        simp [sp0, er]
      · obtain ⟨j, c, a, hj, q1, q2, hc, g, le⟩ := hy
        by_cases jk : j = k
        · subst jk
          obtain ⟨n', hn', le'⟩ := hD.cp c a hc g
          refine .inr ⟨_, n', hn', ?_⟩
          unfold SW.endX at le
          rw [st] at le
          rw [Int.mul_add, show low + (j : Int) - low = (j : Int) by omega]
          omega
        · exact .inl ⟨j, c, a, by omega, q1, q2, hc, g, le⟩
    · refine ⟨_, _, rfl, .inl ?_, o, r, .sh (.int (low + (k : Int))), z11, z12, rfl, hD', hB.1, fun y hy => hB.2 y ?_⟩
      · show B_law_least_from_3 [.sh (.tup [.int b, .int mv, .int ad, f, l]), .sh (.tup [.int n, .int e]), .sh (.tup [.int low, .int high]), .sh (.int (p1 - p2)), .sh (.int low), .sh (.int high), .sh (.int Tp), .sh (.dic (m.map kI) (m.map vI)), .sh (optD o), .sh (.int (SW.absI (p1 - p2))), .sh (.int (low + (k : Int))), z11, z12] = _
        have t := tst [.sh (.tup [.int b, .int mv, .int ad, f, l]), .sh (.tup [.int n, .int e]), .sh (.tup [.int low, .int high]), .sh (.int (p1 - p2)), .sh (.int low), .sh (.int high), .sh (.int Tp), .sh (.dic (m.map kI) (m.map vI)), .sh (optD o), .sh (.int (SW.absI (p1 - p2))), .sh (.int (low + (k : Int))), z11, z12] rfl rfl rfl
        have cf : (decide (high ≤ low + (k : Int)) && decide (low + (k : Int) ≤ hi)) = false := by
          rw [Bool.and_eq_false_iff]
          by_cases c1 : high ≤ low + (k : Int)
          · exact .inr (decide_eq_false fun z => cc ⟨c1, z⟩)
          · exact .inl (decide_eq_false c1)
        rw [cf] at t
        unfold B_law_least_from_3
        refine seq_step (Γ' := [.sh (.tup [.int b, .int mv, .int ad, f, l]), .sh (.tup [.int n, .int e]), .sh (.tup [.int low, .int high]), .sh (.int (p1 - p2)), .sh (.int low), .sh (.int high), .sh (.int Tp), .sh (.dic (m.map kI) (m.map vI)), .sh (optD o), .sh (.int (SW.absI (p1 - p2))), .sh (.int (low + (k : Int))), z11, z12]) (by
          rw [mIf, t]
          rfl) ?_
        generalize D.tup [.int b, .int mv, .int ad, f, l] = SP at *
        generalize D.tup [.int n, .int e] = N at *
        generalize D.tup [.int low, .int high] = EN at *
        generalize m.map kI = MK at *
        generalize m.map vI = MV at *
        generalize r.map kI = RK at *
        generalize r.map vI = RV at *
        simp [sp0, er]
      · obtain ⟨j, c, a, hj, q1, q2, hc, g, le⟩ := hy
        by_cases jk : j = k
        · subst jk
          exact absurd ⟨q1, q2⟩ cc
        · exact ⟨j, c, a, by omega, q1, q2, hc, g, le⟩)
  refine ⟨o, T, ?_, by rw [hT]; exact fT, by omega, hP.1, fun y hy => hP.2 y ?_⟩
  · have r2 : rng2 [.int low, .int (Tp + 4)] = .ok (rangeD low (Tp + 4 - low).toNat) := by rw [rng2_int, need_pos (by omega)]
    generalize hSP : D.tup [.int b, .int mv, .int ad, f, l] = SP at *
    generalize D.tup [.int n, .int e] = N at *
    unfold M_law_least_from
    rw [body_eq]
    show Out.res _ = Out.res (.rt (.sh (optD o)))
    refine congrArg Out.res ?_
    refine seq_step (Γ' := [.sh SP, .sh N, .sh (.tup [.int low, .int high]), .sh (.int (p1 - p2)), .sh (.int low), .sh (.int high), .un, .un, .un, .un, .un, .un, .un]) (by simp [startD, bOfTup, bTup]) ?_
    generalize D.tup [.int low, .int high] = EN at *
    refine seq_step (Γ' := [.sh SP, .sh N, .sh EN, .sh (.int (p1 - p2)), .sh (.int low), .sh (.int high), .sh (.int high), .un, .un, .un, .un, .un, .un]) (by simp) ?_
    refine seq_step (Γ' := _) et ?_
    refine seq_step (Γ' := [.sh SP, .sh N, .sh EN, .sh (.int (p1 - p2)), .sh (.int low), .sh (.int high), .sh (.int Tp), .sh (.dic [.inl V] [.int 0]), .un, .un, .un, .un, .un]) (by simp [sp0, i0, i1, hpw, mu, keyD]) ?_
    refine seq_step (Γ' := [.sh SP, .sh N, .sh EN, .sh (.int (p1 - p2)), .sh (.int low), .sh (.int high), .sh (.int Tp), .sh (.dic [.inl V] [.int 0]), .sh .non, .sh (.int (SW.absI (p1 - p2))), .un, .un, .un]) (by simp [am]) ?_
    generalize m.map kI = MK at *
    generalize m.map vI = MV at *
    refine seq_step (Γ' := [.sh SP, .sh N, .sh EN, .sh (.int (p1 - p2)), .sh (.int low), .sh (.int high), .sh (.int Tp), .sh (.dic MK MV), .sh (optD o), .sh (.int (SW.absI (p1 - p2))), z10, z11, z12]) (by
      show DL.mFor _ _ _ _ = _
      unfold mFor
      have ei : iR2 (eCons (eVar 4) (eCons (eOp gAdd (eVar 6) (eC (.int 4))) eNil)) [.sh SP, .sh N, .sh EN, .sh (.int (p1 - p2)), .sh (.int low), .sh (.int high), .sh (.int Tp), .sh (.dic [.inl V] [.int 0]), .sh .non, .sh (.int (SW.absI (p1 - p2))), .un, .un, .un] = .ok (rangeD low (Tp + 4 - low).toNat) := by
        rw [← r2]; simp
      rw [ei]
      exact el) ?_
    simp
  · obtain ⟨j, c, a, q1, q2, q3, hc, g, le⟩ := hy
    exact ⟨j, c, a, by rw [rangeD_len]; omega, q1, q2, hc, g, le⟩
end
end PM
namespace K16
open PySem L2 GL DL PM
def top (i : Nat) : Stmt := PySem.Challenge.pw_abacushead_k16_distances_of_large_number.main.body.getD i (.Pass ⟨0, 0, 0, 0⟩)
abbrev s_wall : Stmt := top 0
abbrev s_is_whole : Stmt := top 7
theorem sc_is_whole : FnScope ["value"] ["value"] (defScope s_is_whole) := ⟨rfl, rfl, rfl, by decide +kernel, rfl, by decide +kernel, by decide +kernel⟩
abbrev s_is_within : Stmt := top 8
theorem sc_is_within : FnScope ["value", "low", "high"] ["value", "low", "high"] (defScope s_is_within) := ⟨rfl, rfl, rfl, by decide +kernel, rfl, by decide +kernel, by decide +kernel⟩
abbrev s_is_place : Stmt := top 9
theorem sc_is_place : FnScope ["value"] ["value"] (defScope s_is_place) := ⟨rfl, rfl, rfl, by decide +kernel, rfl, by decide +kernel, by decide +kernel⟩
abbrev s_power_of : Stmt := top 10
theorem sc_power_of : FnScope ["base", "count", "power", "bit"] ["base", "count"] (defScope s_power_of) := ⟨rfl, rfl, rfl, by decide +kernel, rfl, by decide +kernel, by decide +kernel⟩
abbrev s_is_number : Stmt := top 13
theorem sc_is_number : FnScope ["base", "value", "numerator", "exponent"] ["base", "value"] (defScope s_is_number) := ⟨rfl, rfl, rfl, by decide +kernel, rfl, by decide +kernel, by decide +kernel⟩
abbrev s_units : Stmt := top 14
theorem sc_units : FnScope ["base", "number", "place", "numerator", "exponent"] ["base", "number", "place"] (defScope s_units) := ⟨rfl, rfl, rfl, by decide +kernel, rfl, by decide +kernel, by decide +kernel⟩
abbrev s_negative : Stmt := top 15
theorem sc_negative : FnScope ["number", "numerator", "exponent"] ["number"] (defScope s_negative) := ⟨rfl, rfl, rfl, by decide +kernel, rfl, by decide +kernel, by decide +kernel⟩
abbrev s_form_of : Stmt := top 16
theorem sc_form_of : FnScope ["base", "numerator", "exponent", "shortened", "factors"] ["base", "numerator", "exponent"] (defScope s_form_of) := ⟨rfl, rfl, rfl, by decide +kernel, rfl, by decide +kernel, by decide +kernel⟩
abbrev s_sum_of : Stmt := top 17
theorem sc_sum_of : FnScope ["base", "parts", "amounts", "numerator", "exponent", "place", "total"] ["base", "parts"] (defScope s_sum_of) := ⟨rfl, rfl, rfl, by decide +kernel, rfl, by decide +kernel, by decide +kernel⟩
abbrev s_has_few_digits : Stmt := top 18
theorem sc_has_few_digits : FnScope ["numerator"] ["numerator"] (defScope s_has_few_digits) := ⟨rfl, rfl, rfl, by decide +kernel, rfl, by decide +kernel, by decide +kernel⟩
abbrev s_without_factors : Stmt := top 19
theorem sc_without_factors : FnScope ["base", "numerator", "powers", "factors", "power"] ["base", "numerator"] (defScope s_without_factors) := ⟨rfl, rfl, rfl, by decide +kernel, rfl, by decide +kernel, by decide +kernel⟩
abbrev s_is_state : Stmt := top 21
theorem sc_is_state : FnScope ["row", "value", "numerator", "exponent", "position"] ["row", "value"] (defScope s_is_state) := ⟨rfl, rfl, rfl, by decide +kernel, rfl, by decide +kernel, by decide +kernel⟩
abbrev s_is_pair : Stmt := top 22
theorem sc_is_pair : FnScope ["base", "value", "number", "place"] ["base", "value"] (defScope s_is_pair) := ⟨rfl, rfl, rfl, by decide +kernel, rfl, by decide +kernel, by decide +kernel⟩
abbrev s_require_state : Stmt := top 23
theorem sc_require_state : FnScope ["row", "value"] ["row", "value"] (defScope s_require_state) := ⟨rfl, rfl, rfl, by decide +kernel, rfl, by decide +kernel, by decide +kernel⟩
abbrev s_require_states : Stmt := top 24
theorem sc_require_states : FnScope ["row", "values", "value"] ["row", "values"] (defScope s_require_states) := ⟨rfl, rfl, rfl, by decide +kernel, rfl, by decide +kernel, by decide +kernel⟩
abbrev s_Sweep_init : Stmt := inClass (top 26) 0
theorem sc_Sweep_init : FnScope ["self", "row", "change", "near", "far", "lowest"] ["self", "row", "change", "near", "far"] (defScope s_Sweep_init) := ⟨rfl, rfl, rfl, by decide +kernel, rfl, by decide +kernel, by decide +kernel⟩
abbrev s_Sweep_choices : Stmt := inClass (top 26) 1
theorem sc_Sweep_choices : FnScope ["self", "at", "carry", "base", "rest"] ["self", "at", "carry"] (defScope s_Sweep_choices) := ⟨rfl, rfl, rfl, by decide +kernel, rfl, by decide +kernel, by decide +kernel⟩
abbrev s_Sweep_steps : Stmt := inClass (top 26) 2
theorem sc_Sweep_steps : FnScope ["self", "at", "costs", "carry", "cost", "digit", "carried"] ["self", "at", "costs"] (defScope s_Sweep_steps) := ⟨rfl, rfl, rfl, by decide +kernel, rfl, by decide +kernel, by decide +kernel⟩
abbrev s_Sweep_least_costs : Stmt := inClass (top 26) 3
theorem sc_Sweep_least_costs : FnScope ["self", "table", "at", "found", "least", "carried", "step"] ["self"] (defScope s_Sweep_least_costs) := ⟨rfl, rfl, rfl, by decide +kernel, rfl, by decide +kernel, by decide +kernel⟩
abbrev s_Sweep_ends : Stmt := inClass (top 26) 4
theorem sc_Sweep_ends : FnScope ["self", "table", "at", "carry", "cost"] ["self", "table"] (defScope s_Sweep_ends) := ⟨rfl, rfl, rfl, by decide +kernel, rfl, by decide +kernel, by decide +kernel⟩
abbrev s_Sweep_end_cost : Stmt := inClass (top 26) 5
theorem sc_Sweep_end_cost : FnScope ["self", "at", "carry", "digit"] ["self", "at", "carry"] (defScope s_Sweep_end_cost) := ⟨rfl, rfl, rfl, by decide +kernel, rfl, by decide +kernel, by decide +kernel⟩
abbrev s_Sweep_moves : Stmt := inClass (top 26) 6
theorem sc_Sweep_moves : FnScope ["self", "at"] ["self", "at"] (defScope s_Sweep_moves) := ⟨rfl, rfl, rfl, by decide +kernel, rfl, by decide +kernel, by decide +kernel⟩
abbrev s_distance : Stmt := top 27
theorem sc_distance : FnScope ["row", "start", "goal"] ["row", "start", "goal"] (defScope s_distance) := ⟨rfl, rfl, rfl, by decide +kernel, rfl, by decide +kernel, by decide +kernel⟩
abbrev s_sweep_between : Stmt := top 28
theorem sc_sweep_between : FnScope ["row", "start", "goal"] ["row", "start", "goal"] (defScope s_sweep_between) := ⟨rfl, rfl, rfl, by decide +kernel, rfl, by decide +kernel, by decide +kernel⟩
abbrev s_sweep_of_any : Stmt := top 29
theorem sc_sweep_of_any : FnScope ["row", "start", "goal"] ["row", "start", "goal"] (defScope s_sweep_of_any) := ⟨rfl, rfl, rfl, by decide +kernel, rfl, by decide +kernel, by decide +kernel⟩
abbrev s_least_cost : Stmt := top 30
theorem sc_least_cost : FnScope ["sweep", "end"] ["sweep"] (defScope s_least_cost) := ⟨rfl, rfl, rfl, by decide +kernel, rfl, by decide +kernel, by decide +kernel⟩
abbrev s_difference : Stmt := top 31
theorem sc_difference : FnScope ["base", "start", "goal"] ["base", "start", "goal"] (defScope s_difference) := ⟨rfl, rfl, rfl, by decide +kernel, rfl, by decide +kernel, by decide +kernel⟩
abbrev s_floors_up : Stmt := top 32
theorem sc_floors_up : FnScope ["row", "value", "low", "ready", "end", "floors", "place"] ["row", "value", "low", "ready"] (defScope s_floors_up) := ⟨rfl, rfl, rfl, by decide +kernel, rfl, by decide +kernel, by decide +kernel⟩
abbrev s_Row_init : Stmt := inClass (top 35) 2
theorem sc_Row_init : FnScope ["self", "base", "move", "add", "first", "last", "field"] ["self", "base", "move", "add", "first", "last"] (defScope s_Row_init) := ⟨rfl, rfl, rfl, by decide +kernel, rfl, by decide +kernel, by decide +kernel⟩
abbrev s_Row_base : Stmt := inClass (top 35) 4
theorem sc_Row_base : FnScope ["self"] ["self"] (defScope s_Row_base) := ⟨rfl, rfl, rfl, by decide +kernel, rfl, by decide +kernel, by decide +kernel⟩
abbrev s_Row_move_cost : Stmt := inClass (top 35) 5
theorem sc_Row_move_cost : FnScope ["self"] ["self"] (defScope s_Row_move_cost) := ⟨rfl, rfl, rfl, by decide +kernel, rfl, by decide +kernel, by decide +kernel⟩
abbrev s_Row_add_cost : Stmt := inClass (top 35) 6
theorem sc_Row_add_cost : FnScope ["self"] ["self"] (defScope s_Row_add_cost) := ⟨rfl, rfl, rfl, by decide +kernel, rfl, by decide +kernel, by decide +kernel⟩
abbrev s_Row_first : Stmt := inClass (top 35) 7
theorem sc_Row_first : FnScope ["self"] ["self"] (defScope s_Row_first) := ⟨rfl, rfl, rfl, by decide +kernel, rfl, by decide +kernel, by decide +kernel⟩
abbrev s_Row_last : Stmt := inClass (top 35) 8
theorem sc_Row_last : FnScope ["self"] ["self"] (defScope s_Row_last) := ⟨rfl, rfl, rfl, by decide +kernel, rfl, by decide +kernel, by decide +kernel⟩
abbrev s_Row_has_place : Stmt := inClass (top 35) 9
theorem sc_Row_has_place : FnScope ["self", "value"] ["self", "value"] (defScope s_Row_has_place) := ⟨rfl, rfl, rfl, by decide +kernel, rfl, by decide +kernel, by decide +kernel⟩
abbrev s_invalid_field : Stmt := top 36
theorem sc_invalid_field : FnScope ["base", "move", "add", "first", "last"] ["base", "move", "add", "first", "last"] (defScope s_invalid_field) := ⟨rfl, rfl, rfl, by decide +kernel, rfl, by decide +kernel, by decide +kernel⟩
abbrev s_is_cost : Stmt := top 37
theorem sc_is_cost : FnScope ["value"] ["value"] (defScope s_is_cost) := ⟨rfl, rfl, rfl, by decide +kernel, rfl, by decide +kernel, by decide +kernel⟩
abbrev s_is_end : Stmt := top 38
theorem sc_is_end : FnScope ["value"] ["value"] (defScope s_is_end) := ⟨rfl, rfl, rfl, by decide +kernel, rfl, by decide +kernel, by decide +kernel⟩
abbrev s_law_numbers : Stmt := top 40
theorem sc_law_numbers : FnScope ["_law_cell", "_law_salt", "_law_sizes", "_law_number_here", "_law_left", "_law_result", "_law_k", "_law_one"] ["_law_cell", "_law_salt", "_law_sizes"] (defScope s_law_numbers) := ⟨rfl, rfl, rfl, by decide +kernel, rfl, by decide +kernel, by decide +kernel⟩
abbrev s_law_power : Stmt := top 41
theorem sc_law_power : FnScope ["_law_base", "_law_count", "_law_result"] ["_law_base", "_law_count"] (defScope s_law_power) := ⟨rfl, rfl, rfl, by decide +kernel, rfl, by decide +kernel, by decide +kernel⟩
abbrev s_law_reduced : Stmt := top 42
theorem sc_law_reduced : FnScope ["_law_base", "_law_numerator", "_law_exponent"] ["_law_base", "_law_numerator", "_law_exponent"] (defScope s_law_reduced) := ⟨rfl, rfl, rfl, by decide +kernel, rfl, by decide +kernel, by decide +kernel⟩
abbrev s_law_sum : Stmt := top 43
theorem sc_law_sum : FnScope ["_law_base", "_law_one", "_law_other", "_law_low", "_law_left"] ["_law_base", "_law_one", "_law_other"] (defScope s_law_sum) := ⟨rfl, rfl, rfl, by decide +kernel, rfl, by decide +kernel, by decide +kernel⟩
abbrev s_law_integer : Stmt := top 44
theorem sc_law_integer : FnScope ["_law_digits", "_law_size", "_law_sign", "_law_result", "_law_digit"] ["_law_digits"] (defScope s_law_integer) := ⟨rfl, rfl, rfl, by decide +kernel, rfl, by decide +kernel, by decide +kernel⟩
abbrev s_law_spec : Stmt := top 46
theorem sc_law_spec : FnScope ["_law_digits", "_law_base", "_law_lowest", "_law_highest"] ["_law_digits"] (defScope s_law_spec) := ⟨rfl, rfl, rfl, by decide +kernel, rfl, by decide +kernel, by decide +kernel⟩
abbrev s_law_row : Stmt := top 47
theorem sc_law_row : FnScope ["_law_spec_here"] ["_law_spec_here"] (defScope s_law_row) := ⟨rfl, rfl, rfl, by decide +kernel, rfl, by decide +kernel, by decide +kernel⟩
abbrev s_law_position : Stmt := top 48
theorem sc_law_position : FnScope ["_law_spec_here", "_law_digit", "_law_low", "_law_high"] ["_law_spec_here", "_law_digit"] (defScope s_law_position) := ⟨rfl, rfl, rfl, by decide +kernel, rfl, by decide +kernel, by decide +kernel⟩
abbrev s_law_state : Stmt := top 49
theorem sc_law_state : FnScope ["_law_spec_here", "_law_digits", "_law_low", "_law_number_here"] ["_law_spec_here", "_law_digits"] (defScope s_law_state) := ⟨rfl, rfl, rfl, by decide +kernel, rfl, by decide +kernel, by decide +kernel⟩
abbrev s_law_least : Stmt := top 50
theorem sc_law_least : FnScope ["_law_spec_here", "_law_start", "_law_goal", "_law_base", "_law_step_cost", "_law_add_cost", "_law_lowest", "_law_highest", "_law_number_here", "_law_low", "_law_high", "_law_best"] ["_law_spec_here", "_law_start", "_law_goal"] (defScope s_law_least) := ⟨rfl, rfl, rfl, by decide +kernel, rfl, by decide +kernel, by decide +kernel⟩
abbrev s_law_floor : Stmt := top 51
theorem sc_law_floor : FnScope ["_law_base", "_law_number_here", "_law_place"] ["_law_base", "_law_number_here", "_law_place"] (defScope s_law_floor) := ⟨rfl, rfl, rfl, by decide +kernel, rfl, by decide +kernel, by decide +kernel⟩
abbrev s_law_least_from : Stmt := top 52
theorem sc_law_least_from : FnScope ["_law_spec_here", "_law_number_here", "_law_ends", "_law_shift", "_law_low", "_law_high", "_law_top", "_law_counts", "_law_best", "_law_steps", "_law_place", "_law_left", "_law_cost"] ["_law_spec_here", "_law_number_here", "_law_ends", "_law_shift"] (defScope s_law_least_from) := ⟨rfl, rfl, rfl, by decide +kernel, rfl, by decide +kernel, by decide +kernel⟩
abbrev s_law_later : Stmt := top 53
theorem sc_law_later : FnScope ["_law_base", "_law_counts", "_law_result", "_law_left", "_law_digit", "_law_later_here", "_law_count"] ["_law_base", "_law_counts"] (defScope s_law_later) := ⟨rfl, rfl, rfl, by decide +kernel, rfl, by decide +kernel, by decide +kernel⟩
abbrev s_law : Stmt := top 54
theorem sc_law : FnScope ["_law_script", "_law_k", "_law_cell", "_law_digits", "_law_spec_here", "_law_start", "_law_goal", "_law_row_here", "_law_want"] ["_law_script"] (defScope s_law) := ⟨rfl, rfl, rfl, by decide +kernel, rfl, by decide +kernel, by decide +kernel⟩
structure Tx (K : PySem.W.Frag) (mg : Str → Option Value) where
  f_wall : Addr
  fd_wall : FuncData
  wall : Df K mg "_wall" s_wall ["k"] f_wall fd_wall
  f_is_whole : Addr
  fd_is_whole : FuncData
  is_whole : Df K mg "is_whole" s_is_whole ["value"] f_is_whole fd_is_whole
  f_is_within : Addr
  fd_is_within : FuncData
  is_within : Df K mg "is_within" s_is_within ["value", "low", "high"] f_is_within fd_is_within
  f_is_place : Addr
  fd_is_place : FuncData
  is_place : Df K mg "is_place" s_is_place ["value"] f_is_place fd_is_place
  f_power_of : Addr
  fd_power_of : FuncData
  power_of : Df K mg "power_of" s_power_of ["base", "count"] f_power_of fd_power_of
  f_is_number : Addr
  fd_is_number : FuncData
  is_number : Df K mg "is_number" s_is_number ["base", "value"] f_is_number fd_is_number
  f_units : Addr
  fd_units : FuncData
  units : Df K mg "units" s_units ["base", "number", "place"] f_units fd_units
  f_negative : Addr
  fd_negative : FuncData
  negative : Df K mg "negative" s_negative ["number"] f_negative fd_negative
  f_form_of : Addr
  fd_form_of : FuncData
  form_of : Df K mg "form_of" s_form_of ["base", "numerator", "exponent"] f_form_of fd_form_of
  f_sum_of : Addr
  fd_sum_of : FuncData
  sum_of : Df K mg "sum_of" s_sum_of ["base", "parts"] f_sum_of fd_sum_of
  f_has_few_digits : Addr
  fd_has_few_digits : FuncData
  has_few_digits : Df K mg "has_few_digits" s_has_few_digits ["numerator"] f_has_few_digits fd_has_few_digits
  f_without_factors : Addr
  fd_without_factors : FuncData
  without_factors : Df K mg "without_factors" s_without_factors ["base", "numerator"] f_without_factors fd_without_factors
  f_is_state : Addr
  fd_is_state : FuncData
  is_state : Df K mg "is_state" s_is_state ["row", "value"] f_is_state fd_is_state
  f_is_pair : Addr
  fd_is_pair : FuncData
  is_pair : Df K mg "is_pair" s_is_pair ["base", "value"] f_is_pair fd_is_pair
  f_require_state : Addr
  fd_require_state : FuncData
  require_state : Df K mg "require_state" s_require_state ["row", "value"] f_require_state fd_require_state
  f_require_states : Addr
  fd_require_states : FuncData
  require_states : Df K mg "require_states" s_require_states ["row", "values"] f_require_states fd_require_states
  f_distance : Addr
  fd_distance : FuncData
  distance : Df K mg "distance" s_distance ["row", "start", "goal"] f_distance fd_distance
  f_sweep_between : Addr
  fd_sweep_between : FuncData
  sweep_between : Df K mg "sweep_between" s_sweep_between ["row", "start", "goal"] f_sweep_between fd_sweep_between
  f_sweep_of_any : Addr
  fd_sweep_of_any : FuncData
  sweep_of_any : Df K mg "sweep_of_any" s_sweep_of_any ["row", "start", "goal"] f_sweep_of_any fd_sweep_of_any
  f_least_cost : Addr
  fd_least_cost : FuncData
  least_cost : Df K mg "least_cost" s_least_cost ["sweep"] f_least_cost fd_least_cost
  f_difference : Addr
  fd_difference : FuncData
  difference : Df K mg "difference" s_difference ["base", "start", "goal"] f_difference fd_difference
  f_floors_up : Addr
  fd_floors_up : FuncData
  floors_up : Df K mg "floors_up" s_floors_up ["row", "value", "low", "ready"] f_floors_up fd_floors_up
  f_invalid_field : Addr
  fd_invalid_field : FuncData
  invalid_field : Df K mg "invalid_field" s_invalid_field ["base", "move", "add", "first", "last"] f_invalid_field fd_invalid_field
  f_is_cost : Addr
  fd_is_cost : FuncData
  is_cost : Df K mg "is_cost" s_is_cost ["value"] f_is_cost fd_is_cost
  f_is_end : Addr
  fd_is_end : FuncData
  is_end : Df K mg "is_end" s_is_end ["value"] f_is_end fd_is_end
  f_law_numbers : Addr
  fd_law_numbers : FuncData
  law_numbers : Df K mg "_law_numbers" s_law_numbers ["_law_cell", "_law_salt", "_law_sizes"] f_law_numbers fd_law_numbers
  f_law_power : Addr
  fd_law_power : FuncData
  law_power : Df K mg "_law_power" s_law_power ["_law_base", "_law_count"] f_law_power fd_law_power
  f_law_reduced : Addr
  fd_law_reduced : FuncData
  law_reduced : Df K mg "_law_reduced" s_law_reduced ["_law_base", "_law_numerator", "_law_exponent"] f_law_reduced fd_law_reduced
  f_law_sum : Addr
  fd_law_sum : FuncData
  law_sum : Df K mg "_law_sum" s_law_sum ["_law_base", "_law_one", "_law_other"] f_law_sum fd_law_sum
  f_law_integer : Addr
  fd_law_integer : FuncData
  law_integer : Df K mg "_law_integer" s_law_integer ["_law_digits"] f_law_integer fd_law_integer
  f_law_spec : Addr
  fd_law_spec : FuncData
  law_spec : Df K mg "_law_spec" s_law_spec ["_law_digits"] f_law_spec fd_law_spec
  f_law_row : Addr
  fd_law_row : FuncData
  law_row : Df K mg "_law_row" s_law_row ["_law_spec_here"] f_law_row fd_law_row
  f_law_position : Addr
  fd_law_position : FuncData
  law_position : Df K mg "_law_position" s_law_position ["_law_spec_here", "_law_digit"] f_law_position fd_law_position
  f_law_state : Addr
  fd_law_state : FuncData
  law_state : Df K mg "_law_state" s_law_state ["_law_spec_here", "_law_digits"] f_law_state fd_law_state
  f_law_least : Addr
  fd_law_least : FuncData
  law_least : Df K mg "_law_least" s_law_least ["_law_spec_here", "_law_start", "_law_goal"] f_law_least fd_law_least
  f_law_floor : Addr
  fd_law_floor : FuncData
  law_floor : Df K mg "_law_floor" s_law_floor ["_law_base", "_law_number_here", "_law_place"] f_law_floor fd_law_floor
  f_law_least_from : Addr
  fd_law_least_from : FuncData
  law_least_from : Df K mg "_law_least_from" s_law_least_from ["_law_spec_here", "_law_number_here", "_law_ends", "_law_shift"] f_law_least_from fd_law_least_from
  f_law_later : Addr
  fd_law_later : FuncData
  law_later : Df K mg "_law_later" s_law_later ["_law_base", "_law_counts"] f_law_later fd_law_later
  f_law : Addr
  fd_law : FuncData
  law : Df K mg "law" s_law ["_law_script"] f_law fd_law
  C_InvalidRow : Addr
  fI_InvalidRow : Addr
  InvalidRow : ErrTxt K mg C_InvalidRow fI_InvalidRow "InvalidRow" "field" "Exception" "Exception.__new__" [.type "Exception", .type "BaseException", .type "object"]
  C_InvalidState : Addr
  fI_InvalidState : Addr
  InvalidState : ErrTxt K mg C_InvalidState fI_InvalidState "InvalidState" "value" "Exception" "Exception.__new__" [.type "Exception", .type "BaseException", .type "object"]
  t_MAX_PLACE : Tok
  c_MAX_PLACE : mg "MAX_PLACE" = some (.int 1000 t_MAX_PLACE)
  t_MAX_DIGITS : Tok
  c_MAX_DIGITS : mg "MAX_DIGITS" = some (.int 300 t_MAX_DIGITS)
  t_MAX_COST : Tok
  c_MAX_COST : mg "MAX_COST" = some (.int 1000000 t_MAX_COST)
  b_abs : mg "abs" = none
  b_bool : mg "bool" = none
  b_enumerate : mg "enumerate" = none
  b_int : mg "int" = none
  b_isinstance : mg "isinstance" = none
  b_len : mg "len" = none
  b_max : mg "max" = none
  b_min : mg "min" = none
  b_range : mg "range" = none
  b_reversed : mg "reversed" = none
  b_sorted : mg "sorted" = none
  b_tuple : mg "tuple" = none
  C_Row : Addr
  g_Row : mg "Row" = some (.ref C_Row)
  cl : Cls K C_Row
  nS : NoAttr K C_Row "settings"
  ty : ∀ {H : Hp} {a dx : Addr} {fs : List (Str × V)}, H a = some (.ins C_Row dx fs) → TyX K H (.ref a) (.ref C_Row)
  f_Row_init : Addr
  fd_Row_init : FuncData
  F_Row_init : FunD K "__init__" "Row.__init__" (defArgs s_Row_init) (defBody s_Row_init) (defScope s_Row_init) [] [("move", .int 1), ("add", .int 1), ("first", .non), ("last", .non)] f_Row_init fd_Row_init
  mkR : Mk K C_Row f_Row_init
  f_Row_base : Addr
  fd_Row_base : FuncData
  F_Row_base : Fun K "base" "Row.base" s_Row_base f_Row_base fd_Row_base
  b_Row_base : Binds K fd_Row_base ["self"] []
  q_Row_base : Addr
  p_Row_base : PropOf K C_Row "base" q_Row_base f_Row_base
  f_Row_move_cost : Addr
  fd_Row_move_cost : FuncData
  F_Row_move_cost : Fun K "move_cost" "Row.move_cost" s_Row_move_cost f_Row_move_cost fd_Row_move_cost
  b_Row_move_cost : Binds K fd_Row_move_cost ["self"] []
  q_Row_move_cost : Addr
  p_Row_move_cost : PropOf K C_Row "move_cost" q_Row_move_cost f_Row_move_cost
  f_Row_add_cost : Addr
  fd_Row_add_cost : FuncData
  F_Row_add_cost : Fun K "add_cost" "Row.add_cost" s_Row_add_cost f_Row_add_cost fd_Row_add_cost
  b_Row_add_cost : Binds K fd_Row_add_cost ["self"] []
  q_Row_add_cost : Addr
  p_Row_add_cost : PropOf K C_Row "add_cost" q_Row_add_cost f_Row_add_cost
  f_Row_first : Addr
  fd_Row_first : FuncData
  F_Row_first : Fun K "first" "Row.first" s_Row_first f_Row_first fd_Row_first
  b_Row_first : Binds K fd_Row_first ["self"] []
  q_Row_first : Addr
  p_Row_first : PropOf K C_Row "first" q_Row_first f_Row_first
  f_Row_last : Addr
  fd_Row_last : FuncData
  F_Row_last : Fun K "last" "Row.last" s_Row_last f_Row_last fd_Row_last
  b_Row_last : Binds K fd_Row_last ["self"] []
  q_Row_last : Addr
  p_Row_last : PropOf K C_Row "last" q_Row_last f_Row_last
  f_Row_has_place : Addr
  fd_Row_has_place : FuncData
  F_Row_has_place : Fun K "has_place" "Row.has_place" s_Row_has_place f_Row_has_place fd_Row_has_place
  b_Row_has_place : Binds K fd_Row_has_place ["self", "value"] []
  m_Row_has_place : Meth K C_Row "has_place" f_Row_has_place
  rd : ClX.CRead K C_Row (.type "type")
  t_MIN_BASE : Tok
  v_MIN_BASE : ClX.CVal K C_Row (.type "type") "MIN_BASE" (.int 2) (.int 2 t_MIN_BASE)
  t_MAX_BASE : Tok
  v_MAX_BASE : ClX.CVal K C_Row (.type "type") "MAX_BASE" (.int 36) (.int 36 t_MAX_BASE)
  C_Sweep : Addr
  g_Sweep : mg "Sweep" = some (.ref C_Sweep)
  clSweep : Cls K C_Sweep
  nSweep_row : NoAttr K C_Sweep "row"
  nSweep_low : NoAttr K C_Sweep "low"
  nSweep_span : NoAttr K C_Sweep "span"
  nSweep_ready : NoAttr K C_Sweep "ready"
  nSweep_floors : NoAttr K C_Sweep "floors"
  f_Sweep_init : Addr
  fd_Sweep_init : FuncData
  F_Sweep_init : Fun K "__init__" "Sweep.__init__" s_Sweep_init f_Sweep_init fd_Sweep_init
  b_Sweep_init : Binds K fd_Sweep_init ["self", "row", "change", "near", "far"] []
  mkSweep : Mk K C_Sweep f_Sweep_init
  f_Sweep_choices : Addr
  fd_Sweep_choices : FuncData
  F_Sweep_choices : Fun K "choices" "Sweep.choices" s_Sweep_choices f_Sweep_choices fd_Sweep_choices
  b_Sweep_choices : Binds K fd_Sweep_choices ["self", "at", "carry"] []
  m_Sweep_choices : Meth K C_Sweep "choices" f_Sweep_choices
  f_Sweep_steps : Addr
  fd_Sweep_steps : FuncData
  F_Sweep_steps : Fun K "steps" "Sweep.steps" s_Sweep_steps f_Sweep_steps fd_Sweep_steps
  b_Sweep_steps : Binds K fd_Sweep_steps ["self", "at", "costs"] []
  m_Sweep_steps : Meth K C_Sweep "steps" f_Sweep_steps
  f_Sweep_least_costs : Addr
  fd_Sweep_least_costs : FuncData
  F_Sweep_least_costs : Fun K "least_costs" "Sweep.least_costs" s_Sweep_least_costs f_Sweep_least_costs fd_Sweep_least_costs
  b_Sweep_least_costs : Binds K fd_Sweep_least_costs ["self"] []
  m_Sweep_least_costs : Meth K C_Sweep "least_costs" f_Sweep_least_costs
  f_Sweep_moves : Addr
  fd_Sweep_moves : FuncData
  F_Sweep_moves : Fun K "moves" "Sweep.moves" s_Sweep_moves f_Sweep_moves fd_Sweep_moves
  b_Sweep_moves : Binds K fd_Sweep_moves ["self", "at"] []
  m_Sweep_moves : Meth K C_Sweep "moves" f_Sweep_moves
  f_Sweep_end_cost : Addr
  fd_Sweep_end_cost : FuncData
  F_Sweep_end_cost : Fun K "end_cost" "Sweep.end_cost" s_Sweep_end_cost f_Sweep_end_cost fd_Sweep_end_cost
  b_Sweep_end_cost : Binds K fd_Sweep_end_cost ["self", "at", "carry"] []
  m_Sweep_end_cost : Meth K C_Sweep "end_cost" f_Sweep_end_cost
  f_Sweep_ends : Addr
  fd_Sweep_ends : FuncData
  F_Sweep_ends : Fun K "ends" "Sweep.ends" s_Sweep_ends f_Sweep_ends fd_Sweep_ends
  b_Sweep_ends : Binds K fd_Sweep_ends ["self", "table"] []
  m_Sweep_ends : Meth K C_Sweep "ends" f_Sweep_ends
section
variable {K : PySem.W.Frag} {mg : Str → Option Value}
def Tx.et (T : Tx K mg) : ET := fun x => if x = "InvalidRow" then some (T.C_InvalidRow, ("field" : Str)) else if x = "InvalidState" then some (T.C_InvalidState, ("value" : Str)) else none
theorem Tx.et_InvalidState (T : Tx K mg) : T.et "InvalidState" = some (T.C_InvalidState, ("value" : Str)) := by simp [Tx.et]
end
set_option maxHeartbeats 0 in
def mkTx {K : PySem.W.Frag} {h : Heap} {mg : Str → Option Value} (X : K.In h) (G : h.Ns mainGlobals mg)
  {f_wall : Addr} {od_wall an_wall : Option Addr} {sl_wall : Array (Option Value)} {oc_wall kV_wall dc_wall pm_wall cd_wall ct_wall : Value}
  {f_is_whole : Addr} {od_is_whole an_is_whole : Option Addr} {sl_is_whole : Array (Option Value)} {oc_is_whole kV_is_whole dc_is_whole pm_is_whole cd_is_whole ct_is_whole : Value}
  {f_is_within : Addr} {od_is_within an_is_within : Option Addr} {sl_is_within : Array (Option Value)} {oc_is_within kV_is_within dc_is_within pm_is_within cd_is_within ct_is_within : Value}
  {f_is_place : Addr} {od_is_place an_is_place : Option Addr} {sl_is_place : Array (Option Value)} {oc_is_place kV_is_place dc_is_place pm_is_place cd_is_place ct_is_place : Value}
  {f_power_of : Addr} {od_power_of an_power_of : Option Addr} {sl_power_of : Array (Option Value)} {oc_power_of kV_power_of dc_power_of pm_power_of cd_power_of ct_power_of : Value}
  {f_is_number : Addr} {od_is_number an_is_number : Option Addr} {sl_is_number : Array (Option Value)} {oc_is_number kV_is_number dc_is_number pm_is_number cd_is_number ct_is_number : Value}
  {f_units : Addr} {od_units an_units : Option Addr} {sl_units : Array (Option Value)} {oc_units kV_units dc_units pm_units cd_units ct_units : Value}
  {f_negative : Addr} {od_negative an_negative : Option Addr} {sl_negative : Array (Option Value)} {oc_negative kV_negative dc_negative pm_negative cd_negative ct_negative : Value}
  {f_form_of : Addr} {od_form_of an_form_of : Option Addr} {sl_form_of : Array (Option Value)} {oc_form_of kV_form_of dc_form_of pm_form_of cd_form_of ct_form_of : Value}
  {f_sum_of : Addr} {od_sum_of an_sum_of : Option Addr} {sl_sum_of : Array (Option Value)} {oc_sum_of kV_sum_of dc_sum_of pm_sum_of cd_sum_of ct_sum_of : Value}
  {f_has_few_digits : Addr} {od_has_few_digits an_has_few_digits : Option Addr} {sl_has_few_digits : Array (Option Value)} {oc_has_few_digits kV_has_few_digits dc_has_few_digits pm_has_few_digits cd_has_few_digits ct_has_few_digits : Value}
  {f_without_factors : Addr} {od_without_factors an_without_factors : Option Addr} {sl_without_factors : Array (Option Value)} {oc_without_factors kV_without_factors dc_without_factors pm_without_factors cd_without_factors ct_without_factors : Value}
  {f_is_state : Addr} {od_is_state an_is_state : Option Addr} {sl_is_state : Array (Option Value)} {oc_is_state kV_is_state dc_is_state pm_is_state cd_is_state ct_is_state : Value}
  {f_is_pair : Addr} {od_is_pair an_is_pair : Option Addr} {sl_is_pair : Array (Option Value)} {oc_is_pair kV_is_pair dc_is_pair pm_is_pair cd_is_pair ct_is_pair : Value}
  {f_require_state : Addr} {od_require_state an_require_state : Option Addr} {sl_require_state : Array (Option Value)} {oc_require_state kV_require_state dc_require_state pm_require_state cd_require_state ct_require_state : Value}
  {f_require_states : Addr} {od_require_states an_require_states : Option Addr} {sl_require_states : Array (Option Value)} {oc_require_states kV_require_states dc_require_states pm_require_states cd_require_states ct_require_states : Value}
  {f_distance : Addr} {od_distance an_distance : Option Addr} {sl_distance : Array (Option Value)} {oc_distance kV_distance dc_distance pm_distance cd_distance ct_distance : Value}
  {f_sweep_between : Addr} {od_sweep_between an_sweep_between : Option Addr} {sl_sweep_between : Array (Option Value)} {oc_sweep_between kV_sweep_between dc_sweep_between pm_sweep_between cd_sweep_between ct_sweep_between : Value}
  {f_sweep_of_any : Addr} {od_sweep_of_any an_sweep_of_any : Option Addr} {sl_sweep_of_any : Array (Option Value)} {oc_sweep_of_any kV_sweep_of_any dc_sweep_of_any pm_sweep_of_any cd_sweep_of_any ct_sweep_of_any : Value}
  {f_least_cost : Addr} {od_least_cost an_least_cost : Option Addr} {sl_least_cost : Array (Option Value)} {oc_least_cost kV_least_cost dc_least_cost pm_least_cost cd_least_cost ct_least_cost : Value}
  {f_difference : Addr} {od_difference an_difference : Option Addr} {sl_difference : Array (Option Value)} {oc_difference kV_difference dc_difference pm_difference cd_difference ct_difference : Value}
  {f_floors_up : Addr} {od_floors_up an_floors_up : Option Addr} {sl_floors_up : Array (Option Value)} {oc_floors_up kV_floors_up dc_floors_up pm_floors_up cd_floors_up ct_floors_up : Value}
  {f_invalid_field : Addr} {od_invalid_field an_invalid_field : Option Addr} {sl_invalid_field : Array (Option Value)} {oc_invalid_field kV_invalid_field dc_invalid_field pm_invalid_field cd_invalid_field ct_invalid_field : Value}
  {f_is_cost : Addr} {od_is_cost an_is_cost : Option Addr} {sl_is_cost : Array (Option Value)} {oc_is_cost kV_is_cost dc_is_cost pm_is_cost cd_is_cost ct_is_cost : Value}
  {f_is_end : Addr} {od_is_end an_is_end : Option Addr} {sl_is_end : Array (Option Value)} {oc_is_end kV_is_end dc_is_end pm_is_end cd_is_end ct_is_end : Value}
  {f_law_numbers : Addr} {od_law_numbers an_law_numbers : Option Addr} {sl_law_numbers : Array (Option Value)} {oc_law_numbers kV_law_numbers dc_law_numbers pm_law_numbers cd_law_numbers ct_law_numbers : Value}
  {f_law_power : Addr} {od_law_power an_law_power : Option Addr} {sl_law_power : Array (Option Value)} {oc_law_power kV_law_power dc_law_power pm_law_power cd_law_power ct_law_power : Value}
  {f_law_reduced : Addr} {od_law_reduced an_law_reduced : Option Addr} {sl_law_reduced : Array (Option Value)} {oc_law_reduced kV_law_reduced dc_law_reduced pm_law_reduced cd_law_reduced ct_law_reduced : Value}
  {f_law_sum : Addr} {od_law_sum an_law_sum : Option Addr} {sl_law_sum : Array (Option Value)} {oc_law_sum kV_law_sum dc_law_sum pm_law_sum cd_law_sum ct_law_sum : Value}
  {f_law_integer : Addr} {od_law_integer an_law_integer : Option Addr} {sl_law_integer : Array (Option Value)} {oc_law_integer kV_law_integer dc_law_integer pm_law_integer cd_law_integer ct_law_integer : Value}
  {f_law_spec : Addr} {od_law_spec an_law_spec : Option Addr} {sl_law_spec : Array (Option Value)} {oc_law_spec kV_law_spec dc_law_spec pm_law_spec cd_law_spec ct_law_spec : Value}
  {f_law_row : Addr} {od_law_row an_law_row : Option Addr} {sl_law_row : Array (Option Value)} {oc_law_row kV_law_row dc_law_row pm_law_row cd_law_row ct_law_row : Value}
  {f_law_position : Addr} {od_law_position an_law_position : Option Addr} {sl_law_position : Array (Option Value)} {oc_law_position kV_law_position dc_law_position pm_law_position cd_law_position ct_law_position : Value}
  {f_law_state : Addr} {od_law_state an_law_state : Option Addr} {sl_law_state : Array (Option Value)} {oc_law_state kV_law_state dc_law_state pm_law_state cd_law_state ct_law_state : Value}
  {f_law_least : Addr} {od_law_least an_law_least : Option Addr} {sl_law_least : Array (Option Value)} {oc_law_least kV_law_least dc_law_least pm_law_least cd_law_least ct_law_least : Value}
  {f_law_floor : Addr} {od_law_floor an_law_floor : Option Addr} {sl_law_floor : Array (Option Value)} {oc_law_floor kV_law_floor dc_law_floor pm_law_floor cd_law_floor ct_law_floor : Value}
  {f_law_least_from : Addr} {od_law_least_from an_law_least_from : Option Addr} {sl_law_least_from : Array (Option Value)} {oc_law_least_from kV_law_least_from dc_law_least_from pm_law_least_from cd_law_least_from ct_law_least_from : Value}
  {f_law_later : Addr} {od_law_later an_law_later : Option Addr} {sl_law_later : Array (Option Value)} {oc_law_later kV_law_later dc_law_later pm_law_later cd_law_later ct_law_later : Value}
  {f_law : Addr} {od_law an_law : Option Addr} {sl_law : Array (Option Value)} {oc_law kV_law dc_law pm_law cd_law ct_law : Value}
  {C_InvalidRow I_InvalidRow N_InvalidRow : Addr} {nm_InvalidRow q_InvalidRow : Str} {bs_InvalidRow bm_InvalidRow sub_InvalidRow : List Value} {sn_InvalidRow : List Str} {ab_InvalidRow : Bool} {col_InvalidRow : Option Bool} {dd_InvalidRow : Option Addr} {m0_InvalidRow m1_InvalidRow m2_InvalidRow m3_InvalidRow m5_InvalidRow : Option Value}
  {od_InvalidRow an_InvalidRow : Option Addr} {sl_InvalidRow : Array (Option Value)} {oc_InvalidRow dc_InvalidRow pm_InvalidRow cd_InvalidRow cv_InvalidRow : Value}
  {C_InvalidState I_InvalidState N_InvalidState : Addr} {nm_InvalidState q_InvalidState : Str} {bs_InvalidState bm_InvalidState sub_InvalidState : List Value} {sn_InvalidState : List Str} {ab_InvalidState : Bool} {col_InvalidState : Option Bool} {dd_InvalidState : Option Addr} {m0_InvalidState m1_InvalidState m2_InvalidState m3_InvalidState m5_InvalidState : Option Value}
  {od_InvalidState an_InvalidState : Option Addr} {sl_InvalidState : Array (Option Value)} {oc_InvalidState dc_InvalidState pm_InvalidState cd_InvalidState cv_InvalidState : Value}
  {t_MAX_PLACE : Tok}
  {t_MAX_DIGITS : Tok}
  {t_MAX_COST : Tok}
  {C_Row : Addr}
  {f_Row_init D_Row_init : Addr} {od_Row_init an_Row_init : Option Addr} {sl_Row_init : Array (Option Value)} {oc_Row_init dc_Row_init pm_Row_init cd_Row_init ct_Row_init : Value}
  {tk0_Row_init : Tok}
  {tk1_Row_init : Tok}
  {f_Row_base : Addr} {od_Row_base an_Row_base : Option Addr} {sl_Row_base : Array (Option Value)} {oc_Row_base kV_Row_base dc_Row_base pm_Row_base cd_Row_base ct_Row_base : Value}
  {p_Row_base : Addr} {rest_Row_base : List Value}
  {f_Row_move_cost : Addr} {od_Row_move_cost an_Row_move_cost : Option Addr} {sl_Row_move_cost : Array (Option Value)} {oc_Row_move_cost kV_Row_move_cost dc_Row_move_cost pm_Row_move_cost cd_Row_move_cost ct_Row_move_cost : Value}
  {p_Row_move_cost : Addr} {rest_Row_move_cost : List Value}
  {f_Row_add_cost : Addr} {od_Row_add_cost an_Row_add_cost : Option Addr} {sl_Row_add_cost : Array (Option Value)} {oc_Row_add_cost kV_Row_add_cost dc_Row_add_cost pm_Row_add_cost cd_Row_add_cost ct_Row_add_cost : Value}
  {p_Row_add_cost : Addr} {rest_Row_add_cost : List Value}
  {f_Row_first : Addr} {od_Row_first an_Row_first : Option Addr} {sl_Row_first : Array (Option Value)} {oc_Row_first kV_Row_first dc_Row_first pm_Row_first cd_Row_first ct_Row_first : Value}
  {p_Row_first : Addr} {rest_Row_first : List Value}
  {f_Row_last : Addr} {od_Row_last an_Row_last : Option Addr} {sl_Row_last : Array (Option Value)} {oc_Row_last kV_Row_last dc_Row_last pm_Row_last cd_Row_last ct_Row_last : Value}
  {p_Row_last : Addr} {rest_Row_last : List Value}
  {f_Row_has_place : Addr} {od_Row_has_place an_Row_has_place : Option Addr} {sl_Row_has_place : Array (Option Value)} {oc_Row_has_place kV_Row_has_place dc_Row_has_place pm_Row_has_place cd_Row_has_place ct_Row_has_place : Value}
  {tv_MIN_BASE : Tok}
  {tv_MAX_BASE : Tok}
  {C_Sweep : Addr}
  {f_Sweep_init : Addr} {od_Sweep_init an_Sweep_init : Option Addr} {sl_Sweep_init : Array (Option Value)} {oc_Sweep_init kV_Sweep_init dc_Sweep_init pm_Sweep_init cd_Sweep_init ct_Sweep_init : Value}
  {f_Sweep_choices : Addr} {od_Sweep_choices an_Sweep_choices : Option Addr} {sl_Sweep_choices : Array (Option Value)} {oc_Sweep_choices kV_Sweep_choices dc_Sweep_choices pm_Sweep_choices cd_Sweep_choices ct_Sweep_choices : Value}
  {f_Sweep_steps : Addr} {od_Sweep_steps an_Sweep_steps : Option Addr} {sl_Sweep_steps : Array (Option Value)} {oc_Sweep_steps kV_Sweep_steps dc_Sweep_steps pm_Sweep_steps cd_Sweep_steps ct_Sweep_steps : Value}
  {f_Sweep_least_costs : Addr} {od_Sweep_least_costs an_Sweep_least_costs : Option Addr} {sl_Sweep_least_costs : Array (Option Value)} {oc_Sweep_least_costs kV_Sweep_least_costs dc_Sweep_least_costs pm_Sweep_least_costs cd_Sweep_least_costs ct_Sweep_least_costs : Value}
  {f_Sweep_moves : Addr} {od_Sweep_moves an_Sweep_moves : Option Addr} {sl_Sweep_moves : Array (Option Value)} {oc_Sweep_moves kV_Sweep_moves dc_Sweep_moves pm_Sweep_moves cd_Sweep_moves ct_Sweep_moves : Value}
  {f_Sweep_end_cost : Addr} {od_Sweep_end_cost an_Sweep_end_cost : Option Addr} {sl_Sweep_end_cost : Array (Option Value)} {oc_Sweep_end_cost kV_Sweep_end_cost dc_Sweep_end_cost pm_Sweep_end_cost cd_Sweep_end_cost ct_Sweep_end_cost : Value}
  {f_Sweep_ends : Addr} {od_Sweep_ends an_Sweep_ends : Option Addr} {sl_Sweep_ends : Array (Option Value)} {oc_Sweep_ends kV_Sweep_ends dc_Sweep_ends pm_Sweep_ends cd_Sweep_ends ct_Sweep_ends : Value}
  (a_wall : PySem.W.nsIn K mainGlobals "_wall" = some (some (.ref f_wall)))
  (l_wall : K.lookup f_wall = some ⟨oc_wall, od_wall, .func (PySem.W.fnOf "_wall" "_wall" (defArgs s_wall) (defBody s_wall) (defScope s_wall) .none kV_wall dc_wall pm_wall an_wall cd_wall ct_wall), sl_wall⟩)
  (c_wall : PySem.W.codeIn K cd_wall "_wall" = true)
  (k_wall : PySem.W.keepIn K (.ref f_wall) = true)
  (a_is_whole : PySem.W.nsIn K mainGlobals "is_whole" = some (some (.ref f_is_whole)))
  (l_is_whole : K.lookup f_is_whole = some ⟨oc_is_whole, od_is_whole, .func (PySem.W.fnOf "is_whole" "is_whole" (defArgs s_is_whole) (defBody s_is_whole) (defScope s_is_whole) .none kV_is_whole dc_is_whole pm_is_whole an_is_whole cd_is_whole ct_is_whole), sl_is_whole⟩)
  (c_is_whole : PySem.W.codeIn K cd_is_whole "is_whole" = true)
  (k_is_whole : PySem.W.keepIn K (.ref f_is_whole) = true)
  (a_is_within : PySem.W.nsIn K mainGlobals "is_within" = some (some (.ref f_is_within)))
  (l_is_within : K.lookup f_is_within = some ⟨oc_is_within, od_is_within, .func (PySem.W.fnOf "is_within" "is_within" (defArgs s_is_within) (defBody s_is_within) (defScope s_is_within) .none kV_is_within dc_is_within pm_is_within an_is_within cd_is_within ct_is_within), sl_is_within⟩)
  (c_is_within : PySem.W.codeIn K cd_is_within "is_within" = true)
  (k_is_within : PySem.W.keepIn K (.ref f_is_within) = true)
  (a_is_place : PySem.W.nsIn K mainGlobals "is_place" = some (some (.ref f_is_place)))
  (l_is_place : K.lookup f_is_place = some ⟨oc_is_place, od_is_place, .func (PySem.W.fnOf "is_place" "is_place" (defArgs s_is_place) (defBody s_is_place) (defScope s_is_place) .none kV_is_place dc_is_place pm_is_place an_is_place cd_is_place ct_is_place), sl_is_place⟩)
  (c_is_place : PySem.W.codeIn K cd_is_place "is_place" = true)
  (k_is_place : PySem.W.keepIn K (.ref f_is_place) = true)
  (a_power_of : PySem.W.nsIn K mainGlobals "power_of" = some (some (.ref f_power_of)))
  (l_power_of : K.lookup f_power_of = some ⟨oc_power_of, od_power_of, .func (PySem.W.fnOf "power_of" "power_of" (defArgs s_power_of) (defBody s_power_of) (defScope s_power_of) .none kV_power_of dc_power_of pm_power_of an_power_of cd_power_of ct_power_of), sl_power_of⟩)
  (c_power_of : PySem.W.codeIn K cd_power_of "power_of" = true)
  (k_power_of : PySem.W.keepIn K (.ref f_power_of) = true)
  (a_is_number : PySem.W.nsIn K mainGlobals "is_number" = some (some (.ref f_is_number)))
  (l_is_number : K.lookup f_is_number = some ⟨oc_is_number, od_is_number, .func (PySem.W.fnOf "is_number" "is_number" (defArgs s_is_number) (defBody s_is_number) (defScope s_is_number) .none kV_is_number dc_is_number pm_is_number an_is_number cd_is_number ct_is_number), sl_is_number⟩)
  (c_is_number : PySem.W.codeIn K cd_is_number "is_number" = true)
  (k_is_number : PySem.W.keepIn K (.ref f_is_number) = true)
  (a_units : PySem.W.nsIn K mainGlobals "units" = some (some (.ref f_units)))
  (l_units : K.lookup f_units = some ⟨oc_units, od_units, .func (PySem.W.fnOf "units" "units" (defArgs s_units) (defBody s_units) (defScope s_units) .none kV_units dc_units pm_units an_units cd_units ct_units), sl_units⟩)
  (c_units : PySem.W.codeIn K cd_units "units" = true)
  (k_units : PySem.W.keepIn K (.ref f_units) = true)
  (a_negative : PySem.W.nsIn K mainGlobals "negative" = some (some (.ref f_negative)))
  (l_negative : K.lookup f_negative = some ⟨oc_negative, od_negative, .func (PySem.W.fnOf "negative" "negative" (defArgs s_negative) (defBody s_negative) (defScope s_negative) .none kV_negative dc_negative pm_negative an_negative cd_negative ct_negative), sl_negative⟩)
  (c_negative : PySem.W.codeIn K cd_negative "negative" = true)
  (k_negative : PySem.W.keepIn K (.ref f_negative) = true)
  (a_form_of : PySem.W.nsIn K mainGlobals "form_of" = some (some (.ref f_form_of)))
  (l_form_of : K.lookup f_form_of = some ⟨oc_form_of, od_form_of, .func (PySem.W.fnOf "form_of" "form_of" (defArgs s_form_of) (defBody s_form_of) (defScope s_form_of) .none kV_form_of dc_form_of pm_form_of an_form_of cd_form_of ct_form_of), sl_form_of⟩)
  (c_form_of : PySem.W.codeIn K cd_form_of "form_of" = true)
  (k_form_of : PySem.W.keepIn K (.ref f_form_of) = true)
  (a_sum_of : PySem.W.nsIn K mainGlobals "sum_of" = some (some (.ref f_sum_of)))
  (l_sum_of : K.lookup f_sum_of = some ⟨oc_sum_of, od_sum_of, .func (PySem.W.fnOf "sum_of" "sum_of" (defArgs s_sum_of) (defBody s_sum_of) (defScope s_sum_of) .none kV_sum_of dc_sum_of pm_sum_of an_sum_of cd_sum_of ct_sum_of), sl_sum_of⟩)
  (c_sum_of : PySem.W.codeIn K cd_sum_of "sum_of" = true)
  (k_sum_of : PySem.W.keepIn K (.ref f_sum_of) = true)
  (a_has_few_digits : PySem.W.nsIn K mainGlobals "has_few_digits" = some (some (.ref f_has_few_digits)))
  (l_has_few_digits : K.lookup f_has_few_digits = some ⟨oc_has_few_digits, od_has_few_digits, .func (PySem.W.fnOf "has_few_digits" "has_few_digits" (defArgs s_has_few_digits) (defBody s_has_few_digits) (defScope s_has_few_digits) .none kV_has_few_digits dc_has_few_digits pm_has_few_digits an_has_few_digits cd_has_few_digits ct_has_few_digits), sl_has_few_digits⟩)
  (c_has_few_digits : PySem.W.codeIn K cd_has_few_digits "has_few_digits" = true)
  (k_has_few_digits : PySem.W.keepIn K (.ref f_has_few_digits) = true)
  (a_without_factors : PySem.W.nsIn K mainGlobals "without_factors" = some (some (.ref f_without_factors)))
  (l_without_factors : K.lookup f_without_factors = some ⟨oc_without_factors, od_without_factors, .func (PySem.W.fnOf "without_factors" "without_factors" (defArgs s_without_factors) (defBody s_without_factors) (defScope s_without_factors) .none kV_without_factors dc_without_factors pm_without_factors an_without_factors cd_without_factors ct_without_factors), sl_without_factors⟩)
  (c_without_factors : PySem.W.codeIn K cd_without_factors "without_factors" = true)
  (k_without_factors : PySem.W.keepIn K (.ref f_without_factors) = true)
  (a_is_state : PySem.W.nsIn K mainGlobals "is_state" = some (some (.ref f_is_state)))
  (l_is_state : K.lookup f_is_state = some ⟨oc_is_state, od_is_state, .func (PySem.W.fnOf "is_state" "is_state" (defArgs s_is_state) (defBody s_is_state) (defScope s_is_state) .none kV_is_state dc_is_state pm_is_state an_is_state cd_is_state ct_is_state), sl_is_state⟩)
  (c_is_state : PySem.W.codeIn K cd_is_state "is_state" = true)
  (k_is_state : PySem.W.keepIn K (.ref f_is_state) = true)
  (a_is_pair : PySem.W.nsIn K mainGlobals "is_pair" = some (some (.ref f_is_pair)))
  (l_is_pair : K.lookup f_is_pair = some ⟨oc_is_pair, od_is_pair, .func (PySem.W.fnOf "is_pair" "is_pair" (defArgs s_is_pair) (defBody s_is_pair) (defScope s_is_pair) .none kV_is_pair dc_is_pair pm_is_pair an_is_pair cd_is_pair ct_is_pair), sl_is_pair⟩)
  (c_is_pair : PySem.W.codeIn K cd_is_pair "is_pair" = true)
  (k_is_pair : PySem.W.keepIn K (.ref f_is_pair) = true)
  (a_require_state : PySem.W.nsIn K mainGlobals "require_state" = some (some (.ref f_require_state)))
  (l_require_state : K.lookup f_require_state = some ⟨oc_require_state, od_require_state, .func (PySem.W.fnOf "require_state" "require_state" (defArgs s_require_state) (defBody s_require_state) (defScope s_require_state) .none kV_require_state dc_require_state pm_require_state an_require_state cd_require_state ct_require_state), sl_require_state⟩)
  (c_require_state : PySem.W.codeIn K cd_require_state "require_state" = true)
  (k_require_state : PySem.W.keepIn K (.ref f_require_state) = true)
  (a_require_states : PySem.W.nsIn K mainGlobals "require_states" = some (some (.ref f_require_states)))
  (l_require_states : K.lookup f_require_states = some ⟨oc_require_states, od_require_states, .func (PySem.W.fnOf "require_states" "require_states" (defArgs s_require_states) (defBody s_require_states) (defScope s_require_states) .none kV_require_states dc_require_states pm_require_states an_require_states cd_require_states ct_require_states), sl_require_states⟩)
  (c_require_states : PySem.W.codeIn K cd_require_states "require_states" = true)
  (k_require_states : PySem.W.keepIn K (.ref f_require_states) = true)
  (a_distance : PySem.W.nsIn K mainGlobals "distance" = some (some (.ref f_distance)))
  (l_distance : K.lookup f_distance = some ⟨oc_distance, od_distance, .func (PySem.W.fnOf "distance" "distance" (defArgs s_distance) (defBody s_distance) (defScope s_distance) .none kV_distance dc_distance pm_distance an_distance cd_distance ct_distance), sl_distance⟩)
  (c_distance : PySem.W.codeIn K cd_distance "distance" = true)
  (k_distance : PySem.W.keepIn K (.ref f_distance) = true)
  (a_sweep_between : PySem.W.nsIn K mainGlobals "sweep_between" = some (some (.ref f_sweep_between)))
  (l_sweep_between : K.lookup f_sweep_between = some ⟨oc_sweep_between, od_sweep_between, .func (PySem.W.fnOf "sweep_between" "sweep_between" (defArgs s_sweep_between) (defBody s_sweep_between) (defScope s_sweep_between) .none kV_sweep_between dc_sweep_between pm_sweep_between an_sweep_between cd_sweep_between ct_sweep_between), sl_sweep_between⟩)
  (c_sweep_between : PySem.W.codeIn K cd_sweep_between "sweep_between" = true)
  (k_sweep_between : PySem.W.keepIn K (.ref f_sweep_between) = true)
  (a_sweep_of_any : PySem.W.nsIn K mainGlobals "sweep_of_any" = some (some (.ref f_sweep_of_any)))
  (l_sweep_of_any : K.lookup f_sweep_of_any = some ⟨oc_sweep_of_any, od_sweep_of_any, .func (PySem.W.fnOf "sweep_of_any" "sweep_of_any" (defArgs s_sweep_of_any) (defBody s_sweep_of_any) (defScope s_sweep_of_any) .none kV_sweep_of_any dc_sweep_of_any pm_sweep_of_any an_sweep_of_any cd_sweep_of_any ct_sweep_of_any), sl_sweep_of_any⟩)
  (c_sweep_of_any : PySem.W.codeIn K cd_sweep_of_any "sweep_of_any" = true)
  (k_sweep_of_any : PySem.W.keepIn K (.ref f_sweep_of_any) = true)
  (a_least_cost : PySem.W.nsIn K mainGlobals "least_cost" = some (some (.ref f_least_cost)))
  (l_least_cost : K.lookup f_least_cost = some ⟨oc_least_cost, od_least_cost, .func (PySem.W.fnOf "least_cost" "least_cost" (defArgs s_least_cost) (defBody s_least_cost) (defScope s_least_cost) .none kV_least_cost dc_least_cost pm_least_cost an_least_cost cd_least_cost ct_least_cost), sl_least_cost⟩)
  (c_least_cost : PySem.W.codeIn K cd_least_cost "least_cost" = true)
  (k_least_cost : PySem.W.keepIn K (.ref f_least_cost) = true)
  (a_difference : PySem.W.nsIn K mainGlobals "difference" = some (some (.ref f_difference)))
  (l_difference : K.lookup f_difference = some ⟨oc_difference, od_difference, .func (PySem.W.fnOf "difference" "difference" (defArgs s_difference) (defBody s_difference) (defScope s_difference) .none kV_difference dc_difference pm_difference an_difference cd_difference ct_difference), sl_difference⟩)
  (c_difference : PySem.W.codeIn K cd_difference "difference" = true)
  (k_difference : PySem.W.keepIn K (.ref f_difference) = true)
  (a_floors_up : PySem.W.nsIn K mainGlobals "floors_up" = some (some (.ref f_floors_up)))
  (l_floors_up : K.lookup f_floors_up = some ⟨oc_floors_up, od_floors_up, .func (PySem.W.fnOf "floors_up" "floors_up" (defArgs s_floors_up) (defBody s_floors_up) (defScope s_floors_up) .none kV_floors_up dc_floors_up pm_floors_up an_floors_up cd_floors_up ct_floors_up), sl_floors_up⟩)
  (c_floors_up : PySem.W.codeIn K cd_floors_up "floors_up" = true)
  (k_floors_up : PySem.W.keepIn K (.ref f_floors_up) = true)
  (a_invalid_field : PySem.W.nsIn K mainGlobals "invalid_field" = some (some (.ref f_invalid_field)))
  (l_invalid_field : K.lookup f_invalid_field = some ⟨oc_invalid_field, od_invalid_field, .func (PySem.W.fnOf "invalid_field" "invalid_field" (defArgs s_invalid_field) (defBody s_invalid_field) (defScope s_invalid_field) .none kV_invalid_field dc_invalid_field pm_invalid_field an_invalid_field cd_invalid_field ct_invalid_field), sl_invalid_field⟩)
  (c_invalid_field : PySem.W.codeIn K cd_invalid_field "invalid_field" = true)
  (k_invalid_field : PySem.W.keepIn K (.ref f_invalid_field) = true)
  (a_is_cost : PySem.W.nsIn K mainGlobals "is_cost" = some (some (.ref f_is_cost)))
  (l_is_cost : K.lookup f_is_cost = some ⟨oc_is_cost, od_is_cost, .func (PySem.W.fnOf "is_cost" "is_cost" (defArgs s_is_cost) (defBody s_is_cost) (defScope s_is_cost) .none kV_is_cost dc_is_cost pm_is_cost an_is_cost cd_is_cost ct_is_cost), sl_is_cost⟩)
  (c_is_cost : PySem.W.codeIn K cd_is_cost "is_cost" = true)
  (k_is_cost : PySem.W.keepIn K (.ref f_is_cost) = true)
  (a_is_end : PySem.W.nsIn K mainGlobals "is_end" = some (some (.ref f_is_end)))
  (l_is_end : K.lookup f_is_end = some ⟨oc_is_end, od_is_end, .func (PySem.W.fnOf "is_end" "is_end" (defArgs s_is_end) (defBody s_is_end) (defScope s_is_end) .none kV_is_end dc_is_end pm_is_end an_is_end cd_is_end ct_is_end), sl_is_end⟩)
  (c_is_end : PySem.W.codeIn K cd_is_end "is_end" = true)
  (k_is_end : PySem.W.keepIn K (.ref f_is_end) = true)
  (a_law_numbers : PySem.W.nsIn K mainGlobals "_law_numbers" = some (some (.ref f_law_numbers)))
  (l_law_numbers : K.lookup f_law_numbers = some ⟨oc_law_numbers, od_law_numbers, .func (PySem.W.fnOf "_law_numbers" "_law_numbers" (defArgs s_law_numbers) (defBody s_law_numbers) (defScope s_law_numbers) .none kV_law_numbers dc_law_numbers pm_law_numbers an_law_numbers cd_law_numbers ct_law_numbers), sl_law_numbers⟩)
  (c_law_numbers : PySem.W.codeIn K cd_law_numbers "_law_numbers" = true)
  (k_law_numbers : PySem.W.keepIn K (.ref f_law_numbers) = true)
  (a_law_power : PySem.W.nsIn K mainGlobals "_law_power" = some (some (.ref f_law_power)))
  (l_law_power : K.lookup f_law_power = some ⟨oc_law_power, od_law_power, .func (PySem.W.fnOf "_law_power" "_law_power" (defArgs s_law_power) (defBody s_law_power) (defScope s_law_power) .none kV_law_power dc_law_power pm_law_power an_law_power cd_law_power ct_law_power), sl_law_power⟩)
  (c_law_power : PySem.W.codeIn K cd_law_power "_law_power" = true)
  (k_law_power : PySem.W.keepIn K (.ref f_law_power) = true)
  (a_law_reduced : PySem.W.nsIn K mainGlobals "_law_reduced" = some (some (.ref f_law_reduced)))
  (l_law_reduced : K.lookup f_law_reduced = some ⟨oc_law_reduced, od_law_reduced, .func (PySem.W.fnOf "_law_reduced" "_law_reduced" (defArgs s_law_reduced) (defBody s_law_reduced) (defScope s_law_reduced) .none kV_law_reduced dc_law_reduced pm_law_reduced an_law_reduced cd_law_reduced ct_law_reduced), sl_law_reduced⟩)
  (c_law_reduced : PySem.W.codeIn K cd_law_reduced "_law_reduced" = true)
  (k_law_reduced : PySem.W.keepIn K (.ref f_law_reduced) = true)
  (a_law_sum : PySem.W.nsIn K mainGlobals "_law_sum" = some (some (.ref f_law_sum)))
  (l_law_sum : K.lookup f_law_sum = some ⟨oc_law_sum, od_law_sum, .func (PySem.W.fnOf "_law_sum" "_law_sum" (defArgs s_law_sum) (defBody s_law_sum) (defScope s_law_sum) .none kV_law_sum dc_law_sum pm_law_sum an_law_sum cd_law_sum ct_law_sum), sl_law_sum⟩)
  (c_law_sum : PySem.W.codeIn K cd_law_sum "_law_sum" = true)
  (k_law_sum : PySem.W.keepIn K (.ref f_law_sum) = true)
  (a_law_integer : PySem.W.nsIn K mainGlobals "_law_integer" = some (some (.ref f_law_integer)))
  (l_law_integer : K.lookup f_law_integer = some ⟨oc_law_integer, od_law_integer, .func (PySem.W.fnOf "_law_integer" "_law_integer" (defArgs s_law_integer) (defBody s_law_integer) (defScope s_law_integer) .none kV_law_integer dc_law_integer pm_law_integer an_law_integer cd_law_integer ct_law_integer), sl_law_integer⟩)
  (c_law_integer : PySem.W.codeIn K cd_law_integer "_law_integer" = true)
  (k_law_integer : PySem.W.keepIn K (.ref f_law_integer) = true)
  (a_law_spec : PySem.W.nsIn K mainGlobals "_law_spec" = some (some (.ref f_law_spec)))
  (l_law_spec : K.lookup f_law_spec = some ⟨oc_law_spec, od_law_spec, .func (PySem.W.fnOf "_law_spec" "_law_spec" (defArgs s_law_spec) (defBody s_law_spec) (defScope s_law_spec) .none kV_law_spec dc_law_spec pm_law_spec an_law_spec cd_law_spec ct_law_spec), sl_law_spec⟩)
  (c_law_spec : PySem.W.codeIn K cd_law_spec "_law_spec" = true)
  (k_law_spec : PySem.W.keepIn K (.ref f_law_spec) = true)
  (a_law_row : PySem.W.nsIn K mainGlobals "_law_row" = some (some (.ref f_law_row)))
  (l_law_row : K.lookup f_law_row = some ⟨oc_law_row, od_law_row, .func (PySem.W.fnOf "_law_row" "_law_row" (defArgs s_law_row) (defBody s_law_row) (defScope s_law_row) .none kV_law_row dc_law_row pm_law_row an_law_row cd_law_row ct_law_row), sl_law_row⟩)
  (c_law_row : PySem.W.codeIn K cd_law_row "_law_row" = true)
  (k_law_row : PySem.W.keepIn K (.ref f_law_row) = true)
  (a_law_position : PySem.W.nsIn K mainGlobals "_law_position" = some (some (.ref f_law_position)))
  (l_law_position : K.lookup f_law_position = some ⟨oc_law_position, od_law_position, .func (PySem.W.fnOf "_law_position" "_law_position" (defArgs s_law_position) (defBody s_law_position) (defScope s_law_position) .none kV_law_position dc_law_position pm_law_position an_law_position cd_law_position ct_law_position), sl_law_position⟩)
  (c_law_position : PySem.W.codeIn K cd_law_position "_law_position" = true)
  (k_law_position : PySem.W.keepIn K (.ref f_law_position) = true)
  (a_law_state : PySem.W.nsIn K mainGlobals "_law_state" = some (some (.ref f_law_state)))
  (l_law_state : K.lookup f_law_state = some ⟨oc_law_state, od_law_state, .func (PySem.W.fnOf "_law_state" "_law_state" (defArgs s_law_state) (defBody s_law_state) (defScope s_law_state) .none kV_law_state dc_law_state pm_law_state an_law_state cd_law_state ct_law_state), sl_law_state⟩)
  (c_law_state : PySem.W.codeIn K cd_law_state "_law_state" = true)
  (k_law_state : PySem.W.keepIn K (.ref f_law_state) = true)
  (a_law_least : PySem.W.nsIn K mainGlobals "_law_least" = some (some (.ref f_law_least)))
  (l_law_least : K.lookup f_law_least = some ⟨oc_law_least, od_law_least, .func (PySem.W.fnOf "_law_least" "_law_least" (defArgs s_law_least) (defBody s_law_least) (defScope s_law_least) .none kV_law_least dc_law_least pm_law_least an_law_least cd_law_least ct_law_least), sl_law_least⟩)
  (c_law_least : PySem.W.codeIn K cd_law_least "_law_least" = true)
  (k_law_least : PySem.W.keepIn K (.ref f_law_least) = true)
  (a_law_floor : PySem.W.nsIn K mainGlobals "_law_floor" = some (some (.ref f_law_floor)))
  (l_law_floor : K.lookup f_law_floor = some ⟨oc_law_floor, od_law_floor, .func (PySem.W.fnOf "_law_floor" "_law_floor" (defArgs s_law_floor) (defBody s_law_floor) (defScope s_law_floor) .none kV_law_floor dc_law_floor pm_law_floor an_law_floor cd_law_floor ct_law_floor), sl_law_floor⟩)
  (c_law_floor : PySem.W.codeIn K cd_law_floor "_law_floor" = true)
  (k_law_floor : PySem.W.keepIn K (.ref f_law_floor) = true)
  (a_law_least_from : PySem.W.nsIn K mainGlobals "_law_least_from" = some (some (.ref f_law_least_from)))
  (l_law_least_from : K.lookup f_law_least_from = some ⟨oc_law_least_from, od_law_least_from, .func (PySem.W.fnOf "_law_least_from" "_law_least_from" (defArgs s_law_least_from) (defBody s_law_least_from) (defScope s_law_least_from) .none kV_law_least_from dc_law_least_from pm_law_least_from an_law_least_from cd_law_least_from ct_law_least_from), sl_law_least_from⟩)
  (c_law_least_from : PySem.W.codeIn K cd_law_least_from "_law_least_from" = true)
  (k_law_least_from : PySem.W.keepIn K (.ref f_law_least_from) = true)
  (a_law_later : PySem.W.nsIn K mainGlobals "_law_later" = some (some (.ref f_law_later)))
  (l_law_later : K.lookup f_law_later = some ⟨oc_law_later, od_law_later, .func (PySem.W.fnOf "_law_later" "_law_later" (defArgs s_law_later) (defBody s_law_later) (defScope s_law_later) .none kV_law_later dc_law_later pm_law_later an_law_later cd_law_later ct_law_later), sl_law_later⟩)
  (c_law_later : PySem.W.codeIn K cd_law_later "_law_later" = true)
  (k_law_later : PySem.W.keepIn K (.ref f_law_later) = true)
  (a_law : PySem.W.nsIn K mainGlobals "law" = some (some (.ref f_law)))
  (l_law : K.lookup f_law = some ⟨oc_law, od_law, .func (PySem.W.fnOf "law" "law" (defArgs s_law) (defBody s_law) (defScope s_law) .none kV_law dc_law pm_law an_law cd_law ct_law), sl_law⟩)
  (c_law : PySem.W.codeIn K cd_law "law" = true)
  (k_law : PySem.W.keepIn K (.ref f_law) = true)
  (a_InvalidRow : PySem.W.nsIn K mainGlobals "InvalidRow" = some (some (.ref C_InvalidRow)))
  (x_InvalidRow : K.lookup C_InvalidRow = some (excClassObj nm_InvalidRow q_InvalidRow C_InvalidRow N_InvalidRow bs_InvalidRow bm_InvalidRow true sn_InvalidRow sub_InvalidRow ab_InvalidRow col_InvalidRow dd_InvalidRow m0_InvalidRow m1_InvalidRow m2_InvalidRow m3_InvalidRow m5_InvalidRow "Exception.__new__"))
  (xt_InvalidRow : PySem.W.excTail [.type "Exception", .type "BaseException", .type "object"] bm_InvalidRow = true)
  (ov_InvalidRow : PySem.W.excOver K C_InvalidRow [.type "Exception", .type "BaseException", .type "object"] = true)
  (sa_InvalidRow : PySem.W.findIn K (.ref C_InvalidRow) "__setattr__" = some (some (.builtin "object.__setattr__")))
  (ga_InvalidRow : PySem.W.findIn K (.ref C_InvalidRow) "__getattribute__" = some (some (.builtin "BaseException.__getattribute__")))
  (gg_InvalidRow : PySem.W.findIn K (.ref C_InvalidRow) "__getattr__" = some none)
  (nn_InvalidRow : PySem.W.findIn K (.ref C_InvalidRow) "field" = some none)
  (ii_InvalidRow : PySem.W.findIn K (.ref C_InvalidRow) "__init__" = some (some (.ref I_InvalidRow)))
  (cc_InvalidRow : PySem.W.findIn K (.ref C_InvalidRow) "__class__" = some (some (.builtin "object.__class__")))
  (ti_InvalidRow : PySem.W.typeIn K (.ref I_InvalidRow) = some (.type "function"))
  (kc_InvalidRow : PySem.W.keepIn K (.ref C_InvalidRow) = true)
  (ex_InvalidRow : PySem.W.subIn K (.ref C_InvalidRow) (.type "BaseException") = some true)
  (tc_InvalidRow : PySem.W.typeIn K (.ref C_InvalidRow) = some (.type "type"))
  (hd_InvalidRow : PySem.W.hasDictIn K C_InvalidRow = true)
  (te_InvalidRow : PySem.W.exmOne K (.ref C_InvalidRow) (.ref C_InvalidRow) = some true)
  (cn_InvalidRow : PySem.W.specialIn K (.builtin "object.__class__") "__get__" = some (some (.builtin "getset_descriptor.__get__")))
  (ct_InvalidRow : PySem.W.takesIn K (.builtin "object.__class__") = some true)
  (cm_InvalidRow : PySem.W.mroIn K C_InvalidRow (.type "object") = some true)
  (li_InvalidRow : K.lookup I_InvalidRow = some ⟨oc_InvalidRow, od_InvalidRow, .func (PySem.W.fnOf "__init__" "InvalidRow.__init__" (defArgs (inClass (top 3) 0)) (defBody (inClass (top 3) 0)) (defScope (inClass (top 3) 0)) .none .none dc_InvalidRow pm_InvalidRow an_InvalidRow cd_InvalidRow cv_InvalidRow), sl_InvalidRow⟩)
  (ci_InvalidRow : PySem.W.codeIn K cd_InvalidRow "InvalidRow.__init__" = true)
  (a_InvalidState : PySem.W.nsIn K mainGlobals "InvalidState" = some (some (.ref C_InvalidState)))
  (x_InvalidState : K.lookup C_InvalidState = some (excClassObj nm_InvalidState q_InvalidState C_InvalidState N_InvalidState bs_InvalidState bm_InvalidState true sn_InvalidState sub_InvalidState ab_InvalidState col_InvalidState dd_InvalidState m0_InvalidState m1_InvalidState m2_InvalidState m3_InvalidState m5_InvalidState "Exception.__new__"))
  (xt_InvalidState : PySem.W.excTail [.type "Exception", .type "BaseException", .type "object"] bm_InvalidState = true)
  (ov_InvalidState : PySem.W.excOver K C_InvalidState [.type "Exception", .type "BaseException", .type "object"] = true)
  (sa_InvalidState : PySem.W.findIn K (.ref C_InvalidState) "__setattr__" = some (some (.builtin "object.__setattr__")))
  (ga_InvalidState : PySem.W.findIn K (.ref C_InvalidState) "__getattribute__" = some (some (.builtin "BaseException.__getattribute__")))
  (gg_InvalidState : PySem.W.findIn K (.ref C_InvalidState) "__getattr__" = some none)
  (nn_InvalidState : PySem.W.findIn K (.ref C_InvalidState) "value" = some none)
  (ii_InvalidState : PySem.W.findIn K (.ref C_InvalidState) "__init__" = some (some (.ref I_InvalidState)))
  (cc_InvalidState : PySem.W.findIn K (.ref C_InvalidState) "__class__" = some (some (.builtin "object.__class__")))
  (ti_InvalidState : PySem.W.typeIn K (.ref I_InvalidState) = some (.type "function"))
  (kc_InvalidState : PySem.W.keepIn K (.ref C_InvalidState) = true)
  (ex_InvalidState : PySem.W.subIn K (.ref C_InvalidState) (.type "BaseException") = some true)
  (tc_InvalidState : PySem.W.typeIn K (.ref C_InvalidState) = some (.type "type"))
  (hd_InvalidState : PySem.W.hasDictIn K C_InvalidState = true)
  (te_InvalidState : PySem.W.exmOne K (.ref C_InvalidState) (.ref C_InvalidState) = some true)
  (cn_InvalidState : PySem.W.specialIn K (.builtin "object.__class__") "__get__" = some (some (.builtin "getset_descriptor.__get__")))
  (ct_InvalidState : PySem.W.takesIn K (.builtin "object.__class__") = some true)
  (cm_InvalidState : PySem.W.mroIn K C_InvalidState (.type "object") = some true)
  (li_InvalidState : K.lookup I_InvalidState = some ⟨oc_InvalidState, od_InvalidState, .func (PySem.W.fnOf "__init__" "InvalidState.__init__" (defArgs (inClass (top 4) 0)) (defBody (inClass (top 4) 0)) (defScope (inClass (top 4) 0)) .none .none dc_InvalidState pm_InvalidState an_InvalidState cd_InvalidState cv_InvalidState), sl_InvalidState⟩)
  (ci_InvalidState : PySem.W.codeIn K cd_InvalidState "InvalidState.__init__" = true)
  (n_MAX_PLACE : PySem.W.nsIn K mainGlobals "MAX_PLACE" = some (some (.int 1000 t_MAX_PLACE)))
  (n_MAX_DIGITS : PySem.W.nsIn K mainGlobals "MAX_DIGITS" = some (some (.int 300 t_MAX_DIGITS)))
  (n_MAX_COST : PySem.W.nsIn K mainGlobals "MAX_COST" = some (some (.int 1000000 t_MAX_COST)))
  (z_abs : PySem.W.nsIn K mainGlobals "abs" = some none)
  (z_bool : PySem.W.nsIn K mainGlobals "bool" = some none)
  (z_enumerate : PySem.W.nsIn K mainGlobals "enumerate" = some none)
  (z_int : PySem.W.nsIn K mainGlobals "int" = some none)
  (z_isinstance : PySem.W.nsIn K mainGlobals "isinstance" = some none)
  (z_len : PySem.W.nsIn K mainGlobals "len" = some none)
  (z_max : PySem.W.nsIn K mainGlobals "max" = some none)
  (z_min : PySem.W.nsIn K mainGlobals "min" = some none)
  (z_range : PySem.W.nsIn K mainGlobals "range" = some none)
  (z_reversed : PySem.W.nsIn K mainGlobals "reversed" = some none)
  (z_sorted : PySem.W.nsIn K mainGlobals "sorted" = some none)
  (z_tuple : PySem.W.nsIn K mainGlobals "tuple" = some none)
  (a_Row : PySem.W.nsIn K mainGlobals "Row" = some (some (.ref C_Row)))
  (pg_Row : PySem.W.plainGet K C_Row Str.empty = true)
  (hd_Row : PySem.W.hasDictIn K C_Row = true)
  (po_Row : PySem.W.plainOver K C_Row = true)
  (sa_Row : PySem.W.findIn K (.ref C_Row) "__setattr__" = some (some (.builtin "object.__setattr__")))
  (nS_Row : PySem.W.findIn K (.ref C_Row) "settings" = some none)
  (ha_Row : PySem.W.findIn K (.ref C_Row) "__class__" = some (some (.builtin "object.__class__")))
  (hn_Row : PySem.W.specialIn K (.builtin "object.__class__") "__get__" = some (some (.builtin "getset_descriptor.__get__")))
  (ht_Row : PySem.W.takesIn K (.builtin "object.__class__") = some true)
  (hm_Row : PySem.W.mroIn K C_Row (.type "object") = some true)
  (i_Row_init : PySem.W.findIn K (.ref C_Row) "__init__" = some (some (.ref f_Row_init)))
  (if_Row_init : PySem.W.isFn K (.ref f_Row_init) = true)
  (l_Row_init : K.lookup f_Row_init = some ⟨oc_Row_init, od_Row_init, .func (PySem.W.fnOf "__init__" "Row.__init__" (defArgs s_Row_init) (defBody s_Row_init) (defScope s_Row_init) .none (.ref D_Row_init) dc_Row_init pm_Row_init an_Row_init cd_Row_init ct_Row_init), sl_Row_init⟩)
  (c_Row_init : PySem.W.codeIn K cd_Row_init "Row.__init__" = true)
  (k_Row_init : PySem.W.keepIn K (.ref f_Row_init) = true)
  (mk_Row : PySem.W.makesIn K C_Row = true)
  (kc_Row : PySem.W.keepIn K (.ref C_Row) = true)
  (d0_Row_init : PySem.W.nsIn K D_Row_init "move" = some (some (.int 1 tk0_Row_init)))
  (d1_Row_init : PySem.W.nsIn K D_Row_init "add" = some (some (.int 1 tk1_Row_init)))
  (d2_Row_init : PySem.W.nsIn K D_Row_init "first" = some (some (.none)))
  (d3_Row_init : PySem.W.nsIn K D_Row_init "last" = some (some (.none)))
  (at_Row_base : PySem.W.findIn K (.ref C_Row) "base" = some (some (.ref p_Row_base)))
  (gt_Row_base : PySem.W.specialIn K (.ref p_Row_base) "__get__" = some (some (.builtin "property.__get__")))
  (tk_Row_base : PySem.W.takesIn K (.ref p_Row_base) = some true)
  (rc_Row_base : PySem.W.recIn K p_Row_base "property" = some (.ref f_Row_base :: rest_Row_base))
  (l_Row_base : K.lookup f_Row_base = some ⟨oc_Row_base, od_Row_base, .func (PySem.W.fnOf "base" "Row.base" (defArgs s_Row_base) (defBody s_Row_base) (defScope s_Row_base) .none kV_Row_base dc_Row_base pm_Row_base an_Row_base cd_Row_base ct_Row_base), sl_Row_base⟩)
  (c_Row_base : PySem.W.codeIn K cd_Row_base "Row.base" = true)
  (k_Row_base : PySem.W.keepIn K (.ref f_Row_base) = true)
  (at_Row_move_cost : PySem.W.findIn K (.ref C_Row) "move_cost" = some (some (.ref p_Row_move_cost)))
  (gt_Row_move_cost : PySem.W.specialIn K (.ref p_Row_move_cost) "__get__" = some (some (.builtin "property.__get__")))
  (tk_Row_move_cost : PySem.W.takesIn K (.ref p_Row_move_cost) = some true)
  (rc_Row_move_cost : PySem.W.recIn K p_Row_move_cost "property" = some (.ref f_Row_move_cost :: rest_Row_move_cost))
  (l_Row_move_cost : K.lookup f_Row_move_cost = some ⟨oc_Row_move_cost, od_Row_move_cost, .func (PySem.W.fnOf "move_cost" "Row.move_cost" (defArgs s_Row_move_cost) (defBody s_Row_move_cost) (defScope s_Row_move_cost) .none kV_Row_move_cost dc_Row_move_cost pm_Row_move_cost an_Row_move_cost cd_Row_move_cost ct_Row_move_cost), sl_Row_move_cost⟩)
  (c_Row_move_cost : PySem.W.codeIn K cd_Row_move_cost "Row.move_cost" = true)
  (k_Row_move_cost : PySem.W.keepIn K (.ref f_Row_move_cost) = true)
  (at_Row_add_cost : PySem.W.findIn K (.ref C_Row) "add_cost" = some (some (.ref p_Row_add_cost)))
  (gt_Row_add_cost : PySem.W.specialIn K (.ref p_Row_add_cost) "__get__" = some (some (.builtin "property.__get__")))
  (tk_Row_add_cost : PySem.W.takesIn K (.ref p_Row_add_cost) = some true)
  (rc_Row_add_cost : PySem.W.recIn K p_Row_add_cost "property" = some (.ref f_Row_add_cost :: rest_Row_add_cost))
  (l_Row_add_cost : K.lookup f_Row_add_cost = some ⟨oc_Row_add_cost, od_Row_add_cost, .func (PySem.W.fnOf "add_cost" "Row.add_cost" (defArgs s_Row_add_cost) (defBody s_Row_add_cost) (defScope s_Row_add_cost) .none kV_Row_add_cost dc_Row_add_cost pm_Row_add_cost an_Row_add_cost cd_Row_add_cost ct_Row_add_cost), sl_Row_add_cost⟩)
  (c_Row_add_cost : PySem.W.codeIn K cd_Row_add_cost "Row.add_cost" = true)
  (k_Row_add_cost : PySem.W.keepIn K (.ref f_Row_add_cost) = true)
  (at_Row_first : PySem.W.findIn K (.ref C_Row) "first" = some (some (.ref p_Row_first)))
  (gt_Row_first : PySem.W.specialIn K (.ref p_Row_first) "__get__" = some (some (.builtin "property.__get__")))
  (tk_Row_first : PySem.W.takesIn K (.ref p_Row_first) = some true)
  (rc_Row_first : PySem.W.recIn K p_Row_first "property" = some (.ref f_Row_first :: rest_Row_first))
  (l_Row_first : K.lookup f_Row_first = some ⟨oc_Row_first, od_Row_first, .func (PySem.W.fnOf "first" "Row.first" (defArgs s_Row_first) (defBody s_Row_first) (defScope s_Row_first) .none kV_Row_first dc_Row_first pm_Row_first an_Row_first cd_Row_first ct_Row_first), sl_Row_first⟩)
  (c_Row_first : PySem.W.codeIn K cd_Row_first "Row.first" = true)
  (k_Row_first : PySem.W.keepIn K (.ref f_Row_first) = true)
  (at_Row_last : PySem.W.findIn K (.ref C_Row) "last" = some (some (.ref p_Row_last)))
  (gt_Row_last : PySem.W.specialIn K (.ref p_Row_last) "__get__" = some (some (.builtin "property.__get__")))
  (tk_Row_last : PySem.W.takesIn K (.ref p_Row_last) = some true)
  (rc_Row_last : PySem.W.recIn K p_Row_last "property" = some (.ref f_Row_last :: rest_Row_last))
  (l_Row_last : K.lookup f_Row_last = some ⟨oc_Row_last, od_Row_last, .func (PySem.W.fnOf "last" "Row.last" (defArgs s_Row_last) (defBody s_Row_last) (defScope s_Row_last) .none kV_Row_last dc_Row_last pm_Row_last an_Row_last cd_Row_last ct_Row_last), sl_Row_last⟩)
  (c_Row_last : PySem.W.codeIn K cd_Row_last "Row.last" = true)
  (k_Row_last : PySem.W.keepIn K (.ref f_Row_last) = true)
  (at_Row_has_place : PySem.W.findIn K (.ref C_Row) "has_place" = some (some (.ref f_Row_has_place)))
  (if_Row_has_place : PySem.W.isFn K (.ref f_Row_has_place) = true)
  (l_Row_has_place : K.lookup f_Row_has_place = some ⟨oc_Row_has_place, od_Row_has_place, .func (PySem.W.fnOf "has_place" "Row.has_place" (defArgs s_Row_has_place) (defBody s_Row_has_place) (defScope s_Row_has_place) .none kV_Row_has_place dc_Row_has_place pm_Row_has_place an_Row_has_place cd_Row_has_place ct_Row_has_place), sl_Row_has_place⟩)
  (c_Row_has_place : PySem.W.codeIn K cd_Row_has_place "Row.has_place" = true)
  (k_Row_has_place : PySem.W.keepIn K (.ref f_Row_has_place) = true)
  (rd_Row : PySem.W.readsIn K C_Row (.type "type") = true)
  (rg_Row : PySem.W.specialIn K (.ref C_Row) "__getattribute__" = some (some (.builtin "type.__getattribute__")))
  (v_MIN_BASE : PySem.W.findCls K (.ref C_Row) (.type "type") "MIN_BASE" = some (.val (.int 2 tv_MIN_BASE)))
  (v_MAX_BASE : PySem.W.findCls K (.ref C_Row) (.type "type") "MAX_BASE" = some (.val (.int 36 tv_MAX_BASE)))
  (a_Sweep : PySem.W.nsIn K mainGlobals "Sweep" = some (some (.ref C_Sweep)))
  (pg_Sweep : PySem.W.plainGet K C_Sweep Str.empty = true)
  (hd_Sweep : PySem.W.hasDictIn K C_Sweep = true)
  (po_Sweep : PySem.W.plainOver K C_Sweep = true)
  (sa_Sweep : PySem.W.findIn K (.ref C_Sweep) "__setattr__" = some (some (.builtin "object.__setattr__")))
  (nSweep_row : PySem.W.findIn K (.ref C_Sweep) "row" = some none)
  (nSweep_low : PySem.W.findIn K (.ref C_Sweep) "low" = some none)
  (nSweep_span : PySem.W.findIn K (.ref C_Sweep) "span" = some none)
  (nSweep_ready : PySem.W.findIn K (.ref C_Sweep) "ready" = some none)
  (nSweep_floors : PySem.W.findIn K (.ref C_Sweep) "floors" = some none)
  (i_Sweep_init : PySem.W.findIn K (.ref C_Sweep) "__init__" = some (some (.ref f_Sweep_init)))
  (if_Sweep_init : PySem.W.isFn K (.ref f_Sweep_init) = true)
  (l_Sweep_init : K.lookup f_Sweep_init = some ⟨oc_Sweep_init, od_Sweep_init, .func (PySem.W.fnOf "__init__" "Sweep.__init__" (defArgs s_Sweep_init) (defBody s_Sweep_init) (defScope s_Sweep_init) .none kV_Sweep_init dc_Sweep_init pm_Sweep_init an_Sweep_init cd_Sweep_init ct_Sweep_init), sl_Sweep_init⟩)
  (c_Sweep_init : PySem.W.codeIn K cd_Sweep_init "Sweep.__init__" = true)
  (k_Sweep_init : PySem.W.keepIn K (.ref f_Sweep_init) = true)
  (mk_Sweep : PySem.W.makesIn K C_Sweep = true)
  (kc_Sweep : PySem.W.keepIn K (.ref C_Sweep) = true)
  (at_Sweep_choices : PySem.W.findIn K (.ref C_Sweep) "choices" = some (some (.ref f_Sweep_choices)))
  (if_Sweep_choices : PySem.W.isFn K (.ref f_Sweep_choices) = true)
  (l_Sweep_choices : K.lookup f_Sweep_choices = some ⟨oc_Sweep_choices, od_Sweep_choices, .func (PySem.W.fnOf "choices" "Sweep.choices" (defArgs s_Sweep_choices) (defBody s_Sweep_choices) (defScope s_Sweep_choices) .none kV_Sweep_choices dc_Sweep_choices pm_Sweep_choices an_Sweep_choices cd_Sweep_choices ct_Sweep_choices), sl_Sweep_choices⟩)
  (c_Sweep_choices : PySem.W.codeIn K cd_Sweep_choices "Sweep.choices" = true)
  (k_Sweep_choices : PySem.W.keepIn K (.ref f_Sweep_choices) = true)
  (at_Sweep_steps : PySem.W.findIn K (.ref C_Sweep) "steps" = some (some (.ref f_Sweep_steps)))
  (if_Sweep_steps : PySem.W.isFn K (.ref f_Sweep_steps) = true)
  (l_Sweep_steps : K.lookup f_Sweep_steps = some ⟨oc_Sweep_steps, od_Sweep_steps, .func (PySem.W.fnOf "steps" "Sweep.steps" (defArgs s_Sweep_steps) (defBody s_Sweep_steps) (defScope s_Sweep_steps) .none kV_Sweep_steps dc_Sweep_steps pm_Sweep_steps an_Sweep_steps cd_Sweep_steps ct_Sweep_steps), sl_Sweep_steps⟩)
  (c_Sweep_steps : PySem.W.codeIn K cd_Sweep_steps "Sweep.steps" = true)
  (k_Sweep_steps : PySem.W.keepIn K (.ref f_Sweep_steps) = true)
  (at_Sweep_least_costs : PySem.W.findIn K (.ref C_Sweep) "least_costs" = some (some (.ref f_Sweep_least_costs)))
  (if_Sweep_least_costs : PySem.W.isFn K (.ref f_Sweep_least_costs) = true)
  (l_Sweep_least_costs : K.lookup f_Sweep_least_costs = some ⟨oc_Sweep_least_costs, od_Sweep_least_costs, .func (PySem.W.fnOf "least_costs" "Sweep.least_costs" (defArgs s_Sweep_least_costs) (defBody s_Sweep_least_costs) (defScope s_Sweep_least_costs) .none kV_Sweep_least_costs dc_Sweep_least_costs pm_Sweep_least_costs an_Sweep_least_costs cd_Sweep_least_costs ct_Sweep_least_costs), sl_Sweep_least_costs⟩)
  (c_Sweep_least_costs : PySem.W.codeIn K cd_Sweep_least_costs "Sweep.least_costs" = true)
  (k_Sweep_least_costs : PySem.W.keepIn K (.ref f_Sweep_least_costs) = true)
  (at_Sweep_moves : PySem.W.findIn K (.ref C_Sweep) "moves" = some (some (.ref f_Sweep_moves)))
  (if_Sweep_moves : PySem.W.isFn K (.ref f_Sweep_moves) = true)
  (l_Sweep_moves : K.lookup f_Sweep_moves = some ⟨oc_Sweep_moves, od_Sweep_moves, .func (PySem.W.fnOf "moves" "Sweep.moves" (defArgs s_Sweep_moves) (defBody s_Sweep_moves) (defScope s_Sweep_moves) .none kV_Sweep_moves dc_Sweep_moves pm_Sweep_moves an_Sweep_moves cd_Sweep_moves ct_Sweep_moves), sl_Sweep_moves⟩)
  (c_Sweep_moves : PySem.W.codeIn K cd_Sweep_moves "Sweep.moves" = true)
  (k_Sweep_moves : PySem.W.keepIn K (.ref f_Sweep_moves) = true)
  (at_Sweep_end_cost : PySem.W.findIn K (.ref C_Sweep) "end_cost" = some (some (.ref f_Sweep_end_cost)))
  (if_Sweep_end_cost : PySem.W.isFn K (.ref f_Sweep_end_cost) = true)
  (l_Sweep_end_cost : K.lookup f_Sweep_end_cost = some ⟨oc_Sweep_end_cost, od_Sweep_end_cost, .func (PySem.W.fnOf "end_cost" "Sweep.end_cost" (defArgs s_Sweep_end_cost) (defBody s_Sweep_end_cost) (defScope s_Sweep_end_cost) .none kV_Sweep_end_cost dc_Sweep_end_cost pm_Sweep_end_cost an_Sweep_end_cost cd_Sweep_end_cost ct_Sweep_end_cost), sl_Sweep_end_cost⟩)
  (c_Sweep_end_cost : PySem.W.codeIn K cd_Sweep_end_cost "Sweep.end_cost" = true)
  (k_Sweep_end_cost : PySem.W.keepIn K (.ref f_Sweep_end_cost) = true)
  (at_Sweep_ends : PySem.W.findIn K (.ref C_Sweep) "ends" = some (some (.ref f_Sweep_ends)))
  (if_Sweep_ends : PySem.W.isFn K (.ref f_Sweep_ends) = true)
  (l_Sweep_ends : K.lookup f_Sweep_ends = some ⟨oc_Sweep_ends, od_Sweep_ends, .func (PySem.W.fnOf "ends" "Sweep.ends" (defArgs s_Sweep_ends) (defBody s_Sweep_ends) (defScope s_Sweep_ends) .none kV_Sweep_ends dc_Sweep_ends pm_Sweep_ends an_Sweep_ends cd_Sweep_ends ct_Sweep_ends), sl_Sweep_ends⟩)
  (c_Sweep_ends : PySem.W.codeIn K cd_Sweep_ends "Sweep.ends" = true)
  (k_Sweep_ends : PySem.W.keepIn K (.ref f_Sweep_ends) = true)
  : Tx K mg :=
  { f_wall := _, fd_wall := _, wall := ⟨fun_mk (st := s_wall) l_wall c_wall k_wall, PySem.W.mg_of X G a_wall, (fun_mk (st := s_wall) l_wall c_wall k_wall).binds (ps := ["k"]) fun _ _ _ _ _ _ us hl => match us, hl with | [_], _ => rfl⟩,
    f_is_whole := _, fd_is_whole := _, is_whole := ⟨fun_mk (st := s_is_whole) l_is_whole c_is_whole k_is_whole, PySem.W.mg_of X G a_is_whole, (fun_mk (st := s_is_whole) l_is_whole c_is_whole k_is_whole).binds (ps := ["value"]) fun _ _ _ _ _ _ us hl => match us, hl with | [_], _ => rfl⟩,
    f_is_within := _, fd_is_within := _, is_within := ⟨fun_mk (st := s_is_within) l_is_within c_is_within k_is_within, PySem.W.mg_of X G a_is_within, (fun_mk (st := s_is_within) l_is_within c_is_within k_is_within).binds (ps := ["value", "low", "high"]) fun _ _ _ _ _ _ us hl => match us, hl with | [_, _, _], _ => rfl⟩,
    f_is_place := _, fd_is_place := _, is_place := ⟨fun_mk (st := s_is_place) l_is_place c_is_place k_is_place, PySem.W.mg_of X G a_is_place, (fun_mk (st := s_is_place) l_is_place c_is_place k_is_place).binds (ps := ["value"]) fun _ _ _ _ _ _ us hl => match us, hl with | [_], _ => rfl⟩,
    f_power_of := _, fd_power_of := _, power_of := ⟨fun_mk (st := s_power_of) l_power_of c_power_of k_power_of, PySem.W.mg_of X G a_power_of, (fun_mk (st := s_power_of) l_power_of c_power_of k_power_of).binds (ps := ["base", "count"]) fun _ _ _ _ _ _ us hl => match us, hl with | [_, _], _ => rfl⟩,
    f_is_number := _, fd_is_number := _, is_number := ⟨fun_mk (st := s_is_number) l_is_number c_is_number k_is_number, PySem.W.mg_of X G a_is_number, (fun_mk (st := s_is_number) l_is_number c_is_number k_is_number).binds (ps := ["base", "value"]) fun _ _ _ _ _ _ us hl => match us, hl with | [_, _], _ => rfl⟩,
    f_units := _, fd_units := _, units := ⟨fun_mk (st := s_units) l_units c_units k_units, PySem.W.mg_of X G a_units, (fun_mk (st := s_units) l_units c_units k_units).binds (ps := ["base", "number", "place"]) fun _ _ _ _ _ _ us hl => match us, hl with | [_, _, _], _ => rfl⟩,
    f_negative := _, fd_negative := _, negative := ⟨fun_mk (st := s_negative) l_negative c_negative k_negative, PySem.W.mg_of X G a_negative, (fun_mk (st := s_negative) l_negative c_negative k_negative).binds (ps := ["number"]) fun _ _ _ _ _ _ us hl => match us, hl with | [_], _ => rfl⟩,
    f_form_of := _, fd_form_of := _, form_of := ⟨fun_mk (st := s_form_of) l_form_of c_form_of k_form_of, PySem.W.mg_of X G a_form_of, (fun_mk (st := s_form_of) l_form_of c_form_of k_form_of).binds (ps := ["base", "numerator", "exponent"]) fun _ _ _ _ _ _ us hl => match us, hl with | [_, _, _], _ => rfl⟩,
    f_sum_of := _, fd_sum_of := _, sum_of := ⟨fun_mk (st := s_sum_of) l_sum_of c_sum_of k_sum_of, PySem.W.mg_of X G a_sum_of, (fun_mk (st := s_sum_of) l_sum_of c_sum_of k_sum_of).binds (ps := ["base", "parts"]) fun _ _ _ _ _ _ us hl => match us, hl with | [_, _], _ => rfl⟩,
    f_has_few_digits := _, fd_has_few_digits := _, has_few_digits := ⟨fun_mk (st := s_has_few_digits) l_has_few_digits c_has_few_digits k_has_few_digits, PySem.W.mg_of X G a_has_few_digits, (fun_mk (st := s_has_few_digits) l_has_few_digits c_has_few_digits k_has_few_digits).binds (ps := ["numerator"]) fun _ _ _ _ _ _ us hl => match us, hl with | [_], _ => rfl⟩,
    f_without_factors := _, fd_without_factors := _, without_factors := ⟨fun_mk (st := s_without_factors) l_without_factors c_without_factors k_without_factors, PySem.W.mg_of X G a_without_factors, (fun_mk (st := s_without_factors) l_without_factors c_without_factors k_without_factors).binds (ps := ["base", "numerator"]) fun _ _ _ _ _ _ us hl => match us, hl with | [_, _], _ => rfl⟩,
    f_is_state := _, fd_is_state := _, is_state := ⟨fun_mk (st := s_is_state) l_is_state c_is_state k_is_state, PySem.W.mg_of X G a_is_state, (fun_mk (st := s_is_state) l_is_state c_is_state k_is_state).binds (ps := ["row", "value"]) fun _ _ _ _ _ _ us hl => match us, hl with | [_, _], _ => rfl⟩,
    f_is_pair := _, fd_is_pair := _, is_pair := ⟨fun_mk (st := s_is_pair) l_is_pair c_is_pair k_is_pair, PySem.W.mg_of X G a_is_pair, (fun_mk (st := s_is_pair) l_is_pair c_is_pair k_is_pair).binds (ps := ["base", "value"]) fun _ _ _ _ _ _ us hl => match us, hl with | [_, _], _ => rfl⟩,
    f_require_state := _, fd_require_state := _, require_state := ⟨fun_mk (st := s_require_state) l_require_state c_require_state k_require_state, PySem.W.mg_of X G a_require_state, (fun_mk (st := s_require_state) l_require_state c_require_state k_require_state).binds (ps := ["row", "value"]) fun _ _ _ _ _ _ us hl => match us, hl with | [_, _], _ => rfl⟩,
    f_require_states := _, fd_require_states := _, require_states := ⟨fun_mk (st := s_require_states) l_require_states c_require_states k_require_states, PySem.W.mg_of X G a_require_states, (fun_mk (st := s_require_states) l_require_states c_require_states k_require_states).binds (ps := ["row", "values"]) fun _ _ _ _ _ _ us hl => match us, hl with | [_, _], _ => rfl⟩,
    f_distance := _, fd_distance := _, distance := ⟨fun_mk (st := s_distance) l_distance c_distance k_distance, PySem.W.mg_of X G a_distance, (fun_mk (st := s_distance) l_distance c_distance k_distance).binds (ps := ["row", "start", "goal"]) fun _ _ _ _ _ _ us hl => match us, hl with | [_, _, _], _ => rfl⟩,
    f_sweep_between := _, fd_sweep_between := _, sweep_between := ⟨fun_mk (st := s_sweep_between) l_sweep_between c_sweep_between k_sweep_between, PySem.W.mg_of X G a_sweep_between, (fun_mk (st := s_sweep_between) l_sweep_between c_sweep_between k_sweep_between).binds (ps := ["row", "start", "goal"]) fun _ _ _ _ _ _ us hl => match us, hl with | [_, _, _], _ => rfl⟩,
    f_sweep_of_any := _, fd_sweep_of_any := _, sweep_of_any := ⟨fun_mk (st := s_sweep_of_any) l_sweep_of_any c_sweep_of_any k_sweep_of_any, PySem.W.mg_of X G a_sweep_of_any, (fun_mk (st := s_sweep_of_any) l_sweep_of_any c_sweep_of_any k_sweep_of_any).binds (ps := ["row", "start", "goal"]) fun _ _ _ _ _ _ us hl => match us, hl with | [_, _, _], _ => rfl⟩,
    f_least_cost := _, fd_least_cost := _, least_cost := ⟨fun_mk (st := s_least_cost) l_least_cost c_least_cost k_least_cost, PySem.W.mg_of X G a_least_cost, (fun_mk (st := s_least_cost) l_least_cost c_least_cost k_least_cost).binds (ps := ["sweep"]) fun _ _ _ _ _ _ us hl => match us, hl with | [_], _ => rfl⟩,
    f_difference := _, fd_difference := _, difference := ⟨fun_mk (st := s_difference) l_difference c_difference k_difference, PySem.W.mg_of X G a_difference, (fun_mk (st := s_difference) l_difference c_difference k_difference).binds (ps := ["base", "start", "goal"]) fun _ _ _ _ _ _ us hl => match us, hl with | [_, _, _], _ => rfl⟩,
    f_floors_up := _, fd_floors_up := _, floors_up := ⟨fun_mk (st := s_floors_up) l_floors_up c_floors_up k_floors_up, PySem.W.mg_of X G a_floors_up, (fun_mk (st := s_floors_up) l_floors_up c_floors_up k_floors_up).binds (ps := ["row", "value", "low", "ready"]) fun _ _ _ _ _ _ us hl => match us, hl with | [_, _, _, _], _ => rfl⟩,
    f_invalid_field := _, fd_invalid_field := _, invalid_field := ⟨fun_mk (st := s_invalid_field) l_invalid_field c_invalid_field k_invalid_field, PySem.W.mg_of X G a_invalid_field, (fun_mk (st := s_invalid_field) l_invalid_field c_invalid_field k_invalid_field).binds (ps := ["base", "move", "add", "first", "last"]) fun _ _ _ _ _ _ us hl => match us, hl with | [_, _, _, _, _], _ => rfl⟩,
    f_is_cost := _, fd_is_cost := _, is_cost := ⟨fun_mk (st := s_is_cost) l_is_cost c_is_cost k_is_cost, PySem.W.mg_of X G a_is_cost, (fun_mk (st := s_is_cost) l_is_cost c_is_cost k_is_cost).binds (ps := ["value"]) fun _ _ _ _ _ _ us hl => match us, hl with | [_], _ => rfl⟩,
    f_is_end := _, fd_is_end := _, is_end := ⟨fun_mk (st := s_is_end) l_is_end c_is_end k_is_end, PySem.W.mg_of X G a_is_end, (fun_mk (st := s_is_end) l_is_end c_is_end k_is_end).binds (ps := ["value"]) fun _ _ _ _ _ _ us hl => match us, hl with | [_], _ => rfl⟩,
    f_law_numbers := _, fd_law_numbers := _, law_numbers := ⟨fun_mk (st := s_law_numbers) l_law_numbers c_law_numbers k_law_numbers, PySem.W.mg_of X G a_law_numbers, (fun_mk (st := s_law_numbers) l_law_numbers c_law_numbers k_law_numbers).binds (ps := ["_law_cell", "_law_salt", "_law_sizes"]) fun _ _ _ _ _ _ us hl => match us, hl with | [_, _, _], _ => rfl⟩,
    f_law_power := _, fd_law_power := _, law_power := ⟨fun_mk (st := s_law_power) l_law_power c_law_power k_law_power, PySem.W.mg_of X G a_law_power, (fun_mk (st := s_law_power) l_law_power c_law_power k_law_power).binds (ps := ["_law_base", "_law_count"]) fun _ _ _ _ _ _ us hl => match us, hl with | [_, _], _ => rfl⟩,
    f_law_reduced := _, fd_law_reduced := _, law_reduced := ⟨fun_mk (st := s_law_reduced) l_law_reduced c_law_reduced k_law_reduced, PySem.W.mg_of X G a_law_reduced, (fun_mk (st := s_law_reduced) l_law_reduced c_law_reduced k_law_reduced).binds (ps := ["_law_base", "_law_numerator", "_law_exponent"]) fun _ _ _ _ _ _ us hl => match us, hl with | [_, _, _], _ => rfl⟩,
    f_law_sum := _, fd_law_sum := _, law_sum := ⟨fun_mk (st := s_law_sum) l_law_sum c_law_sum k_law_sum, PySem.W.mg_of X G a_law_sum, (fun_mk (st := s_law_sum) l_law_sum c_law_sum k_law_sum).binds (ps := ["_law_base", "_law_one", "_law_other"]) fun _ _ _ _ _ _ us hl => match us, hl with | [_, _, _], _ => rfl⟩,
    f_law_integer := _, fd_law_integer := _, law_integer := ⟨fun_mk (st := s_law_integer) l_law_integer c_law_integer k_law_integer, PySem.W.mg_of X G a_law_integer, (fun_mk (st := s_law_integer) l_law_integer c_law_integer k_law_integer).binds (ps := ["_law_digits"]) fun _ _ _ _ _ _ us hl => match us, hl with | [_], _ => rfl⟩,
    f_law_spec := _, fd_law_spec := _, law_spec := ⟨fun_mk (st := s_law_spec) l_law_spec c_law_spec k_law_spec, PySem.W.mg_of X G a_law_spec, (fun_mk (st := s_law_spec) l_law_spec c_law_spec k_law_spec).binds (ps := ["_law_digits"]) fun _ _ _ _ _ _ us hl => match us, hl with | [_], _ => rfl⟩,
    f_law_row := _, fd_law_row := _, law_row := ⟨fun_mk (st := s_law_row) l_law_row c_law_row k_law_row, PySem.W.mg_of X G a_law_row, (fun_mk (st := s_law_row) l_law_row c_law_row k_law_row).binds (ps := ["_law_spec_here"]) fun _ _ _ _ _ _ us hl => match us, hl with | [_], _ => rfl⟩,
    f_law_position := _, fd_law_position := _, law_position := ⟨fun_mk (st := s_law_position) l_law_position c_law_position k_law_position, PySem.W.mg_of X G a_law_position, (fun_mk (st := s_law_position) l_law_position c_law_position k_law_position).binds (ps := ["_law_spec_here", "_law_digit"]) fun _ _ _ _ _ _ us hl => match us, hl with | [_, _], _ => rfl⟩,
    f_law_state := _, fd_law_state := _, law_state := ⟨fun_mk (st := s_law_state) l_law_state c_law_state k_law_state, PySem.W.mg_of X G a_law_state, (fun_mk (st := s_law_state) l_law_state c_law_state k_law_state).binds (ps := ["_law_spec_here", "_law_digits"]) fun _ _ _ _ _ _ us hl => match us, hl with | [_, _], _ => rfl⟩,
    f_law_least := _, fd_law_least := _, law_least := ⟨fun_mk (st := s_law_least) l_law_least c_law_least k_law_least, PySem.W.mg_of X G a_law_least, (fun_mk (st := s_law_least) l_law_least c_law_least k_law_least).binds (ps := ["_law_spec_here", "_law_start", "_law_goal"]) fun _ _ _ _ _ _ us hl => match us, hl with | [_, _, _], _ => rfl⟩,
    f_law_floor := _, fd_law_floor := _, law_floor := ⟨fun_mk (st := s_law_floor) l_law_floor c_law_floor k_law_floor, PySem.W.mg_of X G a_law_floor, (fun_mk (st := s_law_floor) l_law_floor c_law_floor k_law_floor).binds (ps := ["_law_base", "_law_number_here", "_law_place"]) fun _ _ _ _ _ _ us hl => match us, hl with | [_, _, _], _ => rfl⟩,
    f_law_least_from := _, fd_law_least_from := _, law_least_from := ⟨fun_mk (st := s_law_least_from) l_law_least_from c_law_least_from k_law_least_from, PySem.W.mg_of X G a_law_least_from, (fun_mk (st := s_law_least_from) l_law_least_from c_law_least_from k_law_least_from).binds (ps := ["_law_spec_here", "_law_number_here", "_law_ends", "_law_shift"]) fun _ _ _ _ _ _ us hl => match us, hl with | [_, _, _, _], _ => rfl⟩,
    f_law_later := _, fd_law_later := _, law_later := ⟨fun_mk (st := s_law_later) l_law_later c_law_later k_law_later, PySem.W.mg_of X G a_law_later, (fun_mk (st := s_law_later) l_law_later c_law_later k_law_later).binds (ps := ["_law_base", "_law_counts"]) fun _ _ _ _ _ _ us hl => match us, hl with | [_, _], _ => rfl⟩,
    f_law := _, fd_law := _, law := ⟨fun_mk (st := s_law) l_law c_law k_law, PySem.W.mg_of X G a_law, (fun_mk (st := s_law) l_law c_law k_law).binds (ps := ["_law_script"]) fun _ _ _ _ _ _ us hl => match us, hl with | [_], _ => rfl⟩,
    C_InvalidRow := _, fI_InvalidRow := _, InvalidRow := { gC := PySem.W.mg_of X G a_InvalidRow, cls := ⟨_, _, _, _, _, _, _, _, _, _, _, _, _, _, _, x_InvalidRow, xt_InvalidRow⟩, FB := ⟨_, PySem.F.excBase_Exception⟩, SF := PySem.F.store_Exception, over := ov_InvalidRow, sa := sa_InvalidRow, ga := ga_InvalidRow, gg := gg_InvalidRow, noN := nn_InvalidRow, iC := ii_InvalidRow, tC := ti_InvalidRow, kC := kc_InvalidRow, exC := ex_InvalidRow, tyC := tc_InvalidRow, hdC := hd_InvalidRow, te := te_InvalidRow, cc := cc_InvalidRow, cn := cn_InvalidRow, ct := ct_InvalidRow, cm := cm_InvalidRow, fn := ⟨_, _, _, _, _, _, _, _, (inClass (top 3) 0), _, li_InvalidRow, ci_InvalidRow, ⟨⟨_, _, _, _, rfl⟩, rfl, rfl, rfl, rfl, rfl, by decide +kernel, by decide +kernel, fun _ _ _ _ _ _ _ => rfl, fun _ _ _ => rfl, fun _ _ _ => rfl, fun _ _ _ _ _ _ _ => rfl⟩⟩ },
    C_InvalidState := _, fI_InvalidState := _, InvalidState := { gC := PySem.W.mg_of X G a_InvalidState, cls := ⟨_, _, _, _, _, _, _, _, _, _, _, _, _, _, _, x_InvalidState, xt_InvalidState⟩, FB := ⟨_, PySem.F.excBase_Exception⟩, SF := PySem.F.store_Exception, over := ov_InvalidState, sa := sa_InvalidState, ga := ga_InvalidState, gg := gg_InvalidState, noN := nn_InvalidState, iC := ii_InvalidState, tC := ti_InvalidState, kC := kc_InvalidState, exC := ex_InvalidState, tyC := tc_InvalidState, hdC := hd_InvalidState, te := te_InvalidState, cc := cc_InvalidState, cn := cn_InvalidState, ct := ct_InvalidState, cm := cm_InvalidState, fn := ⟨_, _, _, _, _, _, _, _, (inClass (top 4) 0), _, li_InvalidState, ci_InvalidState, ⟨⟨_, _, _, _, rfl⟩, rfl, rfl, rfl, rfl, rfl, by decide +kernel, by decide +kernel, fun _ _ _ _ _ _ _ => rfl, fun _ _ _ => rfl, fun _ _ _ => rfl, fun _ _ _ _ _ _ _ => rfl⟩⟩ },
    t_MAX_PLACE := _, c_MAX_PLACE := PySem.W.mg_of X G n_MAX_PLACE,
    t_MAX_DIGITS := _, c_MAX_DIGITS := PySem.W.mg_of X G n_MAX_DIGITS,
    t_MAX_COST := _, c_MAX_COST := PySem.W.mg_of X G n_MAX_COST,
    b_abs := PySem.W.mg_none_of X G z_abs,
    b_bool := PySem.W.mg_none_of X G z_bool,
    b_enumerate := PySem.W.mg_none_of X G z_enumerate,
    b_int := PySem.W.mg_none_of X G z_int,
    b_isinstance := PySem.W.mg_none_of X G z_isinstance,
    b_len := PySem.W.mg_none_of X G z_len,
    b_max := PySem.W.mg_none_of X G z_max,
    b_min := PySem.W.mg_none_of X G z_min,
    b_range := PySem.W.mg_none_of X G z_range,
    b_reversed := PySem.W.mg_none_of X G z_reversed,
    b_sorted := PySem.W.mg_none_of X G z_sorted,
    b_tuple := PySem.W.mg_none_of X G z_tuple,
    C_Row := _, g_Row := PySem.W.mg_of X G a_Row,
    cl := ⟨pg_Row, hd_Row, po_Row, sa_Row⟩, nS := nS_Row,
    ty := fun e => .base (.ins e ⟨pg_Row, hd_Row, po_Row, sa_Row⟩ ha_Row hn_Row ht_Row hm_Row),
    f_Row_init := _, fd_Row_init := _, F_Row_init := ⟨⟨_, _, _, _, _, _, _, _, _, _, rfl, l_Row_init, c_Row_init, .inl ⟨rfl, rfl⟩, .inr ⟨_, rfl, fun q hq => by
        simp only [List.mem_cons, List.not_mem_nil, or_false] at hq
        rcases hq with rfl | rfl | rfl | rfl
        · exact ⟨_, d0_Row_init, ⟨_, rfl⟩⟩
        · exact ⟨_, d1_Row_init, ⟨_, rfl⟩⟩
        · exact ⟨_, d2_Row_init, rfl⟩
        · exact ⟨_, d3_Row_init, rfl⟩⟩⟩, k_Row_init⟩, mkR := ⟨mk_Row, i_Row_init, if_Row_init, kc_Row⟩,
    f_Row_base := _, fd_Row_base := _, F_Row_base := fun_mk (st := s_Row_base) l_Row_base c_Row_base k_Row_base, b_Row_base := (fun_mk (st := s_Row_base) l_Row_base c_Row_base k_Row_base).binds (ps := ["self"]) fun _ _ _ _ _ _ us hl => match us, hl with | [_], _ => rfl,
    q_Row_base := _, p_Row_base := ⟨at_Row_base, gt_Row_base, tk_Row_base, _, rc_Row_base⟩,
    f_Row_move_cost := _, fd_Row_move_cost := _, F_Row_move_cost := fun_mk (st := s_Row_move_cost) l_Row_move_cost c_Row_move_cost k_Row_move_cost, b_Row_move_cost := (fun_mk (st := s_Row_move_cost) l_Row_move_cost c_Row_move_cost k_Row_move_cost).binds (ps := ["self"]) fun _ _ _ _ _ _ us hl => match us, hl with | [_], _ => rfl,
    q_Row_move_cost := _, p_Row_move_cost := ⟨at_Row_move_cost, gt_Row_move_cost, tk_Row_move_cost, _, rc_Row_move_cost⟩,
    f_Row_add_cost := _, fd_Row_add_cost := _, F_Row_add_cost := fun_mk (st := s_Row_add_cost) l_Row_add_cost c_Row_add_cost k_Row_add_cost, b_Row_add_cost := (fun_mk (st := s_Row_add_cost) l_Row_add_cost c_Row_add_cost k_Row_add_cost).binds (ps := ["self"]) fun _ _ _ _ _ _ us hl => match us, hl with | [_], _ => rfl,
    q_Row_add_cost := _, p_Row_add_cost := ⟨at_Row_add_cost, gt_Row_add_cost, tk_Row_add_cost, _, rc_Row_add_cost⟩,
    f_Row_first := _, fd_Row_first := _, F_Row_first := fun_mk (st := s_Row_first) l_Row_first c_Row_first k_Row_first, b_Row_first := (fun_mk (st := s_Row_first) l_Row_first c_Row_first k_Row_first).binds (ps := ["self"]) fun _ _ _ _ _ _ us hl => match us, hl with | [_], _ => rfl,
    q_Row_first := _, p_Row_first := ⟨at_Row_first, gt_Row_first, tk_Row_first, _, rc_Row_first⟩,
    f_Row_last := _, fd_Row_last := _, F_Row_last := fun_mk (st := s_Row_last) l_Row_last c_Row_last k_Row_last, b_Row_last := (fun_mk (st := s_Row_last) l_Row_last c_Row_last k_Row_last).binds (ps := ["self"]) fun _ _ _ _ _ _ us hl => match us, hl with | [_], _ => rfl,
    q_Row_last := _, p_Row_last := ⟨at_Row_last, gt_Row_last, tk_Row_last, _, rc_Row_last⟩,
    f_Row_has_place := _, fd_Row_has_place := _, F_Row_has_place := fun_mk (st := s_Row_has_place) l_Row_has_place c_Row_has_place k_Row_has_place, b_Row_has_place := (fun_mk (st := s_Row_has_place) l_Row_has_place c_Row_has_place k_Row_has_place).binds (ps := ["self", "value"]) fun _ _ _ _ _ _ us hl => match us, hl with | [_, _], _ => rfl,
    m_Row_has_place := ⟨at_Row_has_place, if_Row_has_place, k_Row_has_place⟩,
    rd := ⟨rd_Row, rg_Row⟩,
    t_MIN_BASE := _, v_MIN_BASE := ⟨v_MIN_BASE, _, rfl⟩,
    t_MAX_BASE := _, v_MAX_BASE := ⟨v_MAX_BASE, _, rfl⟩,
    C_Sweep := _, g_Sweep := PySem.W.mg_of X G a_Sweep,
    clSweep := ⟨pg_Sweep, hd_Sweep, po_Sweep, sa_Sweep⟩,
    nSweep_row := nSweep_row,
    nSweep_low := nSweep_low,
    nSweep_span := nSweep_span,
    nSweep_ready := nSweep_ready,
    nSweep_floors := nSweep_floors,
    f_Sweep_init := _, fd_Sweep_init := _, F_Sweep_init := fun_mk (st := s_Sweep_init) l_Sweep_init c_Sweep_init k_Sweep_init, b_Sweep_init := (fun_mk (st := s_Sweep_init) l_Sweep_init c_Sweep_init k_Sweep_init).binds (ps := ["self", "row", "change", "near", "far"]) fun _ _ _ _ _ _ us hl => match us, hl with | [_, _, _, _, _], _ => rfl,
    mkSweep := ⟨mk_Sweep, i_Sweep_init, if_Sweep_init, kc_Sweep⟩,
    f_Sweep_choices := _, fd_Sweep_choices := _, F_Sweep_choices := fun_mk (st := s_Sweep_choices) l_Sweep_choices c_Sweep_choices k_Sweep_choices, b_Sweep_choices := (fun_mk (st := s_Sweep_choices) l_Sweep_choices c_Sweep_choices k_Sweep_choices).binds (ps := ["self", "at", "carry"]) fun _ _ _ _ _ _ us hl => match us, hl with | [_, _, _], _ => rfl,
    m_Sweep_choices := ⟨at_Sweep_choices, if_Sweep_choices, k_Sweep_choices⟩,
    f_Sweep_steps := _, fd_Sweep_steps := _, F_Sweep_steps := fun_mk (st := s_Sweep_steps) l_Sweep_steps c_Sweep_steps k_Sweep_steps, b_Sweep_steps := (fun_mk (st := s_Sweep_steps) l_Sweep_steps c_Sweep_steps k_Sweep_steps).binds (ps := ["self", "at", "costs"]) fun _ _ _ _ _ _ us hl => match us, hl with | [_, _, _], _ => rfl,
    m_Sweep_steps := ⟨at_Sweep_steps, if_Sweep_steps, k_Sweep_steps⟩,
    f_Sweep_least_costs := _, fd_Sweep_least_costs := _, F_Sweep_least_costs := fun_mk (st := s_Sweep_least_costs) l_Sweep_least_costs c_Sweep_least_costs k_Sweep_least_costs, b_Sweep_least_costs := (fun_mk (st := s_Sweep_least_costs) l_Sweep_least_costs c_Sweep_least_costs k_Sweep_least_costs).binds (ps := ["self"]) fun _ _ _ _ _ _ us hl => match us, hl with | [_], _ => rfl,
    m_Sweep_least_costs := ⟨at_Sweep_least_costs, if_Sweep_least_costs, k_Sweep_least_costs⟩,
    f_Sweep_moves := _, fd_Sweep_moves := _, F_Sweep_moves := fun_mk (st := s_Sweep_moves) l_Sweep_moves c_Sweep_moves k_Sweep_moves, b_Sweep_moves := (fun_mk (st := s_Sweep_moves) l_Sweep_moves c_Sweep_moves k_Sweep_moves).binds (ps := ["self", "at"]) fun _ _ _ _ _ _ us hl => match us, hl with | [_, _], _ => rfl,
    m_Sweep_moves := ⟨at_Sweep_moves, if_Sweep_moves, k_Sweep_moves⟩,
    f_Sweep_end_cost := _, fd_Sweep_end_cost := _, F_Sweep_end_cost := fun_mk (st := s_Sweep_end_cost) l_Sweep_end_cost c_Sweep_end_cost k_Sweep_end_cost, b_Sweep_end_cost := (fun_mk (st := s_Sweep_end_cost) l_Sweep_end_cost c_Sweep_end_cost k_Sweep_end_cost).binds (ps := ["self", "at", "carry"]) fun _ _ _ _ _ _ us hl => match us, hl with | [_, _, _], _ => rfl,
    m_Sweep_end_cost := ⟨at_Sweep_end_cost, if_Sweep_end_cost, k_Sweep_end_cost⟩,
    f_Sweep_ends := _, fd_Sweep_ends := _, F_Sweep_ends := fun_mk (st := s_Sweep_ends) l_Sweep_ends c_Sweep_ends k_Sweep_ends, b_Sweep_ends := (fun_mk (st := s_Sweep_ends) l_Sweep_ends c_Sweep_ends k_Sweep_ends).binds (ps := ["self", "table"]) fun _ _ _ _ _ _ us hl => match us, hl with | [_, _], _ => rfl,
    m_Sweep_ends := ⟨at_Sweep_ends, if_Sweep_ends, k_Sweep_ends⟩ }
end K16
namespace K16.R
open PySem L2 GL DL
theorem settings_look (q : Addr) : ([(("settings" : Str), V.ref q)] : List (Str × V)).lookup ("settings" : Str) = some (.ref q) := by simp [List.lookup]
/-- is_whole(value) -/
def sp_whole (K : PySem.W.Frag) : Sp := fun vs H Q _ => ∃ v o, vs = [v] ∧ Kd K H v o ∧ Q (.bl o.isSome) H
def sp_within (K : PySem.W.Frag) : Sp := fun vs H Q _ => ∃ v o lo hi, vs = [v, .int lo, .int hi] ∧ Kd K H v o ∧ Q (.bl (inRange o lo hi)) H
def sp_place (K : PySem.W.Frag) : Sp := fun vs H Q _ => ∃ v o, vs = [v] ∧ Kd K H v o ∧ Q (.bl (inRange o (-1000) 1000)) H
theorem ok_is_whole {P : Program} {w : World} {K : PySem.W.Frag} {mg : Str → Option Value} {base : Heap} (T : Tx K mg) : FnOk P w K mg base CX0 1 T.f_is_whole T.fd_is_whole ["value"] (sp_whole K) := by
  refine (T.is_whole.F.ok sc_is_whole (fun vs H Q E h => ?_) (fun cdv A outer s H vs Q E hr h => ?_))
  · obtain ⟨v, o, rfl, hk, k⟩ := h
    rfl
  · obtain ⟨v, o, rfl, hk, k⟩ := h
    have hu := hu_of hr
    refine ⟨_, (pss_one (ps_ret (pe_and (pe_callB call_isi (by rfl) T.b_isinstance (by decide +kernel) (pa_cons (pv 0) (pa_cons (pe_bltn (v := .ty "int") (by rfl) T.b_int (by decide +kernel) rfl) pa_nil))) (pe_one (pe_not (pe_callB call_isi (by rfl) T.b_isinstance (by decide +kernel) (pa_cons (pv 0) (pa_cons (pe_bltn (v := .ty "bool") (by rfl) T.b_bool (by decide +kernel) rfl) pa_nil)))))))), ?_⟩
    obtain ⟨t, b1, b2, ty, e1, e2, e3⟩ := hk.ask
    refine ⟨_, rfl, _, _, _, _, b1, rfl, .ty _, ty, kit_ty e1, _, rfl, ?_⟩
    cases b1 with
    | false =>
      refine iteF ?_
      rw [← e3] at k
      exact k
    | true =>
      refine iteT ?_
      refine ⟨_, rfl, _, _, _, _, b2, rfl, .ty _, ty, kit_ty e2, _, rfl, ?_⟩
      rw [← e3] at k
      exact k
theorem ok_is_within {P : Program} {w : World} {K : PySem.W.Frag} {mg : Str → Option Value} {base : Heap} (T : Tx K mg) : FnOk P w K mg base CX0 2 T.f_is_within T.fd_is_within ["value", "low", "high"] (sp_within K) := by
  have G_is_whole := ok_is_whole (P := P) (w := w) (base := base) T
  refine (T.is_within.F.ok sc_is_within (fun vs H Q E h => ?_) (fun cdv A outer s H vs Q E hr h => ?_))
  · obtain ⟨v, o, lo, hi, rfl, hk, k⟩ := h
    rfl
  · obtain ⟨v, o, lo, hi, rfl, hk, k⟩ := h
    have hu := hu_of hr
    refine ⟨_, (pss_one (ps_ret (pe_and (pe_call G_is_whole (hr.mono (by decide)) rfl T.is_whole.g T.is_whole.F.kp T.is_whole.b .nil pass0 (pa_cons (pv 0) pa_nil)) (pe_one (pe_chain op_le op_le (pv 1) (pv 0) (pv 2)))))), ?_⟩
    refine ⟨_, rfl, v, o, rfl, hk, _, rfl, ?_⟩
    cases o with
    | none => exact iteF k
    | some i =>
      refine iteT ?_
      have e := hk.int_of
      subst e
      refine ⟨_, rfl, _, rfl, _, _, rfl, rfl, _, rfl, ?_⟩
      by_cases h1 : lo ≤ i
      · rw [decide_eq_true h1]
        refine iteT ⟨_, rfl, _, _, rfl, rfl, ?_⟩
        simpa [inRange, h1] using k
      · rw [decide_eq_false h1]
        refine iteF ?_
        simpa [inRange, h1] using k
theorem ok_is_place {P : Program} {w : World} {K : PySem.W.Frag} {mg : Str → Option Value} {base : Heap} (T : Tx K mg) : FnOk P w K mg base CX0 3 T.f_is_place T.fd_is_place ["value"] (sp_place K) := by
  have G_is_within := ok_is_within (P := P) (w := w) (base := base) T
  refine (T.is_place.F.ok sc_is_place (fun vs H Q E h => ?_) (fun cdv A outer s H vs Q E hr h => ?_))
  · obtain ⟨v, o, rfl, hk, k⟩ := h
    rfl
  · obtain ⟨v, o, rfl, hk, k⟩ := h
    have hu := hu_of hr
    refine ⟨_, (pss_one (ps_ret (pe_call G_is_within (hr.mono (by decide)) rfl T.is_within.g T.is_within.F.kp T.is_within.b .nil pass0 (pa_cons (pv 0) (pa_cons (pe_un un_neg (pe_glob (v := .int 1000) rfl T.c_MAX_PLACE ⟨_, rfl⟩)) (pa_cons (pe_glob (v := .int 1000) rfl T.c_MAX_PLACE ⟨_, rfl⟩) pa_nil)))))), ?_⟩
    exact ⟨_, rfl, _, rfl, v, o, -1000, 1000, rfl, hk, k⟩
def sp_cost (K : PySem.W.Frag) : Sp := fun vs H Q _ => ∃ v o, vs = [v] ∧ Kd K H v o ∧ Q (.bl (inRange o 1 1000000)) H
def sp_end (K : PySem.W.Frag) : Sp := fun vs H Q _ => ∃ v o, vs = [v] ∧ Kd K H v o ∧ Q (.bl (endGood v o)) H
def optV : Option Str → V
  | none => .non
  | some x => .str x
def sp_bad (K : PySem.W.Frag) : Sp := fun vs H Q _ => ∃ vb vm va vf vl b m a f l, vs = [vb, vm, va, vf, vl] ∧ Kd K H vb b ∧ Kd K H vm m ∧ Kd K H va a ∧ Kd K H vf f ∧ Kd K H vl l ∧
  Q (optV (wrongField b m a f l vf vl)) H
theorem end_int {K : PySem.W.Frag} {H : Hp} {v : V} {o : Option Int} (k : Kd K H v o) (h : endGood v o = true) : (v = .non ∧ o = none) ∨ ∃ i, v = .int i ∧ o = some i := by
  cases k with
  | non => exact .inl ⟨rfl, rfl⟩
  | int i => exact .inr ⟨i, rfl, rfl⟩
  | _ => simp [endGood, inRange] at h
theorem ok_is_cost {P : Program} {w : World} {K : PySem.W.Frag} {mg : Str → Option Value} {base : Heap} (T : Tx K mg) : FnOk P w K mg base CX0 3 T.f_is_cost T.fd_is_cost ["value"] (sp_cost K) := by
  have G_is_within := ok_is_within (P := P) (w := w) (base := base) T
  refine (T.is_cost.F.ok sc_is_cost (fun vs H Q E h => ?_) (fun cdv A outer s H vs Q E hr h => ?_))
  · obtain ⟨v, o, rfl, hk, k⟩ := h
    rfl
  · obtain ⟨v, o, rfl, hk, k⟩ := h
    have hu := hu_of hr
    refine ⟨_, (pss_one (ps_ret (pe_call G_is_within (hr.mono (by decide)) rfl T.is_within.g T.is_within.F.kp T.is_within.b .nil pass0 (pa_cons (pv 0) (pa_cons pe_int (pa_cons (pe_glob (v := .int 1000000) rfl T.c_MAX_COST ⟨_, rfl⟩) pa_nil)))))), ?_⟩
    exact ⟨_, rfl, v, o, 1, 1000000, rfl, hk, k⟩
theorem ok_is_end {P : Program} {w : World} {K : PySem.W.Frag} {mg : Str → Option Value} {base : Heap} (T : Tx K mg) : FnOk P w K mg base CX0 4 T.f_is_end T.fd_is_end ["value"] (sp_end K) := by
  have G_is_place := ok_is_place (P := P) (w := w) (base := base) T
  refine (T.is_end.F.ok sc_is_end (fun vs H Q E h => ?_) (fun cdv A outer s H vs Q E hr h => ?_))
  · obtain ⟨v, o, rfl, hk, k⟩ := h
    rfl
  · obtain ⟨v, o, rfl, hk, k⟩ := h
    have hu := hu_of hr
    refine ⟨_, (pss_one (ps_ret (pe_or (pe_cmpR op_isN (pv 0) pe_non (nomark _)) (pe_one (pe_call G_is_place (hr.mono (by decide)) rfl T.is_place.g T.is_place.F.kp T.is_place.b .nil pass0 (pa_cons (pv 0) pa_nil)))))), ?_⟩
    refine ⟨_, rfl, rfl, _, rfl, ?_⟩
    by_cases hn : v = .non
    · refine ifD hn ?_
      simpa [endGood, hn] using k
    · refine ifDn hn ?_
      refine ⟨_, rfl, v, o, rfl, hk, ?_⟩
      simpa [endGood, hn] using k
theorem ok_invalid_field {P : Program} {w : World} {K : PySem.W.Frag} {mg : Str → Option Value} {base : Heap} (T : Tx K mg) : FnOk P w K mg base CX0 5 T.f_invalid_field T.fd_invalid_field ["base", "move", "add", "first", "last"] (sp_bad K) := by
  have G_is_within := ok_is_within (P := P) (w := w) (base := base) T
  have G_is_cost := ok_is_cost (P := P) (w := w) (base := base) T
  have G_is_end := ok_is_end (P := P) (w := w) (base := base) T
  refine (T.invalid_field.F.ok sc_invalid_field (fun vs H Q E h => ?_) (fun cdv A outer s H vs Q E hr h => ?_))
  · obtain ⟨vb, vm, va, vf, vl, b, m, a, f, l, rfl, kb, km, ka, kf, kl, k⟩ := h
    rfl
  · obtain ⟨vb, vm, va, vf, vl, b, m, a, f, l, rfl, kb, km, ka, kf, kl, k⟩ := h
    have hu := hu_of hr
    refine ⟨_, (pss_cons (ps_if (pt_not (pt_val (pe_call G_is_within (hr.mono (by decide)) rfl T.is_within.g T.is_within.F.kp T.is_within.b .nil pass0 (pa_cons (pv 0) (pa_cons (ClX.pe_cval (pe_glob (v := .ref T.C_Row) rfl T.g_Row rfl)) (pa_cons (ClX.pe_cval (pe_glob (v := .ref T.C_Row) rfl T.g_Row rfl)) pa_nil)))))) (pss_one (ps_ret pe_str)) pss_nil)
        (pss_cons (ps_if (pt_not (pt_val (pe_call G_is_cost (hr.mono (by decide)) rfl T.is_cost.g T.is_cost.F.kp T.is_cost.b .nil pass0 (pa_cons (pv 1) pa_nil)))) (pss_one (ps_ret pe_str)) pss_nil)
        (pss_cons (ps_if (pt_not (pt_val (pe_call G_is_cost (hr.mono (by decide)) rfl T.is_cost.g T.is_cost.F.kp T.is_cost.b .nil pass0 (pa_cons (pv 2) pa_nil)))) (pss_one (ps_ret pe_str)) pss_nil)
        (pss_cons (ps_if (pt_not (pt_val (pe_call G_is_end (hr.mono (by decide)) rfl T.is_end.g T.is_end.F.kp T.is_end.b .nil pass0 (pa_cons (pv 3) pa_nil)))) (pss_one (ps_ret pe_str)) pss_nil)
        (pss_cons (ps_if (pt_not (pt_val (pe_call G_is_end (hr.mono (by decide)) rfl T.is_end.g T.is_end.F.kp T.is_end.b .nil pass0 (pa_cons (pv 4) pa_nil)))) (pss_one (ps_ret pe_str)) pss_nil)
        (pss_cons (ps_if (PW.pt (pw_and (pt_cmpR op_notN (pv 3) pe_non (nomark _)) (pw_and (pt_cmpR op_notN (pv 4) pe_non (nomark _)) (pw_and1 (pt_cmpR op_lt (pv 4) (pv 3) (nomark _)))))) (pss_one (ps_ret pe_str)) pss_nil)
        (pss_one (ps_ret pe_non)))))))), ?_⟩
    unfold wrongField at k
    refine ⟨_, rfl, _, _, _, _, rfl, T.rd, T.v_MIN_BASE, _, _, _, _, rfl, T.rd, T.v_MAX_BASE, vb, b, 2, 36, rfl, kb, _, rfl, ?_⟩
    cases hb : inRange b 2 36 with
    | false => exact iteT (by rw [hb, if_pos rfl] at k; exact k)
    | true =>
      rw [hb, if_neg (by decide)] at k
      refine iteF ⟨_, rfl, vm, m, rfl, km, _, rfl, ?_⟩
      cases hm : inRange m 1 1000000 with
      | false => exact iteT (by rw [hm, if_pos rfl] at k; exact k)
      | true =>
        rw [hm, if_neg (by decide)] at k
        refine iteF ⟨_, rfl, va, a, rfl, ka, _, rfl, ?_⟩
        cases ha : inRange a 1 1000000 with
        | false => exact iteT (by rw [ha, if_pos rfl] at k; exact k)
        | true =>
          rw [ha, if_neg (by decide)] at k
          refine iteF ⟨_, rfl, vf, f, rfl, kf, _, rfl, ?_⟩
          cases hf : endGood vf f with
          | false => exact iteT (by rw [hf, if_pos rfl] at k; exact k)
          | true =>
            rw [hf, if_neg (by decide)] at k
            refine iteF ⟨_, rfl, vl, l, rfl, kl, _, rfl, ?_⟩
            cases hl : endGood vl l with
            | false => exact iteT (by rw [hl, if_pos rfl] at k; exact k)
            | true =>
              rw [hl, if_neg (by decide)] at k
              refine iteF ⟨_, rfl, rfl, _, rfl, ?_⟩
              rcases end_int kf hf with ⟨rfl, rfl⟩ | ⟨i, rfl, rfl⟩
              · exact iteF (iteF k)
              · refine iteT ⟨_, rfl, rfl, _, rfl, ?_⟩
                rcases end_int kl hl with ⟨rfl, rfl⟩ | ⟨j, rfl, rfl⟩
                · exact iteF (iteF k)
                · refine iteT ⟨_, rfl, _, rfl, _, _, rfl, rfl, _, rfl, ?_⟩
                  by_cases hj : j < i
                  · refine ifD hj ?_
                    simp only [hj, if_true] at k
                    exact k
                  · refine ifDn hj ?_
                    simp only [hj, if_false] at k
                    exact k
theorem ok_Row_init {P : Program} {w : World} {K : PySem.W.Frag} {mg : Str → Option Value} {base : Heap} (T : Tx K mg) : FnOk P w K mg base (L2.CX P w) 6 T.f_Row_init T.fd_Row_init ["self", "base", "move", "add", "first", "last"] (sp_init K T.C_Row T.C_InvalidRow) := by
  have G_invalid_field := ok_invalid_field (P := P) (w := w) (base := base) T
  refine (T.F_Row_init.ok sc_Row_init (fun vs H Q E h => ?_) (fun cdv A outer s H vs Q E hr h => ?_))
  · obtain ⟨p, dx, vb, vm, va, vf, vl, b, m, a, f, l, rfl, hp, kb, km, ka, kf, kl, kE, kQ⟩ := h
    rfl
  · obtain ⟨p, dx, vb, vm, va, vf, vl, b, m, a, f, l, rfl, hp, kb, km, ka, kf, kl, kE, kQ⟩ := h
    have hu := hu_of hr
    refine ⟨_, (pss_cons (ps_set (i := 6) sc_Row_init.nd rfl (Or.inl rfl) (pe_call G_invalid_field (hr.mono (by decide)) rfl T.invalid_field.g T.invalid_field.F.kp T.invalid_field.b .nil pass0 (pa_cons (pv 1) (pa_cons (pv 2) (pa_cons (pv 3) (pa_cons (pv 4) (pa_cons (pv 5) pa_nil)))))))
        (pss_cons (ps_if (pt_cmpR op_notN (pv 6) pe_non (nomark _)) (pss_one (ps_raiseErr rfl T.InvalidRow hr (takes_of rfl rfl rfl rfl) (pa_cons (pv 6) pa_nil))) pss_nil)
        (pss_one (ps_fld (pv 0) (pe_tup (pa_cons (pv 1) (pa_cons (pv 2) (pa_cons (pv 3) (pa_cons (pv 4) (pa_cons (pv 5) pa_nil)))))) rfl)))), ?_⟩
    refine ⟨_, rfl, _, rfl, _, rfl, _, rfl, _, rfl, vb, vm, va, vf, vl, b, m, a, f, l, rfl, kb, km, ka, kf, kl, ?_⟩
    refine ⟨_, rfl, rfl, _, rfl, ?_⟩
    cases hx : wrongField b m a f l vf vl with
    | some x =>
      refine ifN (fun z => nomatch z) ?_
      refine ⟨_, rfl, _, rfl, fun d hd => ?_⟩
      exact kE x hx _ d (same_new (Same.refl H) hd) hd upd_same
    | none =>
      refine ifNn rfl ?_
      refine ⟨_, rfl, _, rfl, _, rfl, _, rfl, _, rfl, (by show 5 ≤ sizeLine; decide), fun q hq => ?_⟩
      have npq : p ≠ q := ne_of_none hp hq
      refine ⟨_, rfl, p, T.C_Row, dx, _, rfl, by rw [upd_ne npq]; exact hp, T.cl, T.nS, by decide, ?_⟩
      exact kQ hx _ q hq rfl
theorem ok_Row_base {P : Program} {w : World} {K : PySem.W.Frag} {mg : Str → Option Value} {base : Heap} (T : Tx K mg) : FnOk P w K mg base CX0 1 T.f_Row_base T.fd_Row_base ["self"] (sp_get K T.C_Row 0) := by
  refine (T.F_Row_base.ok sc_Row_base (fun vs H Q E h => ?_) (fun cdv A outer s H vs Q E hr h => ?_))
  · obtain ⟨p, b, m, a, f, l, rfl, hR, k⟩ := h
    rfl
  · obtain ⟨p, b, m, a, f, l, rfl, hR, k⟩ := h
    have hu := hu_of hr
    refine ⟨_, (pss_one (ps_ret (pe_ix ix_tup (pe_fld (pv 0) rfl) pe_int (fun _ _ => rfl)))), ?_⟩
    obtain ⟨dx, q, h1, h2⟩ := hR.ob
    exact ⟨_, rfl, p, T.C_Row, dx, _, _, rfl, h1, T.cl, T.nS, settings_look q, q, _, _, _, rfl, rfl, h2, rfl, k⟩
theorem ok_Row_move_cost {P : Program} {w : World} {K : PySem.W.Frag} {mg : Str → Option Value} {base : Heap} (T : Tx K mg) : FnOk P w K mg base CX0 1 T.f_Row_move_cost T.fd_Row_move_cost ["self"] (sp_get K T.C_Row 1) := by
  refine (T.F_Row_move_cost.ok sc_Row_move_cost (fun vs H Q E h => ?_) (fun cdv A outer s H vs Q E hr h => ?_))
  · obtain ⟨p, b, m, a, f, l, rfl, hR, k⟩ := h
    rfl
  · obtain ⟨p, b, m, a, f, l, rfl, hR, k⟩ := h
    have hu := hu_of hr
    refine ⟨_, (pss_one (ps_ret (pe_ix ix_tup (pe_fld (pv 0) rfl) pe_int (fun _ _ => rfl)))), ?_⟩
    obtain ⟨dx, q, h1, h2⟩ := hR.ob
    exact ⟨_, rfl, p, T.C_Row, dx, _, _, rfl, h1, T.cl, T.nS, settings_look q, q, _, _, _, rfl, rfl, h2, rfl, k⟩
theorem ok_Row_add_cost {P : Program} {w : World} {K : PySem.W.Frag} {mg : Str → Option Value} {base : Heap} (T : Tx K mg) : FnOk P w K mg base CX0 1 T.f_Row_add_cost T.fd_Row_add_cost ["self"] (sp_get K T.C_Row 2) := by
  refine (T.F_Row_add_cost.ok sc_Row_add_cost (fun vs H Q E h => ?_) (fun cdv A outer s H vs Q E hr h => ?_))
  · obtain ⟨p, b, m, a, f, l, rfl, hR, k⟩ := h
    rfl
  · obtain ⟨p, b, m, a, f, l, rfl, hR, k⟩ := h
    have hu := hu_of hr
    refine ⟨_, (pss_one (ps_ret (pe_ix ix_tup (pe_fld (pv 0) rfl) pe_int (fun _ _ => rfl)))), ?_⟩
    obtain ⟨dx, q, h1, h2⟩ := hR.ob
    exact ⟨_, rfl, p, T.C_Row, dx, _, _, rfl, h1, T.cl, T.nS, settings_look q, q, _, _, _, rfl, rfl, h2, rfl, k⟩
theorem ok_Row_first {P : Program} {w : World} {K : PySem.W.Frag} {mg : Str → Option Value} {base : Heap} (T : Tx K mg) : FnOk P w K mg base CX0 1 T.f_Row_first T.fd_Row_first ["self"] (sp_get K T.C_Row 3) := by
  refine (T.F_Row_first.ok sc_Row_first (fun vs H Q E h => ?_) (fun cdv A outer s H vs Q E hr h => ?_))
  · obtain ⟨p, b, m, a, f, l, rfl, hR, k⟩ := h
    rfl
  · obtain ⟨p, b, m, a, f, l, rfl, hR, k⟩ := h
    have hu := hu_of hr
    refine ⟨_, (pss_one (ps_ret (pe_ix ix_tup (pe_fld (pv 0) rfl) pe_int (fun _ _ => rfl)))), ?_⟩
    obtain ⟨dx, q, h1, h2⟩ := hR.ob
    exact ⟨_, rfl, p, T.C_Row, dx, _, _, rfl, h1, T.cl, T.nS, settings_look q, q, _, _, _, rfl, rfl, h2, rfl, k⟩
theorem ok_Row_last {P : Program} {w : World} {K : PySem.W.Frag} {mg : Str → Option Value} {base : Heap} (T : Tx K mg) : FnOk P w K mg base CX0 1 T.f_Row_last T.fd_Row_last ["self"] (sp_get K T.C_Row 4) := by
  refine (T.F_Row_last.ok sc_Row_last (fun vs H Q E h => ?_) (fun cdv A outer s H vs Q E hr h => ?_))
  · obtain ⟨p, b, m, a, f, l, rfl, hR, k⟩ := h
    rfl
  · obtain ⟨p, b, m, a, f, l, rfl, hR, k⟩ := h
    have hu := hu_of hr
    refine ⟨_, (pss_one (ps_ret (pe_ix ix_tup (pe_fld (pv 0) rfl) pe_int (fun _ _ => rfl)))), ?_⟩
    obtain ⟨dx, q, h1, h2⟩ := hR.ob
    exact ⟨_, rfl, p, T.C_Row, dx, _, _, rfl, h1, T.cl, T.nS, settings_look q, q, _, _, _, rfl, rfl, h2, rfl, k⟩
theorem ok_Row_has_place {P : Program} {w : World} {K : PySem.W.Frag} {mg : Str → Option Value} {base : Heap} (T : Tx K mg) : FnOk P w K mg base CX0 4 T.f_Row_has_place T.fd_Row_has_place ["self", "value"] (sp_has K T.C_Row) := by
  have G_is_place := ok_is_place (P := P) (w := w) (base := base) T
  have G_Row_first := ok_Row_first (P := P) (w := w) (base := base) T
  have G_Row_last := ok_Row_last (P := P) (w := w) (base := base) T
  refine (T.F_Row_has_place.ok sc_Row_has_place (fun vs H Q E h => ?_) (fun cdv A outer s H vs Q E hr h => ?_))
  · obtain ⟨p, b, m, a, f, l, v, o, rfl, hR, kv, k⟩ := h
    rfl
  · obtain ⟨p, b, m, a, f, l, v, o, rfl, hR, kv, k⟩ := h
    have hu := hu_of hr
    refine ⟨_, (pss_cons (ps_if (pt_not (pt_val (pe_call G_is_place (hr.mono (by decide)) rfl T.is_place.g T.is_place.F.kp T.is_place.b .nil pass0 (pa_cons (pv 1) pa_nil)))) (pss_one (ps_ret pe_bl)) pss_nil)
        (pss_cons (ps_if (PW.pt (pw_and (pt_cmpR op_notN (pe_prop (pv 0) T.cl T.p_Row_first G_Row_first (hr.mono (by decide)) T.b_Row_first .nil pass0 rfl) pe_non (nomark _)) (pw_and1 (pt_cmpR op_lt (pv 1) (pe_prop (pv 0) T.cl T.p_Row_first G_Row_first (hr.mono (by decide)) T.b_Row_first .nil pass0 rfl) (nomark _))))) (pss_one (ps_ret pe_bl)) pss_nil)
        (pss_one (ps_ret (pe_or (pe_cmpR op_isN (pe_prop (pv 0) T.cl T.p_Row_last G_Row_last (hr.mono (by decide)) T.b_Row_last .nil pass0 rfl) pe_non (nomark _)) (pe_one (pe_cmpR op_le (pv 1) (pe_prop (pv 0) T.cl T.p_Row_last G_Row_last (hr.mono (by decide)) T.b_Row_last .nil pass0 rfl) (nomark _)))))))), ?_⟩
    obtain ⟨dx, q, h1, h2⟩ := id hR.ob
    refine ⟨_, rfl, v, o, rfl, kv, _, rfl, ?_⟩
    cases o with
    | none => exact iteT k
    | some i =>
      have e := kv.int_of
      subst e
      by_cases hp : -1000 ≤ i ∧ i ≤ 1000
      · have hw : inRange (some i) (-1000) 1000 = true := decide_eq_true hp
        rw [hw]
        refine iteF ?_
        simp only [hasP, hp, and_self, decide_true, Bool.true_and] at k
        have last : loGood i f = true → (tRet (tOrV (tOp (fun x y H Q => y = .non ∧ Q (.bl (decide (x = .non))) H) (tProp T.C_Row (sp_get K T.C_Row 4) [] E0 (tVar 0)) (tC .non)) (tOp (rI0 fun i j => .bl (decide (i ≤ j))) (tVar 1) (tProp T.C_Row (sp_get K T.C_Row 4) [] E0 (tVar 0)))) { nx := fun _ H' => Q .non H', rt := Q } [some (.ref p), some (.int i)] H) := by
          intro hf
          rw [hf, Bool.true_and] at k
          refine ⟨_, rfl, p, dx, _, rfl, h1, p, b, m, a, intV f, intV l, rfl, hR, rfl, _, rfl, ?_⟩
          cases l with
          | none =>
            refine iteT ?_
            exact k
          | some j =>
            refine iteF ?_
            exact ⟨_, rfl, _, rfl, p, dx, _, rfl, h1, p, b, m, a, intV f, intV (some j), rfl, hR, _, _, rfl, rfl, k⟩
        refine ⟨_, rfl, p, dx, _, rfl, h1, p, b, m, a, intV f, intV l, rfl, hR, rfl, _, rfl, ?_⟩
        cases f with
        | none =>
          refine iteF ?_
          refine iteF ?_
          exact last rfl
        | some c =>
          refine iteT ?_
          refine ⟨_, rfl, _, rfl, p, dx, _, rfl, h1, p, b, m, a, intV (some c), intV l, rfl, hR, _, _, rfl, rfl, _, rfl, ?_⟩
          by_cases hc : i < c
          · refine ifD hc ?_
            have : ¬ c ≤ i := by omega
            have k' : Q (V.bl false) H := by simpa [loGood, this] using k
            exact k'
          · refine ifDn hc ?_
            have : c ≤ i := by omega
            exact last (by simp [loGood, this])
      · have hw : inRange (some i) (-1000) 1000 = false := decide_eq_false hp
        rw [hw]
        refine iteT ?_
        have k' : Q (V.bl false) H := by simpa [hasP, hp] using k
        exact k'
theorem kw_move_add_first_last {K : PySem.W.Frag} {mg : Str → Option Value} (T : Tx K mg) : ∃ mv : List Value, KBn K T.fd_Row_init ["self", "base", "move", "add", "first", "last"] 2 ["move", "add", "first", "last"] (fun us ws => us ++ ws) (fun vs zs => vs ++ zs) :=
  T.F_Row_init.kbinds0 2 ["move", "add", "first", "last"] [] (fun us mv ws => us ++ ws) (by decide) (fun q h => nomatch h) (fun r1 r2 r3 => r1.append r3)
    fun D doc pm an cdv ct us mv ws h1 h2 h3 => match us, mv, ws, h1, h2, h3 with
      | [_, _], [], [_, _, _, _], _, _, _ => rfl
end K16.R
namespace K16
open PySem L2 GL DL PM
theorem ok_is_whole {P : Program} {w : World} {K : PySem.W.Frag} {mg : Str → Option Value} {base : Heap} (T : Tx K mg) (nd : base.NoDigits) : FnG P w K mg base (L2.CX P w) 2 T.f_is_whole T.fd_is_whole ["value"] (spD K T.et 1 M_is_whole) := by
  exact fn_data (k := 1) T.is_whole.F sc_is_whole fun cdv A outer s H E quiet hr => by
    have hu64 := hr.units
    exact (ds_one (ds_ret (d_and (d_isi (T := .int) (by rfl) T.b_isinstance (pe_bltn (by rfl) T.b_int (by decide +kernel) rfl) (DE.o (d_var (pv 0)))) (d_one (d_not (d_isi (T := .bool) (by rfl) T.b_isinstance (pe_bltn (by rfl) T.b_bool (by decide +kernel) rfl) (DE.o (d_var (pv 0)))))))))
theorem ok_is_within {P : Program} {w : World} {K : PySem.W.Frag} {mg : Str → Option Value} {base : Heap} (T : Tx K mg) (nd : base.NoDigits) : FnG P w K mg base (L2.CX P w) 3 T.f_is_within T.fd_is_within ["value", "low", "high"] (spD K T.et 3 M_is_within) := by
  have G_is_whole := ok_is_whole (P := P) (w := w) (base := base) T nd
  exact fn_data (k := 2) T.is_within.F sc_is_within fun cdv A outer s H E quiet hr => by
    have hu64 := hr.units
    exact (ds_one (ds_ret (d_and (d_call (fun _ p => pe_callW G_is_whole quiet (hr.mono (by decide)) rfl T.is_whole.g T.is_whole.F.kp T.is_whole.b (takes_of rfl rfl rfl rfl) p) (dan_cons (d_var (pv 0)) dan_nil)) (d_one (d_chain (DE.o (d_var (pv 1))) (DE.o (d_var (pv 0))) (DE.o (d_var (pv 2))) le_bl (fun _ _ _ x y z => pe_chain o_le o_le x y z))))))
theorem ok_is_place {P : Program} {w : World} {K : PySem.W.Frag} {mg : Str → Option Value} {base : Heap} (T : Tx K mg) (nd : base.NoDigits) : FnG P w K mg base (L2.CX P w) 4 T.f_is_place T.fd_is_place ["value"] (spD K T.et 1 M_is_place) := by
  have G_is_within := ok_is_within (P := P) (w := w) (base := base) T nd
  exact fn_data (k := 3) T.is_place.F sc_is_place fun cdv A outer s H E quiet hr => by
    have hu64 := hr.units
    exact (ds_one (ds_ret (d_call (fun _ p => pe_callW G_is_within quiet (hr.mono (by decide)) rfl T.is_within.g T.is_within.F.kp T.is_within.b (takes_of rfl rfl rfl rfl) p) (dan_cons (d_var (pv 0)) (dan_cons (d_un u_neg (DE.o (d_int (pe_glob (v := .int 1000) rfl T.c_MAX_PLACE ⟨_, rfl⟩)))) (dan_cons (d_int (pe_glob (v := .int 1000) rfl T.c_MAX_PLACE ⟨_, rfl⟩)) dan_nil))))))
theorem ok_power_of {P : Program} {w : World} {K : PySem.W.Frag} {mg : Str → Option Value} {base : Heap} (T : Tx K mg) (nd : base.NoDigits) : FnG P w K mg base (L2.CX P w) 2 T.f_power_of T.fd_power_of ["base", "count"] (spD K T.et 2 M_power_of) := by
  exact fn_data (k := 1) T.power_of.F sc_power_of fun cdv A outer s H E quiet hr => by
    have hu64 := hr.units
    exact (ds_cons (ds_set (i := 2) (fun _ p => ps_set (i := 2) sc_power_of.nd rfl (Or.inl rfl) p) (d_int pe_int))
        (ds_cons (ds_for (vs := [3]) (passes_of rfl) rfl (di_range3 rfl T.b_range (da_cons (d_op o_sub (DE.o (d_bits (fun _ p => pe_bits p) (DE.o (d_var (pv 1))))) (DE.o (d_int pe_int))) (da_cons (d_un u_neg (DE.o (d_int pe_int))) (da_cons (d_un u_neg (DE.o (d_int pe_int))) da_nil)))) (pg_name (i := 3) sc_power_of.nd rfl (Or.inl rfl)) (good_name (by decide)) (ds_cons (ds_aug (i := 2) (fun _ p => ps_aug (i := 2) sc_power_of.nd rfl (Or.inl rfl) p q_mul) (d_var (pv 2)))
        (ds_one (ds_if (dt_truth (fun _ p => pt_truth p (fun _ => rfl)) (DE.o (d_op o_and (DE.o (d_op o_shr (DE.o (d_var (pv 1))) (DE.o (d_var (pv 3))))) (DE.o (d_int pe_int))))) (ds_one (ds_aug (i := 2) (fun _ p => ps_aug (i := 2) sc_power_of.nd rfl (Or.inl rfl) p q_mul) (d_var (pv 0)))) ds_nil))))
        (ds_one (ds_ret (d_var (pv 2))))))
theorem ok_has_few_digits {P : Program} {w : World} {K : PySem.W.Frag} {mg : Str → Option Value} {base : Heap} (T : Tx K mg) (nd : base.NoDigits) : FnG P w K mg base (L2.CX P w) 3 T.f_has_few_digits T.fd_has_few_digits ["numerator"] (spD K T.et 1 M_has_few_digits) := by
  have G_power_of := ok_power_of (P := P) (w := w) (base := base) T nd
  exact fn_data (k := 2) T.has_few_digits.F sc_has_few_digits fun cdv A outer s H E quiet hr => by
    have hu64 := hr.units
    exact (ds_one (ds_ret (d_cmp o_lt (DE.o (d_c1 (fun _ p => pe_callB b_abs (by rfl) T.b_abs (by decide +kernel) p) (DE.o (d_var (pv 0))))) (DE.o (d_call (fun _ p => pe_callW G_power_of quiet (hr.mono (by decide)) rfl T.power_of.g T.power_of.F.kp T.power_of.b (takes_of rfl rfl rfl rfl) p) (dan_cons (d_int pe_int) (dan_cons (d_int (pe_glob (v := .int 300) rfl T.c_MAX_DIGITS ⟨_, rfl⟩)) dan_nil)))) (nomark _))))
theorem ok_is_number {P : Program} {w : World} {K : PySem.W.Frag} {mg : Str → Option Value} {base : Heap} (T : Tx K mg) (nd : base.NoDigits) : FnG P w K mg base (L2.CX P w) 5 T.f_is_number T.fd_is_number ["base", "value"] (spD K T.et 2 M_is_number) := by
  have G_has_few_digits := ok_has_few_digits (P := P) (w := w) (base := base) T nd
  have G_is_whole := ok_is_whole (P := P) (w := w) (base := base) T nd
  have G_is_place := ok_is_place (P := P) (w := w) (base := base) T nd
  exact fn_data (k := 4) T.is_number.F sc_is_number fun cdv A outer s H E quiet hr => by
    have hu64 := hr.units
    exact (ds_cons (ds_if (dt_w (dw_or (dt_not (dt_val (d_isi (T := .tuple) (by rfl) T.b_isinstance (pe_bltn (by rfl) T.b_tuple (by decide +kernel) rfl) (DE.o (d_var (pv 1)))) (fun _ p => pt_val p))) (dw_or1 (dt_cmp (o_ne hu64) (DE.o (d_c1 (fun _ p => pe_callB b_len (by rfl) T.b_len (by decide +kernel) p) (DE.o (d_var (pv 1))))) (DE.o (d_int pe_int)) (nomark _))))) (ds_one (ds_ret (d_bl pe_bl))) ds_nil)
        (ds_cons (ds_asg (vs := [2, 3]) (fun _ p => ps_asg p (pg_tup rfl (pgs_cons (pg_name (i := 2) sc_is_number.nd rfl (Or.inl rfl)) (pgs_cons (pg_name (i := 3) sc_is_number.nd rfl (Or.inl rfl)) pgs_nil)))) (good_tup (.cons (good_name (by decide)) (.cons (good_name (by decide)) .nil)) rfl) (d_var (pv 1)))
        (ds_cons (ds_if (dt_w (dw_or (dt_not (dt_val (d_call (fun _ p => pe_callW G_is_whole quiet (hr.mono (by decide)) rfl T.is_whole.g T.is_whole.F.kp T.is_whole.b (takes_of rfl rfl rfl rfl) p) (dan_cons (d_var (pv 2)) dan_nil)) (fun _ p => pt_val p))) (dw_or1 (dt_not (dt_val (d_call (fun _ p => pe_callW G_is_place quiet (hr.mono (by decide)) rfl T.is_place.g T.is_place.F.kp T.is_place.b (takes_of rfl rfl rfl rfl) p) (dan_cons (d_var (pv 3)) dan_nil)) (fun _ p => pt_val p)))))) (ds_one (ds_ret (d_bl pe_bl))) ds_nil)
        (ds_cons (ds_if (dt_cmp (o_eq hu64) (DE.o (d_var (pv 2))) (DE.o (d_int pe_int)) (nomark _)) (ds_one (ds_ret (d_cmp (o_eq hu64) (DE.o (d_var (pv 3))) (DE.o (d_int pe_int)) (nomark _)))) ds_nil)
        (ds_one (ds_ret (d_and (d_cmp (o_ne hu64) (DE.o (d_op o_mod (DE.o (d_var (pv 2))) (DE.o (d_var (pv 0))))) (DE.o (d_int pe_int)) (nomark _)) (d_one (d_call (fun _ p => pe_callW G_has_few_digits quiet (hr.mono (by decide)) rfl T.has_few_digits.g T.has_few_digits.F.kp T.has_few_digits.b (takes_of rfl rfl rfl rfl) p) (dan_cons (d_var (pv 2)) dan_nil))))))))))
theorem ok_units {P : Program} {w : World} {K : PySem.W.Frag} {mg : Str → Option Value} {base : Heap} (T : Tx K mg) (nd : base.NoDigits) : FnG P w K mg base (L2.CX P w) 3 T.f_units T.fd_units ["base", "number", "place"] (spD K T.et 3 M_units) := by
  have G_power_of := ok_power_of (P := P) (w := w) (base := base) T nd
  exact fn_data (k := 2) T.units.F sc_units fun cdv A outer s H E quiet hr => by
    have hu64 := hr.units
    exact (ds_cons (ds_asg (vs := [3, 4]) (fun _ p => ps_asg p (pg_tup rfl (pgs_cons (pg_name (i := 3) sc_units.nd rfl (Or.inl rfl)) (pgs_cons (pg_name (i := 4) sc_units.nd rfl (Or.inl rfl)) pgs_nil)))) (good_tup (.cons (good_name (by decide)) (.cons (good_name (by decide)) .nil)) rfl) (d_var (pv 1)))
        (ds_cons (ds_if (dt_cmp o_lt (DE.o (d_var (pv 4))) (DE.o (d_var (pv 2))) (nomark _)) (ds_one (ds_ret (d_op o_div (DE.o (d_var (pv 3))) (DE.o (d_call (fun _ p => pe_callW G_power_of quiet (hr.mono (by decide)) rfl T.power_of.g T.power_of.F.kp T.power_of.b (takes_of rfl rfl rfl rfl) p) (dan_cons (d_var (pv 0)) (dan_cons (d_op o_sub (DE.o (d_var (pv 2))) (DE.o (d_var (pv 4)))) dan_nil))))))) ds_nil)
        (ds_one (ds_ret (d_op o_mul (DE.o (d_var (pv 3))) (DE.o (d_call (fun _ p => pe_callW G_power_of quiet (hr.mono (by decide)) rfl T.power_of.g T.power_of.F.kp T.power_of.b (takes_of rfl rfl rfl rfl) p) (dan_cons (d_var (pv 0)) (dan_cons (d_op o_sub (DE.o (d_var (pv 4))) (DE.o (d_var (pv 2)))) dan_nil)))))))))
theorem ok_negative {P : Program} {w : World} {K : PySem.W.Frag} {mg : Str → Option Value} {base : Heap} (T : Tx K mg) (nd : base.NoDigits) : FnG P w K mg base (L2.CX P w) 2 T.f_negative T.fd_negative ["number"] (spD K T.et 1 M_negative) := by
  exact fn_data (k := 1) T.negative.F sc_negative fun cdv A outer s H E quiet hr => by
    have hu64 := hr.units
    exact (ds_cons (ds_asg (vs := [1, 2]) (fun _ p => ps_asg p (pg_tup rfl (pgs_cons (pg_name (i := 1) sc_negative.nd rfl (Or.inl rfl)) (pgs_cons (pg_name (i := 2) sc_negative.nd rfl (Or.inl rfl)) pgs_nil)))) (good_tup (.cons (good_name (by decide)) (.cons (good_name (by decide)) .nil)) rfl) (d_var (pv 0)))
        (ds_one (ds_ret (d_tup (da_cons (d_un u_neg (DE.o (d_var (pv 1)))) (da_cons (d_var (pv 2)) da_nil))))))
theorem ok_without_factors {P : Program} {w : World} {K : PySem.W.Frag} {mg : Str → Option Value} {base : Heap} (T : Tx K mg) (nd : base.NoDigits) : FnG P w K mg base (L2.CX P w) 2 T.f_without_factors T.fd_without_factors ["base", "numerator"] (spD K T.et 2 M_without_factors) := by
  exact fn_data (k := 1) T.without_factors.F sc_without_factors fun cdv A outer s H E quiet hr => by
    have hu64 := hr.units
    exact (ds_cons (ds_setF (i := 2) (fun _ p => ps_set (i := 2) sc_without_factors.nd rfl (Or.inl rfl) p) (d_lst (da_cons (d_var (pv 0)) da_nil)))
        (ds_cons (ds_while 1000000 (passes_of rfl) (dt_cmp (o_eq hu64) (DE.o (d_op o_mod (DE.o (d_var (pv 1))) (DE.o (d_op o_mul (DE.o (d_ix (d_varO (pv 2)) (DE.o (d_un u_neg (DE.o (d_int pe_int)))) (fun _ _ => rfl))) (DE.o (d_ix (d_varO (pv 2)) (DE.o (d_un u_neg (DE.o (d_int pe_int)))) (fun _ _ => rfl))))))) (DE.o (d_int pe_int)) (nomark _)) (ds_one (ds_app (i := 2) (fun _ p => ps_expr (pe_bm PySem.F.plainAttrs_list PySem.F.slot_list_append PySem.F.type_list_append mt_append (pv 2) (pa_cons p pa_nil))) (d_op o_mul (DE.o (d_ix (d_varO (pv 2)) (DE.o (d_un u_neg (DE.o (d_int pe_int)))) (fun _ _ => rfl))) (DE.o (d_ix (d_varO (pv 2)) (DE.o (d_un u_neg (DE.o (d_int pe_int)))) (fun _ _ => rfl)))))))
        (ds_cons (ds_set (i := 3) (fun _ p => ps_set (i := 3) sc_without_factors.nd rfl (Or.inl rfl) p) (d_int pe_int))
        (ds_cons (ds_frz 2 (ds_for (vs := [4]) (passes_of rfl) rfl (di_rev (by rfl) T.b_reversed (d_var (pv 2))) (pg_name (i := 4) sc_without_factors.nd rfl (Or.inl rfl)) (good_name (by decide)) (ds_cons (ds_aug (i := 3) (fun _ p => ps_aug (i := 3) sc_without_factors.nd rfl (Or.inl rfl) p q_mul) (d_int pe_int))
        (ds_one (ds_if (dt_cmp (o_eq hu64) (DE.o (d_op o_mod (DE.o (d_var (pv 1))) (DE.o (d_var (pv 4))))) (DE.o (d_int pe_int)) (nomark _)) (ds_cons (ds_aug (i := 1) (fun _ p => ps_aug (i := 1) sc_without_factors.nd rfl (Or.inl rfl) p q_div) (d_var (pv 4)))
        (ds_one (ds_aug (i := 3) (fun _ p => ps_aug (i := 3) sc_without_factors.nd rfl (Or.inl rfl) p q_add) (d_int pe_int)))) ds_nil)))))
        (ds_one (ds_ret (d_tup (da_cons (d_var (pv 1)) (da_cons (d_var (pv 3)) da_nil)))))))))
theorem ok_form_of {P : Program} {w : World} {K : PySem.W.Frag} {mg : Str → Option Value} {base : Heap} (T : Tx K mg) (nd : base.NoDigits) : FnG P w K mg base (L2.CX P w) 3 T.f_form_of T.fd_form_of ["base", "numerator", "exponent"] (spD K T.et 3 M_form_of) := by
  have G_without_factors := ok_without_factors (P := P) (w := w) (base := base) T nd
  exact fn_data (k := 2) T.form_of.F sc_form_of fun cdv A outer s H E quiet hr => by
    have hu64 := hr.units
    exact (ds_cons (ds_if (dt_cmp (o_eq hu64) (DE.o (d_var (pv 1))) (DE.o (d_int pe_int)) (nomark _)) (ds_one (ds_ret (d_tup (da_cons (d_int pe_int) (da_cons (d_int pe_int) da_nil))))) ds_nil)
        (ds_cons (ds_asg (vs := [3, 4]) (fun _ p => ps_asg p (pg_tup rfl (pgs_cons (pg_name (i := 3) sc_form_of.nd rfl (Or.inl rfl)) (pgs_cons (pg_name (i := 4) sc_form_of.nd rfl (Or.inl rfl)) pgs_nil)))) (good_tup (.cons (good_name (by decide)) (.cons (good_name (by decide)) .nil)) rfl) (d_call (fun _ p => pe_callW G_without_factors quiet (hr.mono (by decide)) rfl T.without_factors.g T.without_factors.F.kp T.without_factors.b (takes_of rfl rfl rfl rfl) p) (dan_cons (d_var (pv 0)) (dan_cons (d_var (pv 1)) dan_nil))))
        (ds_one (ds_ret (d_tup (da_cons (d_var (pv 3)) (da_cons (d_op o_add (DE.o (d_var (pv 2))) (DE.o (d_var (pv 4)))) da_nil)))))))
theorem ok_sum_of {P : Program} {w : World} {K : PySem.W.Frag} {mg : Str → Option Value} {base : Heap} (T : Tx K mg) (nd : base.NoDigits) : FnG P w K mg base (L2.CX P w) 4 T.f_sum_of T.fd_sum_of ["base", "parts"] (spD K T.et 2 M_sum_of) := by
  have G_form_of := ok_form_of (P := P) (w := w) (base := base) T nd
  have G_power_of := ok_power_of (P := P) (w := w) (base := base) T nd
  exact fn_data (k := 3) T.sum_of.F sc_sum_of fun cdv A outer s H E quiet hr => by
    have hu64 := hr.units
    exact (ds_cons (ds_setFD (i := 2) (fun _ p => ps_set (i := 2) sc_sum_of.nd rfl (Or.inl rfl) p) (d_dict0 pe_dnewK))
        (ds_cons (ds_for (vs := [3, 4]) (passes_of rfl) rfl (di_list (d_var (pv 1))) (pg_tup rfl (pgs_cons (pg_name (i := 3) sc_sum_of.nd rfl (Or.inl rfl)) (pgs_cons (pg_name (i := 4) sc_sum_of.nd rfl (Or.inl rfl)) pgs_nil))) (good_tup (.cons (good_name (by decide)) (.cons (good_name (by decide)) .nil)) rfl) (ds_one (ds_if (dt_cmp (o_ne hu64) (DE.o (d_var (pv 3))) (DE.o (d_int pe_int)) (nomark _)) (ds_one (ds_putD (i := 2) (fun _ _ p q => ps_dput (by exact Nat.lt_of_le_of_lt (Nat.add_le_add_left (by decide) _) hu64) (pv 2) q p (by rfl)) (d_var (pv 4)) (d_op o_add (DE.o (d_dget2 (fun _ _ _ p q r => pe_dget2 (by exact Nat.lt_of_le_of_lt (Nat.add_le_add_left (by decide) _) hu64) p q r ⟨rfl, rfl, rfl, rfl⟩) (d_varO (pv 2)) (d_var (pv 4)) (d_int pe_int))) (DE.o (d_var (pv 3)))))) ds_nil)))
        (ds_cons (ds_set (i := 5) (fun _ p => ps_set (i := 5) sc_sum_of.nd rfl (Or.inl rfl) p) (d_maxD (fun _ _ p q => pe_callBK (cr_maxDD rfl) (by rfl) T.b_max (by decide +kernel) p q) (d_varO (pv 2)) (d_int pe_int)))
        (ds_cons (ds_set (i := 6) (fun _ p => ps_set (i := 6) sc_sum_of.nd rfl (Or.inl rfl) p) (d_int pe_int))
        (ds_cons (ds_for (vs := [4]) (passes_of rfl) rfl (di_list (d_sortD (fun _ _ p q => pe_callBK (cr_sortedDR rfl) (by rfl) T.b_sorted (by decide +kernel) p q) (d_varO (pv 2)) (d_bl pe_bl))) (pg_name (i := 4) sc_sum_of.nd rfl (Or.inl rfl)) (good_name (by decide)) (ds_cons (ds_set (i := 6) (fun _ p => ps_set (i := 6) sc_sum_of.nd rfl (Or.inl rfl) p) (d_op o_add (DE.o (d_op o_mul (DE.o (d_var (pv 6))) (DE.o (d_call (fun _ p => pe_callW G_power_of quiet (hr.mono (by decide)) rfl T.power_of.g T.power_of.F.kp T.power_of.b (takes_of rfl rfl rfl rfl) p) (dan_cons (d_var (pv 0)) (dan_cons (d_op o_sub (DE.o (d_var (pv 5))) (DE.o (d_var (pv 4)))) dan_nil)))))) (DE.o (d_dget (fun _ _ p q => pe_dget (by exact Nat.lt_of_le_of_lt (Nat.add_le_add_left (by decide) _) hu64) p q (fun _ _ => rfl)) (d_varO (pv 2)) (d_var (pv 4))))))
        (ds_one (ds_set (i := 5) (fun _ p => ps_set (i := 5) sc_sum_of.nd rfl (Or.inl rfl) p) (d_var (pv 4))))))
        (ds_one (ds_ret (d_call (fun _ p => pe_callW G_form_of quiet (hr.mono (by decide)) rfl T.form_of.g T.form_of.F.kp T.form_of.b (takes_of rfl rfl rfl rfl) p) (dan_cons (d_var (pv 0)) (dan_cons (d_var (pv 6)) (dan_cons (d_var (pv 5)) dan_nil)))))))))))
theorem ok_is_pair {P : Program} {w : World} {K : PySem.W.Frag} {mg : Str → Option Value} {base : Heap} (T : Tx K mg) (nd : base.NoDigits) : FnG P w K mg base (L2.CX P w) 6 T.f_is_pair T.fd_is_pair ["base", "value"] (spD K T.et 2 M_is_pair) := by
  have G_is_number := ok_is_number (P := P) (w := w) (base := base) T nd
  have G_is_place := ok_is_place (P := P) (w := w) (base := base) T nd
  exact fn_data (k := 5) T.is_pair.F sc_is_pair fun cdv A outer s H E quiet hr => by
    have hu64 := hr.units
    exact (ds_cons (ds_if (dt_w (dw_or (dt_not (dt_val (d_isi (T := .tuple) (by rfl) T.b_isinstance (pe_bltn (by rfl) T.b_tuple (by decide +kernel) rfl) (DE.o (d_var (pv 1)))) (fun _ p => pt_val p))) (dw_or1 (dt_cmp (o_ne hu64) (DE.o (d_c1 (fun _ p => pe_callB b_len (by rfl) T.b_len (by decide +kernel) p) (DE.o (d_var (pv 1))))) (DE.o (d_int pe_int)) (nomark _))))) (ds_one (ds_ret (d_bl pe_bl))) ds_nil)
        (ds_cons (ds_asg (vs := [2, 3]) (fun _ p => ps_asg p (pg_tup rfl (pgs_cons (pg_name (i := 2) sc_is_pair.nd rfl (Or.inl rfl)) (pgs_cons (pg_name (i := 3) sc_is_pair.nd rfl (Or.inl rfl)) pgs_nil)))) (good_tup (.cons (good_name (by decide)) (.cons (good_name (by decide)) .nil)) rfl) (d_var (pv 1)))
        (ds_one (ds_ret (d_and (d_call (fun _ p => pe_callW G_is_number quiet (hr.mono (by decide)) rfl T.is_number.g T.is_number.F.kp T.is_number.b (takes_of rfl rfl rfl rfl) p) (dan_cons (d_var (pv 0)) (dan_cons (d_var (pv 2)) dan_nil))) (d_one (d_call (fun _ p => pe_callW G_is_place quiet (hr.mono (by decide)) rfl T.is_place.g T.is_place.F.kp T.is_place.b (takes_of rfl rfl rfl rfl) p) (dan_cons (d_var (pv 3)) dan_nil))))))))
theorem ok_is_state {P : Program} {w : World} {K : PySem.W.Frag} {mg : Str → Option Value} {base : Heap} (T : Tx K mg) (nd : base.NoDigits) : FnG P w K mg base (L2.CX P w) 7 T.f_is_state T.fd_is_state ["row", "value"] (spD K T.et 2 (M_is_state T.C_Row)) := by
  have G_is_pair := ok_is_pair (P := P) (w := w) (base := base) T nd
  have G_Row_base := R.ok_Row_base (P := P) (w := w) (base := base) T
  have G_Row_has_place := R.ok_Row_has_place (P := P) (w := w) (base := base) T
  have G_Row_first := R.ok_Row_first (P := P) (w := w) (base := base) T
  exact fn_data (k := 6) T.is_state.F sc_is_state fun cdv A outer s H E quiet hr => by
    have hu64 := hr.units
    exact (ds_cons (ds_if (dt_not (dt_val (d_call (fun _ p => pe_callW G_is_pair quiet (hr.mono (by decide)) rfl T.is_pair.g T.is_pair.F.kp T.is_pair.b (takes_of rfl rfl rfl rfl) p) (dan_cons (d_prop (DE.o (d_var (pv 0))) (fun _ p => pe_prop p T.cl T.p_Row_base G_Row_base (hr.mono (by decide)) T.b_Row_base .nil pass0 rfl) (by decide)) (dan_cons (d_var (pv 1)) dan_nil))) (fun _ p => pt_val p))) (ds_one (ds_ret (d_bl pe_bl))) ds_nil)
        (ds_cons (ds_asg (vs := [2, 3, 4]) (fun _ p => ps_asg p (pg_tup rfl (pgs_cons (pg_tup rfl (pgs_cons (pg_name (i := 2) sc_is_state.nd rfl (Or.inl rfl)) (pgs_cons (pg_name (i := 3) sc_is_state.nd rfl (Or.inl rfl)) pgs_nil))) (pgs_cons (pg_name (i := 4) sc_is_state.nd rfl (Or.inl rfl)) pgs_nil)))) (good_tup (.cons (good_tup (.cons (good_name (by decide)) (.cons (good_name (by decide)) .nil)) rfl) (.cons (good_name (by decide)) .nil)) rfl) (d_var (pv 1)))
        (ds_cons (ds_if (dt_not (dt_val (d_has (DE.o (d_var (pv 0))) (d_var (pv 4)) (fun _ => rfl) (fun _ _ p q => pe_meth p T.cl T.m_Row_has_place G_Row_has_place (hr.mono (by decide)) T.b_Row_has_place .nil pass0 q)) (fun _ p => pt_val p))) (ds_one (ds_ret (d_bl pe_bl))) ds_nil)
        (ds_one (ds_ret (d_or (d_cmp (o_eq hu64) (DE.o (d_var (pv 2))) (DE.o (d_int pe_int)) (nomark _)) (d_or (d_cmp o_isN (DE.o (d_prop (DE.o (d_var (pv 0))) (fun _ p => pe_prop p T.cl T.p_Row_first G_Row_first (hr.mono (by decide)) T.b_Row_first .nil pass0 rfl) (by decide))) (DE.o (d_non pe_non)) (nomark _)) (d_one (d_cmp o_ge (DE.o (d_var (pv 3))) (DE.o (d_prop (DE.o (d_var (pv 0))) (fun _ p => pe_prop p T.cl T.p_Row_first G_Row_first (hr.mono (by decide)) T.b_Row_first .nil pass0 rfl) (by decide))) (nomark _))))))))))
theorem ok_require_state {P : Program} {w : World} {K : PySem.W.Frag} {mg : Str → Option Value} {base : Heap} (T : Tx K mg) (nd : base.NoDigits) : FnG P w K mg base (L2.CX P w) 8 T.f_require_state T.fd_require_state ["row", "value"] (spD K T.et 2 (M_require_state T.C_Row)) := by
  have G_is_state := ok_is_state (P := P) (w := w) (base := base) T nd
  exact fn_data (k := 7) T.require_state.F sc_require_state fun cdv A outer s H E quiet hr => by
    have hu64 := hr.units
    exact (ds_one (ds_if (dt_not (dt_val (d_call (fun _ p => pe_callW G_is_state quiet (hr.mono (by decide)) rfl T.is_state.g T.is_state.F.kp T.is_state.b (takes_of rfl rfl rfl rfl) p) (dan_cons (d_var (pv 0)) (dan_cons (d_var (pv 1)) dan_nil))) (fun _ p => pt_val p))) (ds_one (ds_raise (x := "InvalidState") T.et_InvalidState (fun _ p => ps_raiseErr rfl T.InvalidState (hr.mono (Nat.zero_le _)) (takes_of rfl rfl rfl rfl) p) (d_var (pv 1)))) ds_nil))
theorem ok_require_states {P : Program} {w : World} {K : PySem.W.Frag} {mg : Str → Option Value} {base : Heap} (T : Tx K mg) (nd : base.NoDigits) : FnG P w K mg base (L2.CX P w) 9 T.f_require_states T.fd_require_states ["row", "values"] (spD K T.et 2 (M_require_states T.C_Row)) := by
  have G_require_state := ok_require_state (P := P) (w := w) (base := base) T nd
  exact fn_data (k := 8) T.require_states.F sc_require_states fun cdv A outer s H E quiet hr => by
    have hu64 := hr.units
    exact (ds_one (ds_for (vs := [2]) (passes_of rfl) rfl (di_seq (pv 1)) (pg_name (i := 2) sc_require_states.nd rfl (Or.inl rfl)) (good_name (by decide)) (ds_one (ds_expr (fun _ p => ps_expr p) (d_call (fun _ p => pe_callW G_require_state quiet (hr.mono (by decide)) rfl T.require_state.g T.require_state.F.kp T.require_state.b (takes_of rfl rfl rfl rfl) p) (dan_cons (d_var (pv 0)) (dan_cons (d_var (pv 2)) dan_nil)))))))
theorem ok_floors_up {P : Program} {w : World} {K : PySem.W.Frag} {mg : Str → Option Value} {base : Heap} (T : Tx K mg) (nd : base.NoDigits) : FnG P w K mg base (L2.CX P w) 5 T.f_floors_up T.fd_floors_up ["row", "value", "low", "ready"] (spD K T.et 4 (M_floors_up T.C_Row)) := by
  have G_Row_last := R.ok_Row_last (P := P) (w := w) (base := base) T
  have G_Row_base := R.ok_Row_base (P := P) (w := w) (base := base) T
  exact fn_data (k := 4) T.floors_up.F sc_floors_up fun cdv A outer s H E quiet hr => by
    have hu64 := hr.units
    exact (ds_cons (ds_set (i := 4) (fun _ p => ps_set (i := 4) sc_floors_up.nd rfl (Or.inl rfl) p) (d_if (dt_cmp o_isN (DE.o (d_prop (DE.o (d_var (pv 0))) (fun _ p => pe_prop p T.cl T.p_Row_last G_Row_last (hr.mono (by decide)) T.b_Row_last .nil pass0 rfl) (by decide))) (DE.o (d_non pe_non)) (nomark _)) (d_int (pe_glob (v := .int 1000) rfl T.c_MAX_PLACE ⟨_, rfl⟩)) (d_prop (DE.o (d_var (pv 0))) (fun _ p => pe_prop p T.cl T.p_Row_last G_Row_last (hr.mono (by decide)) T.b_Row_last .nil pass0 rfl) (by decide))))
        (ds_cons (ds_setF (i := 5) (fun _ p => ps_set (i := 5) sc_floors_up.nd rfl (Or.inl rfl) p) (d_lst (da_cons (d_var (pv 1)) da_nil)))
        (ds_cons (ds_set (i := 6) (fun _ p => ps_set (i := 6) sc_floors_up.nd rfl (Or.inl rfl) p) (d_var (pv 2)))
        (ds_cons (ds_while 1000000 (passes_of rfl) (dt_w (dw_and (dt_cmp o_lt (DE.o (d_var (pv 6))) (DE.o (d_var (pv 4))) (nomark _)) (dw_and1 (dt_w (dw_or (dt_cmp o_lt (DE.o (d_var (pv 6))) (DE.o (d_var (pv 3))) (nomark _)) (dw_or1 (dt_cmp o_notIn (DE.o (d_var (pv 1))) (DE.o (d_tup (da_cons (d_un u_neg (DE.o (d_int pe_int))) (da_cons (d_int pe_int) da_nil)))) rfl))))))) (ds_cons (ds_aug (i := 1) (fun _ p => ps_aug (i := 1) sc_floors_up.nd rfl (Or.inl rfl) p q_div) (d_prop (DE.o (d_var (pv 0))) (fun _ p => pe_prop p T.cl T.p_Row_base G_Row_base (hr.mono (by decide)) T.b_Row_base .nil pass0 rfl) (by decide)))
        (ds_cons (ds_app (i := 5) (fun _ p => ps_expr (pe_bm PySem.F.plainAttrs_list PySem.F.slot_list_append PySem.F.type_list_append mt_append (pv 5) (pa_cons p pa_nil))) (d_var (pv 1)))
        (ds_one (ds_aug (i := 6) (fun _ p => ps_aug (i := 6) sc_floors_up.nd rfl (Or.inl rfl) p q_add) (d_int pe_int))))))
        (ds_one (ds_retO (pv 5)))))))
theorem ok_Sweep_init {P : Program} {w : World} {K : PySem.W.Frag} {mg : Str → Option Value} {base : Heap} (T : Tx K mg) (nd : base.NoDigits) : FnG P w K mg base (L2.CX P w) 6 T.f_Sweep_init T.fd_Sweep_init ["self", "row", "change", "near", "far"] (spI K T.et T.C_Sweep 4 (M_Sweep_init T.C_Row T.C_Sweep)) := by
  have G_floors_up := ok_floors_up (P := P) (w := w) (base := base) T nd
  have G_units := ok_units (P := P) (w := w) (base := base) T nd
  have G_Row_base := R.ok_Row_base (P := P) (w := w) (base := base) T
  exact fn_init (k := 5) (n := 4) T.F_Sweep_init sc_Sweep_init rfl (by decide) fun cdv A outer s H E quiet hr => by
    have hu64 := hr.units
    exact (ds_cons (ds_set (i := 5) (fun _ p => ps_set (i := 5) sc_Sweep_init.nd rfl (Or.inl rfl) p) (DF.all (d_ifF (dt_cmp (o_eq hu64) (DE.o (d_ix (DE.o (d_var (pv 2))) (DE.o (d_int pe_int)) (fun _ _ => rfl))) (DE.o (d_int pe_int)) (nomark _)) (d_lst (da_cons (d_var (pv 3)) (da_cons (d_var (pv 4)) da_nil))) (d_lst (da_cons (d_var (pv 3)) (da_cons (d_var (pv 4)) (da_cons (d_ix (DE.o (d_var (pv 2))) (DE.o (d_int pe_int)) (fun _ _ => rfl)) da_nil)))))))
        (ds_cons (ds_setA (i := 0) T.clSweep T.nSweep_row (fun _ p => ps_fld (pv 0) p (by rfl)) (d_var (pv 1)))
        (ds_cons (ds_setA (i := 0) T.clSweep T.nSweep_low (fun _ p => ps_fld (pv 0) p (by rfl)) (d_c1 (fun _ p => pe_callB (b_min1 rfl) (by rfl) T.b_min (by decide +kernel) p) (DE.o (d_var (pv 5)))))
        (ds_cons (ds_setA (i := 0) T.clSweep T.nSweep_span (fun _ p => ps_fld (pv 0) p (by rfl)) (d_c1 (fun _ p => pe_callB b_abs (by rfl) T.b_abs (by decide +kernel) p) (DE.o (d_op o_sub (DE.o (d_var (pv 4))) (DE.o (d_var (pv 3)))))))
        (ds_cons (ds_setA (i := 0) T.clSweep T.nSweep_ready (fun _ p => ps_fld (pv 0) p (by rfl)) (d_op o_sub (DE.o (d_c2 (fun _ p => pe_callB (b_max rfl) (by rfl) T.b_max (by decide +kernel) p) (DE.o (d_var (pv 3))) (DE.o (d_var (pv 4))))) (DE.o (d_self T.clSweep T.nSweep_low (pe_fld (pv 0) (by rfl))))))
        (ds_one (ds_setA (i := 0) T.clSweep T.nSweep_floors (fun _ p => ps_fld (pv 0) p (by rfl)) (DF.all (d_callF (fun _ p => pe_callW G_floors_up quiet (hr.mono (by decide)) rfl T.floors_up.g T.floors_up.F.kp T.floors_up.b (takes_of rfl rfl rfl rfl) p) (dan_cons (d_var (pv 1)) (dan_cons (d_call (fun _ p => pe_callW G_units quiet (hr.mono (by decide)) rfl T.units.g T.units.F.kp T.units.b (takes_of rfl rfl rfl rfl) p) (dan_cons (d_prop (DE.o (d_var (pv 1))) (fun _ p => pe_prop p T.cl T.p_Row_base G_Row_base (hr.mono (by decide)) T.b_Row_base .nil pass0 rfl) (by decide)) (dan_cons (d_var (pv 2)) (dan_cons (d_self T.clSweep T.nSweep_low (pe_fld (pv 0) (by rfl))) dan_nil)))) (dan_cons (d_self T.clSweep T.nSweep_low (pe_fld (pv 0) (by rfl))) (dan_cons (d_c2 (fun _ p => pe_callB (b_max rfl) (by rfl) T.b_max (by decide +kernel) p) (DE.o (d_var (pv 3))) (DE.o (d_var (pv 4)))) dan_nil)))))))))))))
theorem ok_Sweep_choices {P : Program} {w : World} {K : PySem.W.Frag} {mg : Str → Option Value} {base : Heap} (T : Tx K mg) (nd : base.NoDigits) : FnG P w K mg base (L2.CX P w) 5 T.f_Sweep_choices T.fd_Sweep_choices ["self", "at", "carry"] (spD K T.et 3 (M_Sweep_choices T.C_Row T.C_Sweep)) := by
  have G_Row_base := R.ok_Row_base (P := P) (w := w) (base := base) T
  exact fn_data (k := 4) T.F_Sweep_choices sc_Sweep_choices fun cdv A outer s H E quiet hr => by
    have hu64 := hr.units
    exact (ds_cons (ds_set (i := 3) (fun _ p => ps_set (i := 3) sc_Sweep_choices.nd rfl (Or.inl rfl) p) (d_prop (DE.o (d_fld (DE.o (d_var (pv 0))) T.clSweep T.nSweep_row (fun _ p => pe_fld p (by rfl)))) (fun _ p => pe_prop p T.cl T.p_Row_base G_Row_base (hr.mono (by decide)) T.b_Row_base .nil pass0 rfl) (by decide)))
        (ds_cons (ds_set (i := 4) (fun _ p => ps_set (i := 4) sc_Sweep_choices.nd rfl (Or.inl rfl) p) (d_op o_add (DE.o (d_op o_mod (DE.o (d_ix (DE.o (d_fld (DE.o (d_var (pv 0))) T.clSweep T.nSweep_floors (fun _ p => pe_fld p (by rfl)))) (DE.o (d_var (pv 1))) (fun _ _ => rfl))) (DE.o (d_var (pv 3))))) (DE.o (d_var (pv 2)))))
        (ds_cons (ds_if (dt_w (dw_or (dt_cmp (o_eq hu64) (DE.o (d_var (pv 4))) (DE.o (d_int pe_int)) (nomark _)) (dw_or1 (dt_cmp (o_eq hu64) (DE.o (d_var (pv 4))) (DE.o (d_var (pv 3))) (nomark _))))) (ds_one (ds_retF (d_lst (da_cons (d_tup (da_cons (d_int pe_int) (da_cons (d_op o_div (DE.o (d_var (pv 4))) (DE.o (d_var (pv 3)))) da_nil))) da_nil)))) ds_nil)
        (ds_one (ds_retF (d_lst (da_cons (d_tup (da_cons (d_var (pv 4)) (da_cons (d_int pe_int) da_nil))) (da_cons (d_tup (da_cons (d_op o_sub (DE.o (d_var (pv 4))) (DE.o (d_var (pv 3)))) (da_cons (d_int pe_int) da_nil))) da_nil))))))))
theorem ok_Sweep_steps {P : Program} {w : World} {K : PySem.W.Frag} {mg : Str → Option Value} {base : Heap} (T : Tx K mg) (nd : base.NoDigits) : FnG P w K mg base (L2.CX P w) 6 T.f_Sweep_steps T.fd_Sweep_steps ["self", "at", "costs"] (spD K T.et 3 (M_Sweep_steps T.C_Row T.C_Sweep)) := by
  have G_Sweep_choices := ok_Sweep_choices (P := P) (w := w) (base := base) T nd
  have G_Row_add_cost := R.ok_Row_add_cost (P := P) (w := w) (base := base) T
  exact fn_data (k := 5) T.F_Sweep_steps sc_Sweep_steps fun cdv A outer s H E quiet hr => by
    have hu64 := hr.units
    exact (ds_one (ds_retF (d_compT2 (vs := [3, 4, 5, 6]) (vs1 := [5, 6]) (fun _ p => pe_lc2 (own := [("carry", 3), ("cost", 4), ("digit", 5), ("carried", 6)]) rfl sc_Sweep_steps.nd p (blkOk_by (own := [("carry", 3), ("cost", 4), ("digit", 5), ("carried", 6)]) (N := ["self", "at", "costs", "carry", "cost", "digit", "carried"]) (sc := defScope s_Sweep_steps) (by decide +kernel)) (by decide) (fun _ _ _ _ _ => (pg_tup rfl (pgs_cons (pg_name (i := 3) sc_Sweep_steps.nd rfl (by first | exact Or.inl rfl | exact Or.inr rfl)) (pgs_cons (pg_name (i := 4) sc_Sweep_steps.nd rfl (by first | exact Or.inl rfl | exact Or.inr rfl)) pgs_nil)))) (fun _ _ _ _ _ => DTs.ex (dts_one (dt_cmp o_notN (DE.o (d_var (pv 4))) (DE.o (d_non pe_non)) (nomark _)))) (fun _ _ _ _ _ => DI.can (di_list (DF.all (d_methFP (fun _ _ p p1 => pe_methW p T.clSweep T.m_Sweep_choices G_Sweep_choices quiet (hr.mono (by decide)) T.b_Sweep_choices takesF p1) (d_var (pv 0)) (dan_cons (d_var (pv 1)) (dan_cons (d_var (pv 3)) dan_nil)))))) (fun _ _ _ _ _ => (pg_tup rfl (pgs_cons (pg_name (i := 5) sc_Sweep_steps.nd rfl (by first | exact Or.inl rfl | exact Or.inr rfl)) (pgs_cons (pg_name (i := 6) sc_Sweep_steps.nd rfl (by first | exact Or.inl rfl | exact Or.inr rfl)) pgs_nil)))) (fun _ _ _ _ _ => DTs.ex dts_nil) (fun _ _ _ _ _ => DE.can (d_tup (da_cons (d_op o_add (DE.o (d_var (pv 4))) (DE.o (d_op o_mul (DE.o (d_prop (DE.o (d_fld (DE.o (d_var (pv 0))) T.clSweep T.nSweep_row (fun _ p => pe_fld p (by rfl)))) (fun _ p => pe_prop p T.cl T.p_Row_add_cost G_Row_add_cost (hr.mono (by decide)) T.b_Row_add_cost .nil pass0 rfl) (by decide))) (DE.o (d_c1 (fun _ p => pe_callB b_abs (by rfl) T.b_abs (by decide +kernel) p) (DE.o (d_var (pv 5)))))))) (da_cons (d_var (pv 5)) (da_cons (d_var (pv 3)) (da_cons (d_var (pv 6)) da_nil))))))) (di_enumT (by rfl) T.b_enumerate (d_var (pv 2))) (good_tup (.cons (good_name (by decide)) (.cons (good_name (by decide)) .nil)) rfl) (good_tup (.cons (good_name (by decide)) (.cons (good_name (by decide)) .nil)) rfl))))
theorem ok_Sweep_least_costs {P : Program} {w : World} {K : PySem.W.Frag} {mg : Str → Option Value} {base : Heap} (T : Tx K mg) (nd : base.NoDigits) : FnG P w K mg base (L2.CX P w) 7 T.f_Sweep_least_costs T.fd_Sweep_least_costs ["self"] (spD K T.et 1 (M_Sweep_least_costs T.C_Row T.C_Sweep)) := by
  have G_Sweep_steps := ok_Sweep_steps (P := P) (w := w) (base := base) T nd
  exact fn_data (k := 6) T.F_Sweep_least_costs sc_Sweep_least_costs fun cdv A outer s H E quiet hr => by
    have hu64 := hr.units
    exact (ds_cons (ds_setF (i := 1) (fun _ p => ps_set (i := 1) sc_Sweep_least_costs.nd rfl (Or.inl rfl) p) (d_lst (da_cons (d_tup (da_cons (d_int pe_int) (da_cons (d_non pe_non) da_nil))) da_nil)))
        (ds_cons (ds_for (vs := [2]) (passes_of rfl) rfl (di_range1 rfl T.b_range (da_cons (d_op o_sub (DE.o (d_c1 (fun _ p => pe_callB b_len (by rfl) T.b_len (by decide +kernel) p) (DE.o (d_fld (DE.o (d_var (pv 0))) T.clSweep T.nSweep_floors (fun _ p => pe_fld p (by rfl)))))) (DE.o (d_int pe_int))) da_nil)) (pg_name (i := 2) sc_Sweep_least_costs.nd rfl (Or.inl rfl)) (good_name (by decide)) (ds_cons (ds_set (i := 3) (fun _ p => ps_set (i := 3) sc_Sweep_least_costs.nd rfl (Or.inr rfl) p) (DF.all (d_methFP (fun _ _ p p1 => pe_methW p T.clSweep T.m_Sweep_steps G_Sweep_steps quiet (hr.mono (by decide)) T.b_Sweep_steps (takes_of rfl rfl rfl rfl) p1) (d_var (pv 0)) (dan_cons (d_var (pv 2)) (dan_cons (d_ix (d_varO (pv 1)) (DE.o (d_un u_neg (DE.o (d_int pe_int)))) (fun _ _ => rfl)) dan_nil)))))
        (ds_cons (ds_setLc (i := 4) (vs := [5]) (fun _ p => ps_setLc (i := 4) (own := [("carried", 5)]) rfl sc_Sweep_least_costs.nd rfl rfl (sw_true rfl rfl rfl (by decide +kernel)) p (blkOk_by (own := [("carried", 5)]) (N := ["self", "table", "at", "found", "least", "carried", "step"]) (sc := defScope s_Sweep_least_costs) (by decide +kernel)) (fun _ _ _ _ _ => (pg_name (i := 5) sc_Sweep_least_costs.nd rfl (by first | exact Or.inl rfl | exact Or.inr rfl))) (fun _ _ _ _ _ => DTs.ex dts_nil) (fun _ _ _ _ _ => DE.can (d_minLD (fun _ _ p q => pe_callBK (cr_minLD rfl) (by rfl) T.b_min (by decide +kernel) p q) (DE.o (DF.all (d_comp (vs := [6]) (fun _ p => pe_lc (own := [("step", 6)]) rfl sc_Sweep_least_costs.nd p (blkOk_by (own := [("step", 6)]) (N := ["self", "table", "at", "found", "least", "carried", "step"]) (by rfl)) (fun _ _ _ _ _ => (pg_name (i := 6) sc_Sweep_least_costs.nd rfl (by first | exact Or.inl rfl | exact Or.inr rfl))) (fun _ _ _ _ _ => DTs.ex (dts_one (dt_cmp (o_eq hu64) (DE.o (d_ix (DE.o (d_var (pv 6))) (DE.o (d_int pe_int)) (fun _ _ => rfl))) (DE.o (d_var (pv 5))) (nomark _)))) (fun _ _ _ _ _ => DE.can (d_ix (DE.o (d_var (pv 6))) (DE.o (d_int pe_int)) (fun _ _ => rfl)))) (di_list (d_var (pv 3))) (good_name (by decide))))) (d_non pe_non)))) (di_tup (d_tup (da_cons (d_int pe_int) (da_cons (d_int pe_int) da_nil)))) (good_name (by decide)))
        (ds_one (ds_app (i := 1) (fun _ p => ps_expr (pe_bm PySem.F.plainAttrs_list PySem.F.slot_list_append PySem.F.type_list_append mt_append (pv 1) (pa_cons p pa_nil))) (d_c1 (fun _ p => pe_callTy b_tuple (by rfl) T.b_tuple (by decide +kernel) p) (DE.o (d_var (pv 4)))))))))
        (ds_one (ds_retO (pv 1)))))
theorem ok_Sweep_moves {P : Program} {w : World} {K : PySem.W.Frag} {mg : Str → Option Value} {base : Heap} (T : Tx K mg) (nd : base.NoDigits) : FnG P w K mg base (L2.CX P w) 2 T.f_Sweep_moves T.fd_Sweep_moves ["self", "at"] (spD K T.et 2 (M_Sweep_moves T.C_Sweep)) := by
  exact fn_data (k := 1) T.F_Sweep_moves sc_Sweep_moves fun cdv A outer s H E quiet hr => by
    have hu64 := hr.units
    exact (ds_one (ds_ret (d_op o_sub (DE.o (d_op o_mul (DE.o (d_int pe_int)) (DE.o (d_var (pv 1))))) (DE.o (d_fld (DE.o (d_var (pv 0))) T.clSweep T.nSweep_span (fun _ p => pe_fld p (by rfl)))))))
theorem ok_Sweep_end_cost {P : Program} {w : World} {K : PySem.W.Frag} {mg : Str → Option Value} {base : Heap} (T : Tx K mg) (nd : base.NoDigits) : FnG P w K mg base (L2.CX P w) 5 T.f_Sweep_end_cost T.fd_Sweep_end_cost ["self", "at", "carry"] (spD K T.et 3 (M_Sweep_end_cost T.C_Row T.C_Sweep)) := by
  have G_Sweep_moves := ok_Sweep_moves (P := P) (w := w) (base := base) T nd
  have G_Row_add_cost := R.ok_Row_add_cost (P := P) (w := w) (base := base) T
  have G_Row_move_cost := R.ok_Row_move_cost (P := P) (w := w) (base := base) T
  exact fn_data (k := 4) T.F_Sweep_end_cost sc_Sweep_end_cost fun cdv A outer s H E quiet hr => by
    have hu64 := hr.units
    exact (ds_cons (ds_set (i := 3) (fun _ p => ps_set (i := 3) sc_Sweep_end_cost.nd rfl (Or.inl rfl) p) (d_op o_add (DE.o (d_ix (DE.o (d_fld (DE.o (d_var (pv 0))) T.clSweep T.nSweep_floors (fun _ p => pe_fld p (by rfl)))) (DE.o (d_var (pv 1))) (fun _ _ => rfl))) (DE.o (d_var (pv 2)))))
        (ds_one (ds_ret (d_op o_add (DE.o (d_op o_mul (DE.o (d_prop (DE.o (d_fld (DE.o (d_var (pv 0))) T.clSweep T.nSweep_row (fun _ p => pe_fld p (by rfl)))) (fun _ p => pe_prop p T.cl T.p_Row_add_cost G_Row_add_cost (hr.mono (by decide)) T.b_Row_add_cost .nil pass0 rfl) (by decide))) (DE.o (d_c1 (fun _ p => pe_callB b_abs (by rfl) T.b_abs (by decide +kernel) p) (DE.o (d_var (pv 3))))))) (DE.o (d_op o_mul (DE.o (d_prop (DE.o (d_fld (DE.o (d_var (pv 0))) T.clSweep T.nSweep_row (fun _ p => pe_fld p (by rfl)))) (fun _ p => pe_prop p T.cl T.p_Row_move_cost G_Row_move_cost (hr.mono (by decide)) T.b_Row_move_cost .nil pass0 rfl) (by decide))) (DE.o (d_methP (fun _ _ p p1 => pe_methW p T.clSweep T.m_Sweep_moves G_Sweep_moves quiet (hr.mono (by decide)) T.b_Sweep_moves (takes_of rfl rfl rfl rfl) p1) (d_var (pv 0)) (dan_cons (d_var (pv 1)) dan_nil)))))))))
theorem ok_Sweep_ends {P : Program} {w : World} {K : PySem.W.Frag} {mg : Str → Option Value} {base : Heap} (T : Tx K mg) (nd : base.NoDigits) : FnG P w K mg base (L2.CX P w) 6 T.f_Sweep_ends T.fd_Sweep_ends ["self", "table"] (spD K T.et 2 (M_Sweep_ends T.C_Row T.C_Sweep)) := by
  have G_Sweep_end_cost := ok_Sweep_end_cost (P := P) (w := w) (base := base) T nd
  exact fn_data (k := 5) T.F_Sweep_ends sc_Sweep_ends fun cdv A outer s H E quiet hr => by
    have hu64 := hr.units
    exact (ds_one (ds_retF (d_compT2 (vs := [2, 3, 4]) (vs1 := [3, 4]) (fun _ p => pe_lc2 (own := [("at", 2), ("carry", 3), ("cost", 4)]) rfl sc_Sweep_ends.nd p (blkOk_by (own := [("at", 2), ("carry", 3), ("cost", 4)]) (N := ["self", "table", "at", "carry", "cost"]) (sc := defScope s_Sweep_ends) (by decide +kernel)) (by decide) (fun _ _ _ _ _ => (pg_name (i := 2) sc_Sweep_ends.nd rfl (by first | exact Or.inl rfl | exact Or.inr rfl))) (fun _ _ _ _ _ => DTs.ex dts_nil) (fun _ _ _ _ _ => DI.can (di_enumT (by rfl) T.b_enumerate (d_ix (DE.o (d_var (pv 1))) (DE.o (d_var (pv 2))) (fun _ _ => rfl)))) (fun _ _ _ _ _ => (pg_tup rfl (pgs_cons (pg_name (i := 3) sc_Sweep_ends.nd rfl (by first | exact Or.inl rfl | exact Or.inr rfl)) (pgs_cons (pg_name (i := 4) sc_Sweep_ends.nd rfl (by first | exact Or.inl rfl | exact Or.inr rfl)) pgs_nil)))) (fun _ _ _ _ _ => DTs.ex (dts_one (dt_cmp o_notN (DE.o (d_var (pv 4))) (DE.o (d_non pe_non)) (nomark _)))) (fun _ _ _ _ _ => DE.can (d_tup (da_cons (d_op o_add (DE.o (d_var (pv 4))) (DE.o (d_methP (fun _ _ p p1 => pe_methW p T.clSweep T.m_Sweep_end_cost G_Sweep_end_cost quiet (hr.mono (by decide)) T.b_Sweep_end_cost takesF p1) (d_var (pv 0)) (dan_cons (d_var (pv 2)) (dan_cons (d_var (pv 3)) dan_nil))))) (da_cons (d_var (pv 2)) (da_cons (d_var (pv 3)) da_nil)))))) (di_range2 rfl T.b_range (da_cons (d_fld (DE.o (d_var (pv 0))) T.clSweep T.nSweep_ready (fun _ p => pe_fld p (by rfl))) (da_cons (d_c1 (fun _ p => pe_callB b_len (by rfl) T.b_len (by decide +kernel) p) (DE.o (d_fld (DE.o (d_var (pv 0))) T.clSweep T.nSweep_floors (fun _ p => pe_fld p (by rfl))))) da_nil))) (good_name (by decide)) (good_tup (.cons (good_name (by decide)) (.cons (good_name (by decide)) .nil)) rfl))))
theorem ok_least_cost {P : Program} {w : World} {K : PySem.W.Frag} {mg : Str → Option Value} {base : Heap} (T : Tx K mg) (nd : base.NoDigits) : FnG P w K mg base (L2.CX P w) 8 T.f_least_cost T.fd_least_cost ["sweep"] (spD K T.et 1 (M_least_cost T.C_Row T.C_Sweep)) := by
  have G_Sweep_ends := ok_Sweep_ends (P := P) (w := w) (base := base) T nd
  have G_Sweep_least_costs := ok_Sweep_least_costs (P := P) (w := w) (base := base) T nd
  exact fn_data (k := 7) T.least_cost.F sc_least_cost fun cdv A outer s H E quiet hr => by
    have hu64 := hr.units
    exact (ds_one (ds_ret (d_c1 (fun _ p => pe_callB (b_min1 rfl) (by rfl) T.b_min (by decide +kernel) p) (DE.o (DF.all (d_comp (vs := [1]) (fun _ p => pe_lc (own := [("end", 1)]) rfl sc_least_cost.nd p (blkOk_by (own := [("end", 1)]) (N := ["sweep", "end"]) (sc := defScope s_least_cost) (by decide +kernel)) (fun _ _ _ _ _ => (pg_name (i := 1) sc_least_cost.nd rfl (Or.inl rfl))) (fun _ _ _ _ _ => DTs.ex dts_nil) (fun _ _ _ _ _ => DE.can (d_ix (DE.o (d_var (pv 1))) (DE.o (d_int pe_int)) (fun _ _ => rfl)))) (di_list (DF.all (d_methFP (fun _ _ p p1 => pe_methW p T.clSweep T.m_Sweep_ends G_Sweep_ends quiet (hr.mono (by decide)) T.b_Sweep_ends (takes_of rfl rfl rfl rfl) p1) (d_var (pv 0)) (dan_cons (DF.all (d_methF0P (fun _ p => pe_methW0 p T.clSweep T.m_Sweep_least_costs G_Sweep_least_costs quiet (hr.mono (by decide)) T.b_Sweep_least_costs (takes_of rfl rfl rfl rfl)) (d_var (pv 0)))) dan_nil)))) (good_name (by decide))))))))
theorem ok_difference {P : Program} {w : World} {K : PySem.W.Frag} {mg : Str → Option Value} {base : Heap} (T : Tx K mg) (nd : base.NoDigits) : FnG P w K mg base (L2.CX P w) 5 T.f_difference T.fd_difference ["base", "start", "goal"] (spD K T.et 3 M_difference) := by
  have G_sum_of := ok_sum_of (P := P) (w := w) (base := base) T nd
  have G_negative := ok_negative (P := P) (w := w) (base := base) T nd
  exact fn_data (k := 4) T.difference.F sc_difference fun cdv A outer s H E quiet hr => by
    have hu64 := hr.units
    exact (ds_one (ds_ret (d_call (fun _ p => pe_callW G_sum_of quiet (hr.mono (by decide)) rfl T.sum_of.g T.sum_of.F.kp T.sum_of.b (takes_of rfl rfl rfl rfl) p) (dan_cons (d_var (pv 0)) (dan_cons (DF.all (d_lst (da_cons (d_ix (DE.o (d_var (pv 2))) (DE.o (d_int pe_int)) (fun _ _ => rfl)) (da_cons (d_call (fun _ p => pe_callW G_negative quiet (hr.mono (by decide)) rfl T.negative.g T.negative.F.kp T.negative.b (takes_of rfl rfl rfl rfl) p) (dan_cons (d_ix (DE.o (d_var (pv 1))) (DE.o (d_int pe_int)) (fun _ _ => rfl)) dan_nil)) da_nil)))) dan_nil)))))
theorem ok_sweep_of_any {P : Program} {w : World} {K : PySem.W.Frag} {mg : Str → Option Value} {base : Heap} (T : Tx K mg) (nd : base.NoDigits) : FnG P w K mg base (L2.CX P w) 8 T.f_sweep_of_any T.fd_sweep_of_any ["row", "start", "goal"] (spD K T.et 3 (M_sweep_of_any T.C_Row T.C_Sweep)) := by
  have G_Sweep_init := ok_Sweep_init (P := P) (w := w) (base := base) T nd
  have G_difference := ok_difference (P := P) (w := w) (base := base) T nd
  have G_Row_base := R.ok_Row_base (P := P) (w := w) (base := base) T
  exact fn_data (k := 7) T.sweep_of_any.F sc_sweep_of_any fun cdv A outer s H E quiet hr => by
    have hu64 := hr.units
    exact (ds_one (ds_ret (d_newP (fun _ p => pe_makeW T.mkSweep G_Sweep_init quiet (hr.mono (by decide)) rfl T.g_Sweep T.b_Sweep_init (takes_of rfl rfl rfl rfl) p) (dan_cons (d_var (pv 0)) (dan_cons (d_call (fun _ p => pe_callW G_difference quiet (hr.mono (by decide)) rfl T.difference.g T.difference.F.kp T.difference.b (takes_of rfl rfl rfl rfl) p) (dan_cons (d_prop (DE.o (d_var (pv 0))) (fun _ p => pe_prop p T.cl T.p_Row_base G_Row_base (hr.mono (by decide)) T.b_Row_base .nil pass0 rfl) (by decide)) (dan_cons (d_var (pv 1)) (dan_cons (d_var (pv 2)) dan_nil)))) (dan_cons (d_ix (DE.o (d_var (pv 1))) (DE.o (d_int pe_int)) (fun _ _ => rfl)) (dan_cons (d_ix (DE.o (d_var (pv 2))) (DE.o (d_int pe_int)) (fun _ _ => rfl)) dan_nil)))))))
theorem ok_sweep_between {P : Program} {w : World} {K : PySem.W.Frag} {mg : Str → Option Value} {base : Heap} (T : Tx K mg) (nd : base.NoDigits) : FnG P w K mg base (L2.CX P w) 10 T.f_sweep_between T.fd_sweep_between ["row", "start", "goal"] (spD K T.et 3 (M_sweep_between T.C_Row T.C_Sweep)) := by
  have G_require_states := ok_require_states (P := P) (w := w) (base := base) T nd
  have G_sweep_of_any := ok_sweep_of_any (P := P) (w := w) (base := base) T nd
  exact fn_data (k := 9) T.sweep_between.F sc_sweep_between fun cdv A outer s H E quiet hr => by
    have hu64 := hr.units
    exact (ds_cons (ds_expr (fun _ p => ps_expr p) (d_call (fun _ p => pe_callW G_require_states quiet (hr.mono (by decide)) rfl T.require_states.g T.require_states.F.kp T.require_states.b (takes_of rfl rfl rfl rfl) p) (dan_cons (d_var (pv 0)) (dan_cons (DF.all (d_lst (da_cons (d_var (pv 1)) (da_cons (d_var (pv 2)) da_nil)))) dan_nil))))
        (ds_one (ds_ret (d_call (fun _ p => pe_callW G_sweep_of_any quiet (hr.mono (by decide)) rfl T.sweep_of_any.g T.sweep_of_any.F.kp T.sweep_of_any.b (takes_of rfl rfl rfl rfl) p) (dan_cons (d_var (pv 0)) (dan_cons (d_var (pv 1)) (dan_cons (d_var (pv 2)) dan_nil)))))))
theorem ok_distance {P : Program} {w : World} {K : PySem.W.Frag} {mg : Str → Option Value} {base : Heap} (T : Tx K mg) (nd : base.NoDigits) : FnG P w K mg base (L2.CX P w) 11 T.f_distance T.fd_distance ["row", "start", "goal"] (spD K T.et 3 (M_distance T.C_Row T.C_Sweep)) := by
  have G_least_cost := ok_least_cost (P := P) (w := w) (base := base) T nd
  have G_sweep_between := ok_sweep_between (P := P) (w := w) (base := base) T nd
  exact fn_data (k := 10) T.distance.F sc_distance fun cdv A outer s H E quiet hr => by
    have hu64 := hr.units
    exact (ds_one (ds_ret (d_call (fun _ p => pe_callW G_least_cost quiet (hr.mono (by decide)) rfl T.least_cost.g T.least_cost.F.kp T.least_cost.b (takes_of rfl rfl rfl rfl) p) (dan_cons (d_call (fun _ p => pe_callW G_sweep_between quiet (hr.mono (by decide)) rfl T.sweep_between.g T.sweep_between.F.kp T.sweep_between.b (takes_of rfl rfl rfl rfl) p) (dan_cons (d_var (pv 0)) (dan_cons (d_var (pv 1)) (dan_cons (d_var (pv 2)) dan_nil)))) dan_nil))))
theorem ok_law_numbers {P : Program} {w : World} {K : PySem.W.Frag} {mg : Str → Option Value} {base : Heap} (T : Tx K mg) (nd : base.NoDigits) : FnG P w K mg base (L2.CX P w) 2 T.f_law_numbers T.fd_law_numbers ["_law_cell", "_law_salt", "_law_sizes"] (spD K T.et 3 M_law_numbers) := by
  exact fn_data (k := 1) T.law_numbers.F sc_law_numbers fun cdv A outer s H E quiet hr => by
    have hu64 := hr.units
    exact (ds_cons (ds_set (i := 3) (fun _ p => ps_set (i := 3) sc_law_numbers.nd rfl (Or.inl rfl) p) (d_c2 (fun _ p => pe_callB (b_max rfl) (by rfl) T.b_max (by decide +kernel) p) (DE.o (d_var (pv 0))) (DE.o (d_op o_sub (DE.o (d_un u_neg (DE.o (d_int pe_int)))) (DE.o (d_var (pv 0)))))))
        (ds_cons (ds_set (i := 4) (fun _ p => ps_set (i := 4) sc_law_numbers.nd rfl (Or.inl rfl) p) (d_var (pv 3)))
        (ds_cons (ds_setF (i := 5) (fun _ p => ps_set (i := 5) sc_law_numbers.nd rfl (Or.inl rfl) p) (d_lst da_nil))
        (ds_cons (ds_for (vs := [6]) (passes_of rfl) rfl (di_range1 rfl T.b_range (da_cons (d_c1 (fun _ p => pe_callB b_len (by rfl) T.b_len (by decide +kernel) p) (DE.o (d_var (pv 2)))) da_nil)) (pg_name (i := 6) sc_law_numbers.nd rfl (Or.inl rfl)) (good_name (by decide)) (ds_one (ds_if (dt_w (dw_and (dt_cmp o_ge (DE.o (d_var (pv 3))) (DE.o (d_op o_pow (DE.o (d_int pe_int)) (DE.o (d_int pe_int)))) (nomark _)) (dw_and1 (dt_cmp o_gt (DE.o (d_var (pv 4))) (DE.o (d_int pe_int)) (nomark _))))) (ds_cons (ds_app (i := 5) (fun _ p => ps_expr (pe_bm PySem.F.plainAttrs_list PySem.F.slot_list_append PySem.F.type_list_append mt_append (pv 5) (pa_cons p pa_nil))) (d_op o_mod (DE.o (d_var (pv 4))) (DE.o (d_ix (DE.o (d_var (pv 2))) (DE.o (d_var (pv 6))) (fun _ _ => rfl)))))
        (ds_one (ds_set (i := 4) (fun _ p => ps_set (i := 4) sc_law_numbers.nd rfl (Or.inl rfl) p) (d_op o_div (DE.o (d_var (pv 4))) (DE.o (d_ix (DE.o (d_var (pv 2))) (DE.o (d_var (pv 6))) (fun _ _ => rfl))))))) (ds_cons (ds_set (i := 7) (fun _ p => ps_set (i := 7) sc_law_numbers.nd rfl (Or.inl rfl) p) (d_op o_mod (DE.o (d_op o_pow (DE.o (d_op o_add (DE.o (d_op o_add (DE.o (d_op o_mod (DE.o (d_var (pv 3))) (DE.o (d_int pe_int)))) (DE.o (d_op o_mul (DE.o (d_int pe_int)) (DE.o (d_var (pv 1))))))) (DE.o (d_int pe_int)))) (DE.o (d_int pe_int)))) (DE.o (d_int pe_int))))
        (ds_cons (ds_set (i := 7) (fun _ p => ps_set (i := 7) sc_law_numbers.nd rfl (Or.inl rfl) p) (d_op o_mod (DE.o (d_op o_mul (DE.o (d_op o_add (DE.o (d_var (pv 7))) (DE.o (d_op o_mul (DE.o (d_int pe_int)) (DE.o (d_op o_add (DE.o (d_var (pv 6))) (DE.o (d_int pe_int)))))))) (DE.o (d_op o_add (DE.o (d_var (pv 6))) (DE.o (d_int pe_int)))))) (DE.o (d_int pe_int))))
        (ds_cons (ds_set (i := 7) (fun _ p => ps_set (i := 7) sc_law_numbers.nd rfl (Or.inl rfl) p) (d_op o_mod (DE.o (d_op o_mul (DE.o (d_op o_mod (DE.o (d_op o_pow (DE.o (d_var (pv 7))) (DE.o (d_int pe_int)))) (DE.o (d_int pe_int)))) (DE.o (d_int pe_int)))) (DE.o (d_int pe_int))))
        (ds_one (ds_app (i := 5) (fun _ p => ps_expr (pe_bm PySem.F.plainAttrs_list PySem.F.slot_list_append PySem.F.type_list_append mt_append (pv 5) (pa_cons p pa_nil))) (d_op o_mod (DE.o (d_op o_div (DE.o (d_var (pv 7))) (DE.o (d_int pe_int)))) (DE.o (d_ix (DE.o (d_var (pv 2))) (DE.o (d_var (pv 6))) (fun _ _ => rfl))))))))))))
        (ds_one (ds_retO (pv 5)))))))
theorem ok_law_power {P : Program} {w : World} {K : PySem.W.Frag} {mg : Str → Option Value} {base : Heap} (T : Tx K mg) (nd : base.NoDigits) : FnG P w K mg base (L2.CX P w) 2 T.f_law_power T.fd_law_power ["_law_base", "_law_count"] (spD K T.et 2 M_law_power_v2) := by
  exact fn_data (k := 1) T.law_power.F sc_law_power fun cdv A outer s H E quiet hr => by
    have hu64 := hr.units
    exact (ds_cons (ds_set (i := 2) (fun _ p => ps_set (i := 2) sc_law_power.nd rfl (Or.inl rfl) p) (d_int pe_int))
        (ds_cons (ds_while 1000000 (passes_of rfl) (dt_cmp o_gt (DE.o (d_var (pv 1))) (DE.o (d_int pe_int)) (nomark _)) (ds_cons (ds_if (dt_cmp (o_eq hu64) (DE.o (d_op o_mod (DE.o (d_var (pv 1))) (DE.o (d_int pe_int)))) (DE.o (d_int pe_int)) (nomark _)) (ds_one (ds_set (i := 2) (fun _ p => ps_set (i := 2) sc_law_power.nd rfl (Or.inl rfl) p) (d_op o_mul (DE.o (d_var (pv 2))) (DE.o (d_var (pv 0)))))) ds_nil)
        (ds_one (ds_par (i := 0) (j := 1) (fun _ p => ps_par (i := 0) (j := 1) rfl sc_law_power.nd rfl rfl (by decide) rfl rfl p (by rfl)) (da_cons (d_op o_mul (DE.o (d_var (pv 0))) (DE.o (d_var (pv 0)))) (da_cons (d_op o_div (DE.o (d_var (pv 1))) (DE.o (d_int pe_int))) da_nil))))))
        (ds_one (ds_ret (d_var (pv 2))))))
theorem ok_law_reduced {P : Program} {w : World} {K : PySem.W.Frag} {mg : Str → Option Value} {base : Heap} (T : Tx K mg) (nd : base.NoDigits) : FnG P w K mg base (L2.CX P w) 2 T.f_law_reduced T.fd_law_reduced ["_law_base", "_law_numerator", "_law_exponent"] (spD K T.et 3 M_law_reduced) := by
  exact fn_data (k := 1) T.law_reduced.F sc_law_reduced fun cdv A outer s H E quiet hr => by
    have hu64 := hr.units
    exact (ds_cons (ds_while 1000000 (passes_of rfl) (dt_w (dw_and (dt_cmp (o_ne hu64) (DE.o (d_var (pv 1))) (DE.o (d_int pe_int)) (nomark _)) (dw_and1 (dt_cmp (o_eq hu64) (DE.o (d_op o_mod (DE.o (d_var (pv 1))) (DE.o (d_var (pv 0))))) (DE.o (d_int pe_int)) (nomark _))))) (ds_one (ds_par (i := 1) (j := 2) (fun _ p => ps_par (i := 1) (j := 2) rfl sc_law_reduced.nd rfl rfl (by decide) rfl rfl p (by rfl)) (da_cons (d_op o_div (DE.o (d_var (pv 1))) (DE.o (d_var (pv 0)))) (da_cons (d_op o_add (DE.o (d_var (pv 2))) (DE.o (d_int pe_int))) da_nil)))))
        (ds_one (ds_ret (d_if (dt_cmp (o_ne hu64) (DE.o (d_var (pv 1))) (DE.o (d_int pe_int)) (nomark _)) (d_tup (da_cons (d_var (pv 1)) (da_cons (d_var (pv 2)) da_nil))) (d_tup (da_cons (d_int pe_int) (da_cons (d_int pe_int) da_nil)))))))
theorem ok_law_sum {P : Program} {w : World} {K : PySem.W.Frag} {mg : Str → Option Value} {base : Heap} (T : Tx K mg) (nd : base.NoDigits) : FnG P w K mg base (L2.CX P w) 3 T.f_law_sum T.fd_law_sum ["_law_base", "_law_one", "_law_other"] (spD K T.et 3 M_law_sum_v2) := by
  have G_law_reduced := ok_law_reduced (P := P) (w := w) (base := base) T nd
  have G_law_power := ok_law_power (P := P) (w := w) (base := base) T nd
  exact fn_data (k := 2) T.law_sum.F sc_law_sum fun cdv A outer s H E quiet hr => by
    have hu64 := hr.units
    exact (ds_cons (ds_set (i := 3) (fun _ p => ps_set (i := 3) sc_law_sum.nd rfl (Or.inl rfl) p) (d_c2 (fun _ p => pe_callB (b_min rfl) (by rfl) T.b_min (by decide +kernel) p) (DE.o (d_ix (DE.o (d_var (pv 1))) (DE.o (d_int pe_int)) (fun _ _ => rfl))) (DE.o (d_ix (DE.o (d_var (pv 2))) (DE.o (d_int pe_int)) (fun _ _ => rfl)))))
        (ds_cons (ds_set (i := 4) (fun _ p => ps_set (i := 4) sc_law_sum.nd rfl (Or.inl rfl) p) (d_op o_mul (DE.o (d_ix (DE.o (d_var (pv 1))) (DE.o (d_int pe_int)) (fun _ _ => rfl))) (DE.o (d_call (fun _ p => pe_callW G_law_power quiet (hr.mono (by decide)) rfl T.law_power.g T.law_power.F.kp T.law_power.b (takes_of rfl rfl rfl rfl) p) (dan_cons (d_var (pv 0)) (dan_cons (d_op o_sub (DE.o (d_ix (DE.o (d_var (pv 1))) (DE.o (d_int pe_int)) (fun _ _ => rfl))) (DE.o (d_var (pv 3)))) dan_nil))))))
        (ds_one (ds_ret (d_call (fun _ p => pe_callW G_law_reduced quiet (hr.mono (by decide)) rfl T.law_reduced.g T.law_reduced.F.kp T.law_reduced.b (takes_of rfl rfl rfl rfl) p) (dan_cons (d_var (pv 0)) (dan_cons (d_op o_add (DE.o (d_var (pv 4))) (DE.o (d_op o_mul (DE.o (d_ix (DE.o (d_var (pv 2))) (DE.o (d_int pe_int)) (fun _ _ => rfl))) (DE.o (d_call (fun _ p => pe_callW G_law_power quiet (hr.mono (by decide)) rfl T.law_power.g T.law_power.F.kp T.law_power.b (takes_of rfl rfl rfl rfl) p) (dan_cons (d_var (pv 0)) (dan_cons (d_op o_sub (DE.o (d_ix (DE.o (d_var (pv 2))) (DE.o (d_int pe_int)) (fun _ _ => rfl))) (DE.o (d_var (pv 3)))) dan_nil))))))) (dan_cons (d_var (pv 3)) dan_nil))))))))
theorem ok_law_integer {P : Program} {w : World} {K : PySem.W.Frag} {mg : Str → Option Value} {base : Heap} (T : Tx K mg) (nd : base.NoDigits) : FnG P w K mg base (L2.CX P w) 2 T.f_law_integer T.fd_law_integer ["_law_digits"] (spD K T.et 1 M_law_integer) := by
  exact fn_data (k := 1) T.law_integer.F sc_law_integer fun cdv A outer s H E quiet hr => by
    have hu64 := hr.units
    exact (ds_cons (ds_par (i := 1) (j := 2) (fun _ p => ps_par (i := 1) (j := 2) rfl sc_law_integer.nd rfl rfl (by decide) rfl rfl p (by rfl)) (da_cons (d_op o_mod (DE.o (d_ix (DE.o (d_var (pv 0))) (DE.o (d_int pe_int)) (fun _ _ => rfl))) (DE.o (d_int pe_int))) (da_cons (d_ix (DE.o (DF.all (d_lst (da_cons (d_int pe_int) (da_cons (d_un u_neg (DE.o (d_int pe_int))) da_nil))))) (DE.o (d_op o_mod (DE.o (d_ix (DE.o (d_var (pv 0))) (DE.o (d_int pe_int)) (fun _ _ => rfl))) (DE.o (d_int pe_int)))) (fun _ _ => rfl)) da_nil)))
        (ds_cons (ds_if (dt_cmp o_lt (DE.o (d_var (pv 1))) (DE.o (d_int pe_int)) (nomark _)) (ds_one (ds_ret (d_op o_mul (DE.o (d_var (pv 2))) (DE.o (d_ix (DE.o (DF.all (d_lst (da_cons (d_int pe_int) (da_cons (d_op o_mod (DE.o (d_ix (DE.o (d_var (pv 0))) (DE.o (d_int pe_int)) (fun _ _ => rfl))) (DE.o (d_int pe_int))) (da_cons (d_op o_add (DE.o (d_op o_mul (DE.o (d_ix (DE.o (d_var (pv 0))) (DE.o (d_int pe_int)) (fun _ _ => rfl))) (DE.o (d_int pe_int)))) (DE.o (d_ix (DE.o (d_var (pv 0))) (DE.o (d_int pe_int)) (fun _ _ => rfl)))) da_nil)))))) (DE.o (d_var (pv 1))) (fun _ _ => rfl)))))) ds_nil)
        (ds_cons (ds_set (i := 3) (fun _ p => ps_set (i := 3) sc_law_integer.nd rfl (Or.inl rfl) p) (d_int pe_int))
        (ds_cons (ds_for (vs := [4]) (passes_of rfl) rfl (di_list (d_sl (DE.o (d_var (pv 0))) (dp_some (DE.o (d_int pe_int))) (dp_some (DE.o (d_op o_add (DE.o (d_int pe_int)) (DE.o (d_ix (DE.o (DF.all (d_lst (da_cons (d_int pe_int) (da_cons (d_int pe_int) da_nil))))) (DE.o (d_op o_sub (DE.o (d_var (pv 1))) (DE.o (d_int pe_int)))) (fun _ _ => rfl)))))))) (pg_name (i := 4) sc_law_integer.nd rfl (Or.inl rfl)) (good_name (by decide)) (ds_one (ds_set (i := 3) (fun _ p => ps_set (i := 3) sc_law_integer.nd rfl (Or.inl rfl) p) (d_op o_add (DE.o (d_op o_mul (DE.o (d_var (pv 3))) (DE.o (d_int pe_int)))) (DE.o (d_var (pv 4)))))))
        (ds_one (ds_ret (d_op o_mul (DE.o (d_var (pv 2))) (DE.o (d_var (pv 3))))))))))
theorem ok_law_spec {P : Program} {w : World} {K : PySem.W.Frag} {mg : Str → Option Value} {base : Heap} (T : Tx K mg) (nd : base.NoDigits) : FnG P w K mg base (L2.CX P w) 2 T.f_law_spec T.fd_law_spec ["_law_digits"] (spD K T.et 1 M_law_spec) := by
  exact fn_data (k := 1) T.law_spec.F sc_law_spec fun cdv A outer s H E quiet hr => by
    have hu64 := hr.units
    exact (ds_cons (ds_set (i := 1) (fun _ p => ps_set (i := 1) sc_law_spec.nd rfl (Or.inl rfl) p) (d_ix (DE.o (DF.all (d_lst (da_cons (d_int pe_int) (da_cons (d_int pe_int) (da_cons (d_int pe_int) (da_cons (d_int pe_int) (da_cons (d_int pe_int) (da_cons (d_int pe_int) da_nil))))))))) (DE.o (d_op o_mod (DE.o (d_ix (DE.o (d_var (pv 0))) (DE.o (d_int pe_int)) (fun _ _ => rfl))) (DE.o (d_int pe_int)))) (fun _ _ => rfl)))
        (ds_cons (ds_set (i := 2) (fun _ p => ps_set (i := 2) sc_law_spec.nd rfl (Or.inl rfl) p) (d_ix (DE.o (DF.all (d_lst (da_cons (d_non pe_non) (da_cons (d_un u_neg (DE.o (d_op o_mod (DE.o (d_ix (DE.o (d_var (pv 0))) (DE.o (d_int pe_int)) (fun _ _ => rfl))) (DE.o (d_int pe_int))))) da_nil))))) (DE.o (d_op o_mod (DE.o (d_ix (DE.o (d_var (pv 0))) (DE.o (d_int pe_int)) (fun _ _ => rfl))) (DE.o (d_int pe_int)))) (fun _ _ => rfl)))
        (ds_cons (ds_set (i := 3) (fun _ p => ps_set (i := 3) sc_law_spec.nd rfl (Or.inl rfl) p) (d_ix (DE.o (DF.all (d_lst (da_cons (d_non pe_non) (da_cons (d_op o_mod (DE.o (d_ix (DE.o (d_var (pv 0))) (DE.o (d_int pe_int)) (fun _ _ => rfl))) (DE.o (d_int pe_int))) da_nil))))) (DE.o (d_op o_mod (DE.o (d_op o_div (DE.o (d_ix (DE.o (d_var (pv 0))) (DE.o (d_int pe_int)) (fun _ _ => rfl))) (DE.o (d_int pe_int)))) (DE.o (d_int pe_int)))) (fun _ _ => rfl)))
        (ds_one (ds_ret (d_tup (da_cons (d_var (pv 1)) (da_cons (d_ix (DE.o (DF.all (d_lst (da_cons (d_int pe_int) (da_cons (d_int pe_int) (da_cons (d_int pe_int) (da_cons (d_int pe_int) (da_cons (d_int pe_int) (da_cons (d_int pe_int) da_nil))))))))) (DE.o (d_op o_mod (DE.o (d_ix (DE.o (d_var (pv 0))) (DE.o (d_int pe_int)) (fun _ _ => rfl))) (DE.o (d_int pe_int)))) (fun _ _ => rfl)) (da_cons (d_ix (DE.o (DF.all (d_lst (da_cons (d_int pe_int) (da_cons (d_int pe_int) (da_cons (d_int pe_int) (da_cons (d_int pe_int) (da_cons (d_int pe_int) (da_cons (d_int pe_int) da_nil))))))))) (DE.o (d_op o_mod (DE.o (d_ix (DE.o (d_var (pv 0))) (DE.o (d_int pe_int)) (fun _ _ => rfl))) (DE.o (d_int pe_int)))) (fun _ _ => rfl)) (da_cons (d_var (pv 2)) (da_cons (d_var (pv 3)) da_nil)))))))))))
theorem ok_law_row {P : Program} {w : World} {K : PySem.W.Frag} {mg : Str → Option Value} {base : Heap} (T : Tx K mg) (nd : base.NoDigits) : FnG P w K mg base (L2.CX P w) 10 T.f_law_row T.fd_law_row ["_law_spec_here"] (spD K T.et 1 (M_law_row T.C_Row)) := by
  have G_Row_init := R.ok_Row_init (P := P) (w := w) (base := base) T
  obtain ⟨mv_move_add_first_last, KB_move_add_first_last⟩ := R.kw_move_add_first_last T
  exact fn_data (k := 9) T.law_row.F sc_law_row fun cdv A outer s H E quiet hr => by
    have hu64 := hr.units
    exact (ds_one (ds_ret (d_newRow g_move_add_first_last (da_cons (d_ix (DE.o (d_var (pv 0))) (DE.o (d_int pe_int)) (fun _ _ => rfl)) da_nil) (dk_cons (d_ix (DE.o (d_var (pv 0))) (DE.o (d_int pe_int)) (fun _ _ => rfl)) (dk_cons (d_ix (DE.o (d_var (pv 0))) (DE.o (d_int pe_int)) (fun _ _ => rfl)) (dk_cons (d_ix (DE.o (d_var (pv 0))) (DE.o (d_int pe_int)) (fun _ _ => rfl)) (dk_cons (d_ix (DE.o (d_var (pv 0))) (DE.o (d_int pe_int)) (fun _ _ => rfl)) dk_nil)))) (by exact fun _ _ p q => pe_makeK (n := 1) (ks := ["move", "add", "first", "last"]) T.mkR G_Row_init (hr.mono (by decide)) rfl T.g_Row KB_move_add_first_last pass_no p q))))
theorem ok_law_position {P : Program} {w : World} {K : PySem.W.Frag} {mg : Str → Option Value} {base : Heap} (T : Tx K mg) (nd : base.NoDigits) : FnG P w K mg base (L2.CX P w) 2 T.f_law_position T.fd_law_position ["_law_spec_here", "_law_digit"] (spD K T.et 2 M_law_position) := by
  exact fn_data (k := 1) T.law_position.F sc_law_position fun cdv A outer s H E quiet hr => by
    have hu64 := hr.units
    exact (ds_cons (ds_set (i := 2) (fun _ p => ps_set (i := 2) sc_law_position.nd rfl (Or.inl rfl) p) (d_if (dt_cmp o_isN (DE.o (d_ix (DE.o (d_var (pv 0))) (DE.o (d_int pe_int)) (fun _ _ => rfl))) (DE.o (d_non pe_non)) (nomark _)) (d_un u_neg (DE.o (d_int pe_int))) (d_ix (DE.o (d_var (pv 0))) (DE.o (d_int pe_int)) (fun _ _ => rfl))))
        (ds_cons (ds_set (i := 3) (fun _ p => ps_set (i := 3) sc_law_position.nd rfl (Or.inl rfl) p) (d_if (dt_cmp o_isN (DE.o (d_ix (DE.o (d_var (pv 0))) (DE.o (d_int pe_int)) (fun _ _ => rfl))) (DE.o (d_non pe_non)) (nomark _)) (d_int pe_int) (d_ix (DE.o (d_var (pv 0))) (DE.o (d_int pe_int)) (fun _ _ => rfl))))
        (ds_one (ds_ret (d_op o_add (DE.o (d_var (pv 2))) (DE.o (d_op o_mod (DE.o (d_var (pv 1))) (DE.o (d_op o_add (DE.o (d_op o_sub (DE.o (d_var (pv 3))) (DE.o (d_var (pv 2))))) (DE.o (d_int pe_int)))))))))))
theorem ok_law_state {P : Program} {w : World} {K : PySem.W.Frag} {mg : Str → Option Value} {base : Heap} (T : Tx K mg) (nd : base.NoDigits) : FnG P w K mg base (L2.CX P w) 3 T.f_law_state T.fd_law_state ["_law_spec_here", "_law_digits"] (spD K T.et 2 M_law_state_v2) := by
  have G_law_reduced := ok_law_reduced (P := P) (w := w) (base := base) T nd
  have G_law_integer := ok_law_integer (P := P) (w := w) (base := base) T nd
  have G_law_position := ok_law_position (P := P) (w := w) (base := base) T nd
  exact fn_data (k := 2) T.law_state.F sc_law_state fun cdv A outer s H E quiet hr => by
    have hu64 := hr.units
    exact (ds_cons (ds_set (i := 2) (fun _ p => ps_set (i := 2) sc_law_state.nd rfl (Or.inl rfl) p) (d_if (dt_cmp o_isN (DE.o (d_ix (DE.o (d_var (pv 0))) (DE.o (d_int pe_int)) (fun _ _ => rfl))) (DE.o (d_non pe_non)) (nomark _)) (d_un u_neg (DE.o (d_int pe_int))) (d_ix (DE.o (d_var (pv 0))) (DE.o (d_int pe_int)) (fun _ _ => rfl))))
        (ds_cons (ds_set (i := 3) (fun _ p => ps_set (i := 3) sc_law_state.nd rfl (Or.inl rfl) p) (d_call (fun _ p => pe_callW G_law_reduced quiet (hr.mono (by decide)) rfl T.law_reduced.g T.law_reduced.F.kp T.law_reduced.b (takes_of rfl rfl rfl rfl) p) (dan_cons (d_ix (DE.o (d_var (pv 0))) (DE.o (d_int pe_int)) (fun _ _ => rfl)) (dan_cons (d_call (fun _ p => pe_callW G_law_integer quiet (hr.mono (by decide)) rfl T.law_integer.g T.law_integer.F.kp T.law_integer.b (takes_of rfl rfl rfl rfl) p) (dan_cons (d_sl (DE.o (d_var (pv 1))) (dp_some (DE.o (d_int pe_int))) dp_none) dan_nil)) (dan_cons (d_op o_add (DE.o (d_var (pv 2))) (DE.o (d_op o_mod (DE.o (d_ix (DE.o (d_var (pv 1))) (DE.o (d_int pe_int)) (fun _ _ => rfl))) (DE.o (d_int pe_int))))) dan_nil)))))
        (ds_one (ds_ret (d_tup (da_cons (d_var (pv 3)) (da_cons (d_call (fun _ p => pe_callW G_law_position quiet (hr.mono (by decide)) rfl T.law_position.g T.law_position.F.kp T.law_position.b (takes_of rfl rfl rfl rfl) p) (dan_cons (d_var (pv 0)) (dan_cons (d_ix (DE.o (d_var (pv 1))) (DE.o (d_int pe_int)) (fun _ _ => rfl)) dan_nil))) da_nil)))))))
theorem ok_law_floor {P : Program} {w : World} {K : PySem.W.Frag} {mg : Str → Option Value} {base : Heap} (T : Tx K mg) (nd : base.NoDigits) : FnG P w K mg base (L2.CX P w) 3 T.f_law_floor T.fd_law_floor ["_law_base", "_law_number_here", "_law_place"] (spD K T.et 3 M_law_floor_v2) := by
  have G_law_power := ok_law_power (P := P) (w := w) (base := base) T nd
  exact fn_data (k := 2) T.law_floor.F sc_law_floor fun cdv A outer s H E quiet hr => by
    have hu64 := hr.units
    exact (ds_cons (ds_if (dt_w (dw_or (dt_cmp (o_eq hu64) (DE.o (d_ix (DE.o (d_var (pv 1))) (DE.o (d_int pe_int)) (fun _ _ => rfl))) (DE.o (d_int pe_int)) (nomark _)) (dw_or1 (dt_cmp o_ge (DE.o (d_ix (DE.o (d_var (pv 1))) (DE.o (d_int pe_int)) (fun _ _ => rfl))) (DE.o (d_var (pv 2))) (nomark _))))) (ds_one (ds_ret (d_op o_mul (DE.o (d_ix (DE.o (d_var (pv 1))) (DE.o (d_int pe_int)) (fun _ _ => rfl))) (DE.o (d_call (fun _ p => pe_callW G_law_power quiet (hr.mono (by decide)) rfl T.law_power.g T.law_power.F.kp T.law_power.b (takes_of rfl rfl rfl rfl) p) (dan_cons (d_var (pv 0)) (dan_cons (d_op o_sub (DE.o (d_ix (DE.o (d_var (pv 1))) (DE.o (d_int pe_int)) (fun _ _ => rfl))) (DE.o (d_var (pv 2)))) dan_nil))))))) ds_nil)
        (ds_one (ds_ret (d_op o_div (DE.o (d_ix (DE.o (d_var (pv 1))) (DE.o (d_int pe_int)) (fun _ _ => rfl))) (DE.o (d_call (fun _ p => pe_callW G_law_power quiet (hr.mono (by decide)) rfl T.law_power.g T.law_power.F.kp T.law_power.b (takes_of rfl rfl rfl rfl) p) (dan_cons (d_var (pv 0)) (dan_cons (d_op o_sub (DE.o (d_var (pv 2))) (DE.o (d_ix (DE.o (d_var (pv 1))) (DE.o (d_int pe_int)) (fun _ _ => rfl)))) dan_nil))))))))
theorem ok_law_later {P : Program} {w : World} {K : PySem.W.Frag} {mg : Str → Option Value} {base : Heap} (T : Tx K mg) (nd : base.NoDigits) : FnG P w K mg base (L2.CX P w) 2 T.f_law_later T.fd_law_later ["_law_base", "_law_counts"] (spD K T.et 2 M_law_later) := by
  exact fn_data (k := 1) T.law_later.F sc_law_later fun cdv A outer s H E quiet hr => by
    have hu64 := hr.units
    exact (ds_cons (ds_setFD (i := 2) (fun _ p => ps_set (i := 2) sc_law_later.nd rfl (Or.inl rfl) p) (d_dict0 pe_dnewK))
        (ds_cons (ds_forD (vs := [3]) (i := 1) (passes_of rfl) rfl (pv 1) (pg_name (i := 3) sc_law_later.nd rfl (Or.inl rfl)) (fun _ => (good_name (by decide))) (fun _ => (ds_one (ds_for (vs := [4]) (passes_of rfl) rfl (di_range2 rfl T.b_range (da_cons (d_op o_sub (DE.o (d_un u_neg (DE.o (d_var (pv 0))))) (DE.o (d_int pe_int))) (da_cons (d_op o_add (DE.o (d_var (pv 0))) (DE.o (d_int pe_int))) da_nil))) (pg_name (i := 4) sc_law_later.nd rfl (Or.inl rfl)) (good_name (by decide)) (ds_one (ds_if (dt_cmp (o_eq hu64) (DE.o (d_op o_mod (DE.o (d_op o_sub (DE.o (d_var (pv 3))) (DE.o (d_var (pv 4))))) (DE.o (d_var (pv 0))))) (DE.o (d_int pe_int)) (nomark _)) (ds_cons (ds_set (i := 5) (fun _ p => ps_set (i := 5) sc_law_later.nd rfl (Or.inl rfl) p) (d_op o_div (DE.o (d_op o_sub (DE.o (d_var (pv 3))) (DE.o (d_var (pv 4))))) (DE.o (d_var (pv 0)))))
        (ds_cons (ds_set (i := 6) (fun _ p => ps_set (i := 6) sc_law_later.nd rfl (Or.inl rfl) p) (d_op o_add (DE.o (d_dgetL (i := 1) (fun _ _ p q => pe_dget (by exact Nat.lt_of_le_of_lt (Nat.add_le_add_left (by decide) _) hu64) p q (fun _ _ => rfl)) (pv 1) (d_var (pv 3)))) (DE.o (d_c2 (fun _ p => pe_callB (b_max rfl) (by rfl) T.b_max (by decide +kernel) p) (DE.o (d_var (pv 4))) (DE.o (d_un u_neg (DE.o (d_var (pv 4)))))))))
        (ds_one (ds_putD (i := 2) (fun _ _ p q => ps_dput (by exact Nat.lt_of_le_of_lt (Nat.add_le_add_left (by decide) _) hu64) (pv 2) q p (by rfl)) (d_var (pv 5)) (d_c2 (fun _ p => pe_callB (b_min rfl) (by rfl) T.b_min (by decide +kernel) p) (DE.o (d_var (pv 6))) (DE.o (d_dget2 (fun _ _ _ p q r => pe_dget2 (by exact Nat.lt_of_le_of_lt (Nat.add_le_add_left (by decide) _) hu64) p q r ⟨rfl, rfl, rfl, rfl⟩) (d_varO (pv 2)) (d_var (pv 5)) (d_var (pv 6))))))))) ds_nil))))))
        (ds_one (ds_retO (pv 2)))))
theorem ok_law_least_from {P : Program} {w : World} {K : PySem.W.Frag} {mg : Str → Option Value} {base : Heap} (T : Tx K mg) (nd : base.NoDigits) : FnG P w K mg base (L2.CX P w) 4 T.f_law_least_from T.fd_law_least_from ["_law_spec_here", "_law_number_here", "_law_ends", "_law_shift"] (spD K T.et 4 M_law_least_from) := by
  have G_law_floor := ok_law_floor (P := P) (w := w) (base := base) T nd
  have G_law_later := ok_law_later (P := P) (w := w) (base := base) T nd
  have G_law_power := ok_law_power (P := P) (w := w) (base := base) T nd
  exact fn_data (k := 3) T.law_least_from.F sc_law_least_from fun cdv A outer s H E quiet hr => by
    have hu64 := hr.units
    exact (ds_cons (ds_asg (vs := [4, 5]) (fun _ p => ps_asg p (pg_tup rfl (pgs_cons (pg_name (i := 4) sc_law_least_from.nd rfl (Or.inl rfl)) (pgs_cons (pg_name (i := 5) sc_law_least_from.nd rfl (Or.inl rfl)) pgs_nil)))) (good_tup (.cons (good_name (by decide)) (.cons (good_name (by decide)) .nil)) rfl) (d_var (pv 2)))
        (ds_cons (ds_set (i := 6) (fun _ p => ps_set (i := 6) sc_law_least_from.nd rfl (Or.inl rfl) p) (d_var (pv 5)))
        (ds_cons (ds_while 1000000 (passes_of rfl) (dt_cmp o_notIn (DE.o (d_call (fun _ p => pe_callW G_law_floor quiet (hr.mono (by decide)) rfl T.law_floor.g T.law_floor.F.kp T.law_floor.b (takes_of rfl rfl rfl rfl) p) (dan_cons (d_ix (DE.o (d_var (pv 0))) (DE.o (d_int pe_int)) (fun _ _ => rfl)) (dan_cons (d_var (pv 1)) (dan_cons (d_var (pv 6)) dan_nil))))) (DE.o (DF.all (d_lst (da_cons (d_un u_neg (DE.o (d_int pe_int))) (da_cons (d_int pe_int) da_nil))))) rfl) (ds_one (ds_set (i := 6) (fun _ p => ps_set (i := 6) sc_law_least_from.nd rfl (Or.inl rfl) p) (d_op o_add (DE.o (d_var (pv 6))) (DE.o (d_int pe_int))))))
        (ds_cons (ds_set (i := 7) (fun _ p => ps_set (i := 7) sc_law_least_from.nd rfl (Or.inl rfl) p) (DFD.all (d_dict1 (fun _ _ p q => pe_disp (pps_cons p q pps_nil) (by rfl) (by rfl) (fun z => by cases z) (by decide)) (d_op o_mul (DE.o (d_ix (DE.o (d_var (pv 1))) (DE.o (d_int pe_int)) (fun _ _ => rfl))) (DE.o (d_call (fun _ p => pe_callW G_law_power quiet (hr.mono (by decide)) rfl T.law_power.g T.law_power.F.kp T.law_power.b (takes_of rfl rfl rfl rfl) p) (dan_cons (d_ix (DE.o (d_var (pv 0))) (DE.o (d_int pe_int)) (fun _ _ => rfl)) (dan_cons (d_op o_sub (DE.o (d_ix (DE.o (d_var (pv 1))) (DE.o (d_int pe_int)) (fun _ _ => rfl))) (DE.o (d_var (pv 4)))) dan_nil))))) (d_int pe_int))))
        (ds_cons (ds_par (i := 8) (j := 9) (fun _ p => ps_par (i := 8) (j := 9) rfl sc_law_least_from.nd rfl rfl (by decide) rfl rfl p (by rfl)) (da_cons (d_non pe_non) (da_cons (d_c2 (fun _ p => pe_callB (b_max rfl) (by rfl) T.b_max (by decide +kernel) p) (DE.o (d_var (pv 3))) (DE.o (d_un u_neg (DE.o (d_var (pv 3)))))) da_nil)))
        (ds_cons (ds_for (vs := [10]) (passes_of rfl) rfl (di_range2 rfl T.b_range (da_cons (d_var (pv 4)) (da_cons (d_op o_add (DE.o (d_var (pv 6))) (DE.o (d_int pe_int))) da_nil))) (pg_name (i := 10) sc_law_least_from.nd rfl (Or.inl rfl)) (good_name (by decide)) (ds_cons (ds_if (dt_w (dw_and (dt_cmp o_ge (DE.o (d_var (pv 10))) (DE.o (d_var (pv 5))) (nomark _)) (dw_and1 (dt_w (dw_or (dt_cmp o_isN (DE.o (d_ix (DE.o (d_var (pv 0))) (DE.o (d_int pe_int)) (fun _ _ => rfl))) (DE.o (d_non pe_non)) (nomark _)) (dw_or1 (dt_cmp o_le (DE.o (d_var (pv 10))) (DE.o (d_ix (DE.o (d_var (pv 0))) (DE.o (d_int pe_int)) (fun _ _ => rfl))) (nomark _)))))))) (ds_one (ds_forD (vs := [11]) (i := 7) (passes_of rfl) rfl (pv 7) (pg_name (i := 11) sc_law_least_from.nd rfl (Or.inl rfl)) (fun _ => (good_name (by decide))) (fun _ => (ds_cons (ds_set (i := 12) (fun _ p => ps_set (i := 12) sc_law_least_from.nd rfl (Or.inl rfl) p) (d_op o_add (DE.o (d_op o_mul (DE.o (d_ix (DE.o (d_var (pv 0))) (DE.o (d_int pe_int)) (fun _ _ => rfl))) (DE.o (d_op o_add (DE.o (d_dgetL (i := 7) (fun _ _ p q => pe_dget (by exact Nat.lt_of_le_of_lt (Nat.add_le_add_left (by decide) _) hu64) p q (fun _ _ => rfl)) (pv 7) (d_var (pv 11)))) (DE.o (d_c2 (fun _ p => pe_callB (b_max rfl) (by rfl) T.b_max (by decide +kernel) p) (DE.o (d_var (pv 11))) (DE.o (d_un u_neg (DE.o (d_var (pv 11))))))))))) (DE.o (d_op o_mul (DE.o (d_ix (DE.o (d_var (pv 0))) (DE.o (d_int pe_int)) (fun _ _ => rfl))) (DE.o (d_op o_sub (DE.o (d_op o_mul (DE.o (d_int pe_int)) (DE.o (d_op o_sub (DE.o (d_var (pv 10))) (DE.o (d_var (pv 4))))))) (DE.o (d_var (pv 9)))))))))
        (ds_one (ds_set (i := 8) (fun _ p => ps_set (i := 8) sc_law_least_from.nd rfl (Or.inl rfl) p) (d_if (dt_w (dw_or (dt_cmp o_isN (DE.o (d_var (pv 8))) (DE.o (d_non pe_non)) (nomark _)) (dw_or1 (dt_cmp o_lt (DE.o (d_var (pv 12))) (DE.o (d_var (pv 8))) (nomark _))))) (d_var (pv 12)) (d_var (pv 8))))))))) ds_nil)
        (ds_one (ds_set (i := 7) (fun _ p => ps_set (i := 7) sc_law_least_from.nd rfl (Or.inl rfl) p) (d_call (fun _ p => pe_callW G_law_later quiet (hr.mono (by decide)) rfl T.law_later.g T.law_later.F.kp T.law_later.b (takes_of rfl rfl rfl rfl) p) (dan_cons (d_ix (DE.o (d_var (pv 0))) (DE.o (d_int pe_int)) (fun _ _ => rfl)) (dan_cons (d_var (pv 7)) dan_nil)))))))
        (ds_one (ds_ret (d_var (pv 8))))))))))
theorem ok_law_least {P : Program} {w : World} {K : PySem.W.Frag} {mg : Str → Option Value} {base : Heap} (T : Tx K mg) (nd : base.NoDigits) : FnG P w K mg base (L2.CX P w) 5 T.f_law_least T.fd_law_least ["_law_spec_here", "_law_start", "_law_goal"] (spD K T.et 3 M_law_least) := by
  have G_law_sum := ok_law_sum (P := P) (w := w) (base := base) T nd
  have G_law_least_from := ok_law_least_from (P := P) (w := w) (base := base) T nd
  exact fn_data (k := 4) T.law_least.F sc_law_least fun cdv A outer s H E quiet hr => by
    have hu64 := hr.units
    exact (ds_cons (ds_asg (vs := [3, 4, 5, 6, 7]) (fun _ p => ps_asg p (pg_tup rfl (pgs_cons (pg_name (i := 3) sc_law_least.nd rfl (Or.inl rfl)) (pgs_cons (pg_name (i := 4) sc_law_least.nd rfl (Or.inl rfl)) (pgs_cons (pg_name (i := 5) sc_law_least.nd rfl (Or.inl rfl)) (pgs_cons (pg_name (i := 6) sc_law_least.nd rfl (Or.inl rfl)) (pgs_cons (pg_name (i := 7) sc_law_least.nd rfl (Or.inl rfl)) pgs_nil))))))) (good_tup (.cons (good_name (by decide)) (.cons (good_name (by decide)) (.cons (good_name (by decide)) (.cons (good_name (by decide)) (.cons (good_name (by decide)) .nil))))) rfl) (d_var (pv 0)))
        (ds_cons (ds_set (i := 8) (fun _ p => ps_set (i := 8) sc_law_least.nd rfl (Or.inl rfl) p) (d_call (fun _ p => pe_callW G_law_sum quiet (hr.mono (by decide)) rfl T.law_sum.g T.law_sum.F.kp T.law_sum.b (takes_of rfl rfl rfl rfl) p) (dan_cons (d_var (pv 3)) (dan_cons (d_ix (DE.o (d_var (pv 2))) (DE.o (d_int pe_int)) (fun _ _ => rfl)) (dan_cons (d_tup (da_cons (d_un u_neg (DE.o (d_ix (DE.o (d_ix (DE.o (d_var (pv 1))) (DE.o (d_int pe_int)) (fun _ _ => rfl))) (DE.o (d_int pe_int)) (fun _ _ => rfl)))) (da_cons (d_ix (DE.o (d_ix (DE.o (d_var (pv 1))) (DE.o (d_int pe_int)) (fun _ _ => rfl))) (DE.o (d_int pe_int)) (fun _ _ => rfl)) da_nil))) dan_nil)))))
        (ds_cons (ds_par (i := 9) (j := 10) (fun _ p => ps_par (i := 9) (j := 10) rfl sc_law_least.nd rfl rfl (by decide) rfl rfl p (by rfl)) (da_cons (d_c2 (fun _ p => pe_callB (b_min rfl) (by rfl) T.b_min (by decide +kernel) p) (DE.o (d_ix (DE.o (d_var (pv 1))) (DE.o (d_int pe_int)) (fun _ _ => rfl))) (DE.o (d_ix (DE.o (d_var (pv 2))) (DE.o (d_int pe_int)) (fun _ _ => rfl)))) (da_cons (d_c2 (fun _ p => pe_callB (b_max rfl) (by rfl) T.b_max (by decide +kernel) p) (DE.o (d_ix (DE.o (d_var (pv 1))) (DE.o (d_int pe_int)) (fun _ _ => rfl))) (DE.o (d_ix (DE.o (d_var (pv 2))) (DE.o (d_int pe_int)) (fun _ _ => rfl)))) da_nil)))
        (ds_cons (ds_if (dt_cmp (o_ne hu64) (DE.o (d_ix (DE.o (d_var (pv 8))) (DE.o (d_int pe_int)) (fun _ _ => rfl))) (DE.o (d_int pe_int)) (nomark _)) (ds_one (ds_set (i := 9) (fun _ p => ps_set (i := 9) sc_law_least.nd rfl (Or.inl rfl) p) (d_c2 (fun _ p => pe_callB (b_min rfl) (by rfl) T.b_min (by decide +kernel) p) (DE.o (d_var (pv 9))) (DE.o (d_ix (DE.o (d_var (pv 8))) (DE.o (d_int pe_int)) (fun _ _ => rfl)))))) ds_nil)
        (ds_cons (ds_set (i := 11) (fun _ p => ps_set (i := 11) sc_law_least.nd rfl (Or.inl rfl) p) (d_call (fun _ p => pe_callW G_law_least_from quiet (hr.mono (by decide)) rfl T.law_least_from.g T.law_least_from.F.kp T.law_least_from.b (takes_of rfl rfl rfl rfl) p) (dan_cons (d_var (pv 0)) (dan_cons (d_var (pv 8)) (dan_cons (d_tup (da_cons (d_var (pv 9)) (da_cons (d_var (pv 10)) da_nil))) (dan_cons (d_op o_sub (DE.o (d_ix (DE.o (d_var (pv 1))) (DE.o (d_int pe_int)) (fun _ _ => rfl))) (DE.o (d_ix (DE.o (d_var (pv 2))) (DE.o (d_int pe_int)) (fun _ _ => rfl)))) dan_nil))))))
        (ds_cons (ds_if (dt_w (dw_and (dt_cmp o_notN (DE.o (d_var (pv 6))) (DE.o (d_non pe_non)) (nomark _)) (dw_and1 (dt_cmp (o_eq hu64) (DE.o (d_var (pv 9))) (DE.o (d_var (pv 6))) (nomark _))))) (ds_one (ds_ret (d_var (pv 11)))) ds_nil)
        (ds_one (ds_ret (d_c2 (fun _ p => pe_callB (b_min rfl) (by rfl) T.b_min (by decide +kernel) p) (DE.o (d_var (pv 11))) (DE.o (d_call (fun _ p => pe_callW G_law_least_from quiet (hr.mono (by decide)) rfl T.law_least_from.g T.law_least_from.F.kp T.law_least_from.b (takes_of rfl rfl rfl rfl) p) (dan_cons (d_var (pv 0)) (dan_cons (d_var (pv 8)) (dan_cons (d_tup (da_cons (d_op o_sub (DE.o (d_var (pv 9))) (DE.o (d_int pe_int))) (da_cons (d_var (pv 10)) da_nil))) (dan_cons (d_op o_sub (DE.o (d_ix (DE.o (d_var (pv 1))) (DE.o (d_int pe_int)) (fun _ _ => rfl))) (DE.o (d_ix (DE.o (d_var (pv 2))) (DE.o (d_int pe_int)) (fun _ _ => rfl)))) dan_nil)))))))))))))))
end K16
namespace K16
open PySem L2 GL DL PM
theorem ok_law {P : Program} {w : World} {K : PySem.W.Frag} {mg : Str → Option Value} {base : Heap} (T : Tx K mg) (nd : base.NoDigits) : FnG P w K mg base (L2.CX P w) 12 T.f_law T.fd_law ["_law_script"] (spD K T.et 1 (M_law_K16 T.C_Row T.C_Sweep)) := by
  have G_law_numbers := ok_law_numbers (P := P) (w := w) (base := base) T nd
  have G_law_row := ok_law_row (P := P) (w := w) (base := base) T nd
  have G_law_least := ok_law_least (P := P) (w := w) (base := base) T nd
  have G_law_state := ok_law_state (P := P) (w := w) (base := base) T nd
  have G_law_spec := ok_law_spec (P := P) (w := w) (base := base) T nd
  have G_distance := ok_distance (P := P) (w := w) (base := base) T nd
  exact fn_data (k := 11) T.law.F sc_law fun cdv A outer s H E quiet hr => by
    have hu64 := hr.units
    exact (ds_cons (ds_for (vs := [1, 2]) (passes_of rfl) rfl (di_enum (by rfl) T.b_enumerate (d_op o_add (DE.o (d_sl (DE.o (d_var (pv 0))) dp_none (dp_some (DE.o (d_int pe_int))))) (DE.o (d_op o_mul (DE.o (DF.all (d_lst (da_cons (d_int pe_int) da_nil)))) (DE.o (d_c1 (fun _ p => pe_callTy b_int (by rfl) T.b_int (by decide +kernel) p) (DE.o (d_cmp (o_eq hu64) (DE.o (d_var (pv 0))) (DE.o (DF.all (d_lst da_nil))) (nomark _))))))))) (pg_tup rfl (pgs_cons (pg_name (i := 1) sc_law.nd rfl (Or.inl rfl)) (pgs_cons (pg_name (i := 2) sc_law.nd rfl (Or.inl rfl)) pgs_nil))) (good_tup (.cons (good_name (by decide)) (.cons (good_name (by decide)) .nil)) rfl) (ds_cons (ds_set (i := 3) (fun _ p => ps_set (i := 3) sc_law.nd rfl (Or.inl rfl) p) (DF.all (d_callF (fun _ p => pe_callW G_law_numbers quiet (hr.mono (by decide)) rfl T.law_numbers.g T.law_numbers.F.kp T.law_numbers.b (takes_of rfl rfl rfl rfl) p) (dan_cons (d_var (pv 2)) (dan_cons (d_op o_add (DE.o (d_int pe_int)) (DE.o (d_var (pv 1)))) (dan_cons (d_op o_mul (DE.o (DF.all (d_lst (da_cons (d_int pe_int) da_nil)))) (DE.o (d_int pe_int))) dan_nil))))))
        (ds_cons (ds_set (i := 4) (fun _ p => ps_set (i := 4) sc_law.nd rfl (Or.inl rfl) p) (d_op o_add (DE.o (d_tup (da_cons (d_op o_add (DE.o (d_int pe_int)) (DE.o (d_op o_mod (DE.o (d_ix (DE.o (d_var (pv 3))) (DE.o (d_int pe_int)) (fun _ _ => rfl))) (DE.o (d_int pe_int))))) da_nil))) (DE.o (d_slT (DE.o (d_call (fun _ p => pe_callW G_law_spec quiet (hr.mono (by decide)) rfl T.law_spec.g T.law_spec.F.kp T.law_spec.b (takes_of rfl rfl rfl rfl) p) (dan_cons (d_var (pv 3)) dan_nil))) (dp_some (DE.o (d_int pe_int))) dp_none))))
        (ds_cons (ds_par (i := 5) (j := 6) (fun _ p => ps_par (i := 5) (j := 6) rfl sc_law.nd rfl rfl (by decide) rfl rfl p (by rfl)) (da_cons (d_call (fun _ p => pe_callW G_law_state quiet (hr.mono (by decide)) rfl T.law_state.g T.law_state.F.kp T.law_state.b (takes_of rfl rfl rfl rfl) p) (dan_cons (d_var (pv 4)) (dan_cons (d_sl (DE.o (d_var (pv 3))) (dp_some (DE.o (d_int pe_int))) dp_none) dan_nil))) (da_cons (d_call (fun _ p => pe_callW G_law_state quiet (hr.mono (by decide)) rfl T.law_state.g T.law_state.F.kp T.law_state.b (takes_of rfl rfl rfl rfl) p) (dan_cons (d_var (pv 4)) (dan_cons (d_sl (DE.o (d_var (pv 3))) (dp_some (DE.o (d_int pe_int))) dp_none) dan_nil))) da_nil)))
        (ds_cons (ds_set (i := 7) (fun _ p => ps_set (i := 7) sc_law.nd rfl (Or.inl rfl) p) (d_call (fun _ p => pe_callW G_law_row quiet (hr.mono (by decide)) rfl T.law_row.g T.law_row.F.kp T.law_row.b (takes_of rfl rfl rfl rfl) p) (dan_cons (d_var (pv 4)) dan_nil)))
        (ds_cons (ds_set (i := 8) (fun _ p => ps_set (i := 8) sc_law.nd rfl (Or.inl rfl) p) (d_call (fun _ p => pe_callW G_law_least quiet (hr.mono (by decide)) rfl T.law_least.g T.law_least.F.kp T.law_least.b (takes_of rfl rfl rfl rfl) p) (dan_cons (d_var (pv 4)) (dan_cons (d_var (pv 5)) (dan_cons (d_var (pv 6)) dan_nil)))))
        (ds_one (ds_if (dt_w (dw_or (dt_cmp (o_ne hu64) (DE.o (d_call (fun _ p => pe_callW G_distance quiet (hr.mono (by decide)) rfl T.distance.g T.distance.F.kp T.distance.b (takes_of rfl rfl rfl rfl) p) (dan_cons (d_var (pv 7)) (dan_cons (d_var (pv 5)) (dan_cons (d_var (pv 6)) dan_nil))))) (DE.o (d_var (pv 8))) (nomark _)) (dw_or (dt_cmp (o_ne hu64) (DE.o (d_call (fun _ p => pe_callW G_distance quiet (hr.mono (by decide)) rfl T.distance.g T.distance.F.kp T.distance.b (takes_of rfl rfl rfl rfl) p) (dan_cons (d_var (pv 7)) (dan_cons (d_var (pv 6)) (dan_cons (d_var (pv 5)) dan_nil))))) (DE.o (d_var (pv 8))) (nomark _)) (dw_or1 (dt_cmp (o_ne hu64) (DE.o (d_call (fun _ p => pe_callW G_distance quiet (hr.mono (by decide)) rfl T.distance.g T.distance.F.kp T.distance.b (takes_of rfl rfl rfl rfl) p) (dan_cons (d_var (pv 7)) (dan_cons (d_var (pv 5)) (dan_cons (d_var (pv 5)) dan_nil))))) (DE.o (d_int pe_int)) (nomark _)))))) (ds_one (ds_ret (d_bl pe_bl))) ds_nil))))))))
        (ds_one (ds_ret (d_bl pe_bl))))
end K16
namespace PM
open PySem L2 GL DL NR TL
section
variable {CR CS : Addr} {b mv ad : Int} {f l : D} {lo hi : Int} (hb : 2 ≤ b) (hb2 : b ≤ 36) (hf : (f = .non ∧ lo = -1000) ∨ (f = .int lo ∧ -3 ≤ lo ∧ lo ≤ 0)) (hl : (l = .non ∧ hi = 1000) ∨ (l = .int hi ∧ 0 ≤ hi ∧ hi ≤ 4))
include hb hb2 hf hl
theorem row16 (hm : 1 ≤ mv ∧ mv ≤ 100) (ha : 1 ≤ ad ∧ ad ≤ 100) : M_law_row CR [.tup [.int b, .int mv, .int ad, f, l]] = .ok (.sh (rowD CR (.int b) (.int mv) (.int ad) f l)) := by
  have nr : newRow CR [.int b, .int mv, .int ad, f, l] = .ok (rowD CR (.int b) (.int mv) (.int ad) f l) := row_new' hb hb2 (ends63 hf hl) (by omega) (by omega) (by omega) (by omega) (by omega)
  have i0 : gIx (.tup [.int b, .int mv, .int ad, f, l]) (.int 0) = some (.val (.int b)) := rfl
  have i1 : gIx (.tup [.int b, .int mv, .int ad, f, l]) (.int 1) = some (.val (.int mv)) := rfl
  have i2_ : gIx (.tup [.int b, .int mv, .int ad, f, l]) (.int 2) = some (.val (.int ad)) := rfl
  have i3 : gIx (.tup [.int b, .int mv, .int ad, f, l]) (.int 3) = some (.val f) := rfl
  have i4 : gIx (.tup [.int b, .int mv, .int ad, f, l]) (.int 4) = some (.val l) := rfl
  generalize D.tup [.int b, .int mv, .int ad, f, l] = T at *
  unfold M_law_row
  rw [body_eq]
  simp [i0, i1, i2_, i3, i4, eNewRow, a_move_add_first_last, nr]
theorem state16 {ds : List Int} {n : Nat} (hd : Digs 420 n ds) (hn : 40 ≤ n) : ∃ v p, M_law_state_v2 [.tup [.int b, .int mv, .int ad, f, l], .lst (ds.map .int)] = .ok (.sh (effD b v p)) ∧ Sz b v 346 (-6) ∧ On b lo v ∧ lo ≤ p ∧ p ≤ hi ∧ -6 ≤ p ∧ p ≤ 6 := by
  obtain ⟨x0, g0, _, _⟩ := hd.ix (i := 0) (by omega)
  obtain ⟨x1, g1, _, _⟩ := hd.ix (i := 1) (by omega)
  have g0 : gIx (.lst (ds.map .int)) (.int 0) = some (.val (.int x0)) := g0
  have g1 : gIx (.lst (ds.map .int)) (.int 1) = some (.val (.int x1)) := g1
  have sl2 : gSl (some 2) none (.lst (ds.map .int)) = some (.newL ((ds.drop 2).map .int)) := hd.from_ (k := 2) (by omega)
  obtain ⟨N, e1, e2⟩ := integer_eq (hd.drop 2) (by omega)
  obtain ⟨p, ep, p1, p2, p3, p4⟩ := position_eq63 (b := b) (mv := mv) (ad := ad) hf hl x1
  have h1 := Int.emod_nonneg x0 (show (6 : Int) ≠ 0 by decide)
  have h2 := Int.emod_lt_of_pos x0 (show (0 : Int) < 6 by decide)
  obtain ⟨A, hA, a1, a2, a3⟩ : ∃ A : Int, (if DL.isNon f = true then D.int (-4) else f) = .int A ∧ lo ≤ A ∧ -4 ≤ A ∧ A ≤ 0 := by
    rcases hf with ⟨rfl, rfl⟩ | ⟨rfl, h2, h3⟩
    · exact ⟨-4, rfl, by decide, by decide, by decide⟩
    · exact ⟨lo, rfl, by omega, by omega, by omega⟩
  have rv := reduced_val hb hb2 (A + x0 % 6) e2 (by decide)
  have z : Sz b ((N : Rat) * W b (A + x0 % 6)) 280 (A + x0 % 6) := Sz.of e2
  refine ⟨(N : Rat) * W b (A + x0 % 6), p, ?_, z.to hb hb2 (by omega) (by omega), On.of_sz hb z (by omega), p1, p2, p3, p4⟩
  have i0 : gIx (.tup [.int b, .int mv, .int ad, f, l]) (.int 0) = some (.val (.int b)) := rfl
  have i3 : gIx (.tup [.int b, .int mv, .int ad, f, l]) (.int 3) = some (.val f) := rfl
  unfold effD
  generalize hE : A + x0 % 6 = E at *
  generalize numD b ((N : Rat) * W b E) = NN at *
  generalize (ds.drop 2).map D.int = D2 at *
  generalize D.lst (ds.map D.int) = DL_ at *
  generalize D.tup [.int b, .int mv, .int ad, f, l] = T at *
  unfold M_law_state_v2
  rw [body_eq]
  show Out.res _ = Out.res (.rt (.sh (.tup [NN, .int p])))
  congr 1
  refine seq_step (Γ' := [.sh T, .sh DL_, .sh (.int A), .un]) (by
    cases hn : DL.isNon f with
    | true => rw [hn] at hA; cases hA; simp [startD, i3, hn]
    | false => rw [hn] at hA; simp at hA; simp [startD, i3, hn, hA]) ?_
  refine seq_step (Γ' := [.sh T, .sh DL_, .sh (.int A), .sh NN]) (by simp [i0, sl2, e1, g0, hE, rv]) ?_
  simp [g1, ep]
theorem least16 (ha : 1 ≤ ad ∧ ad ≤ 100) (hv : 1 ≤ mv ∧ mv ≤ 100) {v w : Rat} {p1 p2 : Int} (h : Sz b v 346 (-6)) (g : Sz b w 346 (-6)) (o1 : On b lo v) (o2 : On b lo w) (h1 : lo ≤ p1 ∧ p1 ≤ hi ∧ -6 ≤ p1 ∧ p1 ≤ 6) (h2 : lo ≤ p2 ∧ p2 ≤ hi ∧ -6 ≤ p2 ∧ p2 ≤ 6) :
    ∃ x, M_distance CR CS [rowD CR (.int b) (.int mv) (.int ad) f l, effD b v p1, effD b w p2] = .ok (.sh (.int x)) ∧ SW.Dist b ad mv lo hi p1 p2 (w - v) x ∧ M_law_least [.tup [.int b, .int mv, .int ad, f, l], effD b v p1, effD b w p2] = .ok (.sh (.int x)) := by
  have he := ends63 hf hl
  have n1 : NumV b v := numV_of hb h (by decide) (by decide) (by decide)
  have n2 : NumV b w := numV_of hb g (by decide) (by decide) (by decide)
  have lo1 : -1000 ≤ lo := by rcases hf with ⟨_, h⟩ | ⟨_, h, _⟩ <;> omega
  have hi1 : hi ≤ 1000 := by rcases hl with ⟨_, h⟩ | ⟨_, h, _⟩ <;> omega
  obtain ⟨L, V, r, m, sb, a1, a2, a3, a4, a5, a6, a7, a8, a9, a10, a11, a12⟩ := sweep_wide (CR := CR) (CS := CS) (mv := mv) (ad := ad) (f := f) (l := l) (p1 := p1) (p2 := p2) hb hb2 he (by omega) (by omega) h g (by omega) (by omega) n1 n2 ⟨h1.1, h1.2.1⟩ ⟨h2.1, h2.2.1⟩ o1 o2
  have sw : Swp b lo hi p1 p2 (w - v) L V r m := ⟨a1, a2, a3, a4, a5, a6, a7, a8, a9, a10, a11, a12⟩
  have zq := g.sub h
  have qd := zq.dy
  obtain ⟨eL, eV⟩ := sw.low hb qd
  have hL : -6 ≤ L := by
    obtain ⟨n, e, _⟩ := zq
    exact a2 (-6) n (by omega) (by omega) e.symm
  have hV : V.natAbs < 2 ^ 347 := by
    obtain ⟨n, e, hn⟩ := zq
    have k := mul_W_eq hb (n := V) (e := L) (m := n) (f := -6) (a1.symm.trans e) hL
    refine Nat.lt_of_le_of_lt ?_ hn
    rw [k, Int.natAbs_mul]
    exact Nat.le_mul_of_pos_right _ (Int.natAbs_pos.mpr (Int.ne_of_gt (Int.pow_pos (by omega))))
  obtain ⟨x, dx, Dx⟩ := distance_wide (CR := CR) (CS := CS) (mv := mv) (ad := ad) (f := f) (l := l) (p1 := p1) (p2 := p2) hb hb2 he (by omega) (by omega) h g (by omega) (by omega) n1 n2 ⟨h1.1, h1.2.1⟩ ⟨h2.1, h2.2.1⟩ o1 o2
  have hsp : 0 ≤ SW.absI (p2 - p1) ∧ SW.absI (p2 - p1) ≤ 2000000 := by rw [SW.absI_nat]; omega
  obtain ⟨x', lc, e1, e2⟩ := least_cost_val (CR := CR) (CS := CS) (low := L) (f := f) (l := l) hb (ad := ad) (mv := mv) ⟨by omega, by omega⟩ hb2 ⟨by omega, by omega⟩ hsp a8 (by omega) (Nat.lt_of_lt_of_le hV (Nat.pow_le_pow_right (by decide) (by decide)))
  have D' := SW.dist_of hb (ad := ad) (mv := mv) (by omega) (by omega) a1 a2 a3 a4 a5 a6 a7 a8 a9 e1 e2
  have ex_ := Dx.one D'
  subst ex_
  -- the number
  obtain ⟨n, hn⟩ : ∃ n, n = nm b (w - v) := ⟨_, rfl⟩
  obtain ⟨e, he_⟩ : ∃ e, e = ex b (w - v) := ⟨_, rfl⟩
  have nb : n.natAbs < 2 ^ 400 := by rw [hn]; exact Nat.lt_of_lt_of_le (zq.nm hb) (Nat.pow_le_pow_right (by decide) (by decide))
  have z0 : n = 0 → e = 0 := fun z => by
    rw [he_, nm_eq0 hb qd (hn ▸ z)]
    exact ex_zero hb
  have eh : e ≤ 400 := by
    by_cases z : w - v = 0
    · rw [he_, z, ex_zero hb]; decide
    · have := zq.ex_hi hb z
      omega
  have lle := lowI_le n e p1 p2
  rw [← hn, ← he_] at eL eV
  rw [← eL] at lle
  obtain ⟨high, hh⟩ : ∃ high, high = (if p2 > p1 then p2 else p1) := ⟨_, rfl⟩
  have hhi : p1 ≤ high ∧ p2 ≤ high ∧ (high = p1 ∨ high = p2) := by rw [hh]; split <;> omega
  obtain ⟨oA, TA, mA, fA, tA, sA, qA⟩ := lfrom16 (ad := ad) (mv := mv) (n := n) (e := e) (low := L) (high := high) (p1 := p1) (p2 := p2) (q := w - v) hb hb2 he (by omega) (by omega) z0 lle.2.2 nb (by omega) eh (by rw [← eV]; exact Nat.lt_of_lt_of_le hV (Nat.pow_le_pow_right (by decide) (by decide))) (by rw [← eV]; exact a1) a3 a4 ⟨hhi.1, hhi.2.1⟩ hhi.2.2 (by omega) (by omega)
  rw [← eV] at fA qA
  have oAx : oA = some x := by
    obtain ⟨k, c, a, k1, k2, hc, gg, ey⟩ := e1
    have mT := a12 TA (by omega) (by omega) fA
    obtain ⟨x0, ex0, le⟩ := qA x ⟨k, c, a, by omega, by omega, by omega, hc, gg, by rw [ey]; exact Int.le_refl _⟩
    obtain ⟨hh', ds, P, eq⟩ := sA x0 ex0
    have := Dx.le _ _ _ P
    rw [ex0]
    congr 1
    omega
  subst oAx
  -- the start of the law
  have su := law_sum2_val hb hb2 g h.neg (by decide) (by decide) (by decide)
  have nneg := numD_neg hb h.dy
  rw [← nneg, ← Rat.sub_eq_add_neg] at su
  have eN : numD b (w - v) = .tup [.int n, .int e] := by rw [hn, he_]; rfl
  rw [eN] at su
  have i10 : gIx (effD b v p1) (.int 0) = some (.val (numD b v)) := rfl
  have i11 : gIx (effD b v p1) (.int 1) = some (.val (.int p1)) := rfl
  have i20 : gIx (effD b w p2) (.int 0) = some (.val (numD b w)) := rfl
  have i21 : gIx (effD b w p2) (.int 1) = some (.val (.int p2)) := rfl
  have j0 : gIx (numD b v) (.int 0) = some (.val (.int (nm b v))) := rfl
  have j1 : gIx (numD b v) (.int 1) = some (.val (.int (ex b v))) := rfl
  have q0 : gIx (.tup [.int n, .int e]) (.int 0) = some (.val (.int n)) := rfl
  have q1 : gIx (.tup [.int n, .int e]) (.int 1) = some (.val (.int e)) := rfl
  have gM : gMax (.int p1) (.int p2) = some (.val (.int high)) := by rw [gMax_int, hh]
  obtain ⟨l0, hl0⟩ : ∃ l0, l0 = (if p2 < p1 then p2 else p1) := ⟨_, rfl⟩
  have gm : gMin (.int p1) (.int p2) = some (.val (.int l0)) := by rw [gMin_int, hl0]
  have eL2 : L = if n = 0 then l0 else (if e < l0 then e else l0) := by
    rw [eL, hl0]
    unfold lowI
    repeat' split
    all_goals omega
  refine ⟨x, dx, Dx, ?_⟩
  have mA : M_law_least_from [.tup [.int b, .int mv, .int ad, f, l], .tup [.int n, .int e], .tup [.int L, .int high], .int (p1 - p2)] = .ok (.sh (.int x)) := mA
  -- the second
  have second : (L ≠ lo ∨ f = .non) → ∃ x1, M_law_least_from [.tup [.int b, .int mv, .int ad, f, l], .tup [.int n, .int e], .tup [.int (L - 1), .int high], .int (p1 - p2)] = .ok (.sh (.int x1)) ∧ x ≤ x1 := fun hne => by
    have lo2 : lo ≤ L - 1 := by
      rcases hne with hne | hne
      · omega
      · rcases hf with ⟨_, h⟩ | ⟨h, _⟩
        · omega
        · rw [hne] at h; cases h
    have eU : unitsI b n e (L - 1) = V * b := by
      rw [eV]
      unfold unitsI
      by_cases z : n = 0
      · rw [z, Int.zero_mul, Int.zero_mul, Int.zero_mul]
      · have := lle.2.2 z
        rw [show (e - (L - 1)).toNat = (e - L).toNat + 1 by omega, Int.pow_succ, ← Int.mul_assoc]
    have hU : (unitsI b n e (L - 1)).natAbs < 2 ^ 400 := by
      rw [eU, Int.natAbs_mul]
      have : V.natAbs * b.natAbs ≤ V.natAbs * 64 := Nat.mul_le_mul_left _ (by omega)
      have : (2 : Nat) ^ 347 * 64 ≤ 2 ^ 400 := by decide +kernel
      generalize (2 : Nat) ^ 347 = A at *
      generalize (2 : Nat) ^ 400 = B at *
      omega
    obtain ⟨oB, TB, mB, fB, tB, sB, qB⟩ := lfrom16 (ad := ad) (mv := mv) (n := n) (e := e) (low := L - 1) (high := high) (p1 := p1) (p2 := p2) (q := w - v) hb hb2 he (by omega) (by omega) z0 (fun z => by have := lle.2.2 z; omega) nb (by omega) eh hU (by
      rw [eU, a1, show W b L = W b 1 * W b (L - 1) by rw [← W_add hb]; congr 1; omega, W_one, Rat.intCast_mul, Rat.mul_assoc]) lo2 (by omega) ⟨hhi.1, hhi.2.1⟩ hhi.2.2 (by omega) (by omega)
    obtain ⟨y, k, c, a, k1, k2, hc, gg, ey⟩ := SW.end_some (ad := ad) (mv := mv) (ready := (high - (L - 1)).toNat) (m := (high - (L - 1)).toNat) hb (by omega) (by omega) (unitsI b n e (L - 1)) (SW.absI (p2 - p1)) (Nat.le_refl _)
    obtain ⟨x1, ex1, _⟩ := qB y ⟨k, c, a, by omega, by omega, by omega, hc, gg, by rw [ey]; exact Int.le_refl _⟩
    obtain ⟨hh', ds, P, eq⟩ := sB x1 ex1
    subst ex1
    exact ⟨x1, mB, by rw [eq]; exact Dx.le _ _ _ P⟩
  generalize hSP : D.tup [.int b, .int mv, .int ad, f, l] = SP at *
  have un : bOfTup [bName 3, bName 4, bName 5, bName 6, bName 7] SP [.sh SP, .sh (effD b v p1), .sh (effD b w p2), .un, .un, .un, .un, .un, .un, .un, .un, .un] = some [.sh SP, .sh (effD b v p1), .sh (effD b w p2), .sh (.int b), .sh (.int mv), .sh (.int ad), .sh f, .sh l, .un, .un, .un, .un] := by rw [← hSP]; rfl
  have start : startD 12 [SP, effD b v p1, effD b w p2] = [.sh SP, .sh (effD b v p1), .sh (effD b w p2), .un, .un, .un, .un, .un, .un, .un, .un, .un] := rfl
  clear sb lc hSP
  generalize effD b v p1 = S1 at *
  generalize effD b w p2 = S2 at *
  generalize numD b v = N1 at *
  generalize numD b w = N2 at *
  generalize D.tup [.int n, .int e] = NQ at *
  unfold M_law_least
  rw [body_eq, start]
  show Out.res _ = Out.res (.rt (.sh (.int x)))
  refine congrArg Out.res ?_
  refine seq_step (Γ' := [.sh SP, .sh S1, .sh S2, .sh (.int b), .sh (.int mv), .sh (.int ad), .sh f, .sh l, .un, .un, .un, .un]) (by
    show mAsg _ (eVar 0) _ = _
    unfold mAsg
    show mTo (.ok SP) _ _ = _
    unfold mTo
    dsimp only
    rw [un]) ?_
  refine seq_step (Γ' := [.sh SP, .sh S1, .sh S2, .sh (.int b), .sh (.int mv), .sh (.int ad), .sh f, .sh l, .sh NQ, .un, .un, .un]) (by simp [i10, i20, j0, j1, su]) ?_
  refine seq_step (Γ' := [.sh SP, .sh S1, .sh S2, .sh (.int b), .sh (.int mv), .sh (.int ad), .sh f, .sh l, .sh NQ, .sh (.int l0), .sh (.int high), .un]) (by simp only [mPar, eCons_def, eNil_def]; simp [i11, i21, gm, gM, -gMax_int, -gMin_int]) ?_
  refine seq_step (Γ' := [.sh SP, .sh S1, .sh S2, .sh (.int b), .sh (.int mv), .sh (.int ad), .sh f, .sh l, .sh NQ, .sh (.int L), .sh (.int high), .un]) (by
    by_cases z : n = 0
    · rw [if_pos z] at eL2; simp [q0, z, eL2]
    · rw [if_neg z] at eL2; simp [q0, q1, z, eL2]) ?_
  refine seq_step (Γ' := [.sh SP, .sh S1, .sh S2, .sh (.int b), .sh (.int mv), .sh (.int ad), .sh f, .sh l, .sh NQ, .sh (.int L), .sh (.int high), .sh (.int x)]) (by simp [i11, i21, mA]) ?_
  by_cases c : L ≠ lo ∨ f = .non
  · obtain ⟨x1, m1, le⟩ := second c
    have nl : ¬ x1 < x := by omega
    refine seq_step (Γ' := [.sh SP, .sh S1, .sh S2, .sh (.int b), .sh (.int mv), .sh (.int ad), .sh f, .sh l, .sh NQ, .sh (.int L), .sh (.int high), .sh (.int x)]) (by
      rcases hf with ⟨rfl, _⟩ | ⟨rfl, _⟩
      · simp [DL.isNon]
      · have : L ≠ lo := by
          rcases c with c | c
          · exact c
          · cases c
        simp [DL.isNon, this]) ?_
    simp [i11, i21, m1, nl]
  · have c1 : L = lo := Classical.byContradiction fun z => c (.inl z)
    have c2 : f = .int lo := by
      rcases hf with ⟨h, _⟩ | ⟨h, _⟩
      · exact absurd (.inr h) c
      · exact h
    subst c2 c1
    simp [DL.isNon]
end
theorem turn16 {CR CS : Addr} (ns : List Int) (k : Nat) (c : Int) (r : En) (hk : k < 1000) (hr : r.length = 6) : ∃ r', r'.length = 6 ∧
    B_law_K16_1 CR CS (.sh (.scr ns) :: .sh (.int (k : Int)) :: .sh (.int c) :: r) = .nx (.sh (.scr ns) :: .sh (.int (k : Int)) :: .sh (.int c) :: r') := by
  match r, hr with
  | [x3, x4, x5, x6, x7, x8], _ =>
  obtain ⟨ds, hd, en⟩ := numbers_ok c (1600 + (k : Int)) (by omega) (by omega) 420 (by decide) (by decide) 90 (by decide)
  have mr : gMul (.lst [.int 420]) (.int 90) = some (.newL (List.replicate 90 (.int 420))) := mul_rep (.int 420) 90 (by decide)
  generalize List.replicate 90 (D.int 420) = RR at mr en
  have at_ : ∀ j : Nat, j < 90 → gIx (.lst (ds.map .int)) (.int (j : Int)) = some (.val (.int (dg ds j))) ∧ 0 ≤ dg ds j ∧ dg ds j < 420 := fun j hj => hd.at_ hj
  have g80 : gIx (.lst (ds.map .int)) (.int 80) = some (.val (.int (dg ds 80))) := (at_ 80 (by decide)).1
  clear at_
  generalize dg ds 80 = d80 at *
  have sl6 : gSl (some 6) none (.lst (ds.map .int)) = some (.newL ((ds.drop 6).map .int)) := hd.from_ (k := 6) (by decide)
  have sl42 : gSl (some 42) none (.lst (ds.map .int)) = some (.newL ((ds.drop 42).map .int)) := hd.from_ (k := 42) (by decide)
  have md : ∀ (d j : Int), 0 < j → gMod (.int d) (.int j) = some (.val (.int (d % j))) := fun d j h => by rw [gMod_int]; exact giv_pos h
  obtain ⟨b0, mv, ad, f, l, lo, hi, sp, _, _, m1, m2, a1, a2, hf, hl⟩ := spec_eq63 hd (by decide)
  obtain ⟨b, hbe⟩ : ∃ b : Int, b = 2 + d80 % 35 := ⟨_, rfl⟩
  have b2 : 2 ≤ b := by omega
  have b36 : b ≤ 36 := by omega
  have he := ends63 hf hl
  have rw_ := row16 (CR := CR) (mv := mv) (ad := ad) b2 b36 hf hl ⟨m1, m2⟩ ⟨a1, a2⟩
  obtain ⟨v, p1, s1, z1, o1, h1⟩ := state16 (mv := mv) (ad := ad) b2 b36 hf hl (hd.drop 6) (by decide)
  obtain ⟨w, p2, s2, z2, o2, h2⟩ := state16 (mv := mv) (ad := ad) b2 b36 hf hl (hd.drop 42) (by decide)
  obtain ⟨x, dx, Dx, le⟩ := least16 (CR := CR) (CS := CS) b2 b36 hf hl ⟨a1, a2⟩ ⟨m1, m2⟩ z1 z2 o1 o2 h1 h2
  have n1 : NumV b v := numV_of b2 z1 (by decide) (by decide) (by decide)
  have n2 : NumV b w := numV_of b2 z2 (by decide) (by decide) (by decide)
  obtain ⟨y, dy, Dy_⟩ := distance_wide (CR := CR) (CS := CS) (mv := mv) (ad := ad) (f := f) (l := l) (p1 := p2) (p2 := p1) b2 b36 he (by omega) (by omega) z2 z1 (by decide) (by decide) n2 n1 ⟨h2.1, h2.2.1⟩ ⟨h1.1, h1.2.1⟩ o2 o1
  obtain ⟨z, dz, Dz⟩ := distance_wide (CR := CR) (CS := CS) (mv := mv) (ad := ad) (f := f) (l := l) (p1 := p1) (p2 := p1) b2 b36 he (by omega) (by omega) z1 z1 (by decide) (by decide) n1 n1 ⟨h1.1, h1.2.1⟩ ⟨h1.1, h1.2.1⟩ o1 o1
  have ey : y = x := by
    have := Dx.symm
    rw [show -(w - v) = v - w by grind] at this
    exact Dy_.one this
  have ez : z = 0 := by
    rw [show v - v = 0 by grind] at Dz
    exact Dz.one (SW.Dist.zero (by omega) (by omega) h1.1 h1.2.1)
  subst ey ez
  have st1 : gSlT (some 1) none (.tup [.int b0, .int mv, .int ad, f, l]) = some (.newT [.int mv, .int ad, f, l]) := by rfl
  have ad1 : gAdd (.tup [.int b]) (.tup [.int mv, .int ad, f, l]) = some (.newT [.int b, .int mv, .int ad, f, l]) := rfl
  clear Dx Dy_ Dz z1 z2 o1 o2 hd he hf hl
  generalize hSP : D.tup [.int b, .int mv, .int ad, f, l] = SP at *
  generalize D.tup [.int b0, .int mv, .int ad, f, l] = SP0 at *
  generalize rowD CR (.int b) (.int mv) (.int ad) f l = R at *
  generalize effD b v p1 = S1 at *
  generalize effD b w p2 = S2 at *
  generalize (ds.drop 6).map D.int = e6 at *
  generalize (ds.drop 42).map D.int = e42 at *
  generalize ds.map D.int = dl at *
  refine ⟨[.sh (.lst dl), .sh SP, .sh S1, .sh S2, .sh R, .sh (.int y)], rfl, ?_⟩
  unfold B_law_K16_1
  refine seq_step (Γ' := [.sh (.scr ns), .sh (.int (k : Int)), .sh (.int c), .sh (.lst dl), x4, x5, x6, x7, x8]) (by simp [mr, en]) ?_
  refine seq_step (Γ' := [.sh (.scr ns), .sh (.int (k : Int)), .sh (.int c), .sh (.lst dl), .sh SP, x5, x6, x7, x8]) (by simp [g80, md, sp, st1, ← hbe, ad1, hSP]) ?_
  refine seq_step (Γ' := [.sh (.scr ns), .sh (.int (k : Int)), .sh (.int c), .sh (.lst dl), .sh SP, .sh S1, .sh S2, x7, x8]) (by simp [sl6, sl42, s1, s2]) ?_
  refine seq_step (Γ' := [.sh (.scr ns), .sh (.int (k : Int)), .sh (.int c), .sh (.lst dl), .sh SP, .sh S1, .sh S2, .sh R, x8]) (by simp [rw_]) ?_
  refine seq_step (Γ' := [.sh (.scr ns), .sh (.int (k : Int)), .sh (.int c), .sh (.lst dl), .sh SP, .sh S1, .sh S2, .sh R, .sh (.int y)]) (by simp [le]) ?_
  simp [dx, dy, dz]
theorem law_true_K16 (CR CS : Addr) : LawTrue (M_law_K16 CR CS) := law_loop (N := 4) (m := 6) (by decide) rfl turn16
end PM
namespace K16
open PySem L2 GL DL PM
theorem all_mk {l : PySem.W.OpenLaw} {w : World} {fa : Addr} {K : PySem.W.Frag} {h : Heap} {mg : Str → Option Value} (X : K.In h) (G : h.Ns mainGlobals mg) (hfa : mg "law" = some (.ref fa))
  {f_wall : Addr} {od_wall an_wall : Option Addr} {sl_wall : Array (Option Value)} {oc_wall kV_wall dc_wall pm_wall cd_wall ct_wall : Value}
  {f_is_whole : Addr} {od_is_whole an_is_whole : Option Addr} {sl_is_whole : Array (Option Value)} {oc_is_whole kV_is_whole dc_is_whole pm_is_whole cd_is_whole ct_is_whole : Value}
  {f_is_within : Addr} {od_is_within an_is_within : Option Addr} {sl_is_within : Array (Option Value)} {oc_is_within kV_is_within dc_is_within pm_is_within cd_is_within ct_is_within : Value}
  {f_is_place : Addr} {od_is_place an_is_place : Option Addr} {sl_is_place : Array (Option Value)} {oc_is_place kV_is_place dc_is_place pm_is_place cd_is_place ct_is_place : Value}
  {f_power_of : Addr} {od_power_of an_power_of : Option Addr} {sl_power_of : Array (Option Value)} {oc_power_of kV_power_of dc_power_of pm_power_of cd_power_of ct_power_of : Value}
  {f_is_number : Addr} {od_is_number an_is_number : Option Addr} {sl_is_number : Array (Option Value)} {oc_is_number kV_is_number dc_is_number pm_is_number cd_is_number ct_is_number : Value}
  {f_units : Addr} {od_units an_units : Option Addr} {sl_units : Array (Option Value)} {oc_units kV_units dc_units pm_units cd_units ct_units : Value}
  {f_negative : Addr} {od_negative an_negative : Option Addr} {sl_negative : Array (Option Value)} {oc_negative kV_negative dc_negative pm_negative cd_negative ct_negative : Value}
  {f_form_of : Addr} {od_form_of an_form_of : Option Addr} {sl_form_of : Array (Option Value)} {oc_form_of kV_form_of dc_form_of pm_form_of cd_form_of ct_form_of : Value}
  {f_sum_of : Addr} {od_sum_of an_sum_of : Option Addr} {sl_sum_of : Array (Option Value)} {oc_sum_of kV_sum_of dc_sum_of pm_sum_of cd_sum_of ct_sum_of : Value}
  {f_has_few_digits : Addr} {od_has_few_digits an_has_few_digits : Option Addr} {sl_has_few_digits : Array (Option Value)} {oc_has_few_digits kV_has_few_digits dc_has_few_digits pm_has_few_digits cd_has_few_digits ct_has_few_digits : Value}
  {f_without_factors : Addr} {od_without_factors an_without_factors : Option Addr} {sl_without_factors : Array (Option Value)} {oc_without_factors kV_without_factors dc_without_factors pm_without_factors cd_without_factors ct_without_factors : Value}
  {f_is_state : Addr} {od_is_state an_is_state : Option Addr} {sl_is_state : Array (Option Value)} {oc_is_state kV_is_state dc_is_state pm_is_state cd_is_state ct_is_state : Value}
  {f_is_pair : Addr} {od_is_pair an_is_pair : Option Addr} {sl_is_pair : Array (Option Value)} {oc_is_pair kV_is_pair dc_is_pair pm_is_pair cd_is_pair ct_is_pair : Value}
  {f_require_state : Addr} {od_require_state an_require_state : Option Addr} {sl_require_state : Array (Option Value)} {oc_require_state kV_require_state dc_require_state pm_require_state cd_require_state ct_require_state : Value}
  {f_require_states : Addr} {od_require_states an_require_states : Option Addr} {sl_require_states : Array (Option Value)} {oc_require_states kV_require_states dc_require_states pm_require_states cd_require_states ct_require_states : Value}
  {f_distance : Addr} {od_distance an_distance : Option Addr} {sl_distance : Array (Option Value)} {oc_distance kV_distance dc_distance pm_distance cd_distance ct_distance : Value}
  {f_sweep_between : Addr} {od_sweep_between an_sweep_between : Option Addr} {sl_sweep_between : Array (Option Value)} {oc_sweep_between kV_sweep_between dc_sweep_between pm_sweep_between cd_sweep_between ct_sweep_between : Value}
  {f_sweep_of_any : Addr} {od_sweep_of_any an_sweep_of_any : Option Addr} {sl_sweep_of_any : Array (Option Value)} {oc_sweep_of_any kV_sweep_of_any dc_sweep_of_any pm_sweep_of_any cd_sweep_of_any ct_sweep_of_any : Value}
  {f_least_cost : Addr} {od_least_cost an_least_cost : Option Addr} {sl_least_cost : Array (Option Value)} {oc_least_cost kV_least_cost dc_least_cost pm_least_cost cd_least_cost ct_least_cost : Value}
  {f_difference : Addr} {od_difference an_difference : Option Addr} {sl_difference : Array (Option Value)} {oc_difference kV_difference dc_difference pm_difference cd_difference ct_difference : Value}
  {f_floors_up : Addr} {od_floors_up an_floors_up : Option Addr} {sl_floors_up : Array (Option Value)} {oc_floors_up kV_floors_up dc_floors_up pm_floors_up cd_floors_up ct_floors_up : Value}
  {f_invalid_field : Addr} {od_invalid_field an_invalid_field : Option Addr} {sl_invalid_field : Array (Option Value)} {oc_invalid_field kV_invalid_field dc_invalid_field pm_invalid_field cd_invalid_field ct_invalid_field : Value}
  {f_is_cost : Addr} {od_is_cost an_is_cost : Option Addr} {sl_is_cost : Array (Option Value)} {oc_is_cost kV_is_cost dc_is_cost pm_is_cost cd_is_cost ct_is_cost : Value}
  {f_is_end : Addr} {od_is_end an_is_end : Option Addr} {sl_is_end : Array (Option Value)} {oc_is_end kV_is_end dc_is_end pm_is_end cd_is_end ct_is_end : Value}
  {f_law_numbers : Addr} {od_law_numbers an_law_numbers : Option Addr} {sl_law_numbers : Array (Option Value)} {oc_law_numbers kV_law_numbers dc_law_numbers pm_law_numbers cd_law_numbers ct_law_numbers : Value}
  {f_law_power : Addr} {od_law_power an_law_power : Option Addr} {sl_law_power : Array (Option Value)} {oc_law_power kV_law_power dc_law_power pm_law_power cd_law_power ct_law_power : Value}
  {f_law_reduced : Addr} {od_law_reduced an_law_reduced : Option Addr} {sl_law_reduced : Array (Option Value)} {oc_law_reduced kV_law_reduced dc_law_reduced pm_law_reduced cd_law_reduced ct_law_reduced : Value}
  {f_law_sum : Addr} {od_law_sum an_law_sum : Option Addr} {sl_law_sum : Array (Option Value)} {oc_law_sum kV_law_sum dc_law_sum pm_law_sum cd_law_sum ct_law_sum : Value}
  {f_law_integer : Addr} {od_law_integer an_law_integer : Option Addr} {sl_law_integer : Array (Option Value)} {oc_law_integer kV_law_integer dc_law_integer pm_law_integer cd_law_integer ct_law_integer : Value}
  {f_law_spec : Addr} {od_law_spec an_law_spec : Option Addr} {sl_law_spec : Array (Option Value)} {oc_law_spec kV_law_spec dc_law_spec pm_law_spec cd_law_spec ct_law_spec : Value}
  {f_law_row : Addr} {od_law_row an_law_row : Option Addr} {sl_law_row : Array (Option Value)} {oc_law_row kV_law_row dc_law_row pm_law_row cd_law_row ct_law_row : Value}
  {f_law_position : Addr} {od_law_position an_law_position : Option Addr} {sl_law_position : Array (Option Value)} {oc_law_position kV_law_position dc_law_position pm_law_position cd_law_position ct_law_position : Value}
  {f_law_state : Addr} {od_law_state an_law_state : Option Addr} {sl_law_state : Array (Option Value)} {oc_law_state kV_law_state dc_law_state pm_law_state cd_law_state ct_law_state : Value}
  {f_law_least : Addr} {od_law_least an_law_least : Option Addr} {sl_law_least : Array (Option Value)} {oc_law_least kV_law_least dc_law_least pm_law_least cd_law_least ct_law_least : Value}
  {f_law_floor : Addr} {od_law_floor an_law_floor : Option Addr} {sl_law_floor : Array (Option Value)} {oc_law_floor kV_law_floor dc_law_floor pm_law_floor cd_law_floor ct_law_floor : Value}
  {f_law_least_from : Addr} {od_law_least_from an_law_least_from : Option Addr} {sl_law_least_from : Array (Option Value)} {oc_law_least_from kV_law_least_from dc_law_least_from pm_law_least_from cd_law_least_from ct_law_least_from : Value}
  {f_law_later : Addr} {od_law_later an_law_later : Option Addr} {sl_law_later : Array (Option Value)} {oc_law_later kV_law_later dc_law_later pm_law_later cd_law_later ct_law_later : Value}
  {f_law : Addr} {od_law an_law : Option Addr} {sl_law : Array (Option Value)} {oc_law kV_law dc_law pm_law cd_law ct_law : Value}
  {C_InvalidRow I_InvalidRow N_InvalidRow : Addr} {nm_InvalidRow q_InvalidRow : Str} {bs_InvalidRow bm_InvalidRow sub_InvalidRow : List Value} {sn_InvalidRow : List Str} {ab_InvalidRow : Bool} {col_InvalidRow : Option Bool} {dd_InvalidRow : Option Addr} {m0_InvalidRow m1_InvalidRow m2_InvalidRow m3_InvalidRow m5_InvalidRow : Option Value}
  {od_InvalidRow an_InvalidRow : Option Addr} {sl_InvalidRow : Array (Option Value)} {oc_InvalidRow dc_InvalidRow pm_InvalidRow cd_InvalidRow cv_InvalidRow : Value}
  {C_InvalidState I_InvalidState N_InvalidState : Addr} {nm_InvalidState q_InvalidState : Str} {bs_InvalidState bm_InvalidState sub_InvalidState : List Value} {sn_InvalidState : List Str} {ab_InvalidState : Bool} {col_InvalidState : Option Bool} {dd_InvalidState : Option Addr} {m0_InvalidState m1_InvalidState m2_InvalidState m3_InvalidState m5_InvalidState : Option Value}
  {od_InvalidState an_InvalidState : Option Addr} {sl_InvalidState : Array (Option Value)} {oc_InvalidState dc_InvalidState pm_InvalidState cd_InvalidState cv_InvalidState : Value}
  {t_MAX_PLACE : Tok}
  {t_MAX_DIGITS : Tok}
  {t_MAX_COST : Tok}
  {C_Row : Addr}
  {f_Row_init D_Row_init : Addr} {od_Row_init an_Row_init : Option Addr} {sl_Row_init : Array (Option Value)} {oc_Row_init dc_Row_init pm_Row_init cd_Row_init ct_Row_init : Value}
  {tk0_Row_init : Tok}
  {tk1_Row_init : Tok}
  {f_Row_base : Addr} {od_Row_base an_Row_base : Option Addr} {sl_Row_base : Array (Option Value)} {oc_Row_base kV_Row_base dc_Row_base pm_Row_base cd_Row_base ct_Row_base : Value}
  {p_Row_base : Addr} {rest_Row_base : List Value}
  {f_Row_move_cost : Addr} {od_Row_move_cost an_Row_move_cost : Option Addr} {sl_Row_move_cost : Array (Option Value)} {oc_Row_move_cost kV_Row_move_cost dc_Row_move_cost pm_Row_move_cost cd_Row_move_cost ct_Row_move_cost : Value}
  {p_Row_move_cost : Addr} {rest_Row_move_cost : List Value}
  {f_Row_add_cost : Addr} {od_Row_add_cost an_Row_add_cost : Option Addr} {sl_Row_add_cost : Array (Option Value)} {oc_Row_add_cost kV_Row_add_cost dc_Row_add_cost pm_Row_add_cost cd_Row_add_cost ct_Row_add_cost : Value}
  {p_Row_add_cost : Addr} {rest_Row_add_cost : List Value}
  {f_Row_first : Addr} {od_Row_first an_Row_first : Option Addr} {sl_Row_first : Array (Option Value)} {oc_Row_first kV_Row_first dc_Row_first pm_Row_first cd_Row_first ct_Row_first : Value}
  {p_Row_first : Addr} {rest_Row_first : List Value}
  {f_Row_last : Addr} {od_Row_last an_Row_last : Option Addr} {sl_Row_last : Array (Option Value)} {oc_Row_last kV_Row_last dc_Row_last pm_Row_last cd_Row_last ct_Row_last : Value}
  {p_Row_last : Addr} {rest_Row_last : List Value}
  {f_Row_has_place : Addr} {od_Row_has_place an_Row_has_place : Option Addr} {sl_Row_has_place : Array (Option Value)} {oc_Row_has_place kV_Row_has_place dc_Row_has_place pm_Row_has_place cd_Row_has_place ct_Row_has_place : Value}
  {tv_MIN_BASE : Tok}
  {tv_MAX_BASE : Tok}
  {C_Sweep : Addr}
  {f_Sweep_init : Addr} {od_Sweep_init an_Sweep_init : Option Addr} {sl_Sweep_init : Array (Option Value)} {oc_Sweep_init kV_Sweep_init dc_Sweep_init pm_Sweep_init cd_Sweep_init ct_Sweep_init : Value}
  {f_Sweep_choices : Addr} {od_Sweep_choices an_Sweep_choices : Option Addr} {sl_Sweep_choices : Array (Option Value)} {oc_Sweep_choices kV_Sweep_choices dc_Sweep_choices pm_Sweep_choices cd_Sweep_choices ct_Sweep_choices : Value}
  {f_Sweep_steps : Addr} {od_Sweep_steps an_Sweep_steps : Option Addr} {sl_Sweep_steps : Array (Option Value)} {oc_Sweep_steps kV_Sweep_steps dc_Sweep_steps pm_Sweep_steps cd_Sweep_steps ct_Sweep_steps : Value}
  {f_Sweep_least_costs : Addr} {od_Sweep_least_costs an_Sweep_least_costs : Option Addr} {sl_Sweep_least_costs : Array (Option Value)} {oc_Sweep_least_costs kV_Sweep_least_costs dc_Sweep_least_costs pm_Sweep_least_costs cd_Sweep_least_costs ct_Sweep_least_costs : Value}
  {f_Sweep_moves : Addr} {od_Sweep_moves an_Sweep_moves : Option Addr} {sl_Sweep_moves : Array (Option Value)} {oc_Sweep_moves kV_Sweep_moves dc_Sweep_moves pm_Sweep_moves cd_Sweep_moves ct_Sweep_moves : Value}
  {f_Sweep_end_cost : Addr} {od_Sweep_end_cost an_Sweep_end_cost : Option Addr} {sl_Sweep_end_cost : Array (Option Value)} {oc_Sweep_end_cost kV_Sweep_end_cost dc_Sweep_end_cost pm_Sweep_end_cost cd_Sweep_end_cost ct_Sweep_end_cost : Value}
  {f_Sweep_ends : Addr} {od_Sweep_ends an_Sweep_ends : Option Addr} {sl_Sweep_ends : Array (Option Value)} {oc_Sweep_ends kV_Sweep_ends dc_Sweep_ends pm_Sweep_ends cd_Sweep_ends ct_Sweep_ends : Value}
  (a_wall : PySem.W.nsIn K mainGlobals "_wall" = some (some (.ref f_wall)))
  (l_wall : K.lookup f_wall = some ⟨oc_wall, od_wall, .func (PySem.W.fnOf "_wall" "_wall" (defArgs s_wall) (defBody s_wall) (defScope s_wall) .none kV_wall dc_wall pm_wall an_wall cd_wall ct_wall), sl_wall⟩)
  (c_wall : PySem.W.codeIn K cd_wall "_wall" = true)
  (k_wall : PySem.W.keepIn K (.ref f_wall) = true)
  (a_is_whole : PySem.W.nsIn K mainGlobals "is_whole" = some (some (.ref f_is_whole)))
  (l_is_whole : K.lookup f_is_whole = some ⟨oc_is_whole, od_is_whole, .func (PySem.W.fnOf "is_whole" "is_whole" (defArgs s_is_whole) (defBody s_is_whole) (defScope s_is_whole) .none kV_is_whole dc_is_whole pm_is_whole an_is_whole cd_is_whole ct_is_whole), sl_is_whole⟩)
  (c_is_whole : PySem.W.codeIn K cd_is_whole "is_whole" = true)
  (k_is_whole : PySem.W.keepIn K (.ref f_is_whole) = true)
  (a_is_within : PySem.W.nsIn K mainGlobals "is_within" = some (some (.ref f_is_within)))
  (l_is_within : K.lookup f_is_within = some ⟨oc_is_within, od_is_within, .func (PySem.W.fnOf "is_within" "is_within" (defArgs s_is_within) (defBody s_is_within) (defScope s_is_within) .none kV_is_within dc_is_within pm_is_within an_is_within cd_is_within ct_is_within), sl_is_within⟩)
  (c_is_within : PySem.W.codeIn K cd_is_within "is_within" = true)
  (k_is_within : PySem.W.keepIn K (.ref f_is_within) = true)
  (a_is_place : PySem.W.nsIn K mainGlobals "is_place" = some (some (.ref f_is_place)))
  (l_is_place : K.lookup f_is_place = some ⟨oc_is_place, od_is_place, .func (PySem.W.fnOf "is_place" "is_place" (defArgs s_is_place) (defBody s_is_place) (defScope s_is_place) .none kV_is_place dc_is_place pm_is_place an_is_place cd_is_place ct_is_place), sl_is_place⟩)
  (c_is_place : PySem.W.codeIn K cd_is_place "is_place" = true)
  (k_is_place : PySem.W.keepIn K (.ref f_is_place) = true)
  (a_power_of : PySem.W.nsIn K mainGlobals "power_of" = some (some (.ref f_power_of)))
  (l_power_of : K.lookup f_power_of = some ⟨oc_power_of, od_power_of, .func (PySem.W.fnOf "power_of" "power_of" (defArgs s_power_of) (defBody s_power_of) (defScope s_power_of) .none kV_power_of dc_power_of pm_power_of an_power_of cd_power_of ct_power_of), sl_power_of⟩)
  (c_power_of : PySem.W.codeIn K cd_power_of "power_of" = true)
  (k_power_of : PySem.W.keepIn K (.ref f_power_of) = true)
  (a_is_number : PySem.W.nsIn K mainGlobals "is_number" = some (some (.ref f_is_number)))
  (l_is_number : K.lookup f_is_number = some ⟨oc_is_number, od_is_number, .func (PySem.W.fnOf "is_number" "is_number" (defArgs s_is_number) (defBody s_is_number) (defScope s_is_number) .none kV_is_number dc_is_number pm_is_number an_is_number cd_is_number ct_is_number), sl_is_number⟩)
  (c_is_number : PySem.W.codeIn K cd_is_number "is_number" = true)
  (k_is_number : PySem.W.keepIn K (.ref f_is_number) = true)
  (a_units : PySem.W.nsIn K mainGlobals "units" = some (some (.ref f_units)))
  (l_units : K.lookup f_units = some ⟨oc_units, od_units, .func (PySem.W.fnOf "units" "units" (defArgs s_units) (defBody s_units) (defScope s_units) .none kV_units dc_units pm_units an_units cd_units ct_units), sl_units⟩)
  (c_units : PySem.W.codeIn K cd_units "units" = true)
  (k_units : PySem.W.keepIn K (.ref f_units) = true)
  (a_negative : PySem.W.nsIn K mainGlobals "negative" = some (some (.ref f_negative)))
  (l_negative : K.lookup f_negative = some ⟨oc_negative, od_negative, .func (PySem.W.fnOf "negative" "negative" (defArgs s_negative) (defBody s_negative) (defScope s_negative) .none kV_negative dc_negative pm_negative an_negative cd_negative ct_negative), sl_negative⟩)
  (c_negative : PySem.W.codeIn K cd_negative "negative" = true)
  (k_negative : PySem.W.keepIn K (.ref f_negative) = true)
  (a_form_of : PySem.W.nsIn K mainGlobals "form_of" = some (some (.ref f_form_of)))
  (l_form_of : K.lookup f_form_of = some ⟨oc_form_of, od_form_of, .func (PySem.W.fnOf "form_of" "form_of" (defArgs s_form_of) (defBody s_form_of) (defScope s_form_of) .none kV_form_of dc_form_of pm_form_of an_form_of cd_form_of ct_form_of), sl_form_of⟩)
  (c_form_of : PySem.W.codeIn K cd_form_of "form_of" = true)
  (k_form_of : PySem.W.keepIn K (.ref f_form_of) = true)
  (a_sum_of : PySem.W.nsIn K mainGlobals "sum_of" = some (some (.ref f_sum_of)))
  (l_sum_of : K.lookup f_sum_of = some ⟨oc_sum_of, od_sum_of, .func (PySem.W.fnOf "sum_of" "sum_of" (defArgs s_sum_of) (defBody s_sum_of) (defScope s_sum_of) .none kV_sum_of dc_sum_of pm_sum_of an_sum_of cd_sum_of ct_sum_of), sl_sum_of⟩)
  (c_sum_of : PySem.W.codeIn K cd_sum_of "sum_of" = true)
  (k_sum_of : PySem.W.keepIn K (.ref f_sum_of) = true)
  (a_has_few_digits : PySem.W.nsIn K mainGlobals "has_few_digits" = some (some (.ref f_has_few_digits)))
  (l_has_few_digits : K.lookup f_has_few_digits = some ⟨oc_has_few_digits, od_has_few_digits, .func (PySem.W.fnOf "has_few_digits" "has_few_digits" (defArgs s_has_few_digits) (defBody s_has_few_digits) (defScope s_has_few_digits) .none kV_has_few_digits dc_has_few_digits pm_has_few_digits an_has_few_digits cd_has_few_digits ct_has_few_digits), sl_has_few_digits⟩)
  (c_has_few_digits : PySem.W.codeIn K cd_has_few_digits "has_few_digits" = true)
  (k_has_few_digits : PySem.W.keepIn K (.ref f_has_few_digits) = true)
  (a_without_factors : PySem.W.nsIn K mainGlobals "without_factors" = some (some (.ref f_without_factors)))
  (l_without_factors : K.lookup f_without_factors = some ⟨oc_without_factors, od_without_factors, .func (PySem.W.fnOf "without_factors" "without_factors" (defArgs s_without_factors) (defBody s_without_factors) (defScope s_without_factors) .none kV_without_factors dc_without_factors pm_without_factors an_without_factors cd_without_factors ct_without_factors), sl_without_factors⟩)
  (c_without_factors : PySem.W.codeIn K cd_without_factors "without_factors" = true)
  (k_without_factors : PySem.W.keepIn K (.ref f_without_factors) = true)
  (a_is_state : PySem.W.nsIn K mainGlobals "is_state" = some (some (.ref f_is_state)))
  (l_is_state : K.lookup f_is_state = some ⟨oc_is_state, od_is_state, .func (PySem.W.fnOf "is_state" "is_state" (defArgs s_is_state) (defBody s_is_state) (defScope s_is_state) .none kV_is_state dc_is_state pm_is_state an_is_state cd_is_state ct_is_state), sl_is_state⟩)
  (c_is_state : PySem.W.codeIn K cd_is_state "is_state" = true)
  (k_is_state : PySem.W.keepIn K (.ref f_is_state) = true)
  (a_is_pair : PySem.W.nsIn K mainGlobals "is_pair" = some (some (.ref f_is_pair)))
  (l_is_pair : K.lookup f_is_pair = some ⟨oc_is_pair, od_is_pair, .func (PySem.W.fnOf "is_pair" "is_pair" (defArgs s_is_pair) (defBody s_is_pair) (defScope s_is_pair) .none kV_is_pair dc_is_pair pm_is_pair an_is_pair cd_is_pair ct_is_pair), sl_is_pair⟩)
  (c_is_pair : PySem.W.codeIn K cd_is_pair "is_pair" = true)
  (k_is_pair : PySem.W.keepIn K (.ref f_is_pair) = true)
  (a_require_state : PySem.W.nsIn K mainGlobals "require_state" = some (some (.ref f_require_state)))
  (l_require_state : K.lookup f_require_state = some ⟨oc_require_state, od_require_state, .func (PySem.W.fnOf "require_state" "require_state" (defArgs s_require_state) (defBody s_require_state) (defScope s_require_state) .none kV_require_state dc_require_state pm_require_state an_require_state cd_require_state ct_require_state), sl_require_state⟩)
  (c_require_state : PySem.W.codeIn K cd_require_state "require_state" = true)
  (k_require_state : PySem.W.keepIn K (.ref f_require_state) = true)
  (a_require_states : PySem.W.nsIn K mainGlobals "require_states" = some (some (.ref f_require_states)))
  (l_require_states : K.lookup f_require_states = some ⟨oc_require_states, od_require_states, .func (PySem.W.fnOf "require_states" "require_states" (defArgs s_require_states) (defBody s_require_states) (defScope s_require_states) .none kV_require_states dc_require_states pm_require_states an_require_states cd_require_states ct_require_states), sl_require_states⟩)
  (c_require_states : PySem.W.codeIn K cd_require_states "require_states" = true)
  (k_require_states : PySem.W.keepIn K (.ref f_require_states) = true)
  (a_distance : PySem.W.nsIn K mainGlobals "distance" = some (some (.ref f_distance)))
  (l_distance : K.lookup f_distance = some ⟨oc_distance, od_distance, .func (PySem.W.fnOf "distance" "distance" (defArgs s_distance) (defBody s_distance) (defScope s_distance) .none kV_distance dc_distance pm_distance an_distance cd_distance ct_distance), sl_distance⟩)
  (c_distance : PySem.W.codeIn K cd_distance "distance" = true)
  (k_distance : PySem.W.keepIn K (.ref f_distance) = true)
  (a_sweep_between : PySem.W.nsIn K mainGlobals "sweep_between" = some (some (.ref f_sweep_between)))
  (l_sweep_between : K.lookup f_sweep_between = some ⟨oc_sweep_between, od_sweep_between, .func (PySem.W.fnOf "sweep_between" "sweep_between" (defArgs s_sweep_between) (defBody s_sweep_between) (defScope s_sweep_between) .none kV_sweep_between dc_sweep_between pm_sweep_between an_sweep_between cd_sweep_between ct_sweep_between), sl_sweep_between⟩)
  (c_sweep_between : PySem.W.codeIn K cd_sweep_between "sweep_between" = true)
  (k_sweep_between : PySem.W.keepIn K (.ref f_sweep_between) = true)
  (a_sweep_of_any : PySem.W.nsIn K mainGlobals "sweep_of_any" = some (some (.ref f_sweep_of_any)))
  (l_sweep_of_any : K.lookup f_sweep_of_any = some ⟨oc_sweep_of_any, od_sweep_of_any, .func (PySem.W.fnOf "sweep_of_any" "sweep_of_any" (defArgs s_sweep_of_any) (defBody s_sweep_of_any) (defScope s_sweep_of_any) .none kV_sweep_of_any dc_sweep_of_any pm_sweep_of_any an_sweep_of_any cd_sweep_of_any ct_sweep_of_any), sl_sweep_of_any⟩)
  (c_sweep_of_any : PySem.W.codeIn K cd_sweep_of_any "sweep_of_any" = true)
  (k_sweep_of_any : PySem.W.keepIn K (.ref f_sweep_of_any) = true)
  (a_least_cost : PySem.W.nsIn K mainGlobals "least_cost" = some (some (.ref f_least_cost)))
  (l_least_cost : K.lookup f_least_cost = some ⟨oc_least_cost, od_least_cost, .func (PySem.W.fnOf "least_cost" "least_cost" (defArgs s_least_cost) (defBody s_least_cost) (defScope s_least_cost) .none kV_least_cost dc_least_cost pm_least_cost an_least_cost cd_least_cost ct_least_cost), sl_least_cost⟩)
  (c_least_cost : PySem.W.codeIn K cd_least_cost "least_cost" = true)
  (k_least_cost : PySem.W.keepIn K (.ref f_least_cost) = true)
  (a_difference : PySem.W.nsIn K mainGlobals "difference" = some (some (.ref f_difference)))
  (l_difference : K.lookup f_difference = some ⟨oc_difference, od_difference, .func (PySem.W.fnOf "difference" "difference" (defArgs s_difference) (defBody s_difference) (defScope s_difference) .none kV_difference dc_difference pm_difference an_difference cd_difference ct_difference), sl_difference⟩)
  (c_difference : PySem.W.codeIn K cd_difference "difference" = true)
  (k_difference : PySem.W.keepIn K (.ref f_difference) = true)
  (a_floors_up : PySem.W.nsIn K mainGlobals "floors_up" = some (some (.ref f_floors_up)))
  (l_floors_up : K.lookup f_floors_up = some ⟨oc_floors_up, od_floors_up, .func (PySem.W.fnOf "floors_up" "floors_up" (defArgs s_floors_up) (defBody s_floors_up) (defScope s_floors_up) .none kV_floors_up dc_floors_up pm_floors_up an_floors_up cd_floors_up ct_floors_up), sl_floors_up⟩)
  (c_floors_up : PySem.W.codeIn K cd_floors_up "floors_up" = true)
  (k_floors_up : PySem.W.keepIn K (.ref f_floors_up) = true)
  (a_invalid_field : PySem.W.nsIn K mainGlobals "invalid_field" = some (some (.ref f_invalid_field)))
  (l_invalid_field : K.lookup f_invalid_field = some ⟨oc_invalid_field, od_invalid_field, .func (PySem.W.fnOf "invalid_field" "invalid_field" (defArgs s_invalid_field) (defBody s_invalid_field) (defScope s_invalid_field) .none kV_invalid_field dc_invalid_field pm_invalid_field an_invalid_field cd_invalid_field ct_invalid_field), sl_invalid_field⟩)
  (c_invalid_field : PySem.W.codeIn K cd_invalid_field "invalid_field" = true)
  (k_invalid_field : PySem.W.keepIn K (.ref f_invalid_field) = true)
  (a_is_cost : PySem.W.nsIn K mainGlobals "is_cost" = some (some (.ref f_is_cost)))
  (l_is_cost : K.lookup f_is_cost = some ⟨oc_is_cost, od_is_cost, .func (PySem.W.fnOf "is_cost" "is_cost" (defArgs s_is_cost) (defBody s_is_cost) (defScope s_is_cost) .none kV_is_cost dc_is_cost pm_is_cost an_is_cost cd_is_cost ct_is_cost), sl_is_cost⟩)
  (c_is_cost : PySem.W.codeIn K cd_is_cost "is_cost" = true)
  (k_is_cost : PySem.W.keepIn K (.ref f_is_cost) = true)
  (a_is_end : PySem.W.nsIn K mainGlobals "is_end" = some (some (.ref f_is_end)))
  (l_is_end : K.lookup f_is_end = some ⟨oc_is_end, od_is_end, .func (PySem.W.fnOf "is_end" "is_end" (defArgs s_is_end) (defBody s_is_end) (defScope s_is_end) .none kV_is_end dc_is_end pm_is_end an_is_end cd_is_end ct_is_end), sl_is_end⟩)
  (c_is_end : PySem.W.codeIn K cd_is_end "is_end" = true)
  (k_is_end : PySem.W.keepIn K (.ref f_is_end) = true)
  (a_law_numbers : PySem.W.nsIn K mainGlobals "_law_numbers" = some (some (.ref f_law_numbers)))
  (l_law_numbers : K.lookup f_law_numbers = some ⟨oc_law_numbers, od_law_numbers, .func (PySem.W.fnOf "_law_numbers" "_law_numbers" (defArgs s_law_numbers) (defBody s_law_numbers) (defScope s_law_numbers) .none kV_law_numbers dc_law_numbers pm_law_numbers an_law_numbers cd_law_numbers ct_law_numbers), sl_law_numbers⟩)
  (c_law_numbers : PySem.W.codeIn K cd_law_numbers "_law_numbers" = true)
  (k_law_numbers : PySem.W.keepIn K (.ref f_law_numbers) = true)
  (a_law_power : PySem.W.nsIn K mainGlobals "_law_power" = some (some (.ref f_law_power)))
  (l_law_power : K.lookup f_law_power = some ⟨oc_law_power, od_law_power, .func (PySem.W.fnOf "_law_power" "_law_power" (defArgs s_law_power) (defBody s_law_power) (defScope s_law_power) .none kV_law_power dc_law_power pm_law_power an_law_power cd_law_power ct_law_power), sl_law_power⟩)
  (c_law_power : PySem.W.codeIn K cd_law_power "_law_power" = true)
  (k_law_power : PySem.W.keepIn K (.ref f_law_power) = true)
  (a_law_reduced : PySem.W.nsIn K mainGlobals "_law_reduced" = some (some (.ref f_law_reduced)))
  (l_law_reduced : K.lookup f_law_reduced = some ⟨oc_law_reduced, od_law_reduced, .func (PySem.W.fnOf "_law_reduced" "_law_reduced" (defArgs s_law_reduced) (defBody s_law_reduced) (defScope s_law_reduced) .none kV_law_reduced dc_law_reduced pm_law_reduced an_law_reduced cd_law_reduced ct_law_reduced), sl_law_reduced⟩)
  (c_law_reduced : PySem.W.codeIn K cd_law_reduced "_law_reduced" = true)
  (k_law_reduced : PySem.W.keepIn K (.ref f_law_reduced) = true)
  (a_law_sum : PySem.W.nsIn K mainGlobals "_law_sum" = some (some (.ref f_law_sum)))
  (l_law_sum : K.lookup f_law_sum = some ⟨oc_law_sum, od_law_sum, .func (PySem.W.fnOf "_law_sum" "_law_sum" (defArgs s_law_sum) (defBody s_law_sum) (defScope s_law_sum) .none kV_law_sum dc_law_sum pm_law_sum an_law_sum cd_law_sum ct_law_sum), sl_law_sum⟩)
  (c_law_sum : PySem.W.codeIn K cd_law_sum "_law_sum" = true)
  (k_law_sum : PySem.W.keepIn K (.ref f_law_sum) = true)
  (a_law_integer : PySem.W.nsIn K mainGlobals "_law_integer" = some (some (.ref f_law_integer)))
  (l_law_integer : K.lookup f_law_integer = some ⟨oc_law_integer, od_law_integer, .func (PySem.W.fnOf "_law_integer" "_law_integer" (defArgs s_law_integer) (defBody s_law_integer) (defScope s_law_integer) .none kV_law_integer dc_law_integer pm_law_integer an_law_integer cd_law_integer ct_law_integer), sl_law_integer⟩)
  (c_law_integer : PySem.W.codeIn K cd_law_integer "_law_integer" = true)
  (k_law_integer : PySem.W.keepIn K (.ref f_law_integer) = true)
  (a_law_spec : PySem.W.nsIn K mainGlobals "_law_spec" = some (some (.ref f_law_spec)))
  (l_law_spec : K.lookup f_law_spec = some ⟨oc_law_spec, od_law_spec, .func (PySem.W.fnOf "_law_spec" "_law_spec" (defArgs s_law_spec) (defBody s_law_spec) (defScope s_law_spec) .none kV_law_spec dc_law_spec pm_law_spec an_law_spec cd_law_spec ct_law_spec), sl_law_spec⟩)
  (c_law_spec : PySem.W.codeIn K cd_law_spec "_law_spec" = true)
  (k_law_spec : PySem.W.keepIn K (.ref f_law_spec) = true)
  (a_law_row : PySem.W.nsIn K mainGlobals "_law_row" = some (some (.ref f_law_row)))
  (l_law_row : K.lookup f_law_row = some ⟨oc_law_row, od_law_row, .func (PySem.W.fnOf "_law_row" "_law_row" (defArgs s_law_row) (defBody s_law_row) (defScope s_law_row) .none kV_law_row dc_law_row pm_law_row an_law_row cd_law_row ct_law_row), sl_law_row⟩)
  (c_law_row : PySem.W.codeIn K cd_law_row "_law_row" = true)
  (k_law_row : PySem.W.keepIn K (.ref f_law_row) = true)
  (a_law_position : PySem.W.nsIn K mainGlobals "_law_position" = some (some (.ref f_law_position)))
  (l_law_position : K.lookup f_law_position = some ⟨oc_law_position, od_law_position, .func (PySem.W.fnOf "_law_position" "_law_position" (defArgs s_law_position) (defBody s_law_position) (defScope s_law_position) .none kV_law_position dc_law_position pm_law_position an_law_position cd_law_position ct_law_position), sl_law_position⟩)
  (c_law_position : PySem.W.codeIn K cd_law_position "_law_position" = true)
  (k_law_position : PySem.W.keepIn K (.ref f_law_position) = true)
  (a_law_state : PySem.W.nsIn K mainGlobals "_law_state" = some (some (.ref f_law_state)))
  (l_law_state : K.lookup f_law_state = some ⟨oc_law_state, od_law_state, .func (PySem.W.fnOf "_law_state" "_law_state" (defArgs s_law_state) (defBody s_law_state) (defScope s_law_state) .none kV_law_state dc_law_state pm_law_state an_law_state cd_law_state ct_law_state), sl_law_state⟩)
  (c_law_state : PySem.W.codeIn K cd_law_state "_law_state" = true)
  (k_law_state : PySem.W.keepIn K (.ref f_law_state) = true)
  (a_law_least : PySem.W.nsIn K mainGlobals "_law_least" = some (some (.ref f_law_least)))
  (l_law_least : K.lookup f_law_least = some ⟨oc_law_least, od_law_least, .func (PySem.W.fnOf "_law_least" "_law_least" (defArgs s_law_least) (defBody s_law_least) (defScope s_law_least) .none kV_law_least dc_law_least pm_law_least an_law_least cd_law_least ct_law_least), sl_law_least⟩)
  (c_law_least : PySem.W.codeIn K cd_law_least "_law_least" = true)
  (k_law_least : PySem.W.keepIn K (.ref f_law_least) = true)
  (a_law_floor : PySem.W.nsIn K mainGlobals "_law_floor" = some (some (.ref f_law_floor)))
  (l_law_floor : K.lookup f_law_floor = some ⟨oc_law_floor, od_law_floor, .func (PySem.W.fnOf "_law_floor" "_law_floor" (defArgs s_law_floor) (defBody s_law_floor) (defScope s_law_floor) .none kV_law_floor dc_law_floor pm_law_floor an_law_floor cd_law_floor ct_law_floor), sl_law_floor⟩)
  (c_law_floor : PySem.W.codeIn K cd_law_floor "_law_floor" = true)
  (k_law_floor : PySem.W.keepIn K (.ref f_law_floor) = true)
  (a_law_least_from : PySem.W.nsIn K mainGlobals "_law_least_from" = some (some (.ref f_law_least_from)))
  (l_law_least_from : K.lookup f_law_least_from = some ⟨oc_law_least_from, od_law_least_from, .func (PySem.W.fnOf "_law_least_from" "_law_least_from" (defArgs s_law_least_from) (defBody s_law_least_from) (defScope s_law_least_from) .none kV_law_least_from dc_law_least_from pm_law_least_from an_law_least_from cd_law_least_from ct_law_least_from), sl_law_least_from⟩)
  (c_law_least_from : PySem.W.codeIn K cd_law_least_from "_law_least_from" = true)
  (k_law_least_from : PySem.W.keepIn K (.ref f_law_least_from) = true)
  (a_law_later : PySem.W.nsIn K mainGlobals "_law_later" = some (some (.ref f_law_later)))
  (l_law_later : K.lookup f_law_later = some ⟨oc_law_later, od_law_later, .func (PySem.W.fnOf "_law_later" "_law_later" (defArgs s_law_later) (defBody s_law_later) (defScope s_law_later) .none kV_law_later dc_law_later pm_law_later an_law_later cd_law_later ct_law_later), sl_law_later⟩)
  (c_law_later : PySem.W.codeIn K cd_law_later "_law_later" = true)
  (k_law_later : PySem.W.keepIn K (.ref f_law_later) = true)
  (a_law : PySem.W.nsIn K mainGlobals "law" = some (some (.ref f_law)))
  (l_law : K.lookup f_law = some ⟨oc_law, od_law, .func (PySem.W.fnOf "law" "law" (defArgs s_law) (defBody s_law) (defScope s_law) .none kV_law dc_law pm_law an_law cd_law ct_law), sl_law⟩)
  (c_law : PySem.W.codeIn K cd_law "law" = true)
  (k_law : PySem.W.keepIn K (.ref f_law) = true)
  (a_InvalidRow : PySem.W.nsIn K mainGlobals "InvalidRow" = some (some (.ref C_InvalidRow)))
  (x_InvalidRow : K.lookup C_InvalidRow = some (excClassObj nm_InvalidRow q_InvalidRow C_InvalidRow N_InvalidRow bs_InvalidRow bm_InvalidRow true sn_InvalidRow sub_InvalidRow ab_InvalidRow col_InvalidRow dd_InvalidRow m0_InvalidRow m1_InvalidRow m2_InvalidRow m3_InvalidRow m5_InvalidRow "Exception.__new__"))
  (xt_InvalidRow : PySem.W.excTail [.type "Exception", .type "BaseException", .type "object"] bm_InvalidRow = true)
  (ov_InvalidRow : PySem.W.excOver K C_InvalidRow [.type "Exception", .type "BaseException", .type "object"] = true)
  (sa_InvalidRow : PySem.W.findIn K (.ref C_InvalidRow) "__setattr__" = some (some (.builtin "object.__setattr__")))
  (ga_InvalidRow : PySem.W.findIn K (.ref C_InvalidRow) "__getattribute__" = some (some (.builtin "BaseException.__getattribute__")))
  (gg_InvalidRow : PySem.W.findIn K (.ref C_InvalidRow) "__getattr__" = some none)
  (nn_InvalidRow : PySem.W.findIn K (.ref C_InvalidRow) "field" = some none)
  (ii_InvalidRow : PySem.W.findIn K (.ref C_InvalidRow) "__init__" = some (some (.ref I_InvalidRow)))
  (cc_InvalidRow : PySem.W.findIn K (.ref C_InvalidRow) "__class__" = some (some (.builtin "object.__class__")))
  (ti_InvalidRow : PySem.W.typeIn K (.ref I_InvalidRow) = some (.type "function"))
  (kc_InvalidRow : PySem.W.keepIn K (.ref C_InvalidRow) = true)
  (ex_InvalidRow : PySem.W.subIn K (.ref C_InvalidRow) (.type "BaseException") = some true)
  (tc_InvalidRow : PySem.W.typeIn K (.ref C_InvalidRow) = some (.type "type"))
  (hd_InvalidRow : PySem.W.hasDictIn K C_InvalidRow = true)
  (te_InvalidRow : PySem.W.exmOne K (.ref C_InvalidRow) (.ref C_InvalidRow) = some true)
  (cn_InvalidRow : PySem.W.specialIn K (.builtin "object.__class__") "__get__" = some (some (.builtin "getset_descriptor.__get__")))
  (ct_InvalidRow : PySem.W.takesIn K (.builtin "object.__class__") = some true)
  (cm_InvalidRow : PySem.W.mroIn K C_InvalidRow (.type "object") = some true)
  (li_InvalidRow : K.lookup I_InvalidRow = some ⟨oc_InvalidRow, od_InvalidRow, .func (PySem.W.fnOf "__init__" "InvalidRow.__init__" (defArgs (inClass (top 3) 0)) (defBody (inClass (top 3) 0)) (defScope (inClass (top 3) 0)) .none .none dc_InvalidRow pm_InvalidRow an_InvalidRow cd_InvalidRow cv_InvalidRow), sl_InvalidRow⟩)
  (ci_InvalidRow : PySem.W.codeIn K cd_InvalidRow "InvalidRow.__init__" = true)
  (a_InvalidState : PySem.W.nsIn K mainGlobals "InvalidState" = some (some (.ref C_InvalidState)))
  (x_InvalidState : K.lookup C_InvalidState = some (excClassObj nm_InvalidState q_InvalidState C_InvalidState N_InvalidState bs_InvalidState bm_InvalidState true sn_InvalidState sub_InvalidState ab_InvalidState col_InvalidState dd_InvalidState m0_InvalidState m1_InvalidState m2_InvalidState m3_InvalidState m5_InvalidState "Exception.__new__"))
  (xt_InvalidState : PySem.W.excTail [.type "Exception", .type "BaseException", .type "object"] bm_InvalidState = true)
  (ov_InvalidState : PySem.W.excOver K C_InvalidState [.type "Exception", .type "BaseException", .type "object"] = true)
  (sa_InvalidState : PySem.W.findIn K (.ref C_InvalidState) "__setattr__" = some (some (.builtin "object.__setattr__")))
  (ga_InvalidState : PySem.W.findIn K (.ref C_InvalidState) "__getattribute__" = some (some (.builtin "BaseException.__getattribute__")))
  (gg_InvalidState : PySem.W.findIn K (.ref C_InvalidState) "__getattr__" = some none)
  (nn_InvalidState : PySem.W.findIn K (.ref C_InvalidState) "value" = some none)
  (ii_InvalidState : PySem.W.findIn K (.ref C_InvalidState) "__init__" = some (some (.ref I_InvalidState)))
  (cc_InvalidState : PySem.W.findIn K (.ref C_InvalidState) "__class__" = some (some (.builtin "object.__class__")))
  (ti_InvalidState : PySem.W.typeIn K (.ref I_InvalidState) = some (.type "function"))
  (kc_InvalidState : PySem.W.keepIn K (.ref C_InvalidState) = true)
  (ex_InvalidState : PySem.W.subIn K (.ref C_InvalidState) (.type "BaseException") = some true)
  (tc_InvalidState : PySem.W.typeIn K (.ref C_InvalidState) = some (.type "type"))
  (hd_InvalidState : PySem.W.hasDictIn K C_InvalidState = true)
  (te_InvalidState : PySem.W.exmOne K (.ref C_InvalidState) (.ref C_InvalidState) = some true)
  (cn_InvalidState : PySem.W.specialIn K (.builtin "object.__class__") "__get__" = some (some (.builtin "getset_descriptor.__get__")))
  (ct_InvalidState : PySem.W.takesIn K (.builtin "object.__class__") = some true)
  (cm_InvalidState : PySem.W.mroIn K C_InvalidState (.type "object") = some true)
  (li_InvalidState : K.lookup I_InvalidState = some ⟨oc_InvalidState, od_InvalidState, .func (PySem.W.fnOf "__init__" "InvalidState.__init__" (defArgs (inClass (top 4) 0)) (defBody (inClass (top 4) 0)) (defScope (inClass (top 4) 0)) .none .none dc_InvalidState pm_InvalidState an_InvalidState cd_InvalidState cv_InvalidState), sl_InvalidState⟩)
  (ci_InvalidState : PySem.W.codeIn K cd_InvalidState "InvalidState.__init__" = true)
  (n_MAX_PLACE : PySem.W.nsIn K mainGlobals "MAX_PLACE" = some (some (.int 1000 t_MAX_PLACE)))
  (n_MAX_DIGITS : PySem.W.nsIn K mainGlobals "MAX_DIGITS" = some (some (.int 300 t_MAX_DIGITS)))
  (n_MAX_COST : PySem.W.nsIn K mainGlobals "MAX_COST" = some (some (.int 1000000 t_MAX_COST)))
  (z_abs : PySem.W.nsIn K mainGlobals "abs" = some none)
  (z_bool : PySem.W.nsIn K mainGlobals "bool" = some none)
  (z_enumerate : PySem.W.nsIn K mainGlobals "enumerate" = some none)
  (z_int : PySem.W.nsIn K mainGlobals "int" = some none)
  (z_isinstance : PySem.W.nsIn K mainGlobals "isinstance" = some none)
  (z_len : PySem.W.nsIn K mainGlobals "len" = some none)
  (z_max : PySem.W.nsIn K mainGlobals "max" = some none)
  (z_min : PySem.W.nsIn K mainGlobals "min" = some none)
  (z_range : PySem.W.nsIn K mainGlobals "range" = some none)
  (z_reversed : PySem.W.nsIn K mainGlobals "reversed" = some none)
  (z_sorted : PySem.W.nsIn K mainGlobals "sorted" = some none)
  (z_tuple : PySem.W.nsIn K mainGlobals "tuple" = some none)
  (a_Row : PySem.W.nsIn K mainGlobals "Row" = some (some (.ref C_Row)))
  (pg_Row : PySem.W.plainGet K C_Row Str.empty = true)
  (hd_Row : PySem.W.hasDictIn K C_Row = true)
  (po_Row : PySem.W.plainOver K C_Row = true)
  (sa_Row : PySem.W.findIn K (.ref C_Row) "__setattr__" = some (some (.builtin "object.__setattr__")))
  (nS_Row : PySem.W.findIn K (.ref C_Row) "settings" = some none)
  (ha_Row : PySem.W.findIn K (.ref C_Row) "__class__" = some (some (.builtin "object.__class__")))
  (hn_Row : PySem.W.specialIn K (.builtin "object.__class__") "__get__" = some (some (.builtin "getset_descriptor.__get__")))
  (ht_Row : PySem.W.takesIn K (.builtin "object.__class__") = some true)
  (hm_Row : PySem.W.mroIn K C_Row (.type "object") = some true)
  (i_Row_init : PySem.W.findIn K (.ref C_Row) "__init__" = some (some (.ref f_Row_init)))
  (if_Row_init : PySem.W.isFn K (.ref f_Row_init) = true)
  (l_Row_init : K.lookup f_Row_init = some ⟨oc_Row_init, od_Row_init, .func (PySem.W.fnOf "__init__" "Row.__init__" (defArgs s_Row_init) (defBody s_Row_init) (defScope s_Row_init) .none (.ref D_Row_init) dc_Row_init pm_Row_init an_Row_init cd_Row_init ct_Row_init), sl_Row_init⟩)
  (c_Row_init : PySem.W.codeIn K cd_Row_init "Row.__init__" = true)
  (k_Row_init : PySem.W.keepIn K (.ref f_Row_init) = true)
  (mk_Row : PySem.W.makesIn K C_Row = true)
  (kc_Row : PySem.W.keepIn K (.ref C_Row) = true)
  (d0_Row_init : PySem.W.nsIn K D_Row_init "move" = some (some (.int 1 tk0_Row_init)))
  (d1_Row_init : PySem.W.nsIn K D_Row_init "add" = some (some (.int 1 tk1_Row_init)))
  (d2_Row_init : PySem.W.nsIn K D_Row_init "first" = some (some (.none)))
  (d3_Row_init : PySem.W.nsIn K D_Row_init "last" = some (some (.none)))
  (at_Row_base : PySem.W.findIn K (.ref C_Row) "base" = some (some (.ref p_Row_base)))
  (gt_Row_base : PySem.W.specialIn K (.ref p_Row_base) "__get__" = some (some (.builtin "property.__get__")))
  (tk_Row_base : PySem.W.takesIn K (.ref p_Row_base) = some true)
  (rc_Row_base : PySem.W.recIn K p_Row_base "property" = some (.ref f_Row_base :: rest_Row_base))
  (l_Row_base : K.lookup f_Row_base = some ⟨oc_Row_base, od_Row_base, .func (PySem.W.fnOf "base" "Row.base" (defArgs s_Row_base) (defBody s_Row_base) (defScope s_Row_base) .none kV_Row_base dc_Row_base pm_Row_base an_Row_base cd_Row_base ct_Row_base), sl_Row_base⟩)
  (c_Row_base : PySem.W.codeIn K cd_Row_base "Row.base" = true)
  (k_Row_base : PySem.W.keepIn K (.ref f_Row_base) = true)
  (at_Row_move_cost : PySem.W.findIn K (.ref C_Row) "move_cost" = some (some (.ref p_Row_move_cost)))
  (gt_Row_move_cost : PySem.W.specialIn K (.ref p_Row_move_cost) "__get__" = some (some (.builtin "property.__get__")))
  (tk_Row_move_cost : PySem.W.takesIn K (.ref p_Row_move_cost) = some true)
  (rc_Row_move_cost : PySem.W.recIn K p_Row_move_cost "property" = some (.ref f_Row_move_cost :: rest_Row_move_cost))
  (l_Row_move_cost : K.lookup f_Row_move_cost = some ⟨oc_Row_move_cost, od_Row_move_cost, .func (PySem.W.fnOf "move_cost" "Row.move_cost" (defArgs s_Row_move_cost) (defBody s_Row_move_cost) (defScope s_Row_move_cost) .none kV_Row_move_cost dc_Row_move_cost pm_Row_move_cost an_Row_move_cost cd_Row_move_cost ct_Row_move_cost), sl_Row_move_cost⟩)
  (c_Row_move_cost : PySem.W.codeIn K cd_Row_move_cost "Row.move_cost" = true)
  (k_Row_move_cost : PySem.W.keepIn K (.ref f_Row_move_cost) = true)
  (at_Row_add_cost : PySem.W.findIn K (.ref C_Row) "add_cost" = some (some (.ref p_Row_add_cost)))
  (gt_Row_add_cost : PySem.W.specialIn K (.ref p_Row_add_cost) "__get__" = some (some (.builtin "property.__get__")))
  (tk_Row_add_cost : PySem.W.takesIn K (.ref p_Row_add_cost) = some true)
  (rc_Row_add_cost : PySem.W.recIn K p_Row_add_cost "property" = some (.ref f_Row_add_cost :: rest_Row_add_cost))
  (l_Row_add_cost : K.lookup f_Row_add_cost = some ⟨oc_Row_add_cost, od_Row_add_cost, .func (PySem.W.fnOf "add_cost" "Row.add_cost" (defArgs s_Row_add_cost) (defBody s_Row_add_cost) (defScope s_Row_add_cost) .none kV_Row_add_cost dc_Row_add_cost pm_Row_add_cost an_Row_add_cost cd_Row_add_cost ct_Row_add_cost), sl_Row_add_cost⟩)
  (c_Row_add_cost : PySem.W.codeIn K cd_Row_add_cost "Row.add_cost" = true)
  (k_Row_add_cost : PySem.W.keepIn K (.ref f_Row_add_cost) = true)
  (at_Row_first : PySem.W.findIn K (.ref C_Row) "first" = some (some (.ref p_Row_first)))
  (gt_Row_first : PySem.W.specialIn K (.ref p_Row_first) "__get__" = some (some (.builtin "property.__get__")))
  (tk_Row_first : PySem.W.takesIn K (.ref p_Row_first) = some true)
  (rc_Row_first : PySem.W.recIn K p_Row_first "property" = some (.ref f_Row_first :: rest_Row_first))
  (l_Row_first : K.lookup f_Row_first = some ⟨oc_Row_first, od_Row_first, .func (PySem.W.fnOf "first" "Row.first" (defArgs s_Row_first) (defBody s_Row_first) (defScope s_Row_first) .none kV_Row_first dc_Row_first pm_Row_first an_Row_first cd_Row_first ct_Row_first), sl_Row_first⟩)
  (c_Row_first : PySem.W.codeIn K cd_Row_first "Row.first" = true)
  (k_Row_first : PySem.W.keepIn K (.ref f_Row_first) = true)
  (at_Row_last : PySem.W.findIn K (.ref C_Row) "last" = some (some (.ref p_Row_last)))
  (gt_Row_last : PySem.W.specialIn K (.ref p_Row_last) "__get__" = some (some (.builtin "property.__get__")))
  (tk_Row_last : PySem.W.takesIn K (.ref p_Row_last) = some true)
  (rc_Row_last : PySem.W.recIn K p_Row_last "property" = some (.ref f_Row_last :: rest_Row_last))
  (l_Row_last : K.lookup f_Row_last = some ⟨oc_Row_last, od_Row_last, .func (PySem.W.fnOf "last" "Row.last" (defArgs s_Row_last) (defBody s_Row_last) (defScope s_Row_last) .none kV_Row_last dc_Row_last pm_Row_last an_Row_last cd_Row_last ct_Row_last), sl_Row_last⟩)
  (c_Row_last : PySem.W.codeIn K cd_Row_last "Row.last" = true)
  (k_Row_last : PySem.W.keepIn K (.ref f_Row_last) = true)
  (at_Row_has_place : PySem.W.findIn K (.ref C_Row) "has_place" = some (some (.ref f_Row_has_place)))
  (if_Row_has_place : PySem.W.isFn K (.ref f_Row_has_place) = true)
  (l_Row_has_place : K.lookup f_Row_has_place = some ⟨oc_Row_has_place, od_Row_has_place, .func (PySem.W.fnOf "has_place" "Row.has_place" (defArgs s_Row_has_place) (defBody s_Row_has_place) (defScope s_Row_has_place) .none kV_Row_has_place dc_Row_has_place pm_Row_has_place an_Row_has_place cd_Row_has_place ct_Row_has_place), sl_Row_has_place⟩)
  (c_Row_has_place : PySem.W.codeIn K cd_Row_has_place "Row.has_place" = true)
  (k_Row_has_place : PySem.W.keepIn K (.ref f_Row_has_place) = true)
  (rd_Row : PySem.W.readsIn K C_Row (.type "type") = true)
  (rg_Row : PySem.W.specialIn K (.ref C_Row) "__getattribute__" = some (some (.builtin "type.__getattribute__")))
  (v_MIN_BASE : PySem.W.findCls K (.ref C_Row) (.type "type") "MIN_BASE" = some (.val (.int 2 tv_MIN_BASE)))
  (v_MAX_BASE : PySem.W.findCls K (.ref C_Row) (.type "type") "MAX_BASE" = some (.val (.int 36 tv_MAX_BASE)))
  (a_Sweep : PySem.W.nsIn K mainGlobals "Sweep" = some (some (.ref C_Sweep)))
  (pg_Sweep : PySem.W.plainGet K C_Sweep Str.empty = true)
  (hd_Sweep : PySem.W.hasDictIn K C_Sweep = true)
  (po_Sweep : PySem.W.plainOver K C_Sweep = true)
  (sa_Sweep : PySem.W.findIn K (.ref C_Sweep) "__setattr__" = some (some (.builtin "object.__setattr__")))
  (nSweep_row : PySem.W.findIn K (.ref C_Sweep) "row" = some none)
  (nSweep_low : PySem.W.findIn K (.ref C_Sweep) "low" = some none)
  (nSweep_span : PySem.W.findIn K (.ref C_Sweep) "span" = some none)
  (nSweep_ready : PySem.W.findIn K (.ref C_Sweep) "ready" = some none)
  (nSweep_floors : PySem.W.findIn K (.ref C_Sweep) "floors" = some none)
  (i_Sweep_init : PySem.W.findIn K (.ref C_Sweep) "__init__" = some (some (.ref f_Sweep_init)))
  (if_Sweep_init : PySem.W.isFn K (.ref f_Sweep_init) = true)
  (l_Sweep_init : K.lookup f_Sweep_init = some ⟨oc_Sweep_init, od_Sweep_init, .func (PySem.W.fnOf "__init__" "Sweep.__init__" (defArgs s_Sweep_init) (defBody s_Sweep_init) (defScope s_Sweep_init) .none kV_Sweep_init dc_Sweep_init pm_Sweep_init an_Sweep_init cd_Sweep_init ct_Sweep_init), sl_Sweep_init⟩)
  (c_Sweep_init : PySem.W.codeIn K cd_Sweep_init "Sweep.__init__" = true)
  (k_Sweep_init : PySem.W.keepIn K (.ref f_Sweep_init) = true)
  (mk_Sweep : PySem.W.makesIn K C_Sweep = true)
  (kc_Sweep : PySem.W.keepIn K (.ref C_Sweep) = true)
  (at_Sweep_choices : PySem.W.findIn K (.ref C_Sweep) "choices" = some (some (.ref f_Sweep_choices)))
  (if_Sweep_choices : PySem.W.isFn K (.ref f_Sweep_choices) = true)
  (l_Sweep_choices : K.lookup f_Sweep_choices = some ⟨oc_Sweep_choices, od_Sweep_choices, .func (PySem.W.fnOf "choices" "Sweep.choices" (defArgs s_Sweep_choices) (defBody s_Sweep_choices) (defScope s_Sweep_choices) .none kV_Sweep_choices dc_Sweep_choices pm_Sweep_choices an_Sweep_choices cd_Sweep_choices ct_Sweep_choices), sl_Sweep_choices⟩)
  (c_Sweep_choices : PySem.W.codeIn K cd_Sweep_choices "Sweep.choices" = true)
  (k_Sweep_choices : PySem.W.keepIn K (.ref f_Sweep_choices) = true)
  (at_Sweep_steps : PySem.W.findIn K (.ref C_Sweep) "steps" = some (some (.ref f_Sweep_steps)))
  (if_Sweep_steps : PySem.W.isFn K (.ref f_Sweep_steps) = true)
  (l_Sweep_steps : K.lookup f_Sweep_steps = some ⟨oc_Sweep_steps, od_Sweep_steps, .func (PySem.W.fnOf "steps" "Sweep.steps" (defArgs s_Sweep_steps) (defBody s_Sweep_steps) (defScope s_Sweep_steps) .none kV_Sweep_steps dc_Sweep_steps pm_Sweep_steps an_Sweep_steps cd_Sweep_steps ct_Sweep_steps), sl_Sweep_steps⟩)
  (c_Sweep_steps : PySem.W.codeIn K cd_Sweep_steps "Sweep.steps" = true)
  (k_Sweep_steps : PySem.W.keepIn K (.ref f_Sweep_steps) = true)
  (at_Sweep_least_costs : PySem.W.findIn K (.ref C_Sweep) "least_costs" = some (some (.ref f_Sweep_least_costs)))
  (if_Sweep_least_costs : PySem.W.isFn K (.ref f_Sweep_least_costs) = true)
  (l_Sweep_least_costs : K.lookup f_Sweep_least_costs = some ⟨oc_Sweep_least_costs, od_Sweep_least_costs, .func (PySem.W.fnOf "least_costs" "Sweep.least_costs" (defArgs s_Sweep_least_costs) (defBody s_Sweep_least_costs) (defScope s_Sweep_least_costs) .none kV_Sweep_least_costs dc_Sweep_least_costs pm_Sweep_least_costs an_Sweep_least_costs cd_Sweep_least_costs ct_Sweep_least_costs), sl_Sweep_least_costs⟩)
  (c_Sweep_least_costs : PySem.W.codeIn K cd_Sweep_least_costs "Sweep.least_costs" = true)
  (k_Sweep_least_costs : PySem.W.keepIn K (.ref f_Sweep_least_costs) = true)
  (at_Sweep_moves : PySem.W.findIn K (.ref C_Sweep) "moves" = some (some (.ref f_Sweep_moves)))
  (if_Sweep_moves : PySem.W.isFn K (.ref f_Sweep_moves) = true)
  (l_Sweep_moves : K.lookup f_Sweep_moves = some ⟨oc_Sweep_moves, od_Sweep_moves, .func (PySem.W.fnOf "moves" "Sweep.moves" (defArgs s_Sweep_moves) (defBody s_Sweep_moves) (defScope s_Sweep_moves) .none kV_Sweep_moves dc_Sweep_moves pm_Sweep_moves an_Sweep_moves cd_Sweep_moves ct_Sweep_moves), sl_Sweep_moves⟩)
  (c_Sweep_moves : PySem.W.codeIn K cd_Sweep_moves "Sweep.moves" = true)
  (k_Sweep_moves : PySem.W.keepIn K (.ref f_Sweep_moves) = true)
  (at_Sweep_end_cost : PySem.W.findIn K (.ref C_Sweep) "end_cost" = some (some (.ref f_Sweep_end_cost)))
  (if_Sweep_end_cost : PySem.W.isFn K (.ref f_Sweep_end_cost) = true)
  (l_Sweep_end_cost : K.lookup f_Sweep_end_cost = some ⟨oc_Sweep_end_cost, od_Sweep_end_cost, .func (PySem.W.fnOf "end_cost" "Sweep.end_cost" (defArgs s_Sweep_end_cost) (defBody s_Sweep_end_cost) (defScope s_Sweep_end_cost) .none kV_Sweep_end_cost dc_Sweep_end_cost pm_Sweep_end_cost an_Sweep_end_cost cd_Sweep_end_cost ct_Sweep_end_cost), sl_Sweep_end_cost⟩)
  (c_Sweep_end_cost : PySem.W.codeIn K cd_Sweep_end_cost "Sweep.end_cost" = true)
  (k_Sweep_end_cost : PySem.W.keepIn K (.ref f_Sweep_end_cost) = true)
  (at_Sweep_ends : PySem.W.findIn K (.ref C_Sweep) "ends" = some (some (.ref f_Sweep_ends)))
  (if_Sweep_ends : PySem.W.isFn K (.ref f_Sweep_ends) = true)
  (l_Sweep_ends : K.lookup f_Sweep_ends = some ⟨oc_Sweep_ends, od_Sweep_ends, .func (PySem.W.fnOf "ends" "Sweep.ends" (defArgs s_Sweep_ends) (defBody s_Sweep_ends) (defScope s_Sweep_ends) .none kV_Sweep_ends dc_Sweep_ends pm_Sweep_ends an_Sweep_ends cd_Sweep_ends ct_Sweep_ends), sl_Sweep_ends⟩)
  (c_Sweep_ends : PySem.W.codeIn K cd_Sweep_ends "Sweep.ends" = true)
  (k_Sweep_ends : PySem.W.keepIn K (.ref f_Sweep_ends) = true)

    : ∃ fd : FuncData, (∀ (s : Shared) (v : Value), BindsTo s fd ⟨[v], []⟩ [("_law_script", v)]) ∧ ∀ base : Heap, K.In base → base.Ns mainGlobals mg → base.NoDigits → FnG l.prog w K mg base (L2.CX l.prog w) 12 fa fd ["_law_script"] (sp_law K) := by
  have e := hfa.symm.trans (PySem.W.mg_of X G a_law)
  cases e
  exact ⟨_, fun s v => .of_eq rfl, fun base _ _ nd => law_sp (PM.law_true_K16 _ _) (ok_law (P := l.prog) (w := w) (base := base) (mkTx X G a_wall l_wall c_wall k_wall a_is_whole l_is_whole c_is_whole k_is_whole a_is_within l_is_within c_is_within k_is_within a_is_place l_is_place c_is_place k_is_place a_power_of l_power_of c_power_of k_power_of a_is_number l_is_number c_is_number k_is_number a_units l_units c_units k_units a_negative l_negative c_negative k_negative a_form_of l_form_of c_form_of k_form_of a_sum_of l_sum_of c_sum_of k_sum_of a_has_few_digits l_has_few_digits c_has_few_digits k_has_few_digits a_without_factors l_without_factors c_without_factors k_without_factors a_is_state l_is_state c_is_state k_is_state a_is_pair l_is_pair c_is_pair k_is_pair a_require_state l_require_state c_require_state k_require_state a_require_states l_require_states c_require_states k_require_states a_distance l_distance c_distance k_distance a_sweep_between l_sweep_between c_sweep_between k_sweep_between a_sweep_of_any l_sweep_of_any c_sweep_of_any k_sweep_of_any a_least_cost l_least_cost c_least_cost k_least_cost a_difference l_difference c_difference k_difference a_floors_up l_floors_up c_floors_up k_floors_up a_invalid_field l_invalid_field c_invalid_field k_invalid_field a_is_cost l_is_cost c_is_cost k_is_cost a_is_end l_is_end c_is_end k_is_end a_law_numbers l_law_numbers c_law_numbers k_law_numbers a_law_power l_law_power c_law_power k_law_power a_law_reduced l_law_reduced c_law_reduced k_law_reduced a_law_sum l_law_sum c_law_sum k_law_sum a_law_integer l_law_integer c_law_integer k_law_integer a_law_spec l_law_spec c_law_spec k_law_spec a_law_row l_law_row c_law_row k_law_row a_law_position l_law_position c_law_position k_law_position a_law_state l_law_state c_law_state k_law_state a_law_least l_law_least c_law_least k_law_least a_law_floor l_law_floor c_law_floor k_law_floor a_law_least_from l_law_least_from c_law_least_from k_law_least_from a_law_later l_law_later c_law_later k_law_later a_law l_law c_law k_law a_InvalidRow x_InvalidRow xt_InvalidRow ov_InvalidRow sa_InvalidRow ga_InvalidRow gg_InvalidRow nn_InvalidRow ii_InvalidRow cc_InvalidRow ti_InvalidRow kc_InvalidRow ex_InvalidRow tc_InvalidRow hd_InvalidRow te_InvalidRow cn_InvalidRow ct_InvalidRow cm_InvalidRow li_InvalidRow ci_InvalidRow a_InvalidState x_InvalidState xt_InvalidState ov_InvalidState sa_InvalidState ga_InvalidState gg_InvalidState nn_InvalidState ii_InvalidState cc_InvalidState ti_InvalidState kc_InvalidState ex_InvalidState tc_InvalidState hd_InvalidState te_InvalidState cn_InvalidState ct_InvalidState cm_InvalidState li_InvalidState ci_InvalidState n_MAX_PLACE n_MAX_DIGITS n_MAX_COST z_abs z_bool z_enumerate z_int z_isinstance z_len z_max z_min z_range z_reversed z_sorted z_tuple a_Row pg_Row hd_Row po_Row sa_Row nS_Row ha_Row hn_Row ht_Row hm_Row i_Row_init if_Row_init l_Row_init c_Row_init k_Row_init mk_Row kc_Row d0_Row_init d1_Row_init d2_Row_init d3_Row_init at_Row_base gt_Row_base tk_Row_base rc_Row_base l_Row_base c_Row_base k_Row_base at_Row_move_cost gt_Row_move_cost tk_Row_move_cost rc_Row_move_cost l_Row_move_cost c_Row_move_cost k_Row_move_cost at_Row_add_cost gt_Row_add_cost tk_Row_add_cost rc_Row_add_cost l_Row_add_cost c_Row_add_cost k_Row_add_cost at_Row_first gt_Row_first tk_Row_first rc_Row_first l_Row_first c_Row_first k_Row_first at_Row_last gt_Row_last tk_Row_last rc_Row_last l_Row_last c_Row_last k_Row_last at_Row_has_place if_Row_has_place l_Row_has_place c_Row_has_place k_Row_has_place rd_Row rg_Row v_MIN_BASE v_MAX_BASE a_Sweep pg_Sweep hd_Sweep po_Sweep sa_Sweep nSweep_row nSweep_low nSweep_span nSweep_ready nSweep_floors i_Sweep_init if_Sweep_init l_Sweep_init c_Sweep_init k_Sweep_init mk_Sweep kc_Sweep at_Sweep_choices if_Sweep_choices l_Sweep_choices c_Sweep_choices k_Sweep_choices at_Sweep_steps if_Sweep_steps l_Sweep_steps c_Sweep_steps k_Sweep_steps at_Sweep_least_costs if_Sweep_least_costs l_Sweep_least_costs c_Sweep_least_costs k_Sweep_least_costs at_Sweep_moves if_Sweep_moves l_Sweep_moves c_Sweep_moves k_Sweep_moves at_Sweep_end_cost if_Sweep_end_cost l_Sweep_end_cost c_Sweep_end_cost k_Sweep_end_cost at_Sweep_ends if_Sweep_ends l_Sweep_ends c_Sweep_ends k_Sweep_ends) nd)⟩
end K16
open PySem PySem.W PyProof.Rows
set_option maxRecDepth 100000 in
set_option maxHeartbeats 0 in
theorem PySem.Challenge.cw_abacushead_k16_distances_of_large_number_holds : PySem.Challenge.rw_abacushead_k16_distances_of_large_number.Holds := by
  w_on; o_law; k_head; (case hw => w_witness2)
  k_fill
  refine DL.walkD (k := 12) (x := "_law_script") (l := PySem.Challenge.rw_abacushead_k16_distances_of_large_number) rfl rfl ⟨rfl, by decide, by decide⟩ (fun w h Y => PySem.W.kIn_of Y) ?F
  case F =>
    intro w mg fa h KX G hmg
    refine' K16.all_mk KX G hmg ?a_wall ?l_wall ?c_wall ?k_wall ?a_is_whole ?l_is_whole ?c_is_whole ?k_is_whole ?a_is_within ?l_is_within ?c_is_within ?k_is_within ?a_is_place ?l_is_place ?c_is_place ?k_is_place ?a_power_of ?l_power_of ?c_power_of ?k_power_of ?a_is_number ?l_is_number ?c_is_number ?k_is_number ?a_units ?l_units ?c_units ?k_units ?a_negative ?l_negative ?c_negative ?k_negative ?a_form_of ?l_form_of ?c_form_of ?k_form_of ?a_sum_of ?l_sum_of ?c_sum_of ?k_sum_of ?a_has_few_digits ?l_has_few_digits ?c_has_few_digits ?k_has_few_digits ?a_without_factors ?l_without_factors ?c_without_factors ?k_without_factors ?a_is_state ?l_is_state ?c_is_state ?k_is_state ?a_is_pair ?l_is_pair ?c_is_pair ?k_is_pair ?a_require_state ?l_require_state ?c_require_state ?k_require_state ?a_require_states ?l_require_states ?c_require_states ?k_require_states ?a_distance ?l_distance ?c_distance ?k_distance ?a_sweep_between ?l_sweep_between ?c_sweep_between ?k_sweep_between ?a_sweep_of_any ?l_sweep_of_any ?c_sweep_of_any ?k_sweep_of_any ?a_least_cost ?l_least_cost ?c_least_cost ?k_least_cost ?a_difference ?l_difference ?c_difference ?k_difference ?a_floors_up ?l_floors_up ?c_floors_up ?k_floors_up ?a_invalid_field ?l_invalid_field ?c_invalid_field ?k_invalid_field ?a_is_cost ?l_is_cost ?c_is_cost ?k_is_cost ?a_is_end ?l_is_end ?c_is_end ?k_is_end ?a_law_numbers ?l_law_numbers ?c_law_numbers ?k_law_numbers ?a_law_power ?l_law_power ?c_law_power ?k_law_power ?a_law_reduced ?l_law_reduced ?c_law_reduced ?k_law_reduced ?a_law_sum ?l_law_sum ?c_law_sum ?k_law_sum ?a_law_integer ?l_law_integer ?c_law_integer ?k_law_integer ?a_law_spec ?l_law_spec ?c_law_spec ?k_law_spec ?a_law_row ?l_law_row ?c_law_row ?k_law_row ?a_law_position ?l_law_position ?c_law_position ?k_law_position ?a_law_state ?l_law_state ?c_law_state ?k_law_state ?a_law_least ?l_law_least ?c_law_least ?k_law_least ?a_law_floor ?l_law_floor ?c_law_floor ?k_law_floor ?a_law_least_from ?l_law_least_from ?c_law_least_from ?k_law_least_from ?a_law_later ?l_law_later ?c_law_later ?k_law_later ?a_law ?l_law ?c_law ?k_law ?a_InvalidRow ?x_InvalidRow ?xt_InvalidRow ?ov_InvalidRow ?sa_InvalidRow ?ga_InvalidRow ?gg_InvalidRow ?nn_InvalidRow ?ii_InvalidRow ?cc_InvalidRow ?ti_InvalidRow ?kc_InvalidRow ?ex_InvalidRow ?tc_InvalidRow ?hd_InvalidRow ?te_InvalidRow ?cn_InvalidRow ?ct_InvalidRow ?cm_InvalidRow ?li_InvalidRow ?ci_InvalidRow ?a_InvalidState ?x_InvalidState ?xt_InvalidState ?ov_InvalidState ?sa_InvalidState ?ga_InvalidState ?gg_InvalidState ?nn_InvalidState ?ii_InvalidState ?cc_InvalidState ?ti_InvalidState ?kc_InvalidState ?ex_InvalidState ?tc_InvalidState ?hd_InvalidState ?te_InvalidState ?cn_InvalidState ?ct_InvalidState ?cm_InvalidState ?li_InvalidState ?ci_InvalidState ?n_MAX_PLACE ?n_MAX_DIGITS ?n_MAX_COST ?z_abs ?z_bool ?z_enumerate ?z_int ?z_isinstance ?z_len ?z_max ?z_min ?z_range ?z_reversed ?z_sorted ?z_tuple ?a_Row ?pg_Row ?hd_Row ?po_Row ?sa_Row ?nS_Row ?ha_Row ?hn_Row ?ht_Row ?hm_Row ?i_Row_init ?if_Row_init ?l_Row_init ?c_Row_init ?k_Row_init ?mk_Row ?kc_Row ?d0_Row_init ?d1_Row_init ?d2_Row_init ?d3_Row_init ?at_Row_base ?gt_Row_base ?tk_Row_base ?rc_Row_base ?l_Row_base ?c_Row_base ?k_Row_base ?at_Row_move_cost ?gt_Row_move_cost ?tk_Row_move_cost ?rc_Row_move_cost ?l_Row_move_cost ?c_Row_move_cost ?k_Row_move_cost ?at_Row_add_cost ?gt_Row_add_cost ?tk_Row_add_cost ?rc_Row_add_cost ?l_Row_add_cost ?c_Row_add_cost ?k_Row_add_cost ?at_Row_first ?gt_Row_first ?tk_Row_first ?rc_Row_first ?l_Row_first ?c_Row_first ?k_Row_first ?at_Row_last ?gt_Row_last ?tk_Row_last ?rc_Row_last ?l_Row_last ?c_Row_last ?k_Row_last ?at_Row_has_place ?if_Row_has_place ?l_Row_has_place ?c_Row_has_place ?k_Row_has_place ?rd_Row ?rg_Row ?v_MIN_BASE ?v_MAX_BASE ?a_Sweep ?pg_Sweep ?hd_Sweep ?po_Sweep ?sa_Sweep ?nSweep_row ?nSweep_low ?nSweep_span ?nSweep_ready ?nSweep_floors ?i_Sweep_init ?if_Sweep_init ?l_Sweep_init ?c_Sweep_init ?k_Sweep_init ?mk_Sweep ?kc_Sweep ?at_Sweep_choices ?if_Sweep_choices ?l_Sweep_choices ?c_Sweep_choices ?k_Sweep_choices ?at_Sweep_steps ?if_Sweep_steps ?l_Sweep_steps ?c_Sweep_steps ?k_Sweep_steps ?at_Sweep_least_costs ?if_Sweep_least_costs ?l_Sweep_least_costs ?c_Sweep_least_costs ?k_Sweep_least_costs ?at_Sweep_moves ?if_Sweep_moves ?l_Sweep_moves ?c_Sweep_moves ?k_Sweep_moves ?at_Sweep_end_cost ?if_Sweep_end_cost ?l_Sweep_end_cost ?c_Sweep_end_cost ?k_Sweep_end_cost ?at_Sweep_ends ?if_Sweep_ends ?l_Sweep_ends ?c_Sweep_ends ?k_Sweep_ends
    (case a_wall => first | k_is | rfl | decide +kernel)
    (case l_wall => first | k_is | rfl | decide +kernel)
    (case c_wall => first | k_is | rfl | decide +kernel)
    (case k_wall => first | k_is | rfl | decide +kernel)
    (case a_is_whole => first | k_is | rfl | decide +kernel)
    (case l_is_whole => first | k_is | rfl | decide +kernel)
    (case c_is_whole => first | k_is | rfl | decide +kernel)
    (case k_is_whole => first | k_is | rfl | decide +kernel)
    (case a_is_within => first | k_is | rfl | decide +kernel)
    (case l_is_within => first | k_is | rfl | decide +kernel)
    (case c_is_within => first | k_is | rfl | decide +kernel)
    (case k_is_within => first | k_is | rfl | decide +kernel)
    (case a_is_place => first | k_is | rfl | decide +kernel)
    (case l_is_place => first | k_is | rfl | decide +kernel)
    (case c_is_place => first | k_is | rfl | decide +kernel)
    (case k_is_place => first | k_is | rfl | decide +kernel)
    (case a_power_of => first | k_is | rfl | decide +kernel)
    (case l_power_of => first | k_is | rfl | decide +kernel)
    (case c_power_of => first | k_is | rfl | decide +kernel)
    (case k_power_of => first | k_is | rfl | decide +kernel)
    (case a_is_number => first | k_is | rfl | decide +kernel)
    (case l_is_number => first | k_is | rfl | decide +kernel)
    (case c_is_number => first | k_is | rfl | decide +kernel)
    (case k_is_number => first | k_is | rfl | decide +kernel)
    (case a_units => first | k_is | rfl | decide +kernel)
    (case l_units => first | k_is | rfl | decide +kernel)
    (case c_units => first | k_is | rfl | decide +kernel)
    (case k_units => first | k_is | rfl | decide +kernel)
    (case a_negative => first | k_is | rfl | decide +kernel)
    (case l_negative => first | k_is | rfl | decide +kernel)
    (case c_negative => first | k_is | rfl | decide +kernel)
    (case k_negative => first | k_is | rfl | decide +kernel)
    (case a_form_of => first | k_is | rfl | decide +kernel)
    (case l_form_of => first | k_is | rfl | decide +kernel)
    (case c_form_of => first | k_is | rfl | decide +kernel)
    (case k_form_of => first | k_is | rfl | decide +kernel)
    (case a_sum_of => first | k_is | rfl | decide +kernel)
    (case l_sum_of => first | k_is | rfl | decide +kernel)
    (case c_sum_of => first | k_is | rfl | decide +kernel)
    (case k_sum_of => first | k_is | rfl | decide +kernel)
    (case a_has_few_digits => first | k_is | rfl | decide +kernel)
    (case l_has_few_digits => first | k_is | rfl | decide +kernel)
    (case c_has_few_digits => first | k_is | rfl | decide +kernel)
    (case k_has_few_digits => first | k_is | rfl | decide +kernel)
    (case a_without_factors => first | k_is | rfl | decide +kernel)
    (case l_without_factors => first | k_is | rfl | decide +kernel)
    (case c_without_factors => first | k_is | rfl | decide +kernel)
    (case k_without_factors => first | k_is | rfl | decide +kernel)
    (case a_is_state => first | k_is | rfl | decide +kernel)
    (case l_is_state => first | k_is | rfl | decide +kernel)
    (case c_is_state => first | k_is | rfl | decide +kernel)
    (case k_is_state => first | k_is | rfl | decide +kernel)
    (case a_is_pair => first | k_is | rfl | decide +kernel)
    (case l_is_pair => first | k_is | rfl | decide +kernel)
    (case c_is_pair => first | k_is | rfl | decide +kernel)
    (case k_is_pair => first | k_is | rfl | decide +kernel)
    (case a_require_state => first | k_is | rfl | decide +kernel)
    (case l_require_state => first | k_is | rfl | decide +kernel)
    (case c_require_state => first | k_is | rfl | decide +kernel)
    (case k_require_state => first | k_is | rfl | decide +kernel)
    (case a_require_states => first | k_is | rfl | decide +kernel)
    (case l_require_states => first | k_is | rfl | decide +kernel)
    (case c_require_states => first | k_is | rfl | decide +kernel)
    (case k_require_states => first | k_is | rfl | decide +kernel)
    (case a_distance => first | k_is | rfl | decide +kernel)
    (case l_distance => first | k_is | rfl | decide +kernel)
    (case c_distance => first | k_is | rfl | decide +kernel)
    (case k_distance => first | k_is | rfl | decide +kernel)
    (case a_sweep_between => first | k_is | rfl | decide +kernel)
    (case l_sweep_between => first | k_is | rfl | decide +kernel)
    (case c_sweep_between => first | k_is | rfl | decide +kernel)
    (case k_sweep_between => first | k_is | rfl | decide +kernel)
    (case a_sweep_of_any => first | k_is | rfl | decide +kernel)
    (case l_sweep_of_any => first | k_is | rfl | decide +kernel)
    (case c_sweep_of_any => first | k_is | rfl | decide +kernel)
    (case k_sweep_of_any => first | k_is | rfl | decide +kernel)
    (case a_least_cost => first | k_is | rfl | decide +kernel)
    (case l_least_cost => first | k_is | rfl | decide +kernel)
    (case c_least_cost => first | k_is | rfl | decide +kernel)
    (case k_least_cost => first | k_is | rfl | decide +kernel)
    (case a_difference => first | k_is | rfl | decide +kernel)
    (case l_difference => first | k_is | rfl | decide +kernel)
    (case c_difference => first | k_is | rfl | decide +kernel)
    (case k_difference => first | k_is | rfl | decide +kernel)
    (case a_floors_up => first | k_is | rfl | decide +kernel)
    (case l_floors_up => first | k_is | rfl | decide +kernel)
    (case c_floors_up => first | k_is | rfl | decide +kernel)
    (case k_floors_up => first | k_is | rfl | decide +kernel)
    (case a_invalid_field => first | k_is | rfl | decide +kernel)
    (case l_invalid_field => first | k_is | rfl | decide +kernel)
    (case c_invalid_field => first | k_is | rfl | decide +kernel)
    (case k_invalid_field => first | k_is | rfl | decide +kernel)
    (case a_is_cost => first | k_is | rfl | decide +kernel)
    (case l_is_cost => first | k_is | rfl | decide +kernel)
    (case c_is_cost => first | k_is | rfl | decide +kernel)
    (case k_is_cost => first | k_is | rfl | decide +kernel)
    (case a_is_end => first | k_is | rfl | decide +kernel)
    (case l_is_end => first | k_is | rfl | decide +kernel)
    (case c_is_end => first | k_is | rfl | decide +kernel)
    (case k_is_end => first | k_is | rfl | decide +kernel)
    (case a_law_numbers => first | k_is | rfl | decide +kernel)
    (case l_law_numbers => first | k_is | rfl | decide +kernel)
    (case c_law_numbers => first | k_is | rfl | decide +kernel)
    (case k_law_numbers => first | k_is | rfl | decide +kernel)
    (case a_law_power => first | k_is | rfl | decide +kernel)
    (case l_law_power => first | k_is | rfl | decide +kernel)
    (case c_law_power => first | k_is | rfl | decide +kernel)
    (case k_law_power => first | k_is | rfl | decide +kernel)
    (case a_law_reduced => first | k_is | rfl | decide +kernel)
    (case l_law_reduced => first | k_is | rfl | decide +kernel)
    (case c_law_reduced => first | k_is | rfl | decide +kernel)
    (case k_law_reduced => first | k_is | rfl | decide +kernel)
    (case a_law_sum => first | k_is | rfl | decide +kernel)
    (case l_law_sum => first | k_is | rfl | decide +kernel)
    (case c_law_sum => first | k_is | rfl | decide +kernel)
    (case k_law_sum => first | k_is | rfl | decide +kernel)
    (case a_law_integer => first | k_is | rfl | decide +kernel)
    (case l_law_integer => first | k_is | rfl | decide +kernel)
    (case c_law_integer => first | k_is | rfl | decide +kernel)
    (case k_law_integer => first | k_is | rfl | decide +kernel)
    (case a_law_spec => first | k_is | rfl | decide +kernel)
    (case l_law_spec => first | k_is | rfl | decide +kernel)
    (case c_law_spec => first | k_is | rfl | decide +kernel)
    (case k_law_spec => first | k_is | rfl | decide +kernel)
    (case a_law_row => first | k_is | rfl | decide +kernel)
    (case l_law_row => first | k_is | rfl | decide +kernel)
    (case c_law_row => first | k_is | rfl | decide +kernel)
    (case k_law_row => first | k_is | rfl | decide +kernel)
    (case a_law_position => first | k_is | rfl | decide +kernel)
    (case l_law_position => first | k_is | rfl | decide +kernel)
    (case c_law_position => first | k_is | rfl | decide +kernel)
    (case k_law_position => first | k_is | rfl | decide +kernel)
    (case a_law_state => first | k_is | rfl | decide +kernel)
    (case l_law_state => first | k_is | rfl | decide +kernel)
    (case c_law_state => first | k_is | rfl | decide +kernel)
    (case k_law_state => first | k_is | rfl | decide +kernel)
    (case a_law_least => first | k_is | rfl | decide +kernel)
    (case l_law_least => first | k_is | rfl | decide +kernel)
    (case c_law_least => first | k_is | rfl | decide +kernel)
    (case k_law_least => first | k_is | rfl | decide +kernel)
    (case a_law_floor => first | k_is | rfl | decide +kernel)
    (case l_law_floor => first | k_is | rfl | decide +kernel)
    (case c_law_floor => first | k_is | rfl | decide +kernel)
    (case k_law_floor => first | k_is | rfl | decide +kernel)
    (case a_law_least_from => first | k_is | rfl | decide +kernel)
    (case l_law_least_from => first | k_is | rfl | decide +kernel)
    (case c_law_least_from => first | k_is | rfl | decide +kernel)
    (case k_law_least_from => first | k_is | rfl | decide +kernel)
    (case a_law_later => first | k_is | rfl | decide +kernel)
    (case l_law_later => first | k_is | rfl | decide +kernel)
    (case c_law_later => first | k_is | rfl | decide +kernel)
    (case k_law_later => first | k_is | rfl | decide +kernel)
    (case a_law => first | k_is | rfl | decide +kernel)
    (case l_law => first | k_is | rfl | decide +kernel)
    (case c_law => first | k_is | rfl | decide +kernel)
    (case k_law => first | k_is | rfl | decide +kernel)
    (case a_InvalidRow => first | k_is | rfl | decide +kernel)
    (case x_InvalidRow => first | k_is | rfl | decide +kernel)
    (case xt_InvalidRow => first | k_is | rfl | decide +kernel)
    (case ov_InvalidRow => first | k_is | rfl | decide +kernel)
    (case sa_InvalidRow => first | k_is | rfl | decide +kernel)
    (case ga_InvalidRow => first | k_is | rfl | decide +kernel)
    (case gg_InvalidRow => first | k_is | rfl | decide +kernel)
    (case nn_InvalidRow => first | k_is | rfl | decide +kernel)
    (case ii_InvalidRow => first | k_is | rfl | decide +kernel)
    (case cc_InvalidRow => first | k_is | rfl | decide +kernel)
    (case ti_InvalidRow => first | k_is | rfl | decide +kernel)
    (case kc_InvalidRow => first | k_is | rfl | decide +kernel)
    (case ex_InvalidRow => first | k_is | rfl | decide +kernel)
    (case tc_InvalidRow => first | k_is | rfl | decide +kernel)
    (case hd_InvalidRow => first | k_is | rfl | decide +kernel)
    (case te_InvalidRow => first | k_is | rfl | decide +kernel)
    (case cn_InvalidRow => first | k_is | rfl | decide +kernel)
    (case ct_InvalidRow => first | k_is | rfl | decide +kernel)
    (case cm_InvalidRow => first | k_is | rfl | decide +kernel)
    (case li_InvalidRow => first | k_is | rfl | decide +kernel)
    (case ci_InvalidRow => first | k_is | rfl | decide +kernel)
    (case a_InvalidState => first | k_is | rfl | decide +kernel)
    (case x_InvalidState => first | k_is | rfl | decide +kernel)
    (case xt_InvalidState => first | k_is | rfl | decide +kernel)
    (case ov_InvalidState => first | k_is | rfl | decide +kernel)
    (case sa_InvalidState => first | k_is | rfl | decide +kernel)
    (case ga_InvalidState => first | k_is | rfl | decide +kernel)
    (case gg_InvalidState => first | k_is | rfl | decide +kernel)
    (case nn_InvalidState => first | k_is | rfl | decide +kernel)
    (case ii_InvalidState => first | k_is | rfl | decide +kernel)
    (case cc_InvalidState => first | k_is | rfl | decide +kernel)
    (case ti_InvalidState => first | k_is | rfl | decide +kernel)
    (case kc_InvalidState => first | k_is | rfl | decide +kernel)
    (case ex_InvalidState => first | k_is | rfl | decide +kernel)
    (case tc_InvalidState => first | k_is | rfl | decide +kernel)
    (case hd_InvalidState => first | k_is | rfl | decide +kernel)
    (case te_InvalidState => first | k_is | rfl | decide +kernel)
    (case cn_InvalidState => first | k_is | rfl | decide +kernel)
    (case ct_InvalidState => first | k_is | rfl | decide +kernel)
    (case cm_InvalidState => first | k_is | rfl | decide +kernel)
    (case li_InvalidState => first | k_is | rfl | decide +kernel)
    (case ci_InvalidState => first | k_is | rfl | decide +kernel)
    (case n_MAX_PLACE => first | k_is | rfl | decide +kernel)
    (case n_MAX_DIGITS => first | k_is | rfl | decide +kernel)
    (case n_MAX_COST => first | k_is | rfl | decide +kernel)
    (case z_abs => first | k_is | rfl | decide +kernel)
    (case z_bool => first | k_is | rfl | decide +kernel)
    (case z_enumerate => first | k_is | rfl | decide +kernel)
    (case z_int => first | k_is | rfl | decide +kernel)
    (case z_isinstance => first | k_is | rfl | decide +kernel)
    (case z_len => first | k_is | rfl | decide +kernel)
    (case z_max => first | k_is | rfl | decide +kernel)
    (case z_min => first | k_is | rfl | decide +kernel)
    (case z_range => first | k_is | rfl | decide +kernel)
    (case z_reversed => first | k_is | rfl | decide +kernel)
    (case z_sorted => first | k_is | rfl | decide +kernel)
    (case z_tuple => first | k_is | rfl | decide +kernel)
    (case a_Row => first | k_is | rfl | decide +kernel)
    (case pg_Row => first | k_is | rfl | decide +kernel)
    (case hd_Row => first | k_is | rfl | decide +kernel)
    (case po_Row => first | k_is | rfl | decide +kernel)
    (case sa_Row => first | k_is | rfl | decide +kernel)
    (case nS_Row => first | k_is | rfl | decide +kernel)
    (case ha_Row => first | k_is | rfl | decide +kernel)
    (case hn_Row => first | k_is | rfl | decide +kernel)
    (case ht_Row => first | k_is | rfl | decide +kernel)
    (case hm_Row => first | k_is | rfl | decide +kernel)
    (case i_Row_init => first | k_is | rfl | decide +kernel)
    (case if_Row_init => first | k_is | rfl | decide +kernel)
    (case l_Row_init => first | k_is | rfl | decide +kernel)
    (case c_Row_init => first | k_is | rfl | decide +kernel)
    (case k_Row_init => first | k_is | rfl | decide +kernel)
    (case mk_Row => first | k_is | rfl | decide +kernel)
    (case kc_Row => first | k_is | rfl | decide +kernel)
    (case d0_Row_init => first | k_is | rfl | decide +kernel)
    (case d1_Row_init => first | k_is | rfl | decide +kernel)
    (case d2_Row_init => first | k_is | rfl | decide +kernel)
    (case d3_Row_init => first | k_is | rfl | decide +kernel)
    (case at_Row_base => first | k_is | rfl | decide +kernel)
    (case gt_Row_base => first | k_is | rfl | decide +kernel)
    (case tk_Row_base => first | k_is | rfl | decide +kernel)
    (case rc_Row_base => first | k_is | rfl | decide +kernel)
    (case l_Row_base => first | k_is | rfl | decide +kernel)
    (case c_Row_base => first | k_is | rfl | decide +kernel)
    (case k_Row_base => first | k_is | rfl | decide +kernel)
    (case at_Row_move_cost => first | k_is | rfl | decide +kernel)
    (case gt_Row_move_cost => first | k_is | rfl | decide +kernel)
    (case tk_Row_move_cost => first | k_is | rfl | decide +kernel)
    (case rc_Row_move_cost => first | k_is | rfl | decide +kernel)
    (case l_Row_move_cost => first | k_is | rfl | decide +kernel)
    (case c_Row_move_cost => first | k_is | rfl | decide +kernel)
    (case k_Row_move_cost => first | k_is | rfl | decide +kernel)
    (case at_Row_add_cost => first | k_is | rfl | decide +kernel)
    (case gt_Row_add_cost => first | k_is | rfl | decide +kernel)
    (case tk_Row_add_cost => first | k_is | rfl | decide +kernel)
    (case rc_Row_add_cost => first | k_is | rfl | decide +kernel)
    (case l_Row_add_cost => first | k_is | rfl | decide +kernel)
    (case c_Row_add_cost => first | k_is | rfl | decide +kernel)
    (case k_Row_add_cost => first | k_is | rfl | decide +kernel)
    (case at_Row_first => first | k_is | rfl | decide +kernel)
    (case gt_Row_first => first | k_is | rfl | decide +kernel)
    (case tk_Row_first => first | k_is | rfl | decide +kernel)
    (case rc_Row_first => first | k_is | rfl | decide +kernel)
    (case l_Row_first => first | k_is | rfl | decide +kernel)
    (case c_Row_first => first | k_is | rfl | decide +kernel)
    (case k_Row_first => first | k_is | rfl | decide +kernel)
    (case at_Row_last => first | k_is | rfl | decide +kernel)
    (case gt_Row_last => first | k_is | rfl | decide +kernel)
    (case tk_Row_last => first | k_is | rfl | decide +kernel)
    (case rc_Row_last => first | k_is | rfl | decide +kernel)
    (case l_Row_last => first | k_is | rfl | decide +kernel)
    (case c_Row_last => first | k_is | rfl | decide +kernel)
    (case k_Row_last => first | k_is | rfl | decide +kernel)
    (case at_Row_has_place => first | k_is | rfl | decide +kernel)
    (case if_Row_has_place => first | k_is | rfl | decide +kernel)
    (case l_Row_has_place => first | k_is | rfl | decide +kernel)
    (case c_Row_has_place => first | k_is | rfl | decide +kernel)
    (case k_Row_has_place => first | k_is | rfl | decide +kernel)
    (case rd_Row => first | k_is | rfl | decide +kernel)
    (case rg_Row => first | k_is | rfl | decide +kernel)
    (case v_MIN_BASE => first | k_is | rfl | decide +kernel)
    (case v_MAX_BASE => first | k_is | rfl | decide +kernel)
    (case a_Sweep => first | k_is | rfl | decide +kernel)
    (case pg_Sweep => first | k_is | rfl | decide +kernel)
    (case hd_Sweep => first | k_is | rfl | decide +kernel)
    (case po_Sweep => first | k_is | rfl | decide +kernel)
    (case sa_Sweep => first | k_is | rfl | decide +kernel)
    (case nSweep_row => first | k_is | rfl | decide +kernel)
    (case nSweep_low => first | k_is | rfl | decide +kernel)
    (case nSweep_span => first | k_is | rfl | decide +kernel)
    (case nSweep_ready => first | k_is | rfl | decide +kernel)
    (case nSweep_floors => first | k_is | rfl | decide +kernel)
    (case i_Sweep_init => first | k_is | rfl | decide +kernel)
    (case if_Sweep_init => first | k_is | rfl | decide +kernel)
    (case l_Sweep_init => first | k_is | rfl | decide +kernel)
    (case c_Sweep_init => first | k_is | rfl | decide +kernel)
    (case k_Sweep_init => first | k_is | rfl | decide +kernel)
    (case mk_Sweep => first | k_is | rfl | decide +kernel)
    (case kc_Sweep => first | k_is | rfl | decide +kernel)
    (case at_Sweep_choices => first | k_is | rfl | decide +kernel)
    (case if_Sweep_choices => first | k_is | rfl | decide +kernel)
    (case l_Sweep_choices => first | k_is | rfl | decide +kernel)
    (case c_Sweep_choices => first | k_is | rfl | decide +kernel)
    (case k_Sweep_choices => first | k_is | rfl | decide +kernel)
    (case at_Sweep_steps => first | k_is | rfl | decide +kernel)
    (case if_Sweep_steps => first | k_is | rfl | decide +kernel)
    (case l_Sweep_steps => first | k_is | rfl | decide +kernel)
    (case c_Sweep_steps => first | k_is | rfl | decide +kernel)
    (case k_Sweep_steps => first | k_is | rfl | decide +kernel)
    (case at_Sweep_least_costs => first | k_is | rfl | decide +kernel)
    (case if_Sweep_least_costs => first | k_is | rfl | decide +kernel)
    (case l_Sweep_least_costs => first | k_is | rfl | decide +kernel)
    (case c_Sweep_least_costs => first | k_is | rfl | decide +kernel)
    (case k_Sweep_least_costs => first | k_is | rfl | decide +kernel)
    (case at_Sweep_moves => first | k_is | rfl | decide +kernel)
    (case if_Sweep_moves => first | k_is | rfl | decide +kernel)
    (case l_Sweep_moves => first | k_is | rfl | decide +kernel)
    (case c_Sweep_moves => first | k_is | rfl | decide +kernel)
    (case k_Sweep_moves => first | k_is | rfl | decide +kernel)
    (case at_Sweep_end_cost => first | k_is | rfl | decide +kernel)
    (case if_Sweep_end_cost => first | k_is | rfl | decide +kernel)
    (case l_Sweep_end_cost => first | k_is | rfl | decide +kernel)
    (case c_Sweep_end_cost => first | k_is | rfl | decide +kernel)
    (case k_Sweep_end_cost => first | k_is | rfl | decide +kernel)
    (case at_Sweep_ends => first | k_is | rfl | decide +kernel)
    (case if_Sweep_ends => first | k_is | rfl | decide +kernel)
    (case l_Sweep_ends => first | k_is | rfl | decide +kernel)
    (case c_Sweep_ends => first | k_is | rfl | decide +kernel)
    (case k_Sweep_ends => first | k_is | rfl | decide +kernel)
