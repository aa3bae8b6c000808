import PyProof.Rows.All
import Wide.All
import OpenK.AllK
import Wide.FinOn
import PyProof.ReprRoads
import PyProof.ReprLen
import HandS.ForMost
import HandS.Wide
import HandS.IsInst
import HandS.Walk
import HandS.Zip
import HandS.TupAny
import HandS.TupMul
import HandS.SortInts
import HandS.Flow
import HandS.Evl
import KE.GoesEnum
import KE.GoesMore
import KE.GoesZip
import KE.DataMinMax
import HandS.Conv
import PyProof.ReprReads
import PyProof.ReprDict
import HandS.TupLe
import HandS.Style
import PyProof.NeKinds
import KE.KUnpack
import HandS.Gcd
import PyProof.EqKinds
import KE.DataEq
import PySem.Challenge.RW_straylanes_k46_what_is_a_ledger
set_option maxHeartbeats 4000000
set_option Elab.async false
set_option linter.all false
set_option maxRecDepth 100000
/-! The layer below: defs whose call knows that no repr is under way, repr of data, calls by keywords alone, rules of either kind. -/
namespace Sx
open PySem PySem.Spec PyProof.Rows L2

/-! ### a def that shows data: called where no repr is under way -/
structure FnG (P : Program) (w : World) (K : PySem.W.Frag) (mg : Str → Option Value) (B : Heap) (CX : CXT) (n : Nat) (f : Addr) (fd : FuncData) (ps : List Str) (sp : Sp) : Prop where
  lenG : ∀ vs H Q E, sp vs H Q E → vs.length = ps.length
  runG : ∀ (A : Around) (out : List Env) (s : Shared) (H : Hp) (as : Args) (us : List Value) (vs : List V) (Q : VK) (E : XK), A.guards = some [] → Room n A →
    Env0 P w K mg B A out s H → BindsTo s fd as (ps.zip us) → Vals vs us → sp vs H Q E → codeAny (model P w) A (.call (.ref f) as) (CR CX out P w H s Q E) s

section
variable {P : Program} {w : World} {K : PySem.W.Frag} {mg : Str → Option Value} {B : Heap} {CX : CXT}
theorem FnG.up {n m : Nat} {f : Addr} {fd : FuncData} {ps : List Str} {sp : Sp} (F : FnG P w K mg B CX n f fd ps sp) (h : n ≤ m) : FnG P w K mg B CX m f fd ps sp :=
  ⟨F.lenG, fun A out s H as us vs Q E hg hr => F.runG A out s H as us vs Q E hg (hr.mono h)⟩
/-- from the body, for a def that may raise -/
theorem okGX {x qual : Str} {st : Stmt} {f : Addr} {fd : FuncData} {N ps : List Str} {n : Nat} {sp : Sp} (F : Fun K x qual st f fd) (S : FnScope N ps (defScope st)) (hlen : ∀ vs H Q E, sp vs H Q E → vs.length = ps.length)
    (body : ∀ (cd : Value) (A : Around) (out : List Env) (s : Shared) (H : Hp) (vs : List V) (Q : VK) (E : XK), A.guards = some [] → Room n (A.deeper (envOfC qual (defScope st) s.heap.objs.size f cd)) → sp vs H Q E →
      ∃ t, PSs (cxOf CX P w K mg B N qual (defScope st) f cd A out s H E) (defBody st) t ∧ t { nx := fun _ H1 => Q .non H1, rt := Q } (start N vs) H) : FnG P w K mg B CX (n + 1) f fd ps sp := by
  obtain ⟨oc, od, kV, doc, pm, an, cd, ct, osl, rfl, lk, hcd⟩ := F.ex
  refine ⟨hlen, ?_⟩
  intro A out s H as us vs Q E hg hr e0 hb rel hsp
  have hl := hlen vs H Q E hsp
  have kin : K.In s.heap := e0.mod.kin.keeps (fun b o e => (e0.bs b o e).1)
  have nol : s.heap.NoLimit := e0.mod.nolimit.keeps (fun b o e => (e0.bs b o e).1)
  refine codeAny_call_function hr.depth (kin _ _ lk) rfl S.co S.gen rfl (PySem.W.codeRec_of kin hcd)
    (hb _ _ _ _ ?_)
  refine wpAny_newFunctionEnv_cells S.kind (fun y hy => (S.par y.1 (List.of_mem_zip (a := y.1) (b := y.2) hy).1).elim (fun q => Or.inl q) fun q => Or.inr ⟨q, PySem.W.cellsFrom_some _ _ _ (Or.inl q)⟩) ?_
  intro env he s1 x
  subst he
  refine ⟨nol.keeps x.toInCall.keep, codeAny_func ?_⟩
  obtain ⟨t, ht, hq⟩ := body cd A out s H vs Q E hg (hr.deeper _) hsp
  have I := inv_start (CX := CX) (E := E) S hr.hd e0 hl rel x
  refine wpAny_mono (ht.run [] s1 (start N vs) H _ I hq) ?_ (fun _ _ z => z)
  intro fl s' hs
  cases fl with
  | ret u =>
    obtain ⟨v, σ1, H1, J, rv, q⟩ := hs
    exact (show CE out P w H s Q u s' from ⟨v, H1, J.os, J.bare, J.base, J.hok, rv, q⟩)
  | next =>
    obtain ⟨σ1, H1, J, q⟩ := hs
    exact (show CE out P w H s Q Value.none s' from ⟨V.non, H1, J.os, J.bare, J.base, J.hok, rfl, q⟩)
  | brk =>
    obtain ⟨_, _, _, q⟩ := hs
    exact q.elim
  | cont =>
    obtain ⟨_, _, _, q⟩ := hs
    exact q.elim
theorem okG {x qual : Str} {st : Stmt} {f : Addr} {fd : FuncData} {N ps : List Str} {n : Nat} {sp : Sp} (F : Fun K x qual st f fd) (S : FnScope N ps (defScope st)) (hlen : ∀ vs H Q E, sp vs H Q E → vs.length = ps.length)
    (body : ∀ (cd : Value) (A : Around) (out : List Env) (s : Shared) (H : Hp) (vs : List V) (Q : VK) (E : XK), A.guards = some [] → Room n (A.deeper (envOfC qual (defScope st) s.heap.objs.size f cd)) → sp vs H Q E →
      ∃ t, PSs (cxOf CX0 P w K mg B N qual (defScope st) f cd A out s H E).nox (defBody st) t ∧ t { nx := fun _ H1 => Q .non H1, rt := Q } (start N vs) H) : FnG P w K mg B CX0 (n + 1) f fd ps sp :=
  okGX F S hlen fun cd A out s H vs Q E hg hr hsp => let ⟨t, h, q⟩ := body cd A out s H vs Q E hg hr hsp; ⟨t, h.nox, q⟩
end

section
variable {X : Cx} {CX : CXT} {n : Nat} {f : Addr} {fd : FuncData} {ps : List Str} {sp : Sp} {dvs : List V} {ds : List Value} {E : XK} {x : Str} {p pos : Pos} {e : Expr} {es : List Expr} {t : TA}
theorem run_fnG {pins : List (Addr × Obj)} {σ : L2.St} {H : Hp} {s : Shared} {Q : VK} {us : List Value} {vs : List V} (hg : X.A.guards = some []) (F : FnG X.prog X.w X.K X.mg X.base CX n f fd ps sp) (hr : Room n X.A) (hb : Binds X.K fd ps [])
    (hx : Passes CX X E) (I : Inv X pins σ H s) (r : Vals vs us) (h : sp vs H Q E) : wpAny (model X.prog X.w) X.A (call (.ref f) us) (EP X pins σ Q) X.xe s := by
  have hl : (us ++ []).length = ps.length := by
    rw [List.append_nil, ← r.length]
    exact F.lenG _ _ _ _ h
  have bb := hb s us I.kIn hl
  rw [List.append_nil] at bb
  refine wpAny_call (codeAny_mono (F.runG X.A X.stack s H ⟨us, []⟩ us vs Q E hg hr I.env0 bb r h) ?_)
  intro res s' hq
  match res, hq with
  | .error e, hq => exact hx pins σ H s e s' I hq
  | .ok (.ret u), hq => exact I.after hq
  | .ok .next, hq => exact False.elim hq
  | .ok .brk, hq => exact False.elim hq
  | .ok .cont, hq => exact False.elim hq
theorem pe_callG (hg : X.A.guards = some []) (F : FnG X.prog X.w X.K X.mg X.base CX n f fd ps sp) (hr : Room n X.A) (hgl : Gl X x) (hm : X.mg x = some (.ref f)) (hk : PySem.W.keepIn X.K (.ref f) = true) (hb : Binds X.K fd ps [])
    (hx : Passes CX X E) (ha : PA X (e :: es) t) (hdb : (x == ("__debug__" : Str)) = false := by decide) (he : starEach (e :: es) X.env = (false, eval e X.env) :: starEach es X.env := by rfl)
    (hpl : (backTo pos (starEach es X.env)).any (·.1) = false := by rfl) : PE X (.Call (.Name x p) (e :: es) [] pos) (tCall sp [] E t) := by
  refine ⟨fun pins s σ H Q I h => wpAny_Call_Name_kw (ld_glob I hgl hm ?_ hdb)⟩
  refine PySem.W.callWith_K (h₀ := X.base) I.ok.mod.kin hk (thn (ha.run pos pins s σ H _ I h) ?_) he hpl
  rintro us s1 ⟨vs, H1, I1, r, q⟩
  have q' : sp (vs ++ []) H1 Q E := q
  rw [List.append_nil] at q'
  exact ⟨I1.kIn, run_fnG hg F hr hb hx I1 r q'⟩
/-- f(k = v, ..), no positional argument -/
theorem pe_callKs {ks : List Str} {kws : List Keyword} {tk : TA} {g : List Value → List Value → List Value} {gV : List V → List V → List V} (F : FnOk X.prog X.w X.K X.mg X.base CX n f fd ps sp) (hr : Room n X.A) (hgl : Gl X x) (hm : X.mg x = some (.ref f))
    (hk : PySem.W.keepIn X.K (.ref f) = true) (hb : KBinds X.K fd ps ks g gV) (hx : Passes CX X E) (hkw : PK X kws tk) (hall : (backToKw pos (keywordEach kws X.env)).all (·.1.isSome) = true := by rfl)
    (hks : (backToKw pos (keywordEach kws X.env)).filterMap (·.1) = ks := by rfl) (hdb : (x == ("__debug__" : Str)) = false := by decide)
    (hpl : ((backTo pos (starEach [] X.env)).any (·.1) || (backToKw pos (keywordEach kws X.env)).any (·.1.isNone)) = false := by rfl) : PE X (.Call (.Name x p) [] kws pos) (tCallK sp gV E tNil tk) := by
  refine ⟨fun pins s σ H Q I h => wpAny_Call_Name_kw (ld_glob I hgl hm ?_ hdb)⟩
  refine PySem.W.callWith_KW0 (h₀ := X.base) I.ok.mod.kin hk hall (thn (hkw.run pos pins s σ H _ I h) ?_) hpl
  rintro ws s2 ⟨zs, H2, I2, rz, q2⟩
  refine ⟨I2.kIn, ?_⟩
  rw [hks]
  exact run_fnk (us := []) (vs := []) F hr hb hx I2 .nil rz q2
end

/-! ### how keywords bind, by the parameters' names alone -/
theorem Fun.kb {K : PySem.W.Frag} {x qual : Str} {st : Stmt} {f : Addr} {fd : FuncData} {ps ks : List Str} {g : List Value → List Value → List Value} {gV : List V → List V → List V} (F : Fun K x qual st f fd)
    (h : ∀ (kV doc pm : Value) (an : Option Addr) (cd ct : Value) (us ws : List Value), (g us ws).length = ps.length → bindArgs (PySem.W.fnOf x qual (defArgs st) (defBody st) (defScope st) .none kV doc pm an cd ct) ⟨us, ks.zip ws⟩ = pure (ps.zip (g us ws)))
    (rel : ∀ {vs : List V} {us : List Value} {zs : List V} {ws : List Value}, Vals vs us → Vals zs ws → Vals (gV vs zs) (g us ws)) : KBinds K fd ps ks g gV := by
  obtain ⟨oc, od, kV, doc, pm, an, cd, ct, osl, rfl, lk, hcd⟩ := F.ex
  exact ⟨fun s us ws _ hl => .of_eq (h kV doc pm an cd ct us ws hl), rel⟩

/-! ### repr of data -/
mutual
theorem dp_plain {K : PySem.W.Frag} {H : Hp} : ∀ (d : PyData) (v : V), Dp K H v d → d.hasDict = false
  | .none, _, _ => by simp only [PyData.hasDict]
  | .bool _, _, _ => by simp only [PyData.hasDict]
  | .int _, _, _ => by simp only [PyData.hasDict]
  | .str _, _, _ => by simp only [PyData.hasDict]
  | .list ds, _, h => by
    cases h with
    | lst _ ha =>
      simp only [PyData.hasDict]
      exact dp_plainAll ds _ ha
  | .tuple ds, _, h => by
    cases h with
    | tup _ ha =>
      simp only [PyData.hasDict]
      exact dp_plainAll ds _ ha
  | .dict _, _, h => by cases h
theorem dp_plainAll {K : PySem.W.Frag} {H : Hp} : ∀ (ds : List PyData) (vs : List V), DpAll K H vs ds → PyData.hasDictAll ds = false
  | [], _, _ => by simp only [PyData.hasDictAll]
  | d :: ds, _, h => by
    cases h with
    | cons h1 h2 =>
      simp only [PyData.hasDictAll, dp_plain d _ h1, dp_plainAll ds _ h2, Bool.or_self]
end
/-- what may be shown -/
structure Shows (d : PyData) : Prop where
  ok : d.showable = true
  sz : d.shown.length ≤ sizeLine
  dp : d.depth ≤ 60
def rShow (K : PySem.W.Frag) : List V → Hp → VK → Prop := fun xs H Q => ∃ v d, xs = [v] ∧ Dp K H v d ∧ Shows d ∧ Q (.str d.shown) H
theorem call_show {X : Cx} (hg : X.A.guards = some []) (hu : X.A.units + 64 < cLine) : CallR X (.builtin "repr") (rShow X.K) := by
  intro pins s σ H xs us Q I r h
  obtain ⟨v, d, rfl, hd, S, q⟩ := h
  obtain ⟨u, rfl, r1⟩ := vals1 r
  have q0 : (PyData.shown d) = d.shown := rfl
  cases hd with
  | non =>
    obtain rfl : u = Value.none := r1
    simp only [PyData.shown] at q
    exact PySem.P.repr_of_none ⟨.str _, H, I.tok _, ⟨_, rfl⟩, q⟩
  | bl b =>
    obtain rfl : u = Value.bool b := r1
    simp only [PyData.shown] at q
    exact PySem.P.repr_of_bool ⟨.str _, H, I.tok _, ⟨_, rfl⟩, by cases b <;> exact q⟩
  | int i =>
    obtain ⟨t, rfl⟩ := r1
    have hs := S.ok
    simp only [PyData.shown] at q
    exact PySem.P.repr_of_int (by simpa [PyData.showable] using hs) ⟨.str _, H, I.tok _, ⟨_, rfl⟩, q⟩
  | str y =>
    obtain ⟨t, rfl⟩ := r1
    have hz := S.sz
    simp only [PyData.shown] at q hz
    exact PySem.P.repr_of_str ⟨.str _, H, I.tok _, ⟨_, rfl⟩, q⟩ hz
  | @lst a ys ds h1 h2 =>
    obtain rfl : u = Value.ref a := r1
    have hp := dp_plain _ _ (Dp.lst h1 h2)
    obtain ⟨as, rd⟩ := Dp.reads I _ (V.ref a) (Value.ref a) (Dp.lst h1 h2) rfl
    exact repr_of_reads' rd S.ok (PyData.noDict_hsm hp) hg (by have := S.dp; omega) (fun _ _ e => e) (fun h' tu tk hk => ⟨.str _, H, I.kept hk, ⟨_, rfl⟩, q⟩) S.sz
  | @tup a ys ds h1 h2 =>
    obtain rfl : u = Value.ref a := r1
    have hp := dp_plain _ _ (Dp.tup h1 h2)
    obtain ⟨as, rd⟩ := Dp.reads I _ (V.ref a) (Value.ref a) (Dp.tup h1 h2) rfl
    exact repr_of_reads' rd S.ok (PyData.noDict_hsm hp) hg (by have := S.dp; omega) (fun _ _ e => e) (fun h' tu tk hk => ⟨.str _, H, I.kept hk, ⟨_, rfl⟩, q⟩) S.sz
end Sx
namespace Sx
open PySem PySem.Spec PyProof.Rows L2

/-! ### the law's end, for a law that shows data -/
section
variable {P : Program} {w : World} {K : PySem.W.Frag} {mg mb : Str → Option Value} {n : Nat} {fa a : Addr} {fd : FuncData} {x : Str} {sp : Sp} {s : Shared} {us : List Value} {ns : List Int}
abbrev Good (s : Shared) : Result → Shared → Prop := fun r s' => r = .ok (.ret (.bool true)) ∧ OldK s.heap s'.heap ∧ s'.os = s.os ∧ AllBare s'.gens
/-- from an abstract heap in which the script alone may stand -/
theorem law_from (kin : K.In s.heap) (hns : s.heap.Ns mainGlobals mg) (hb : s.heap.Ns builtinsNs mb) (hbb : ∀ x : Str, x ≠ "__name__" → mb x = bootBuiltins x) (hlim : s.heap.NoLimit) (hgens : s.gens = #[])
    (ha : s.heap.get? a = some { cls := .type "list", data := .seq us.toArray }) (hr : Room n callerA)
    (F : ∀ B : Heap, K.In B → B.Ns mainGlobals mg → FnG P w K mg B CX0 n fa fd [x] sp) (hbind : ∀ (s : Shared) (u : Value), BindsTo s fd ⟨[u], []⟩ [(x, u)]) (H : Hp)
    (hsp : sp [.ref a] H (fun v _ => v = .bl true) fun _ _ _ => False) (only : Only H) (ok : HOk P w H s.heap) (one : ∀ b, H b ≠ none → b = a) (apart : H a ≠ none → K.lookup a = none) :
    codeAny (model P w) callerA (.call (.ref fa) ⟨[.ref a], []⟩) (Good s) s := by
  have free : ∀ {b : Addr} {o : Obj} {es : Array DictEntry} {ep : Nat}, s.heap.get? b = some o → o.data = .dict es ep → H b = none := by
    intro b o es ep e d
    cases q : H b with
    | none => rfl
    | some z =>
      obtain rfl : b = a := one b (by rw [q]; exact fun z => nomatch z)
      rw [ha] at e
      cases e
      exact nomatch (show Data.seq us.toArray _ = Data.dict es ep from d)
  have hidN : ∀ {b : Addr} {m : Str → Option Value}, s.heap.Ns b m → (hidT s.heap H).Ns b m := by
    rintro b m ⟨o, es, ep, e, d, r⟩
    exact ⟨o, es, ep, hidT_get e (free e d), d, r⟩
  have hidK : K.In (hidT s.heap H) := by
    intro b o e
    refine hidT_get (kin b o e) ?_
    cases q : H b with
    | none => rfl
    | some z =>
      obtain rfl : b = a := one b (by rw [q]; exact fun z => nomatch z)
      rw [apart (by rw [q]; exact fun z => nomatch z)] at e
      cases e
  have M : Mod K mg (hidT s.heap H) := by
    obtain ⟨mc, h1, h2⟩ := hlim
    exact ⟨hidK, hidN hns, ⟨mb, hidN hb, hbb⟩, ⟨mc, hidN h1, h2⟩⟩
  have e0 : Env0 P w K mg (hidT s.heap H) callerA [] s H :=
    ⟨rfl, M, fun b o e => of_hidT e, Nat.le_of_eq (hidT_size _ _), trivial, fun b z => (List.not_mem_nil (a := b) z).elim, ok, .of_eq hgens⟩
  refine codeAny_mono ((F _ hidK (hidN hns)).runG callerA [] s H ⟨[.ref a], []⟩ [.ref a] [.ref a] _ _ rfl hr e0 (hbind s (.ref a)) (.cons rfl .nil) hsp) ?_
  intro r s' h
  match r, h with
  | .error e, h => exact (show False from h).elim
  | .ok .next, h => exact (show False from h).elim
  | .ok .brk, h => exact (show False from h).elim
  | .ok .cont, h => exact (show False from h).elim
  | .ok (.ret u), h =>
    obtain ⟨v, H1, os, bare, un, ok1, rv, q⟩ := h
    obtain rfl : v = .bl true := q
    obtain rfl : u = Value.bool true := rv
    refine ⟨rfl, OldK.of_keep ?_, os, bare⟩
    intro b o e
    cases q : H b with
    | none => exact un.keep b o e q (List.not_mem_nil (a := b)) (List.not_mem_nil (a := b))
    | some z =>
      rcases only b with h | ⟨ob, xs, h⟩
      · rw [q] at h
        cases h
      · obtain ⟨e1, _⟩ := ok b _ h
        obtain ⟨e2, _⟩ := ok1 b _ (un.frzs b ob _ h)
        rw [e] at e1
        cases e1
        exact e2
theorem law_callG (kin : K.In s.heap) (hns : s.heap.Ns mainGlobals mg) (hb : s.heap.Ns builtinsNs mb) (hbb : ∀ x : Str, x ≠ "__name__" → mb x = bootBuiltins x) (hlim : s.heap.NoLimit) (hgens : s.gens = #[])
    (ha : s.heap.get? a = some { cls := .type "list", data := .seq us.toArray }) (hi : IntsAre us ns) (hl : ns.length ≤ sizeLine) (hr : Room n callerA)
    (F : ∀ B : Heap, K.In B → B.Ns mainGlobals mg → FnG P w K mg B CX0 n fa fd [x] sp) (hbind : ∀ (s : Shared) (u : Value), BindsTo s fd ⟨[u], []⟩ [(x, u)])
    (hsp : ∀ H : Hp, Only H → SqL K H a (ns.map V.int) → sp [.ref a] H (fun v _ => v = .bl true) fun _ _ _ => False) : codeAny (model P w) callerA (.call (.ref fa) ⟨[.ref a], []⟩) (Good s) s := by
  have rv := vals_ints hi
  cases hk : K.lookup a with
  | some o =>
    have e := kin a o hk
    rw [ha] at e
    cases e
    have hO : Only (fun _ => none) := fun _ => Or.inl rfl
    refine law_from kin hns hb hbb hlim hgens ha hr F hbind (fun _ => none) (hsp _ hO (.inr ⟨_, us.toArray, _, hk, rfl, rfl, rfl, ?_, ?_⟩)) hO (fun b z h => nomatch h) (fun b z => absurd rfl z) (fun z => absurd rfl z)
    · rw [List.size_toArray, hi.length]
      exact hl
    · simpa using rv
  | none =>
    let ob : Obj := { cls := .type "list", data := .seq us.toArray }
    let H0 : Hp := fun b => if b = a then some (.frz ob (.lst (ns.map V.int))) else none
    have at_a : H0 a = some (.frz ob (.lst (ns.map V.int))) := if_pos rfl
    have off_a : ∀ b, b ≠ a → H0 b = none := fun b h => if_neg h
    have hO : Only H0 := by
      intro b
      by_cases h : b = a
      · rw [h]
        exact Or.inr ⟨_, _, at_a⟩
      · exact Or.inl (off_a b h)
    refine law_from kin hns hb hbb hlim hgens ha hr F hbind H0 (hsp _ hO (.inl (.inr ⟨ob, at_a⟩))) hO ?_ ?_ (fun _ => hk)
    · intro b z h
      by_cases hb : b = a
      · subst hb
        rw [at_a] at h
        cases h
        refine ⟨ha, ?_, us, _, rv, ha⟩
        rw [List.length_map]
        exact hl
      · rw [off_a b hb] at h
        cases h
    · intro b z
      by_cases h : b = a
      · exact h
      · exact absurd (off_a b h) z
end
/-- what k_head leaves of such a law -/
theorem walkG {l : PySem.W.OpenLaw} {n k : Nat} {q : Program} {loose : List Str} {XP : (Str → Option Value) → Heap → Prop} {YP : World → Heap → Prop} {d : DefRec} {K : Params → PySem.W.Frag} {sp : PySem.W.Frag → Sp} {x : Str}
    (hn : l.most = some n) (hz : n ≤ sizeLine) (hdf : d.params.defaults = []) (hr : Room k callerA) (hY : ∀ (w : World) (h : Heap), YP w h → (K w.params).In h)
    (F : ∀ (w : World) (mg : Str → Option Value) (fa : Addr) (h : Heap), (K w.params).In h → h.Ns mainGlobals mg → mg d.name = some (.ref fa) →
      ∃ fd : FuncData, (∀ (s : Shared) (u : Value), BindsTo s fd ⟨[u], []⟩ [(x, u)]) ∧ ∀ B : Heap, (K w.params).In B → B.Ns mainGlobals mg → FnG l.prog w (K w.params) mg B CX0 k fa fd [x] (sp (K w.params)))
    (hsp : ∀ (K : PySem.W.Frag) (H : Hp) (a : Addr) (ns : List Int), ns.length ≤ n → Only H → SqL K H a (ns.map V.int) → sp K [.ref a] H (fun v _ => v = .bl true) fun _ _ _ => False) :
    PySem.W.WalkO q loose XP YP l.row.toRowW d [] (fun f vs => PySem.call f vs) := by
  refine Att.attach_call hn hdf ?_
  intro w s₀ s₁ mg mb fa o pm cd doc a vs ns G Y ho hd hcd hmg hobj hints hlen hg
  have kin := hY w _ Y
  obtain ⟨fd, hb, hF⟩ := F w mg fa _ kin G.T.g hmg
  exact law_callG kin G.T.g G.T.b G.T.builtins G.T.nolimit hg hobj hints (Nat.le_trans hlen hz) hr hF hb fun H hO hS => hsp _ H a ns hlen hO hS
end Sx
namespace Sx
open PySem PySem.Spec PyProof.Rows L2


/-! ### rules of either kind -/
theorem OpR.or {X : Cx} {f : Value → Value → Sem Value} {r r' : R2} (h : OpR X f r) (h' : OpR X f r') : OpR X f (fun x y H Q => r x y H Q ∨ r' x y H Q) := by
  intro pins s σ H x y v u Q I rx ry q
  rcases q with q | q
  · exact h pins s σ H x y v u Q I rx ry q
  · exact h' pins s σ H x y v u Q I rx ry q
theorem PI.or {X : Cx} {tg it : Expr} {wi wi' : TI} (h : PI X tg it wi) (h' : PI X tg it wi') : PI X tg it (fun σ H R => wi σ H R ∨ wi' σ H R) := by
  refine ⟨fun pins s σ H R I q => ?_⟩
  rcases q with q | q
  · exact h.run pins s σ H R I q
  · exact h'.run pins s σ H R I q
def iSeq (K : PySem.W.Frag) (tl : TE) : TI := fun σ H R => iList K tl σ H R ∨ iTup K tl σ H R
theorem pi_seq {X : Cx} {tg l : Expr} {tl : TE} (h : PE X l tl) : PI X tg l (iSeq X.K tl) := PI.or (pi_list h) (pi_tup h)
/-- a name of the module that holds a value -/
structure Cst (mg : Str → Option Value) (x : Str) (v : V) : Prop where
  ex : ∃ u, mg x = some u ∧ RelV v u
theorem pe_cst {X : Cx} {x : Str} {v : V} {pos : Pos} (c : Cst X.mg x v) (hg : Gl X x) (hd : (x == ("__debug__" : Str)) = false := by decide) : PE X (.Name x pos) (tC v) := by
  obtain ⟨u, h, r⟩ := c.ex
  exact pe_glob hg h r hd
/-- where a def of the text stands -/
structure At (K : PySem.W.Frag) (mg : Str → Option Value) (x : Str) (st : Stmt) (ps : List Str) (f : Addr) (fd : FuncData) : Prop where
  F : Fun K x x st f fd
  b : Binds K fd ps []
  m : mg x = some (.ref f)

def rLenS (K : PySem.W.Frag) : List V → Hp → VK → Prop := fun xs H Q => ∃ p ys, xs = [.ref p] ∧ (SqL K H p ys ∨ SqT K H p ys) ∧ Q (.int (ys.length : Nat)) H
def rListS (K : PySem.W.Frag) : List V → Hp → VK → Prop := fun xs H Q => ∃ p ys, xs = [.ref p] ∧ (SqL K H p ys ∨ SqT K H p ys) ∧ ∀ l, H l = none → Q (.ref l) (upd H l (.lst ys))
def rTupS (K : PySem.W.Frag) : List V → Hp → VK → Prop := fun xs H Q => ∃ p ys, xs = [.ref p] ∧ ((SqL K H p ys ∧ ∀ l, H l = none → Q (.ref l) (upd H l (.tup ys))) ∨ (SqT K H p ys ∧ Q (.ref p) H))

/-! ### heaps -/
theorem same_new {H : Hp} {p : Addr} {o : HO} (h : H p = none) : Same H (upd H p o) := by
  intro b x e
  rw [upd_ne (ne_of_none e h)]
  exact e
theorem Same.tup {K : PySem.W.Frag} {H H' : Hp} {a : Addr} {xs : List V} (e : Same H H') (h : SqT K H a xs) : SqT K H' a xs := by
  rcases h with (h | ⟨o, h⟩) | h
  · exact .inl (.inl (e _ _ h))
  · exact .inl (.inr ⟨o, e _ _ h⟩)
  · exact .inr h
mutual
theorem dp_same {K : PySem.W.Frag} {H H' : Hp} (e : Same H H') : ∀ (d : PyData) (v : V), Dp K H v d → Dp K H' v d
  | .none, _, h => by
    cases h
    exact .non
  | .bool _, _, h => by
    cases h
    exact .bl _
  | .int _, _, h => by
    cases h
    exact .int _
  | .str _, _, h => by
    cases h
    exact .str _
  | .list ds, _, h => by
    cases h with
    | lst h1 h2 => exact .lst (L2.Same.seq e h1) (dpa_same e ds _ h2)
  | .tuple ds, _, h => by
    cases h with
    | tup h1 h2 => exact .tup (Same.tup e h1) (dpa_same e ds _ h2)
  | .dict _, _, h => by cases h
theorem dpa_same {K : PySem.W.Frag} {H H' : Hp} (e : Same H H') : ∀ (ds : List PyData) (vs : List V), DpAll K H vs ds → DpAll K H' vs ds
  | [], _, h => by
    cases h
    exact .nil
  | d :: ds, _, h => by
    cases h with
    | cons h1 h2 => exact .cons (dp_same e d _ h1) (dpa_same e ds _ h2)
end
theorem dpa_ints {K : PySem.W.Frag} {H : Hp} : ∀ ns : List Int, DpAll K H (ns.map V.int) (ns.map PyData.int)
  | [] => .nil
  | n :: ns => .cons (.int n) (dpa_ints ns)

/-! ### shapes of flat data -/
theorem canAll_ints : ∀ ns : List Int, PyData.canLayAll0 (ns.map PyData.int) = true
  | [] => by simp [PyData.canLayAll0]
  | n :: ns => by simp [PyData.canLayAll0, PyData.canLay0, canAll_ints ns]
theorem depthAll_ints : ∀ ns : List Int, PyData.depthAll (ns.map PyData.int) ≤ 1
  | [] => by simp [PyData.depthAll]
  | n :: ns => by
    have := depthAll_ints ns
    simp only [List.map_cons, PyData.depthAll, PyData.depth]
    exact Nat.max_le.mpr ⟨Nat.zero_le _, this⟩
theorem shaped_ints (ns : List Int) : SeqAt.shaped (.list (ns.map PyData.int)) = true := by
  have h1 := canAll_ints ns
  have h2 := depthAll_ints ns
  unfold SeqAt.shaped
  simp only [PyData.canLay0, PyData.depth, Bool.and_eq_true, decide_eq_true_eq]
  exact ⟨h1, decide_eq_true (by omega)⟩
theorem eqv_nil_ints (ns : List Int) : PyData.eqv (.list (ns.map PyData.int)) (.list []) = ns.isEmpty := by
  cases ns <;> simp [PyData.eqv, PyData.eqvAll]

/-! ### the law's box: a dict with a list and two ints, and nothing of it in H0 -/
def boxKv (g : Addr) (st ct : Int) : List (Key × V) := [(Sum.inr "great", .ref g), (Sum.inr "stirred", .int st), (Sum.inr "count", .int ct)]
structure Bs (H0 H : Hp) (b g : Addr) : Prop where
  sub : Same H0 H
  nb : H0 b = none
  ng : H0 g = none
  ls : ∃ ms : List Int, H g = some (.lst (ms.map V.int)) ∧ ms.length ≤ 63
  dc : ∃ st ct : Int, H b = some (.dK (boxKv g st ct))
namespace Bs
variable {H0 H H1 : Hp} {b g p : Addr} {o u : HO} {K : PySem.W.Frag}
theorem bg (B : Bs H0 H b g) : b ≠ g := by
  obtain ⟨ms, h1, _⟩ := B.ls
  obtain ⟨st, ct, h2⟩ := B.dc
  exact ne_of h2 h1 (fun z => nomatch z)
theorem pb (B : Bs H0 H b g) (n : H p = none) : p ≠ b := by
  obtain ⟨st, ct, h2⟩ := B.dc
  exact (ne_of_none h2 n).symm
theorem pg (B : Bs H0 H b g) (n : H p = none) : p ≠ g := by
  obtain ⟨ms, h2, _⟩ := B.ls
  exact (ne_of_none h2 n).symm
/-- the heap grows by what H0 does not know -/
theorem more (B : Bs H0 H b g) (s : Same H H1) : Bs H0 H1 b g := by
  obtain ⟨ms, h1, h2⟩ := B.ls
  obtain ⟨st, ct, h3⟩ := B.dc
  exact ⟨B.sub.trans s, B.nb, B.ng, ⟨ms, s _ _ h1, h2⟩, ⟨st, ct, s _ _ h3⟩⟩
/-- a new object, known to H0 from now on -/
theorem new (B : Bs H0 H b g) (n : H p = none) : Bs (upd H0 p o) (upd H p o) b g := by
  have n0 := B.sub.free n
  have B1 := B.more (same_new (o := o) n)
  refine ⟨?_, by rw [upd_ne (B.pb n).symm]; exact B.nb, by rw [upd_ne (B.pg n).symm]; exact B.ng, B1.ls, B1.dc⟩
  intro c x e
  by_cases h : c = p
  · subst h
    rw [upd_same] at e ⊢
    exact e
  · rw [upd_ne h] at e ⊢
    exact B.sub c x e
/-- what came behind a call, known to H0 from now on -/
theorem keep (B : Bs H0 H b g) (s : Same H H1) (n : H p = none) (e : H1 p = some o) : Bs (upd H0 p o) H1 b g := by
  have B1 := B.more s
  refine ⟨?_, by rw [upd_ne (B.pb n).symm]; exact B.nb, by rw [upd_ne (B.pg n).symm]; exact B.ng, B1.ls, B1.dc⟩
  intro c x h
  by_cases hc : c = p
  · subst hc
    rw [upd_same] at h
    cases h
    exact e
  · rw [upd_ne hc] at h
    exact B1.sub c x h
/-- an object that H0 knows is changed -/
theorem put (B : Bs H0 H b g) (e : H0 p = some u) : Bs (upd H0 p o) (upd H p o) b g := by
  have pb : p ≠ b := ne_of_none e B.nb
  have pg : p ≠ g := ne_of_none e B.ng
  obtain ⟨ms, h1, h2⟩ := B.ls
  obtain ⟨st, ct, h3⟩ := B.dc
  refine ⟨?_, by rw [upd_ne pb.symm]; exact B.nb, by rw [upd_ne pg.symm]; exact B.ng, ⟨ms, by rw [upd_ne pg.symm]; exact h1, h2⟩, ⟨st, ct, by rw [upd_ne pb.symm]; exact h3⟩⟩
  intro c x h
  by_cases hc : c = p
  · subst hc
    rw [upd_same] at h ⊢
    exact h
  · rw [upd_ne hc] at h ⊢
    exact B.sub c x h
/-- less is known -/
theorem less {H2 : Hp} (B : Bs H0 H b g) (s : Same H2 H0) : Bs H2 H b g := ⟨s.trans B.sub, s.free B.nb, s.free B.ng, B.ls, B.dc⟩
end Bs
theorem key_s {x : Str} {kvs : List (Key × V)} {H : Hp} {a : Addr} {v : V} (h : H a = some (.dK kvs)) (e : valV kvs (Sum.inr x) = some v) : DGet H a (.str x) (some v) := by
  have q := DGet.k (k := Sum.inr x) h
  rw [e] at q
  exact q

theorem ixN_zero (n : Nat) : ixN (n + 1) 0 = some 0 := by
  unfold ixN
  rw [if_pos (by decide), if_pos (by omega)] <;> rfl
theorem seqIx_zero (n : Nat) : seqIndex? 0 (n + 1) = some 0 := PySem.StrLaws.seqIndex_nonneg (by decide) (by omega)

/-! ### what the law's own draws promise -/
def Small (m : Int) : Prop := 0 < m ∧ m.natAbs.log2 < 9000
theorem small_of {m : Int} (h0 : 0 < m) (h1 : m < 2 ^ 60) : Small m := ⟨h0, Nat.lt_trans (PySem.Flt.log2_lt_of (k := 60) (by decide) (by omega)) (by decide)⟩
def sp__law_draw (_ : PySem.W.Frag) : Sp := fun vs H Q _ => ∃ (H0 : Hp) (b g : Addr) (m : Int), vs = [.ref b, .int m] ∧ Bs H0 H b g ∧ Small m ∧ ∀ (r : Int) (H' : Hp), 0 ≤ r → r < m → Bs H0 H' b g → Q (.int r) H'
/-- the list given stands at a; any of its items comes back -/
def sp__law_pick (K : PySem.W.Frag) : Sp := fun vs H Q _ => ∃ (H0 : Hp) (b g a : Addr) (xs : List V), vs = [.ref b, .ref a] ∧ Bs H0 H b g ∧ (SqL K H0 a xs ∨ SqT K H0 a xs) ∧ xs ≠ [] ∧ xs.length ≤ 100000 ∧
  ∀ (i : Nat) (x : V) (H' : Hp), xs[i]? = some x → Bs H0 H' b g → Q x H'
def sp__law_great (_ : PySem.W.Frag) : Sp := fun vs H Q _ => ∃ (H0 : Hp) (b g : Addr) (m : Int), vs = [.ref b, .int m] ∧ Bs H0 H b g ∧ 0 ≤ m ∧ m ≤ 40 ∧ ∀ (r : Int) (H' : Hp), 0 ≤ r → r < 1000000 ^ m.toNat → Bs H0 H' b g → Q (.int r) H'
/-- some number -/
def IsNum (n : Int) : Prop := -(10 ^ 60) ≤ n ∧ n ≤ 10 ^ 60
def sp__law_number (_ : PySem.W.Frag) : Sp := fun vs H Q _ => ∃ (H0 : Hp) (b g : Addr), vs = [.ref b] ∧ Bs H0 H b g ∧ ∀ (r : Int) (H' : Hp), IsNum r → Bs H0 H' b g → Q (.int r) H'
/-- the moduli of some machine -/
structure IsMach (ns : List Int) : Prop where
  one : 1 ≤ ns.length
  ten : ns.length ≤ 10
  mod : ∀ n ∈ ns, 2 ≤ n ∧ n ≤ 1000000
def sp__law_machine (_ : PySem.W.Frag) : Sp := fun vs H Q _ => ∃ (H0 : Hp) (b g : Addr), vs = [.ref b] ∧ Bs H0 H b g ∧ ∀ (ns : List Int) (p : Addr) (H' : Hp), IsMach ns → H0 p = none → H' p = some (.tup (ns.map V.int)) → p ≠ b → p ≠ g → Bs H0 H' b g → Q (.ref p) H'
def sp__law_box (K : PySem.W.Frag) : Sp := fun vs H Q _ => ∃ (a : Addr) (ns : List Int), vs = [.ref a] ∧ SqL K H a (ns.map V.int) ∧ ns.length ≤ 63 ∧ ∀ (b g : Addr) (H' : Hp), Bs H H' b g → Q (.ref b) H'
def sp__law_rest (_ : PySem.W.Frag) : Sp := fun vs H Q _ => ∃ (n m : Int), vs = [.int n, .int m] ∧ 0 < m ∧ m < 2 ^ 60 ∧ Q (.int (n % m)) H
def sp_law (K : PySem.W.Frag) : Sp := fun vs H Q _ => ∃ (a : Addr) (ns : List Int), vs = [.ref a] ∧ SqL K H a (ns.map V.int) ∧ ns.length ≤ 63 ∧ ∀ H', Q (.bl true) H'
end Sx
namespace Sx
open PySem PySem.Spec PyProof.Rows L2

/-! ### t * 1 is t itself -/
theorem tuple_mul1 (l : Addr) (items : Array Value) (n : Nat) (dd : Option Addr) (sl : Array (Option Value)) (u : Tok) :
    Meets (Builtin.«tuple.__mul__» ⟨[.ref l, .int 1 u], []⟩) (fun _ R s => s.heap.get? l = some { cls := .type "tuple", dict := dd, data := .seq items n, slots := sl } ∧ R (.ok (.ret (.ref l))) s) :=
  .of_wp fun prog w A R s h => by
    obtain ⟨hp, g, d, tk, os⟩ := s
    obtain ⟨hl, h⟩ := h
    have f1 := AutoSeq1.idx_int
    have c1 : (items.isEmpty || (1 : Int) == 1) = true := by simp
    wp_walk using wpAny_loadPart' hl
    repeat (first
      | (refine wpAny_ite_true (decide_eq_true (by rw [c1])) ?_; wp_walk using wpAny_loadPart' hl)
      | (refine wpAny_ite_false (by decide) ?_; wp_walk using wpAny_loadPart' hl))
    exact ⟨_, rfl, h⟩
def rRep1 (K : PySem.W.Frag) : R2 := fun x y H Q => ∃ l xs, x = .ref l ∧ y = .int 1 ∧ SqT K H l xs ∧ Q (.ref l) H
theorem op_rep1 {X : Cx} : OpR X (binaryOp .Mult) (rRep1 X.K) := by
  intro pins s σ H x y v u Q I rx ry h
  obtain ⟨l, xs, rfl, rfl, hT, q⟩ := h
  obtain rfl : v = Value.ref l := rx
  obtain ⟨t, rfl⟩ := ry
  obtain ⟨its, r, ⟨⟨cls, dd, data, sl⟩, ho, hc, n, hd⟩, hs⟩ := I.tuple hT
  simp only at hc hd
  subst hc hd
  exact wpAny_binaryOp_repeat_ref (T := "tuple") (U := "int") (by decide) ⟨_, ho, rfl⟩ (fun s' => typeIs_int s' 1 t) noFill_tuple_mul F.fills_int_mul F.slot_int_rmul repeat_tuple F.slot_int_index.lookup
    (call_meets F.slot_int_rmul (typeIs_int s 1 t) F.entry_int_rmul (F.args_int_rmul_2 _ _) (int_rmul_tuple 1 t l its.toArray n dd sl)
      ⟨ho, rfl, ⟨_, ho, rfl⟩, call_meets F.slot_tuple_mul ⟨_, ho, rfl⟩ F.entry_tuple_mul (F.args_tuple_mul_2 _ _) (tuple_mul1 l its.toArray n dd sl t) ⟨ho, ⟨.ref l, H, I, rfl, q⟩⟩⟩)
/-- t * k, 1 ≤ k -/
def rRepAny (K : PySem.W.Frag) : R2 := fun x y H Q => rRepT K x y H Q ∨ rRep1 K x y H Q
theorem op_repAny {X : Cx} : OpR X (binaryOp .Mult) (rRepAny X.K) := OpR.or op_repT op_rep1

/-! ### a word between an expression and what follows -/
def tCutE (t : TE) : TE := fun σ H Q => ∃ M : V → Hp → Prop, t σ H M ∧ ∀ v H', M v H' → Q v H'
theorem pe_cut {X : Cx} {e : Expr} {t : TE} (h : PE X e t) : PE X e (tCutE t) := by
  refine ⟨fun pins s σ H Q I q => ?_⟩
  obtain ⟨M, q1, q2⟩ := q
  exact thn (h.run pins s σ H M I q1) fun u s1 ⟨v, H1, I1, r, m⟩ => ⟨v, H1, I1, r, q2 v H1 m⟩

theorem pow_mono {n m : Nat} (h : n ≤ m) : (1000000 : Int) ^ n ≤ 1000000 ^ m := by
  have e : ∀ k : Nat, (1000000 : Int) ^ k = ((1000000 ^ k : Nat) : Int) := fun k => (Int.natCast_pow 1000000 k).symm
  rw [e, e]
  exact Int.ofNat_le.mpr (Nat.pow_le_pow_right (by decide) h)

/-! ### comprehensions whose items are drawn, one int each -/
section
variable {H0 H1 : Hp} {b g D : Addr}
/-- over range(n): each item an int with the property R -/
theorem lc_drawn {n j : Nat} {te : TE} {vs : List Nat} {σ : L2.St} {Qd : Hp → Prop} (R : Int → Prop) (B : Bs H0 H1 b g) (hD : H1 D = none) (hn : n ≤ 100000) (hw : ∀ x, wipe ((wipe σ vs).set j (some x)) vs = wipe σ vs)
    (he : ∀ (i : Nat) (H2 H3 : Hp) (Q : VK), i < n → Same H0 H2 → Bs H2 H3 b g → (∀ (m : Int) (H4 : Hp), R m → Bs H2 H4 b g → Q (.int m) H4) → te ((wipe σ vs).set j (some (.int (0 + (i : Int))))) H3 Q)
    (hd : ∀ (ms : List Int) (H3 : Hp), ms.length = n → (∀ m ∈ ms, R m) → Bs (upd H0 D (.lst (ms.map V.int))) H3 b g → Qd H3) :
    ∃ W : Nat → Nat → Hp → Prop, (∃ m, W 0 m (upd H1 D (.lst []))) ∧ ∀ i m H, W i m H →
      ((Itr 0 n).stop i H ∧ Qd H) ∨ ((Itr 0 n).go i H ∧ ∃ Nx : Hp → Prop, (∀ H', Nx H' → ∃ m', m' < m ∧ W (i + 1) m' H') ∧ ∀ x H', (Itr 0 n).yld i H x H' → gName j x (wipe σ vs) H' fun σ2 H2 => wipe σ2 vs = wipe σ vs ∧ tYes σ2 H2 fun b H3 =>
        if b = true then te σ2 H3 fun y H4 => ∃ acc, H4 D = some (.lst acc) ∧ acc.length < sizeLine ∧ Nx (upd H4 D (.lst (acc ++ [y]))) else Nx H3) := by
  have n0 : H0 D = none := B.sub.free hD
  have s0 : ∀ o, Same H0 (upd H0 D o) := fun o => same_new n0
  refine lc_range (lo := 0) (n := n) (fun i H => ∃ ms : List Int, ms.length = i ∧ (∀ m ∈ ms, R m) ∧ Bs (upd H0 D (.lst (ms.map V.int))) H b g) ⟨[], rfl, (fun _ z => nomatch z), B.new hD⟩ ?_ ?_
  · rintro i H hi ⟨ms, hl, hr, B3⟩
    refine ⟨hw _, ?_⟩
    unfold tYes
    dsimp only
    refine iteT (he i (upd H0 D (.lst (ms.map V.int))) H _ hi (s0 _) B3 fun m H4 hm B4 => ?_)
    refine ⟨ms.map V.int, B4.sub _ _ upd_same, ?_, ms ++ [m], ?_, ?_, ?_⟩
    · rw [List.length_map, hl]
      exact Nat.lt_of_lt_of_le hi (Nat.le_trans hn (by decide))
    · rw [List.length_append, hl, List.length_singleton]
    · intro x hx
      rcases List.mem_append.mp hx with h | h
      · exact hr x h
      · rw [List.mem_singleton.mp h]
        exact hm
    · have B5 := B4.put (o := .lst ((ms ++ [m]).map V.int)) upd_same
      rw [upd_upd] at B5
      rw [List.map_append] at B5 ⊢
      exact B5
  · rintro H ⟨ms, hl, hr, B3⟩
    exact hd ms H hl hr B3
end
/-! ### what the program's defs promise -/
def rests (ns : List Int) (n : Int) : List Int := ns.map fun m => n % m
def sp_rests_of (K : PySem.W.Frag) : Sp := fun vs H Q _ => ∃ (t : Addr) (ns : List Int) (n : Int), vs = [.ref t, .int n] ∧ SqT K H t (ns.map V.int) ∧ IsMach ns ∧
  ∀ (p : Addr) (H' : Hp), Same H H' → H p = none → H' p = some (.tup ((rests ns n).map V.int)) → Q (.ref p) H'
end Sx
namespace Sx
open PySem PySem.Spec PyProof.Rows L2

/-! ### enumerate of a tuple -/
section
variable {prog : Program} {w : World} {A : Around} {E : Value → Shared → Prop} {s : Shared}
set_option maxHeartbeats 1000000 in
theorem meets_enum_one {v : Value} {o : Obj} {H : Heap → Prop} (B : Begins v o H) :
    Meets (Builtin.«enumerate.__new__» ⟨[.type "enumerate", v], []⟩) (fun _ R s => H s.heap ∧
      R (.ok (.ret (.ref (s.heap.push o).objs.size))) { s with heap := (s.heap.push o).push { cls := .type "enumerate", data := .fields #[.none, .bool false, .ref s.heap.objs.size, rawInt 0, .none, .none] } }) :=
  .of_wp fun prog w A R s h => by
    obtain ⟨hp, g, d, tk, os⟩ := s
    obtain ⟨h1, h⟩ := h
    have hsub := sub_enumerate
    have q1 : ∀ {A' : Around} {E Q : Value → Shared → Prop}, Q (.ref hp.objs.size) ⟨hp.push o, g, d, tk, os⟩ → wpAny (model prog w) A' (pyIter v) Q E ⟨hp, g, d, tk, os⟩ :=
      fun q => B.iter prog w _ _ ⟨hp, g, d, tk, os⟩ _ h1 q
    wp_walk using q1
    refine wpAny_stack_any fun st => wpAny_pure ?_
    split
    · rename_i c _ _ _ _ _
      cases (c == Value.type "enumerate")
      all_goals
        wp_walk using q1
        exact ⟨_, rfl, h⟩
    · wp_walk using q1
      exact ⟨_, rfl, h⟩
theorem call_enum_one {v : Value} {o : Obj} {H : Heap → Prop} {Q : Value → Shared → Prop} (B : Begins v o H) (h1 : H s.heap)
    (h : ∀ h1 : Heap, IsEnum h1 (s.heap.objs.size + 1) s.heap.objs.size 0 .none → h1.get? s.heap.objs.size = some o → h1.objs.size = s.heap.objs.size + 2 →
      (∀ b o, s.heap.get? b = some o → h1.get? b = some o) → Q (.ref (s.heap.objs.size + 1)) { s with heap := h1 }) : wpAny (model prog w) A (call (.type "enumerate") [v]) Q E s := by
  refine callType_new F.called_enumerate (by decide) (F.typeCall_enumerate_1 _) (F.newCall_enumerate_1 _) (fun obj => F.args_object_init_2 obj _) F.entry_enumerate_new (meets_enum_one B) ⟨h1, ?_⟩
  have hz : (s.heap.push o).objs.size = s.heap.objs.size + 1 := Heap.size_push ..
  show _ ∧ _
  rw [hz]
  have hnew : IsEnum ((s.heap.push o).push { cls := .type "enumerate", data := .fields #[.none, .bool false, .ref s.heap.objs.size, rawInt 0, .none, .none] }) (s.heap.objs.size + 1) s.heap.objs.size 0 .none := by
    have q := Heap.get?_push_size (s.heap.push o) (o := { cls := .type "enumerate", data := .fields #[.none, .bool false, .ref s.heap.objs.size, rawInt 0, .none, .none] }) rfl
    rw [hz] at q
    exact q
  exact ⟨⟨_, hnew, rfl⟩, h _ hnew (Heap.get?_push_of_some _ (Heap.get?_push_size _ B.free)) (by rw [Heap.size_push, hz]) (fun b o x => Heap.get?_push_of_some _ (Heap.get?_push_of_some _ x))⟩
end
/-- the tuple at a, each item in a new pair with its place -/
def IteT (K : PySem.W.Frag) (a : Addr) : It where
  go := fun i H => ∃ (xs : List V) (x : V), SqT K H a xs ∧ xs[i]? = some x
  yld := fun i H v H1 => ∃ T x, v = .ref T ∧ H T = none ∧ H1 = upd H T (.tup [.int (i : Nat), x]) ∧ ∀ xs, SqT K H a xs → xs[i]? = some x
  stop := fun i H => ∃ xs : List V, SqT K H a xs ∧ xs.length ≤ i
theorem turn_enumT {P : Program} {w : World} {K : PySem.W.Frag} {elts : List Expr} {kk : Nat} {tpos : Pos} (a e it : Addr) :
    Turn P w K (.Tuple elts kk tpos) (IteT K a) [e, it] e (fun i h => (∃ old, IsEnum h e it ((i : Nat) : Int) old) ∧ h.IsTupleIter it a i ∧ e ≠ it ∧ e ≠ a ∧ a ≠ it) where
  mem := List.mem_cons_self
  obj := by
    rintro i h ⟨⟨old, he⟩, ⟨o, ho, hc, hd⟩, _⟩ b hb
    rcases List.mem_cons.mp hb with z | z
    · rw [z]
      exact ⟨_, he, fun v q => nomatch q⟩
    · rw [List.mem_singleton.mp z]
      refine ⟨o, ho, fun v q => ?_⟩
      rw [hd] at q
      cases q
  keep := by
    rintro i h h' ⟨⟨old, he⟩, hi, ne⟩ k
    exact ⟨⟨old, k e (by simp) _ he⟩, hi.at fun o q => k it (by simp) o q, ne⟩
  item := by
    intro X hP hw hK hc i pins s σ H E I hf st hg
    subst hP hw hK
    obtain ⟨⟨old, he⟩, hit, n1, n2, n3⟩ := st
    obtain ⟨xs, x, hq, hx⟩ := hg
    obtain ⟨its, rv, p, hz⟩ := I.tuple hq
    obtain ⟨u, hu, ru⟩ := rv.get hx
    have hel : e < s.heap.objs.size := Heap.lt_size he
    have hil : it < s.heap.objs.size := by
      obtain ⟨_, q, _⟩ := hit
      exact Heap.lt_size q
    have hlt : i < its.toArray.size := by
      have := (List.getElem?_eq_some_iff.mp hu).1
      simpa using this
    refine wpAny_pyNext_enum_itemC (Draws.tuple (A := X.A.in1) (I.ok.hd hc) it a n3 its.toArray) he ⟨hit, p⟩ hlt n1 (by simp [n1, n2]) fun y h' tk hy ho hs' hT hsz hk => ?_
    obtain rfl : y = u := by
      have hu' : its.toArray[i]? = some u := by simpa using hu
      exact Option.some.inj (hy.symm.trans hu')
    refine ⟨_, rfl, wpAny_letOwnedTupleGo_enum (s := { s with heap := h', toks := tk + 1 }) ho fun h2 he' sb => ?_⟩
    have hT2 : h2.get? s.heap.objs.size = some { cls := .type "tuple", data := .seq #[.int i tk, y] } := (sb.2 _ (Nat.ne_of_gt hel)).trans hT
    have new : ObjOk X.prog X.w (upd H s.heap.objs.size (.tup [.int (i : Nat), x])) h2 s.heap.objs.size (.tup [.int (i : Nat), x]) :=
      ⟨(show 2 ≤ sizeLine by decide), [.int i tk, y], .cons ⟨_, rfl⟩ (.cons ru .nil), ⟨_, hT2, rfl, _, rfl⟩⟩
    have I1 : Inv X pins σ (upd H s.heap.objs.size (.tup [.int (i : Nat), x])) { s with heap := h2, toks := tk + 1 } :=
      I.turnedNew (ch := [e, it]) (fun b ob hb q => (sb.2 b (fun z => hb (by simp [z]))).trans (hk b ob (fun z => hb (by simp [z])) (fun z => hb (by simp [z])) q)) hf (Nat.le_refl _) new
    refine ⟨.ref s.heap.objs.size, _, I1, rfl, ⟨_, x, rfl, I.hok.fresh (Nat.le_refl _), rfl, fun ys hy => by rw [I.tuple_inj hy hq]; exact hx⟩, ⟨⟨y, ?_⟩, hs'.1.at fun o q => (sb.2 it (Ne.symm n1)).trans q, n1, n2, n3⟩, fun b hb => ?_⟩
    · rw [show ((i + 1 : Nat) : Int) = (i : Int) + 1 by omega]
      exact he'
    · have hb' : b < s.heap.objs.size := by
        rcases List.mem_cons.mp hb with z | z
        · rw [z]
          exact hel
        · rw [List.mem_singleton.mp z]
          exact hil
      rw [upd_ne (Nat.ne_of_lt hb')]
      exact (hf b hb).1
  done := by
    intro X hP hw hK hc i pins s σ H E I hf st hg
    subst hP hw hK
    obtain ⟨⟨old, he⟩, hit, n1, n2, n3⟩ := st
    obtain ⟨xs, hq, hx⟩ := hg
    obtain ⟨its, rv, p, hz⟩ := I.tuple hq
    obtain ⟨f0, f1, f2, f3, f4, f5⟩ := hf it (by simp)
    have hl := rv.length
    have hT : s.TypeIs (.ref e) "enumerate" := ⟨_, he, rfl⟩
    unfold pyNext
    refine wpAny_bind (wpAny_attempt (wpAny_callSpecial?_slot (name := Str.ofString "__next__") hT F.slot_enumerate_next
      (wpAny_call_entry F.slot_enumerate_next hT F.entry_enumerate_next ?_ (F.args_enumerate_next_1 _))))
    show wpAny _ _ (field (.ref e) 2 >>= _) _ _ _
    refine wpAny_bind (wpAny_field he rfl (x := .ref it) rfl ?_)
    refine wpAny_bind (wpAny_nextOf_tuple_end (A := X.A.in1) (I.ok.hd hc) hit p (by simp; omega) fun h' x he' hx' => ?_)
    obtain ⟨o, ho, hc'⟩ := hx'
    refine wpAny_bind (wpAny_isInstance (T := "StopIteration") (b := true) ⟨o, ho, hc'⟩ isSubtype_stop ?_)
    exact wpAny_pure ⟨rfl, I.turned (t' := s.toks) (fun b o hb q => he' b o hb q) f0 f1 f3 f4 f5⟩
  self := by
    rintro A i s Q E ⟨⟨_, he⟩, _⟩ h
    exact wpAny_pyIter_enum he h
def iEnumT (K : PySem.W.Frag) (ta : TA) : TI := fun σ H R => ta σ H fun vs H1 => ∃ a xs, vs = [.ref a] ∧ SqT K H1 a xs ∧ R (IteT K a) H1
theorem pi_enumT {X : Cx} {e : Expr} {ta : TA} {p pos tpos : Pos} {elts : List Expr} {kk : Nat} (hg : Gl X "enumerate") (hm : X.mg "enumerate" = none) (ha : PA X [e] ta) (hs : starEach [e] X.env = [(false, eval e X.env)] := by rfl) :
    PI X (.Tuple elts kk tpos) (.Call (.Name "enumerate" p) [e] [] pos) (iEnumT X.K ta) := by
  refine ⟨fun pins s σ H R I h => Call_ (ld_blt I hg hm boot_enumerate (PyProof.Rows.callWith_type1 (thn (ha.run pos pins s σ H _ I h) ?_) hs rfl))⟩
  rintro us s1 ⟨vs, H1, I1, r1, a, xs, rfl, hq, q⟩
  obtain ⟨u, rfl, rr⟩ := vals1 r1
  obtain rfl : u = Value.ref a := rr
  obtain ⟨its, rv, tp, hz⟩ := I1.tuple hq
  have hal : a < s1.heap.objs.size := tp.lt
  refine call_enum_one (begins_tuple a its.toArray) tp fun h1 he hit hsz hk => wpAny_pyIter_enum he ?_
  have I2 : Inv X pins σ H1 { s1 with heap := h1 } := I1.kept (t' := s1.toks) hk
  have n1 : s1.heap.objs.size + 1 ≠ a := Nat.ne_of_gt (Nat.lt_succ_of_lt hal)
  have n2 : a ≠ s1.heap.objs.size := Nat.ne_of_lt hal
  refine ⟨s1.heap.objs.size + 1, [s1.heap.objs.size + 1, s1.heap.objs.size], _, _, H1, rfl, I2, turn_enumT a (s1.heap.objs.size + 1) s1.heap.objs.size, ⟨⟨.none, he⟩, ⟨_, hit, rfl, rfl⟩, Nat.succ_ne_self _, n1, n2⟩, fun b hb => ?_, q⟩
  have hle : s1.heap.objs.size ≤ b := by
    rcases List.mem_cons.mp hb with z | z
    · rw [z]
      exact Nat.le_add_right _ _
    · rw [List.mem_singleton.mp z]
      exact Nat.le_refl _
  exact I1.fpOk hle (I1.hok.fresh hle)
theorem walk_enumT {K : PySem.W.Frag} {a : Addr} {xs : List V} : Walk (IteT K a) xs.length (fun H => SqT K H a xs) (YPair (fun i => some (.int (i : Nat))) (fun i => xs[i]?)) := by
  refine ⟨fun i _ hi q => ⟨xs, xs[i], q, List.getElem?_eq_getElem hi⟩, fun _ q => ⟨xs, q, Nat.le_refl _⟩, ?_⟩
  rintro i H v H1 _ q ⟨T, x, h1, h2, h3, h4⟩
  exact ⟨T, .int (i : Nat), x, h1, h2, h3, rfl, h4 xs q⟩

/-! ### comprehensions that reckon: what a turn gives hangs on its item alone -/
theorem lc_reckon {β : Type} {J : It} {n : Nat} {zs : List β} {G : Hp → Prop} {Y : Nat → Hp → V → Hp → Prop} (w : Walk J n G Y) (hzn : zs.length = n) {g : TG} {tt : TT} {te : TE} {vs : List Nat} {σ : L2.St} {H1 : Hp} {D : Addr} {Qd : Hp → Prop} (f : β → Bool) (v : β → V) (hn : zs.length ≤ 100000)
    (hD : H1 D = none) (hG : ∀ H, Same H1 H → G H)
    (hs : ∀ i z x H H2, zs[i]? = some z → Same H1 H → Y i H x H2 → Same H H2 ∧ ∃ σ2, (∀ Q : L2.St → Hp → Prop, Q σ2 H2 → g x (wipe σ vs) H2 Q) ∧ wipe σ2 vs = wipe σ vs ∧
      (∀ Q : Bool → Hp → Prop, (∀ H3, Same H2 H3 → Q (f z) H3) → tt σ2 H2 Q) ∧ (f z = true → ∀ H3 (Q : VK), Same H1 H3 → Same H2 H3 → (∀ H4, Same H3 H4 → Q (v z) H4) → te σ2 H3 Q))
    (hd : ∀ H, Same H1 H → H D = some (.lst ((zs.filter f).map v)) → Qd H) :
    ∃ W : Nat → Nat → Hp → Prop, (∃ m, W 0 m (upd H1 D (.lst []))) ∧ ∀ i m H, W i m H →
      (J.stop i H ∧ Qd H) ∨ (J.go i H ∧ ∃ Nx : Hp → Prop, (∀ H', Nx H' → ∃ m', m' < m ∧ W (i + 1) m' H') ∧ ∀ x H', J.yld i H x H' → g x (wipe σ vs) H' fun σ2 H2 => wipe σ2 vs = wipe σ vs ∧ tt σ2 H2 fun b H3 =>
        if b = true then te σ2 H3 fun y H4 => ∃ acc, H4 D = some (.lst acc) ∧ acc.length < sizeLine ∧ Nx (upd H4 D (.lst (acc ++ [y]))) else Nx H3) := by
  subst hzn
  refine lc_it w (fun i H => Same H1 H ∧ H D = some (.lst (((zs.take i).filter f).map v))) ⟨same_new hD, upd_same⟩ (fun i H _ p => hG H p.1) ?_ ?_
  · rintro i x H H2 hi ⟨s1, e1⟩ y
    have hz : zs[i]? = some zs[i] := List.getElem?_eq_getElem hi
    obtain ⟨s2, σ2, h1, h2, h3, h4⟩ := hs i zs[i] x H H2 hz s1 y
    have tk : zs.take (i + 1) = zs.take i ++ [zs[i]] := by
      rw [List.take_add_one, hz] <;> rfl
    refine h1 _ ⟨h2, h3 _ fun H3 s3 => ?_⟩
    by_cases hf : f zs[i] = true
    · rw [hf]
      refine iteT (h4 hf H3 _ ((s1.trans s2).trans s3) s3 fun H4 s4 => ?_)
      have e4 : H4 D = some (.lst (((zs.take i).filter f).map v)) := s4 _ _ (s3 _ _ (s2 _ _ e1))
      refine ⟨_, e4, ?_, ?_, ?_⟩
      · rw [List.length_map]
        have l1 := List.length_filter_le f (zs.take i)
        rw [List.length_take] at l1
        exact Nat.lt_of_lt_of_le (show _ < 100000 by omega) (by decide)
      · intro c o h
        rw [upd_ne (ne_of_none h hD)]
        exact s4 _ _ (s3 _ _ (s2 _ _ (s1 _ _ h)))
      · rw [upd_same, tk, List.filter_append, List.map_append, List.filter_cons_of_pos hf] <;> rfl
    · rw [Bool.not_eq_true] at hf
      rw [hf]
      refine iteF ⟨(s1.trans s2).trans s3, ?_⟩
      rw [tk, List.filter_append, List.filter_cons_of_neg (by rw [hf]; decide)]
      show H3 D = some (.lst (((zs.take i).filter f ++ []).map v))
      rw [List.append_nil]
      exact s3 _ _ (s2 _ _ e1)
  · rintro H ⟨s1, e1⟩
    rw [List.take_length] at e1
    exact hd H s1 e1
end Sx
namespace Sx
open PySem PySem.Spec PyProof.Rows L2

/-! ### what may be shown, by a count of its parts -/
mutual
def nod : PyData → Nat
  | .none | .bool _ | .int _ => 1
  | .str x => 1 + x.length
  | .list xs | .tuple xs => 1 + nodAll xs
  | .dict _ => 1
def nodAll : List PyData → Nat
  | [] => 0
  | x :: xs => nod x + nodAll xs
end
def big : Nat := 10 ^ 250
mutual
/-- ints below 10 ** 250, texts of plain signs, no dicts -/
def fine : PyData → Bool
  | .none | .bool _ => true
  | .int i => decide (i.natAbs < big)
  | .str x => x.cps.toList.all fun c => decide (c < 16 ^ 8)
  | .list xs | .tuple xs => fineAll xs
  | .dict kvs => kvs.isEmpty
def fineAll : List PyData → Bool
  | [] => true
  | x :: xs => fine x && fineAll xs
end
theorem big_log {i : Nat} (h : i < big) : i.log2 < 1920 := by
  have h2 : i < 2 ^ 1920 := Nat.lt_trans h (by decide +kernel)
  exact PySem.Flt.log2_lt_of (by decide) h2
theorem big_len {i : Int} (h : i.natAbs < big) : (PyData.shown (.int i)).length ≤ 251 := by
  have e := int_text_length_le10 (k := 250) (by decide) h
  show (Str.ofString (toString i)).length ≤ 251
  rw [PySem.ofString_length]
  exact e
mutual
theorem fine_show : ∀ d : PyData, fine d = true → d.showable = true ∧ d.shown.length + 3 ≤ 300 * nod d
  | .none, _ => ⟨rfl, by decide +kernel⟩
  | .bool b, _ => by
    cases b
    · exact ⟨rfl, by decide +kernel⟩
    · exact ⟨rfl, by decide +kernel⟩
  | .int i, h => by
    have h1 : i.natAbs < big := by simpa [fine] using h
    have e := big_len h1
    refine ⟨by simpa [PyData.showable] using big_log h1, ?_⟩
    show _ ≤ 300 * 1
    omega
  | .str x, h => by
    have h1 : ∀ c ∈ x.cps.toList, c < 16 ^ 8 := by
      have h' := h
      simp only [fine, List.all_eq_true, decide_eq_true_eq] at h'
      exact h'
    have e := StrLaws.reprText_len x h1
    refine ⟨rfl, ?_⟩
    simp only [PyData.shown]
    show _ ≤ 300 * (1 + x.length)
    omega
  | .list xs, h => by
    obtain ⟨h1, h2⟩ := fineAll_show xs (by simpa [fine] using h)
    have e := listText_len_le (PyData.shownAll xs)
    rw [PyData.shownAll_length] at e
    refine ⟨by simpa [PyData.showable] using h1, ?_⟩
    simp only [PyData.shown]
    show _ ≤ 300 * (1 + nodAll xs)
    omega
  | .tuple xs, h => by
    obtain ⟨h1, h2⟩ := fineAll_show xs (by simpa [fine] using h)
    have e := tupleText_len_le (PyData.shownAll xs)
    rw [PyData.shownAll_length] at e
    refine ⟨by simpa [PyData.showable] using h1, ?_⟩
    simp only [PyData.shown]
    show _ ≤ 300 * (1 + nodAll xs)
    omega
  | .dict kvs, h => by
    cases kvs with
    | nil => exact ⟨by simp [PyData.showable, PyData.showableKv], by decide +kernel⟩
    | cons _ _ => exact nomatch h
theorem fineAll_show : ∀ xs : List PyData, fineAll xs = true → PyData.showableAll xs = true ∧ ((PyData.shownAll xs).map (·.length)).sum + 3 * xs.length ≤ 300 * nodAll xs
  | [], _ => ⟨rfl, by decide⟩
  | x :: xs, h => by
    have h' : fine x = true ∧ fineAll xs = true := by simpa [fineAll] using h
    obtain ⟨a1, a2⟩ := fine_show x h'.1
    obtain ⟨b1, b2⟩ := fineAll_show xs h'.2
    refine ⟨by simp [PyData.showableAll, a1, b1], ?_⟩
    simp only [PyData.shownAll, List.map_cons, List.sum_cons, List.length_cons]
    show _ ≤ 300 * (nod x + nodAll xs)
    omega
end
mutual
theorem depth_nod : ∀ d : PyData, d.hasDict = false → d.depth ≤ nod d
  | .none, _ => Nat.zero_le _
  | .bool _, _ => Nat.zero_le _
  | .int _, _ => Nat.zero_le _
  | .str _, _ => Nat.zero_le _
  | .list xs, h => by
    have q := depthAll_nod xs (by simpa [PyData.hasDict] using h)
    show PyData.depthAll xs + 1 ≤ 1 + nodAll xs
    omega
  | .tuple xs, h => by
    have q := depthAll_nod xs (by simpa [PyData.hasDict] using h)
    show PyData.depthAll xs + 1 ≤ 1 + nodAll xs
    omega
  | .dict _, h => by simp [PyData.hasDict] at h
theorem depthAll_nod : ∀ xs : List PyData, PyData.hasDictAll xs = false → PyData.depthAll xs ≤ nodAll xs
  | [], _ => Nat.zero_le _
  | x :: xs, h => by
    have h' : x.hasDict = false ∧ PyData.hasDictAll xs = false := by simpa [PyData.hasDictAll] using h
    have a := depth_nod x h'.1
    have b := depthAll_nod xs h'.2
    show max x.depth (PyData.depthAll xs) ≤ nod x + nodAll xs
    omega
end
theorem shows_of {d : PyData} (h : fine d = true) (hn : nod d ≤ 50000) (hd : d.depth ≤ 60) : Shows d := by
  obtain ⟨a, b⟩ := fine_show d h
  refine ⟨a, ?_, hd⟩
  rw [sizeLine_eq]
  omega

/-! ### flat lists of data -/
/-- an int, or None -/
def vO : Option Int → V
  | none => .non
  | some i => .int i
def dO : Option Int → PyData
  | none => .none
  | some i => .int i
theorem dpa_opts {K : PySem.W.Frag} {H : Hp} : ∀ ws : List (Option Int), DpAll K H (ws.map vO) (ws.map dO)
  | [] => .nil
  | none :: ws => .cons .non (dpa_opts ws)
  | some i :: ws => .cons (.int i) (dpa_opts ws)
theorem nodAll_map {α : Type} {f : α → PyData} (h : ∀ x, nod (f x) = 1) : ∀ xs : List α, nodAll (xs.map f) = xs.length
  | [] => rfl
  | x :: xs => by
    show nod (f x) + nodAll (xs.map f) = xs.length + 1
    rw [h x, nodAll_map h xs]
    omega
theorem fineAll_map {α : Type} {f : α → PyData} : ∀ xs : List α, (∀ x ∈ xs, fine (f x) = true) → fineAll (xs.map f) = true
  | [], _ => rfl
  | x :: xs, h => by
    show (fine (f x) && fineAll (xs.map f)) = true
    rw [h x List.mem_cons_self, fineAll_map xs fun y hy => h y (List.mem_cons_of_mem _ hy)] <;> rfl
theorem depthAll_map {α : Type} {f : α → PyData} {k : Nat} : ∀ xs : List α, (∀ x ∈ xs, (f x).depth ≤ k) → PyData.depthAll (xs.map f) ≤ k
  | [], _ => Nat.zero_le _
  | x :: xs, h => by
    show max (f x).depth (PyData.depthAll (xs.map f)) ≤ k
    exact Nat.max_le.mpr ⟨h x List.mem_cons_self, depthAll_map xs fun y hy => h y (List.mem_cons_of_mem _ hy)⟩
theorem canAll_map {α : Type} {f : α → PyData} : ∀ xs : List α, (∀ x ∈ xs, (f x).canLay0 = true) → PyData.canLayAll0 (xs.map f) = true
  | [], _ => by simp [PyData.canLayAll0]
  | x :: xs, h => by simp [PyData.canLayAll0, h x List.mem_cons_self, canAll_map xs fun y hy => h y (List.mem_cons_of_mem _ hy)]
theorem dO_depth (o : Option Int) : (dO o).depth = 0 := by cases o <;> rfl
theorem dO_nod (o : Option Int) : nod (dO o) = 1 := by cases o <;> rfl

/-! ### what agreeing and straying tell -/
def agree (ns : List Int) (ws : List (Option Int)) (n : Int) : List Nat := (List.range ws.length).filter fun i => decide (vO (ws.getD i none) = .int ((rests ns n).getD i 0))
def stray (ns : List Int) (ws : List (Option Int)) (n : Int) : List Nat := (List.range ws.length).filter fun i => (!decide (vO (ws.getD i none) = .non)) && !decide (vO (ws.getD i none) = .int ((rests ns n).getD i 0))
def sp_lanes (r : List Int → List (Option Int) → Int → List Nat) (K : PySem.W.Frag) : Sp := fun vs H Q _ => ∃ (t p : Addr) (ns : List Int) (ws : List (Option Int)) (n : Int), vs = [.ref t, .ref p, .int n] ∧ SqT K H t (ns.map V.int) ∧ SqT K H p (ws.map vO) ∧
  IsMach ns ∧ ws.length = ns.length ∧ ∀ (l : Addr) (H' : Hp), Same H H' → H l = none → H' l = some (.tup ((r ns ws n).map fun i => V.int (i : Nat))) → Q (.ref l) H'
def sp_agreeing (K : PySem.W.Frag) : Sp := sp_lanes agree K
def sp_straying (K : PySem.W.Frag) : Sp := sp_lanes stray K
end Sx
namespace Sx
open PySem PySem.Spec PyProof.Rows L2

/-! ### zip of three tuples -/
def ItzT3 (K : PySem.W.Frag) (a b c : Addr) : It where
  go := fun i H => ∃ (xs ys zs : List V) (x y z : V), SqT K H a xs ∧ SqT K H b ys ∧ SqT K H c zs ∧ xs[i]? = some x ∧ ys[i]? = some y ∧ zs[i]? = some z
  yld := fun i H v H1 => ∃ T x y z, v = .ref T ∧ H T = none ∧ H1 = upd H T (.tup [x, y, z]) ∧ (∀ xs, SqT K H a xs → xs[i]? = some x) ∧ (∀ ys, SqT K H b ys → ys[i]? = some y) ∧ ∀ zs, SqT K H c zs → zs[i]? = some z
  stop := fun i H => ∃ n : Nat, i = n ∧ ∃ xs ys zs : List V, SqT K H a xs ∧ SqT K H b ys ∧ SqT K H c zs ∧ xs.length = n ∧ ys.length = n ∧ zs.length = n
abbrev cells3 (z TI TO i1 i2 i3 : Addr) : List Addr := [z, TI, TO, i1, i2, i3]
theorem in_cells3 {z TI TO i1 i2 i3 b : Addr} (h : b ∈ cells3 z TI TO i1 i2 i3) : b = z ∨ b = TI ∨ b = TO ∨ b = i1 ∨ b = i2 ∨ b = i3 := by simpa using h
theorem turn_zip3 {P : Program} {w : World} {K : PySem.W.Frag} {elts : List Expr} {kk : Nat} {tpos : Pos} {a b c z TI TO i1 i2 i3 : Addr} (S : ZipSep3 z TI TO i1 i2 i3 [i1, a] [i2, b] [i3, c]) (n1 : a ≠ i1) (n2 : b ≠ i2) (n3 : c ≠ i3) :
    Turn P w K (.Tuple elts kk tpos) (ItzT3 K a b c) (cells3 z TI TO i1 i2 i3) z
      (fun i h => IsZip h z TI TO .none ∧ IsTupOf3 h TI (.ref i1) (.ref i2) (.ref i3) ∧ (∃ x y u, IsTupOf3 h TO x y u) ∧ h.IsTupleIter i1 a i ∧ h.IsTupleIter i2 b i ∧ h.IsTupleIter i3 c i) where
  mem := List.mem_cons_self
  obj := by
    rintro i h ⟨hz, hTI, ⟨x, y, u, hTO⟩, ⟨o1, e1, _, d1⟩, ⟨o2, e2, _, d2⟩, ⟨o3, e3, _, d3⟩⟩ b hb
    rcases in_cells3 hb with q | q | q | q | q | q <;> subst q
    · exact ⟨_, hz, fun v q => nomatch q⟩
    · exact ⟨_, hTI, fun v q => nomatch q⟩
    · exact ⟨_, hTO, fun v q => nomatch q⟩
    · exact ⟨o1, e1, fun v q => by rw [d1] at q; cases q⟩
    · exact ⟨o2, e2, fun v q => by rw [d2] at q; cases q⟩
    · exact ⟨o3, e3, fun v q => by rw [d3] at q; cases q⟩
  keep := by
    rintro i h h' ⟨hz, hTI, ⟨x, y, u, hTO⟩, h1, h2, h3⟩ k
    exact ⟨k z (by simp) _ hz, k TI (by simp) _ hTI, ⟨x, y, u, k TO (by simp) _ hTO⟩, h1.at fun o q => k i1 (by simp) o q, h2.at fun o q => k i2 (by simp) o q, h3.at fun o q => k i3 (by simp) o q⟩
  item := by
    intro X hP hw hK hc i pins s σ H E I hf st hg
    subst hP hw hK
    obtain ⟨hz, hTI, ⟨x0, y0, z0, hTO⟩, h1, h2, h3⟩ := st
    obtain ⟨xs, ys, zs, x, y, u, qx, qy, qz, hx, hy, hu⟩ := hg
    obtain ⟨l1, r1, p1, _⟩ := I.tuple qx
    obtain ⟨l2, r2, p2, _⟩ := I.tuple qy
    obtain ⟨l3, r3, p3, _⟩ := I.tuple qz
    obtain ⟨v1, e1, rv1⟩ := r1.get hx
    obtain ⟨v2, e2, rv2⟩ := r2.get hy
    obtain ⟨v3, e3, rv3⟩ := r3.get hu
    have hh : X.A.in1.handled = none := I.ok.hd hc
    have g1 : l1.toArray[i]? = some v1 := by simpa using e1
    have g2 : l2.toArray[i]? = some v2 := by simpa using e2
    have g3 : l3.toArray[i]? = some v3 := by simpa using e3
    have t1 := (Array.getElem?_eq_some_iff.mp g1).1
    have t2 := (Array.getElem?_eq_some_iff.mp g2).1
    have t3 := (Array.getElem?_eq_some_iff.mp g3).1
    have hzl : z < s.heap.objs.size := Heap.lt_size hz
    refine wpAny_pyNext_zipD3_item S (Draws.tuple hh i1 a n1 l1.toArray) (Draws.tuple hh i2 b n2 l2.toArray) (Draws.tuple hh i3 c n3 l3.toArray) hz hTI hTO ⟨h1, p1⟩ ⟨h2, p2⟩ ⟨h3, p3⟩ t1 t2 t3 fun w1 w2 w3 h' tk y1 y2 y3 b1 b2 d1 d2 d3 hT hsz hk => ?_
    obtain rfl : w1 = v1 := Option.some.inj (y1.symm.trans g1)
    obtain rfl : w2 = v2 := Option.some.inj (y2.symm.trans g2)
    obtain rfl : w3 = v3 := Option.some.inj (y3.symm.trans g3)
    refine ⟨_, rfl, wpAny_letOwnedTupleGo_zip (s := { s with heap := h', toks := tk }) b1 fun h'' z'' sb => ?_⟩
    have hT2 : h''.get? s.heap.objs.size = some { cls := .type "tuple", data := .seq #[w1, w2, w3] } := (sb.2 _ (Nat.ne_of_gt hzl)).trans hT
    have new : ObjOk X.prog X.w (upd H s.heap.objs.size (.tup [x, y, u])) h'' s.heap.objs.size (.tup [x, y, u]) :=
      ⟨(show 3 ≤ sizeLine by decide), [w1, w2, w3], .cons rv1 (.cons rv2 (.cons rv3 .nil)), ⟨_, hT2, rfl, _, rfl⟩⟩
    have I1 : Inv X pins σ (upd H s.heap.objs.size (.tup [x, y, u])) { s with heap := h'', toks := tk } :=
      I.turnedNew (ch := cells3 z TI TO i1 i2 i3) (fun e o hb q => (sb.2 e (fun q' => hb (by simp [q']))).trans (hk e o (fun q' => hb (by simp [q'])) (fun q' => hb (by simp [q'])) (fun q' => hb (by simp [q'])) (fun q' => hb (by simp [q'])) (fun q' => hb (by simp [q'])) q)) hf (Nat.le_refl _) new
    refine ⟨.ref s.heap.objs.size, _, I1, rfl, ⟨_, x, y, u, rfl, I.hok.fresh (Nat.le_refl _), rfl, fun l hl => by rw [I.tuple_inj hl qx]; exact hx, fun l hl => by rw [I.tuple_inj hl qy]; exact hy, fun l hl => by rw [I.tuple_inj hl qz]; exact hu⟩, ⟨z'', ?_, ⟨w1, w2, w3, ?_⟩, ?_, ?_, ?_⟩, fun e hcm => ?_⟩
    · exact (sb.2 _ S.TIz).trans (hk _ _ S.TIz S.TITO S.TIi1 S.TIi2 S.TIi3 hTI)
    · exact (sb.2 _ S.TOz).trans b2
    · exact d1.1.at fun o q => (sb.2 _ (Ne.symm S.zi1)).trans q
    · exact d2.1.at fun o q => (sb.2 _ (Ne.symm S.zi2)).trans q
    · exact d3.1.at fun o q => (sb.2 _ (Ne.symm S.zi3)).trans q
    · have hlt : e < s.heap.objs.size := by
        rcases in_cells3 hcm with q | q | q | q | q | q <;> subst q
        · exact hzl
        · exact Heap.lt_size hTI
        · exact Heap.lt_size hTO
        · obtain ⟨_, q, _⟩ := h1
          exact Heap.lt_size q
        · obtain ⟨_, q, _⟩ := h2
          exact Heap.lt_size q
        · obtain ⟨_, q, _⟩ := h3
          exact Heap.lt_size q
      rw [upd_ne (Nat.ne_of_lt hlt)]
      exact (hf e hcm).1
  done := by
    intro X hP hw hK hc i pins s σ H E I hf st hg
    subst hP hw hK
    obtain ⟨hz, hTI, ⟨x0, y0, z0, hTO⟩, h1, h2, h3⟩ := st
    obtain ⟨n, rfl, xs, ys, zs, qx, qy, qz, e1, e2, e3⟩ := hg
    obtain ⟨l1, r1, p1, _⟩ := I.tuple qx
    obtain ⟨l2, r2, p2, _⟩ := I.tuple qy
    obtain ⟨l3, r3, p3, _⟩ := I.tuple qz
    have hh : X.A.in1.handled = none := I.ok.hd hc
    have f1 : i = l1.toArray.size := by rw [List.size_toArray, ← r1.length, e1]
    have f2 : i = l2.toArray.size := by rw [List.size_toArray, ← r2.length, e2]
    have f3 : i = l3.toArray.size := by rw [List.size_toArray, ← r3.length, e3]
    exact wpAny_pyNext_zipD3_end S (Draws.tuple hh i1 a n1 l1.toArray) (Draws.tuple hh i2 b n2 l2.toArray) (Draws.tuple hh i3 c n3 l3.toArray) hz hTI hTO ⟨h1, p1⟩ ⟨h2, p2⟩ ⟨h3, p3⟩ (Nat.le_of_eq f1) (Nat.le_of_eq f2) (Nat.le_of_eq f3) (.inl f1) fun h' tk hk =>
      ⟨rfl, I.turnedL (t' := tk) (ch := cells3 z TI TO i1 i2 i3) (fun e o hb q => hk e o (fun q' => hb (by simp [q'])) (fun q' => hb (by simp [q'])) (fun q' => hb (by simp [q'])) (fun q' => hb (by simp [q'])) (fun q' => hb (by simp [q'])) q) hf⟩
  self := fun A i s Q E st h => wpAny_pyIter_zip st.1 h
def iZip3T (K : PySem.W.Frag) (ta : TA) : TI := fun σ H R => ta σ H fun vs H1 => ∃ a b c xs ys zs, vs = [.ref a, .ref b, .ref c] ∧ SqT K H1 a xs ∧ SqT K H1 b ys ∧ SqT K H1 c zs ∧ R (ItzT3 K a b c) H1
theorem pi_zip3T {X : Cx} {e e2 e3 : Expr} {ta : TA} {p pos tpos : Pos} {elts : List Expr} {kk : Nat} (hg : Gl X "zip") (hm : X.mg "zip" = none) (ha : PA X [e, e2, e3] ta)
    (hs : starEach [e, e2, e3] X.env = (false, eval e X.env) :: starEach [e2, e3] X.env := by rfl) (hpl : (backTo pos (starEach [e2, e3] X.env)).any (·.1) = false := by rfl) :
    PI X (.Tuple elts kk tpos) (.Call (.Name "zip" p) [e, e2, e3] [] pos) (iZip3T X.K ta) := by
  refine ⟨fun pins s σ H R I h => Call_ (ld_blt I hg hm PyProof.Rows.boot_zip (PyProof.Rows.callWith_type1 (thn (ha.run pos pins s σ H _ I h) ?_) hs hpl))⟩
  rintro us s1 ⟨vs, H1, I1, r1, a, b, c, xs, ys, zs, rfl, qx, qy, qz, q⟩
  cases r1 with
  | cons ra r1 =>
    cases r1 with
    | cons rb r1 =>
      cases r1 with
      | cons rc r1 =>
        cases r1
        cases ra
        cases rb
        cases rc
        obtain ⟨l1, r1, p1, _⟩ := I1.tuple qx
        obtain ⟨l2, r2, p2, _⟩ := I1.tuple qy
        obtain ⟨l3, r3, p3, _⟩ := I1.tuple qz
        refine zip_begins3 (begins_tuple a l1.toArray) (begins_tuple b l2.toArray) (begins_tuple c l3.toArray) p1 p2 p3 fun h' hz hTI hTO g1 g2 g3 hsz hk => wpAny_pyIter_zip hz ?_
        have I2 : Inv X pins σ H1 { s1 with heap := h' } := I1.kept (t' := s1.toks) hk
        have lo : ∀ {t : Addr}, t < s1.heap.objs.size → ∀ b ∈ [t], b < s1.heap.objs.size := fun h b hb => by
          rw [List.mem_singleton.mp hb]
          exact h
        refine ⟨s1.heap.objs.size + 5, cells3 (s1.heap.objs.size + 5) (s1.heap.objs.size + 3) (s1.heap.objs.size + 4) s1.heap.objs.size (s1.heap.objs.size + 1) (s1.heap.objs.size + 2), _, _, H1, rfl, I2,
          turn_zip3 (zip_sep3 (lo p1.lt) (lo p2.lt) (lo p3.lt)) (Nat.ne_of_lt p1.lt) (Nat.ne_of_lt (Nat.lt_succ_of_lt p2.lt)) (Nat.ne_of_lt (Nat.lt_succ_of_lt (Nat.lt_succ_of_lt p3.lt))), ⟨hz, hTI, ⟨_, _, _, hTO⟩, ⟨_, g1, rfl, rfl⟩, ⟨_, g2, rfl, rfl⟩, ⟨_, g3, rfl, rfl⟩⟩, fun e he => ?_, q⟩
        have hle : s1.heap.objs.size ≤ e := by
          rcases in_cells3 he with q | q | q | q | q | q <;> rw [q]
          all_goals first | exact Nat.le_refl _ | exact Nat.le_add_right _ _
        exact I1.fpOk hle (I1.hok.fresh hle)
theorem walk_zip3T {K : PySem.W.Frag} {a b c : Addr} {xs ys zs : List V} {n : Nat} (h1 : xs.length = n) (h2 : ys.length = n) (h3 : zs.length = n) : Walk (ItzT3 K a b c) n (fun H => SqT K H a xs ∧ SqT K H b ys ∧ SqT K H c zs)
    (fun i H v H1 => ∃ T x y z, v = .ref T ∧ H T = none ∧ H1 = upd H T (.tup [x, y, z]) ∧ xs[i]? = some x ∧ ys[i]? = some y ∧ zs[i]? = some z) := by
  refine ⟨fun i H hi q => ⟨xs, ys, zs, xs[i], ys[i], zs[i], q.1, q.2.1, q.2.2, List.getElem?_eq_getElem (by omega), List.getElem?_eq_getElem (by omega), List.getElem?_eq_getElem (by omega)⟩, fun H q => ⟨n, rfl, xs, ys, zs, q.1, q.2.1, q.2.2, h1, h2, h3⟩, ?_⟩
  rintro i H v H1 _ q ⟨T, x, y, z, e1, e2, e3, e4, e5, e6⟩
  exact ⟨T, x, y, z, e1, e2, e3, e4 xs q.1, e5 ys q.2.1, e6 zs q.2.2⟩
def sp__law_is_split (K : PySem.W.Frag) : Sp := fun vs H Q _ => ∃ (H0 : Hp) (b g t : Addr) (ns : List Int) (n : Int), vs = [.ref b, .ref t, .int n] ∧ Bs H0 H b g ∧ SqT K H0 t (ns.map V.int) ∧ IsMach ns ∧ ∀ H', Bs H0 H' b g → Q (.bl true) H'
end Sx
namespace Sx
open PySem PySem.Spec PyProof.Rows L2

/-! ### lists of places -/
def nI (l : List Nat) : List V := l.map fun i => V.int (i : Nat)
def dI (l : List Nat) : List PyData := l.map fun i => PyData.int (i : Nat)
theorem dpa_nI {K : PySem.W.Frag} {H : Hp} : ∀ l : List Nat, DpAll K H (nI l) (dI l)
  | [] => .nil
  | i :: l => .cons (.int _) (dpa_nI l)
theorem fine_int {i : Int} (h : i.natAbs < 10 ^ 120) : fine (.int i) = true := by
  have h2 : i.natAbs < big := Nat.lt_trans h (by decide +kernel)
  simpa [fine] using h2
theorem fineAll_dI {l : List Nat} (h : ∀ i ∈ l, i < 1000000) : fineAll (dI l) = true := fineAll_map l fun i hi => fine_int (by
  have := h i hi
  show i < 10 ^ 120
  exact Nat.lt_trans this (by decide +kernel))
theorem nodAll_dI (l : List Nat) : nodAll (dI l) = l.length := nodAll_map (fun _ => rfl) l
theorem depthAll_dI (l : List Nat) : PyData.depthAll (dI l) ≤ 0 := depthAll_map l fun _ _ => Nat.le_refl 0
theorem inV_nI (i : Nat) : ∀ l : List Nat, inV (.int (i : Nat)) (nI l) = decide (i ∈ l)
  | [] => by simp [inV, nI]
  | j :: l => by
    have e := inV_nI i l
    have h : inV (.int (i : Nat)) (nI (j :: l)) = (eqV (.int (j : Nat)) (.int (i : Nat)) || inV (.int (i : Nat)) (nI l)) := rfl
    rw [h, e]
    have e2 : eqV (.int (j : Nat)) (.int (i : Nat)) = decide (i = j) := by
      by_cases q : i = j
      · subst q
        simp [eqV]
      · have q2 : ¬ ((j : Nat) : Int) = ((i : Nat) : Int) := by omega
        simp [eqV, q, q2]
    rw [e2]
    simp
theorem flat_nI (l : List Nat) : (nI l).all flatV = true := by
  unfold nI
  rw [List.all_map, List.all_eq_true]
  intro i _
  rfl

/-! ### data of two rows -/
theorem shows1 {ds : List PyData} (h : fineAll ds = true) (hn : nodAll ds ≤ 10000) (hd : PyData.depthAll ds ≤ 9) : Shows (.tuple ds) ∧ Shows (.list ds) := by
  have e1 : nod (.tuple ds) = 1 + nodAll ds := rfl
  have e2 : PyData.depth (.tuple ds) = PyData.depthAll ds + 1 := rfl
  have e3 : nod (.list ds) = 1 + nodAll ds := rfl
  have e4 : PyData.depth (.list ds) = PyData.depthAll ds + 1 := rfl
  exact ⟨shows_of h (by omega) (by omega), shows_of h (by omega) (by omega)⟩
theorem shows2 {d1 d2 : PyData} (h1 : fine d1 = true) (h2 : fine d2 = true) (n1 : nod d1 ≤ 10000) (n2 : nod d2 ≤ 10000) (e1 : d1.depth ≤ 9) (e2 : d2.depth ≤ 9) : Shows (.list [d1, d2]) := by
  refine shows_of ?_ ?_ ?_
  · show (fine d1 && (fine d2 && true)) = true
    rw [h1, h2] <;> rfl
  · show 1 + (nod d1 + (nod d2 + 0)) ≤ 50000
    omega
  · show max d1.depth (max d2.depth 0) + 1 ≤ 60
    omega
/-- a row's facts, for shows2 -/
structure Row (d : PyData) : Prop where
  f : fine d = true
  n : nod d ≤ 10000
  d : d.depth ≤ 9
theorem Row.one {d : PyData} (a : Row d) : Shows d := shows_of a.f (by have := a.n; omega) (by have := a.d; omega)
theorem Row.tup {ds : List PyData} (h : fineAll ds = true) (hn : nodAll ds ≤ 9000) (hd : PyData.depthAll ds ≤ 8) : Row (.tuple ds) :=
  ⟨h, (by show 1 + nodAll ds ≤ 10000; omega), (by show PyData.depthAll ds + 1 ≤ 9; omega)⟩
theorem Row.lst {ds : List PyData} (h : fineAll ds = true) (hn : nodAll ds ≤ 9000) (hd : PyData.depthAll ds ≤ 8) : Row (.list ds) :=
  ⟨h, (by show 1 + nodAll ds ≤ 10000; omega), (by show PyData.depthAll ds + 1 ≤ 9; omega)⟩
theorem Row.two {d1 d2 : PyData} (a : Row d1) (b : Row d2) : Shows (.list [d1, d2]) := shows2 a.f b.f a.n b.n a.d b.d
theorem Row.mach {ns : List Int} (hm : IsMach ns) : Row (.tuple (ns.map PyData.int)) := by
  refine .tup (fineAll_map ns fun n hn => fine_int ?_) ?_ (depthAll_map ns fun _ _ => Nat.zero_le _)
  · have := hm.mod n hn
    exact Nat.lt_trans (show n.natAbs < 1000001 by omega) (by decide +kernel)
  · rw [nodAll_map (fun _ => rfl)]
    have := hm.ten
    omega
theorem Row.ints {ns : List Int} (h : ∀ n ∈ ns, n.natAbs < 10 ^ 120) (hl : ns.length ≤ 9000) : Row (.tuple (ns.map PyData.int)) := by
  refine .tup (fineAll_map ns fun n hn => fine_int (h n hn)) ?_ (depthAll_map ns fun _ _ => Nat.zero_le _)
  rw [nodAll_map (fun _ => rfl)]
  exact hl
/-- a word's items -/
def IsWord (ws : List (Option Int)) : Prop := ws.length ≤ 10 ∧ ∀ r, some r ∈ ws → 0 ≤ r ∧ r < 1000000
theorem Row.word {ws : List (Option Int)} (h : IsWord ws) : Row (.tuple (ws.map dO)) := by
  refine .tup (fineAll_map ws fun o ho => ?_) ?_ (depthAll_map ws fun o _ => by rw [dO_depth]; exact Nat.zero_le _)
  · cases o with
    | none => rfl
    | some r =>
      have := h.2 r ho
      exact fine_int (Nat.lt_trans (show r.natAbs < 1000000 by omega) (by decide +kernel))
  · rw [nodAll_map dO_nod]
    have := h.1
    omega
theorem Row.places {l : List Nat} (h : ∀ i ∈ l, i < 10) (hl : l.length ≤ 10) : Row (.tuple (dI l)) := by
  refine .tup (fineAll_dI fun i hi => by have := h i hi; omega) ?_ (Nat.le_trans (depthAll_dI l) (by decide))
  rw [nodAll_dI]
  omega

/-! ### the lanes that speak, agree, stray -/
def spoke (ws : List (Option Int)) (k : Nat) : List Nat := (List.range k).filter fun i => !decide (vO (ws.getD i none) = .non)
def fitOf (ns : List Int) (ws : List (Option Int)) (n : Int) (l : List Nat) : List Nat := l.filter fun i => decide (vO (ws.getD i none) = .int (n % ns.getD i 0))
def unfitOf (l f : List Nat) : List Nat := l.filter fun i => !inV (.int (i : Nat)) (nI f)
theorem rests_at {ns : List Int} {n : Int} {i : Nat} (h : i < ns.length) : (rests ns n).getD i 0 = n % ns.getD i 0 := by
  unfold rests
  rw [List.getD_eq_getElem?_getD, List.getD_eq_getElem?_getD, List.getElem?_map, List.getElem?_eq_getElem h] <;> rfl
theorem fit_eq {ns : List Int} {ws : List (Option Int)} {n : Int} (h : ws.length = ns.length) : fitOf ns ws n (spoke ws ns.length) = agree ns ws n := by
  unfold fitOf spoke agree
  rw [List.filter_filter, h]
  refine List.filter_congr fun i hi => ?_
  rw [rests_at (List.mem_range.mp hi)]
  generalize ws.getD i none = o
  cases o <;> simp [vO]
theorem unfit_eq {ns : List Int} {ws : List (Option Int)} {n : Int} (h : ws.length = ns.length) : unfitOf (spoke ws ns.length) (agree ns ws n) = stray ns ws n := by
  unfold unfitOf spoke
  rw [List.filter_filter]
  unfold stray
  rw [h]
  refine List.filter_congr fun i hi => ?_
  rw [inV_nI]
  have e : decide (i ∈ agree ns ws n) = decide (vO (ws.getD i none) = .int ((rests ns n).getD i 0)) := by
    unfold agree
    rw [h]
    rw [Bool.eq_iff_iff]
    simp only [decide_eq_true_eq, List.mem_filter]
    exact ⟨fun q => q.2, fun q => ⟨hi, q⟩⟩
  rw [e, Bool.and_comm]
theorem lanes_small {p : Nat → Bool} {k : Nat} (hk : k ≤ 10) : (∀ i ∈ (List.range k).filter p, i < 10) ∧ ((List.range k).filter p).length ≤ 10 := by
  constructor
  · intro i hi
    have := List.mem_range.mp (List.mem_filter.mp hi).1
    omega
  · have := List.length_filter_le p (List.range k)
    rw [List.length_range] at this
    omega
theorem getD_some {α : Type} {xs : List α} {i : Nat} (d : α) (h : i < xs.length) : xs[i]? = some (xs.getD i d) := by
  rw [List.getD_eq_getElem?_getD, List.getElem?_eq_getElem h] <;> rfl
theorem walk_range0 {n : Nat} : Walk (Itr 0 n) n (fun _ => True) (fun i H x H1 => H1 = H ∧ x = .int (i : Nat)) := by
  refine Walk.mono walk_range (fun _ h => h) ?_
  rintro i H x H1 _ _ ⟨rfl, rfl⟩
  exact ⟨rfl, congrArg V.int (Int.zero_add _)⟩
theorem range_at {k i z : Nat} (h : (List.range k)[i]? = some z) : i = z ∧ i < k := by
  have hi := (List.getElem?_eq_some_iff.mp h).1
  rw [List.length_range] at hi
  rw [List.getElem?_range hi] at h
  exact ⟨Option.some.inj h, hi⟩

/-- what stands in H and is no part of the box, known to H0 from now on -/
theorem Bs.own {H0 H : Hp} {b g p : Addr} {o : HO} (B : Bs H0 H b g) (e : H p = some o) (pb : p ≠ b) (pg : p ≠ g) : Bs (upd H0 p o) H b g := by
  refine ⟨?_, by rw [upd_ne pb.symm]; exact B.nb, by rw [upd_ne pg.symm]; exact B.ng, B.ls, B.dc⟩
  intro c x h
  by_cases hc : c = p
  · subst hc
    rw [upd_same] at h
    cases h
    exact e
  · rw [upd_ne hc] at h
    exact B.sub c x h

/-! ### equal rows of ints -/
theorem eqvAll_ints : ∀ xs ys : List Int, PyData.eqvAll (xs.map PyData.int) (ys.map PyData.int) = decide (xs = ys)
  | [], [] => by simp [PyData.eqvAll]
  | [], _ :: _ => by simp [PyData.eqvAll]
  | _ :: _, [] => by simp [PyData.eqvAll]
  | x :: xs, y :: ys => by
    have e := eqvAll_ints xs ys
    simp only [List.map_cons, PyData.eqvAll, PyData.eqv, e]
    by_cases h : x = y <;> simp [h]
theorem eqv_tup_ints (xs ys : List Int) : PyData.eqv (.tuple (xs.map PyData.int)) (.tuple (ys.map PyData.int)) = decide (xs = ys) := by
  simp only [PyData.eqv, eqvAll_ints]
theorem shaped_tup_ints (ns : List Int) : SeqAt.shaped (.tuple (ns.map PyData.int)) = true := shaped_ints ns
theorem rests_alike (ns : List Int) (a b : Int) : decide (rests ns a = rests ns b) = (ns.filter fun m => !decide (V.int ((b - a) % m) = V.int 0)).isEmpty := by
  rw [Bool.eq_iff_iff, decide_eq_true_eq, List.isEmpty_iff, List.filter_eq_nil_iff]
  have key : ∀ m : Int, (a % m = b % m) ↔ (b - a) % m = 0 := by
    intro m
    constructor
    · intro h
      exact Int.emod_eq_zero_of_dvd (Int.dvd_of_emod_eq_zero (Int.emod_eq_emod_iff_emod_sub_eq_zero.mp h.symm))
    · intro h
      exact (Int.emod_eq_emod_iff_emod_sub_eq_zero.mpr h).symm
  unfold rests
  constructor
  · intro h m hm
    have h2 := List.map_inj_left.mp h m hm
    simp [(key m).mp h2]
  · intro h
    refine List.map_inj_left.mpr fun m hm => (key m).mpr ?_
    have := h m hm
    simpa using this
theorem rSlA_of {K : PySem.W.Frag} {lo hi : Option Int} {H : Hp} {Q : VK} {a : Addr} {xs : List V} (h : SqT K H a xs) (k : ∀ (o : Addr) (H1 : Hp), SqT K H1 o (cutV xs lo hi) → Same H H1 → Q (.ref o) H1) : rSlA K (.ref a) lo hi H Q := by
  refine ⟨a, xs, rfl, h, fun hw => k a H ?_ (Same.refl H), fun _ p np => k p _ (.of upd_same) (same_new np)⟩
  have e : cutV xs lo hi = xs := by
    unfold cutV
    rw [hw.1, hw.2, List.drop_zero, Nat.sub_zero, List.take_length]
  rw [e]
  exact h
theorem mem_cutV {xs : List V} {lo hi : Option Int} {x : V} (h : x ∈ cutV xs lo hi) : x ∈ xs := List.mem_of_mem_drop (List.mem_of_mem_take h)
def op3 (j : Nat) (a b : Int) : Int := match j with | 0 => a + b | 1 => a - b | _ => a * b
theorem op3_rests (ns : List Int) (j : Nat) (a b : Int) : rests ns (op3 j a b) = ns.map fun m => op3 j (a % m) (b % m) % m := by
  unfold rests
  refine List.map_congr_left fun m _ => ?_
  match j with
  | 0 => exact Int.add_emod a b m
  | 1 => exact Int.sub_emod a b m
  | _ + 2 => exact Int.mul_emod a b m
theorem op3_at (j : Nat) (hj : j < 3) (a b : Int) : [V.int (a + b), V.int (a - b), V.int (a * b)][j]? = some (V.int (op3 j a b)) := by
  match j, hj with
  | 0, _ => rfl
  | 1, _ => rfl
  | 2, _ => rfl
end Sx
namespace Sx
open PySem PySem.Spec PyProof.Rows L2

/-! ### min, max of a tuple of ints -/
theorem alike_ints (ns : List Int) : PySem.W.AlikeAll (ns.map PyData.int) := by
  constructor
  · intro x hx y hy
    obtain ⟨a, _, rfl⟩ := List.mem_map.mp hx
    obtain ⟨b, _, rfl⟩ := List.mem_map.mp hy
    rfl
  · intro x hx
    obtain ⟨a, _, rfl⟩ := List.mem_map.mp hx
    exact fun z => nomatch z
def rMinT (K : PySem.W.Frag) : List V → Hp → VK → Prop := fun vs H Q => ∃ (a : Addr) (n : Int) (ns : List Int), vs = [V.ref a] ∧ SqT K H a ((n :: ns).map V.int) ∧ Q (.int (ns.foldl min n)) H
def rMaxT (K : PySem.W.Frag) : List V → Hp → VK → Prop := fun vs H Q => ∃ (a : Addr) (n : Int) (ns : List Int), vs = [V.ref a] ∧ SqT K H a ((n :: ns).map V.int) ∧ Q (.int (ns.foldl max n)) H
theorem cr_minT {X : Cx} (hc : X.calm = true) (hu : X.A.units + 64 < cLine) : CallR X (.builtin "min") (rMinT X.K) := by
  intro pins s σ H vs us Q I r h
  obtain ⟨a, n, ns, rfl, hs, q⟩ := h
  obtain ⟨its, rv, tp, _⟩ := I.tuple hs
  obtain ⟨as, rd⟩ := Dp.readsAll I ((n :: ns).map PyData.int) _ its (dpa_ints (n :: ns)) rv
  rw [Vals.ref1 r]
  have hd := depthAll_ints (n :: ns)
  refine PySem.W.min_tuple_data (x := .int n) (xs := ns.map PyData.int) (I.ok.hd hc) (show s.heap.IsTuple a its.toArray from tp) (by simpa using rd) (alike_ints (n :: ns)) (by
    show X.A.units + 1 + PyData.depthAll ((n :: ns).map PyData.int) < cLine
    omega) fun i v h' tk bs hv hr hk => ?_
  rw [PySem.W.minD_ints] at hr
  cases hr with
  | int _ t => exact ⟨.int (ns.foldl min n), H, I.kept hk, ⟨_, rfl⟩, q⟩
theorem cr_maxT {X : Cx} (hc : X.calm = true) (hu : X.A.units + 64 < cLine) : CallR X (.builtin "max") (rMaxT X.K) := by
  intro pins s σ H vs us Q I r h
  obtain ⟨a, n, ns, rfl, hs, q⟩ := h
  obtain ⟨its, rv, tp, _⟩ := I.tuple hs
  obtain ⟨as, rd⟩ := Dp.readsAll I ((n :: ns).map PyData.int) _ its (dpa_ints (n :: ns)) rv
  rw [Vals.ref1 r]
  have hd := depthAll_ints (n :: ns)
  refine PySem.W.max_tuple_data (x := .int n) (xs := ns.map PyData.int) (I.ok.hd hc) (show s.heap.IsTuple a its.toArray from tp) (by simpa using rd) (alike_ints (n :: ns)) (by
    show X.A.units + 1 + PyData.depthAll ((n :: ns).map PyData.int) < cLine
    omega) fun i v h' tk bs hv hr hk => ?_
  rw [PySem.W.maxD_ints] at hr
  cases hr with
  | int _ t => exact ⟨.int (ns.foldl max n), H, I.kept hk, ⟨_, rfl⟩, q⟩

/-! ### steps -/
inductive Stp where
  | inn (lo hi : Int)
  | num (c : Int)
  | op (k i j : Nat)
instance : Inhabited Stp := ⟨.num 0⟩
def opw : Nat → Str
  | 0 => "sum"
  | 1 => "less"
  | _ => "times"
def stepV : Stp → List V
  | .inn lo hi => [.str "in", .int lo, .int hi]
  | .num c => [.str "is", .int c]
  | .op k i j => [.str (opw k), .int (i : Nat), .int (j : Nat)]
def stepD : Stp → List PyData
  | .inn lo hi => [.str "in", .int lo, .int hi]
  | .num c => [.str "is", .int c]
  | .op k i j => [.str (opw k), .int (i : Nat), .int (j : Nat)]
def StepOk (n : Nat) : Stp → Prop
  | .inn lo hi => IsNum lo ∧ IsNum hi ∧ lo ≤ hi
  | .num c => IsNum c
  | .op k i j => k ≤ 2 ∧ i < n ∧ j < n
theorem wne {a b : Str} (h : (a == b) = false) : decide (V.str a = V.str b) = false := by
  refine decide_eq_false fun e => ?_
  rw [V.str.inj e] at h
  simp at h
/-! ### hulls -/
def min4 (a b c d : Int) : Int := min (min (min a b) c) d
def max4 (a b c d : Int) : Int := max (max (max a b) c) d
def hullOp (k : Nat) (x y : Int × Int) : Int × Int := match k with
  | 0 => (x.1 + y.1, x.2 + y.2)
  | 1 => (x.1 - y.2, x.2 - y.1)
  | _ => (min4 (x.1 * y.1) (x.1 * y.2) (x.2 * y.1) (x.2 * y.2), max4 (x.1 * y.1) (x.1 * y.2) (x.2 * y.1) (x.2 * y.2))
def hullS (E : List (Int × Int)) : Stp → Int × Int
  | .inn lo hi => (lo, hi)
  | .num c => (c, c)
  | .op k i j => hullOp k (E.getD i (0, 0)) (E.getD j (0, 0))
def hullsN (ss : List Stp) : Nat → List (Int × Int)
  | 0 => []
  | i + 1 => hullsN ss i ++ [hullS (hullsN ss i) (ss.getD i default)]
theorem hullsN_len (ss : List Stp) : ∀ i, (hullsN ss i).length = i
  | 0 => rfl
  | i + 1 => by
    show (hullsN ss i ++ [_]).length = i + 1
    rw [List.length_append, hullsN_len ss i] <;> rfl
def hullMost : Int := 10 ^ 120
def Bnd (e : Int × Int) : Prop := e.1.natAbs ≤ 10 ^ 120 ∧ e.2.natAbs ≤ 10 ^ 120
structure IsProg (ss : List Stp) : Prop where
  one : 1 ≤ ss.length
  most : ss.length ≤ 30
  ok : ∀ i s, ss[i]? = some s → StepOk i s
  bnd : ∀ i, i ≤ ss.length → ∀ e ∈ hullsN ss i, Bnd e
theorem bnd_wide {a b : Int} (ha : a.natAbs ≤ 10 ^ 120) (hb : b.natAbs ≤ 10 ^ 120) : CMulW a b :=
  wide_mul (a := 400) (b := 400) (Nat.lt_of_le_of_lt ha (by decide +kernel)) (Nat.lt_of_le_of_lt hb (by decide +kernel)) (by decide) (by decide) (by decide)
theorem num_bnd {n : Int} (h : IsNum n) : n.natAbs ≤ 10 ^ 120 := by
  have h2 : n.natAbs ≤ 10 ^ 60 := by
    have a := h.1
    have b := h.2
    omega
  exact Nat.le_trans h2 (by decide +kernel)
/-! ### where hulls, programs stand -/
abbrev PairAt (H : Hp) (a : Addr) (e : Int × Int) : Prop := H a = some (.tup [.int e.1, .int e.2])
def HlsAt (H : Hp) (l : Addr) (E : List (Int × Int)) : Prop := ∃ as : List Addr, H l = some (.lst (as.map V.ref)) ∧ Paired (PairAt H) as E
def HltAt (H : Hp) (t : Addr) (E : List (Int × Int)) : Prop := ∃ as : List Addr, H t = some (.tup (as.map V.ref)) ∧ Paired (PairAt H) as E
abbrev StepAt (H : Hp) (a : Addr) (s : Stp) : Prop := H a = some (.tup (stepV s))
def ProgAt (H : Hp) (t : Addr) (ss : List Stp) : Prop := ∃ as : List Addr, H t = some (.tup (as.map V.ref)) ∧ Paired (StepAt H) as ss
theorem paired_same {β : Type} {R : Hp → Addr → β → Prop} {H H1 : Hp} (h : ∀ a x, R H a x → R H1 a x) : ∀ {as : List Addr} {xs : List β}, Paired (R H) as xs → Paired (R H1) as xs
  | _, _, .nil => .nil
  | _, _, .cons r t => .cons (h _ _ r) (paired_same h t)
theorem HlsAt.same {H H1 : Hp} {l : Addr} {E : List (Int × Int)} (s : Same H H1) (h : HlsAt H l E) : HlsAt H1 l E := by
  obtain ⟨as, e, p⟩ := h
  exact ⟨as, s _ _ e, paired_same (fun a x r => s _ _ r) p⟩
theorem HltAt.same {H H1 : Hp} {l : Addr} {E : List (Int × Int)} (s : Same H H1) (h : HltAt H l E) : HltAt H1 l E := by
  obtain ⟨as, e, p⟩ := h
  exact ⟨as, s _ _ e, paired_same (fun a x r => s _ _ r) p⟩
theorem ProgAt.same {H H1 : Hp} {t : Addr} {ss : List Stp} (s : Same H H1) (h : ProgAt H t ss) : ProgAt H1 t ss := by
  obtain ⟨as, e, p⟩ := h
  exact ⟨as, s _ _ e, paired_same (fun a x r => s _ _ r) p⟩
theorem paired_at {β : Type} {R : Addr → β → Prop} : ∀ {as : List Addr} {xs : List β} {i : Nat} {x : β}, Paired R as xs → xs[i]? = some x → ∃ a, as[i]? = some a ∧ R a x
  | _, _, _, _, .nil, h => by simp at h
  | _, _, 0, x, .cons r t, h => ⟨_, rfl, by rw [← Option.some.inj h]; exact r⟩
  | _, _, i + 1, x, .cons r t, h => paired_at (i := i) t (by simpa using h)
theorem paired_len {β : Type} {R : Addr → β → Prop} {as : List Addr} {xs : List β} (h : Paired R as xs) : as.length = xs.length := Paired.length h
theorem paired_snoc {β : Type} {R : Addr → β → Prop} {a : Addr} {x : β} : ∀ {as : List Addr} {xs : List β}, Paired R as xs → R a x → Paired R (as ++ [a]) (xs ++ [x])
  | _, _, .nil, h => .cons h .nil
  | _, _, .cons r t, h => .cons r (paired_snoc t h)
/-- rows of data at once -/
theorem dpa_paired {β : Type} {K : PySem.W.Frag} {H : Hp} {R : Addr → β → Prop} {f : β → PyData} (h : ∀ a x, R a x → Dp K H (.ref a) (f x)) : ∀ {as : List Addr} {xs : List β}, Paired R as xs → DpAll K H (as.map V.ref) (xs.map f)
  | _, _, .nil => .nil
  | _, _, .cons r t => .cons (h _ _ r) (dpa_paired h t)
theorem dpa_step {K : PySem.W.Frag} {H : Hp} (s : Stp) : DpAll K H (stepV s) (stepD s) := by
  cases s with
  | inn lo hi => exact .cons (.str _) (.cons (.int _) (.cons (.int _) .nil))
  | num c => exact .cons (.str _) (.cons (.int _) .nil)
  | op k i j => exact .cons (.str _) (.cons (.int _) (.cons (.int _) .nil))
theorem dp_prog {K : PySem.W.Frag} {H : Hp} {t : Addr} {ss : List Stp} (h : ProgAt H t ss) : Dp K H (.ref t) (.tuple (ss.map fun s => .tuple (stepD s))) := by
  obtain ⟨as, e, p⟩ := h
  exact .tup (.of e) (dpa_paired (fun a s r => .tup (.of r) (dpa_step s)) p)
def hullD (e : Int × Int) : PyData := .tuple [.int e.1, .int e.2]
theorem dp_hlt {K : PySem.W.Frag} {H : Hp} {t : Addr} {E : List (Int × Int)} (h : HltAt H t E) : Dp K H (.ref t) (.tuple (E.map hullD)) := by
  obtain ⟨as, e, p⟩ := h
  exact .tup (.of e) (dpa_paired (f := hullD) (fun a x r => .tup (.of r) (.cons (.int _) (.cons (.int _) .nil))) p)
/-! ### the promises -/
abbrev HullEnd (H : Hp) (Q : VK) (e : Int × Int) : Prop := ∀ (a : Addr) (H' : Hp), Same H H' → H a = none → PairAt H' a e → Q (.ref a) H'
def sp_hull_of (_ : PySem.W.Frag) : Sp := fun vs H Q _ => ∃ (p l : Addr) (s : Stp) (E : List (Int × Int)), vs = [.ref p, .ref l] ∧ StepAt H p s ∧ HlsAt H l E ∧ StepOk E.length s ∧ (∀ e ∈ E, Bnd e) ∧ HullEnd H Q (hullS E s)
def sp__law_hull (_ : PySem.W.Frag) : Sp := fun vs H Q _ => ∃ (p l : Addr) (s : Stp) (E : List (Int × Int)), vs = [.ref l, .ref p] ∧ StepAt H p s ∧ HlsAt H l E ∧ StepOk E.length s ∧ (∀ e ∈ E, Bnd e) ∧ HullEnd H Q (hullS E s)
theorem min4_of {p q r s m : Int} (h : m ∈ [p, q, r, s]) (hl : ∀ y, y ∈ [p, q, r, s] → m ≤ y) : m = min4 p q r s := by
  have h1 := hl p (by simp)
  have h2 := hl q (by simp)
  have h3 := hl r (by simp)
  have h4 := hl s (by simp)
  have h' : m = p ∨ m = q ∨ m = r ∨ m = s := by simpa using h
  unfold min4
  omega
theorem max4_of {p q r s m : Int} (h : m ∈ [p, q, r, s]) (hl : ∀ y, y ∈ [p, q, r, s] → y ≤ m) : m = max4 p q r s := by
  have h1 := hl p (by simp)
  have h2 := hl q (by simp)
  have h3 := hl r (by simp)
  have h4 := hl s (by simp)
  have h' : m = p ∨ m = q ∨ m = r ∨ m = s := by simpa using h
  unfold max4
  omega
theorem hl_at {H : Hp} {l : Addr} {E : List (Int × Int)} {i : Nat} (h : HlsAt H l E) (hi : i < E.length) : ∃ (as : List Addr) (a : Addr), H l = some (.lst (as.map V.ref)) ∧ (as.map V.ref)[i]? = some (.ref a) ∧ PairAt H a (E.getD i (0, 0)) ∧ (E.getD i (0, 0)) ∈ E := by
  obtain ⟨as, e, p⟩ := h
  have hx : E[i]? = some (E.getD i (0, 0)) := getD_some _ hi
  obtain ⟨a, h1, h2⟩ := paired_at p hx
  exact ⟨as, a, e, by rw [List.getElem?_map, h1]; rfl, h2, List.mem_of_getElem? hx⟩
end Sx
namespace Sx
open PySem PySem.Spec PyProof.Rows L2
def sp__law_stretch (_ : PySem.W.Frag) : Sp := fun vs H Q _ => ∃ (H0 : Hp) (b g : Addr), vs = [.ref b] ∧ Bs H0 H b g ∧ ∀ (lo hi : Int) (p : Addr) (H1 H' : Hp), IsNum lo → IsNum hi → lo ≤ hi → Same H0 H1 → H0 p = none → PairAt H1 p (lo, hi) → Bs H1 H' b g → Q (.ref p) H'
def sp__law_step (_ : PySem.W.Frag) : Sp := fun vs H Q _ => ∃ (H0 : Hp) (b g : Addr) (i : Nat), vs = [.ref b, .int (i : Nat)] ∧ Bs H0 H b g ∧ i < 1000 ∧ ∀ (s : Stp) (p : Addr) (H1 H' : Hp), StepOk i s → Same H0 H1 → H0 p = none → StepAt H1 p s → Bs H1 H' b g → Q (.ref p) H'
end Sx
namespace Sx
open PySem PySem.Spec PyProof.Rows L2
def sp__law_program (_ : PySem.W.Frag) : Sp := fun vs H Q _ => ∃ (H0 : Hp) (b g : Addr) (most : Int), vs = [.ref b, .int most] ∧ Bs H0 H b g ∧ 1 ≤ most ∧ most ≤ 30 ∧
  ∀ (ss : List Stp) (p : Addr) (H1 H' : Hp), IsProg ss → Same H0 H1 → H0 p = none → ProgAt H1 p ss → Bs H1 H' b g → Q (.ref p) H'
theorem tup_put {H : Hp} {p a : Addr} {xs ys : List V} {o : HO} (hp : H p = some (.lst xs)) (h : H a = some (.tup ys)) : (upd H p o) a = some (.tup ys) := by
  rw [upd_ne (ne_of h hp (fun z => nomatch z))]
  exact h
theorem hullsN_app {ss : List Stp} {s : Stp} : ∀ {i : Nat}, i ≤ ss.length → hullsN (ss ++ [s]) i = hullsN ss i
  | 0, _ => rfl
  | i + 1, h => by
    have e := hullsN_app (ss := ss) (s := s) (i := i) (by omega)
    show hullsN (ss ++ [s]) i ++ [hullS (hullsN (ss ++ [s]) i) ((ss ++ [s]).getD i default)] = hullsN ss i ++ [hullS (hullsN ss i) (ss.getD i default)]
    rw [e]
    have h2 : (ss ++ [s]).getD i default = ss.getD i default := by
      rw [List.getD_eq_getElem?_getD, List.getD_eq_getElem?_getD, List.getElem?_append_left (by omega)]
    rw [h2]
theorem hullsN_snoc {ss : List Stp} {s : Stp} : hullsN (ss ++ [s]) (ss.length + 1) = hullsN ss ss.length ++ [hullS (hullsN ss ss.length) s] := by
  show hullsN (ss ++ [s]) ss.length ++ [hullS (hullsN (ss ++ [s]) ss.length) ((ss ++ [s]).getD ss.length default)] = _
  rw [hullsN_app (Nat.le_refl _)]
  have h2 : (ss ++ [s]).getD ss.length default = s := by
    rw [List.getD_eq_getElem?_getD, List.getElem?_append_right (Nat.le_refl _), Nat.sub_self] <;> rfl
  rw [h2]
/-- what a program under way is -/
structure Part (ss : List Stp) : Prop where
  ok : ∀ i s, ss[i]? = some s → StepOk i s
  bnd : ∀ i, i ≤ ss.length → ∀ e ∈ hullsN ss i, Bnd e
theorem Part.nil : Part [] := by
  refine ⟨fun i s h => by simp at h, fun i h e he => ?_⟩
  obtain rfl : i = 0 := Nat.le_zero.mp h
  exact nomatch he
theorem Part.snoc {ss : List Stp} {s : Stp} (P : Part ss) (h : StepOk ss.length s) (hb : Bnd (hullS (hullsN ss ss.length) s)) : Part (ss ++ [s]) := by
  constructor
  · intro i x hx
    by_cases hi : i < ss.length
    · rw [List.getElem?_append_left hi] at hx
      exact P.ok i x hx
    · rw [List.getElem?_append_right (by omega)] at hx
      have e : i - ss.length = 0 := by
        have := (List.getElem?_eq_some_iff.mp hx).1
        rw [List.length_singleton] at this
        omega
      rw [e] at hx
      have e2 : i = ss.length := by omega
      rw [e2, ← Option.some.inj hx]
      exact h
  · intro i hi e he
    rw [List.length_append, List.length_singleton] at hi
    by_cases h2 : i ≤ ss.length
    · rw [hullsN_app h2] at he
      exact P.bnd i h2 e he
    · obtain rfl : i = ss.length + 1 := by omega
      rw [hullsN_snoc] at he
      rcases List.mem_append.mp he with h3 | h3
      · exact P.bnd _ (Nat.le_refl _) e h3
      · rw [List.mem_singleton.mp h3]
        exact hb
end Sx
namespace Sx
open PySem PySem.Spec PyProof.Rows L2
theorem same_put {H0 H : Hp} {p : Addr} {o : HO} (s : Same H0 H) (n : H0 p = none) : Same H0 (upd H p o) := by
  intro c x e
  rw [upd_ne (ne_of_none e n)]
  exact s c x e
end Sx
namespace Sx
open PySem PySem.Spec PyProof.Rows L2

/-! ### zip of a tuple and a list -/
def ItzTL (K : PySem.W.Frag) (a b : Addr) : It where
  go := fun i H => ∃ (xs ys : List V) (x y : V), SqT K H a xs ∧ SqL K H b ys ∧ xs[i]? = some x ∧ ys[i]? = some y
  yld := fun i H v H1 => ∃ T x y, v = .ref T ∧ H T = none ∧ H1 = upd H T (.tup [x, y]) ∧ (∀ xs, SqT K H a xs → xs[i]? = some x) ∧ (∀ ys, SqL K H b ys → ys[i]? = some y)
  stop := fun i H => ∃ n : Nat, i = n ∧ ∃ xs ys : List V, SqT K H a xs ∧ SqL K H b ys ∧ xs.length = n ∧ ys.length = n
abbrev cells2 (z TI TO i1 i2 : Addr) : List Addr := [z, TI, TO, i1, i2]
theorem in_cells2 {z TI TO i1 i2 b : Addr} (h : b ∈ cells2 z TI TO i1 i2) : b = z ∨ b = TI ∨ b = TO ∨ b = i1 ∨ b = i2 := by simpa using h
theorem turn_zipTL {P : Program} {w : World} {K : PySem.W.Frag} {elts : List Expr} {kk : Nat} {tpos : Pos} {a b z TI TO i1 i2 : Addr} (S : ZipSep2 z TI TO i1 i2 [i1, a] [i2, b]) (n1 : a ≠ i1) (n2 : b ≠ i2) :
    Turn P w K (.Tuple elts kk tpos) (ItzTL K a b) (cells2 z TI TO i1 i2) z
      (fun i h => IsZip h z TI TO .none ∧ IsTupOf2 h TI (.ref i1) (.ref i2) ∧ (∃ x y, IsTupOf2 h TO x y) ∧ h.IsTupleIter i1 a i ∧ h.IsListIter i2 b i) where
  mem := List.mem_cons_self
  obj := by
    rintro i h ⟨hz, hTI, ⟨x, y, hTO⟩, ⟨o1, e1, _, d1⟩, ⟨o2, e2, _, d2⟩⟩ b hb
    rcases in_cells2 hb with q | q | q | q | q <;> subst q
    · exact ⟨_, hz, fun v q => nomatch q⟩
    · exact ⟨_, hTI, fun v q => nomatch q⟩
    · exact ⟨_, hTO, fun v q => nomatch q⟩
    · exact ⟨o1, e1, fun v q => by rw [d1] at q; cases q⟩
    · exact ⟨o2, e2, fun v q => by rw [d2] at q; cases q⟩
  keep := by
    rintro i h h' ⟨hz, hTI, ⟨x, y, hTO⟩, h1, h2⟩ k
    exact ⟨k z (by simp) _ hz, k TI (by simp) _ hTI, ⟨x, y, k TO (by simp) _ hTO⟩, h1.at fun o q => k i1 (by simp) o q, h2.at fun o q => k i2 (by simp) o q⟩
  item := by
    intro X hP hw hK hc i pins s σ H E I hf st hg
    subst hP hw hK
    obtain ⟨hz, hTI, ⟨x0, y0, hTO⟩, h1, h2⟩ := st
    obtain ⟨xs, ys, x, y, qx, qy, hx, hy⟩ := hg
    obtain ⟨l1, r1, p1, _⟩ := I.tuple qx
    obtain ⟨l2, r2, p2, _⟩ := I.list qy
    obtain ⟨v1, e1, rv1⟩ := r1.get hx
    obtain ⟨v2, e2, rv2⟩ := r2.get hy
    have hh : X.A.in1.handled = none := I.ok.hd hc
    have g1 : l1.toArray[i]? = some v1 := by simpa using e1
    have g2 : l2.toArray[i]? = some v2 := by simpa using e2
    have t1 := (Array.getElem?_eq_some_iff.mp g1).1
    have t2 := (Array.getElem?_eq_some_iff.mp g2).1
    have hzl : z < s.heap.objs.size := Heap.lt_size hz
    refine wpAny_pyNext_zipD2_item S (Draws.tuple hh i1 a n1 l1.toArray) (Draws.list hh i2 b n2 l2.toArray) hz hTI hTO ⟨h1, p1⟩ ⟨h2, p2.isList⟩ t1 t2 fun w1 w2 h' tk y1 y2 b1 b2 d1 d2 hT hsz hk => ?_
    obtain rfl : w1 = v1 := Option.some.inj (y1.symm.trans g1)
    obtain rfl : w2 = v2 := Option.some.inj (y2.symm.trans g2)
    refine ⟨_, rfl, wpAny_letOwnedTupleGo_zip (s := { s with heap := h', toks := tk }) b1 fun h'' z'' sb => ?_⟩
    have hT2 : h''.get? s.heap.objs.size = some { cls := .type "tuple", data := .seq #[w1, w2] } := (sb.2 _ (Nat.ne_of_gt hzl)).trans hT
    have new : ObjOk X.prog X.w (upd H s.heap.objs.size (.tup [x, y])) h'' s.heap.objs.size (.tup [x, y]) :=
      ⟨(show 2 ≤ sizeLine by decide), [w1, w2], .cons rv1 (.cons rv2 .nil), ⟨_, hT2, rfl, _, rfl⟩⟩
    have I1 : Inv X pins σ (upd H s.heap.objs.size (.tup [x, y])) { s with heap := h'', toks := tk } :=
      I.turnedNew (ch := cells2 z TI TO i1 i2) (fun e o hb q => (sb.2 e (fun q' => hb (by simp [q']))).trans (hk e o (fun q' => hb (by simp [q'])) (fun q' => hb (by simp [q'])) (fun q' => hb (by simp [q'])) (fun q' => hb (by simp [q'])) q)) hf (Nat.le_refl _) new
    refine ⟨.ref s.heap.objs.size, _, I1, rfl, ⟨_, x, y, rfl, I.hok.fresh (Nat.le_refl _), rfl, fun l hl => by rw [I.tuple_inj hl qx]; exact hx, fun l hl => by rw [I.list_inj hl qy]; exact hy⟩, ⟨z'', ?_, ⟨w1, w2, ?_⟩, ?_, ?_⟩, fun e hcm => ?_⟩
    · exact (sb.2 _ S.TIz).trans (hk _ _ S.TIz S.TITO S.TIi1 S.TIi2 hTI)
    · exact (sb.2 _ S.TOz).trans b2
    · exact d1.1.at fun o q => (sb.2 _ (Ne.symm S.zi1)).trans q
    · exact d2.1.at fun o q => (sb.2 _ (Ne.symm S.zi2)).trans q
    · have hlt : e < s.heap.objs.size := by
        rcases in_cells2 hcm with q | q | q | q | q <;> subst q
        · exact hzl
        · exact Heap.lt_size hTI
        · exact Heap.lt_size hTO
        · obtain ⟨_, q, _⟩ := h1
          exact Heap.lt_size q
        · obtain ⟨_, q, _⟩ := h2
          exact Heap.lt_size q
      rw [upd_ne (Nat.ne_of_lt hlt)]
      exact (hf e hcm).1
  done := by
    intro X hP hw hK hc i pins s σ H E I hf st hg
    subst hP hw hK
    obtain ⟨hz, hTI, ⟨x0, y0, hTO⟩, h1, h2⟩ := st
    obtain ⟨n, rfl, xs, ys, qx, qy, e1, e2⟩ := hg
    obtain ⟨l1, r1, p1, _⟩ := I.tuple qx
    obtain ⟨l2, r2, p2, _⟩ := I.list qy
    have hh : X.A.in1.handled = none := I.ok.hd hc
    have f1 : i = l1.toArray.size := by rw [List.size_toArray, ← r1.length, e1]
    have f2 : i = l2.toArray.size := by rw [List.size_toArray, ← r2.length, e2]
    exact wpAny_pyNext_zipD2_end S (Draws.tuple hh i1 a n1 l1.toArray) (Draws.list hh i2 b n2 l2.toArray) hz hTI hTO ⟨h1, p1⟩ ⟨h2, p2.isList⟩ (Nat.le_of_eq f1) (Nat.le_of_eq f2) (.inl f1) fun h' tk hk =>
      ⟨rfl, I.turnedL (t' := tk) (ch := cells2 z TI TO i1 i2) (fun e o hb q => hk e o (fun q' => hb (by simp [q'])) (fun q' => hb (by simp [q'])) (fun q' => hb (by simp [q'])) (fun q' => hb (by simp [q'])) q) hf⟩
  self := fun A i s Q E st h => wpAny_pyIter_zip st.1 h
def iZipTL (K : PySem.W.Frag) (ta : TA) : TI := fun σ H R => ta σ H fun vs H1 => ∃ a b xs ys, vs = [.ref a, .ref b] ∧ SqT K H1 a xs ∧ SqL K H1 b ys ∧ R (ItzTL K a b) H1
theorem pi_zipTL {X : Cx} {e e2 : Expr} {ta : TA} {p pos tpos : Pos} {elts : List Expr} {kk : Nat} (hg : Gl X "zip") (hm : X.mg "zip" = none) (ha : PA X [e, e2] ta)
    (hs : starEach [e, e2] X.env = (false, eval e X.env) :: starEach [e2] X.env := by rfl) (hpl : (backTo pos (starEach [e2] X.env)).any (·.1) = false := by rfl) :
    PI X (.Tuple elts kk tpos) (.Call (.Name "zip" p) [e, e2] [] pos) (iZipTL X.K ta) := by
  refine ⟨fun pins s σ H R I h => Call_ (ld_blt I hg hm PyProof.Rows.boot_zip (PyProof.Rows.callWith_type1 (thn (ha.run pos pins s σ H _ I h) ?_) hs hpl))⟩
  rintro us s1 ⟨vs, H1, I1, r1, a, b, xs, ys, rfl, qx, qy, q⟩
  cases r1 with
  | cons ra r1 =>
    cases r1 with
    | cons rb r1 =>
      cases r1
      cases ra
      cases rb
      obtain ⟨l1, r1, p1, _⟩ := I1.tuple qx
      obtain ⟨l2, r2, p2, _⟩ := I1.list qy
      have lb : b < s1.heap.objs.size := by
        obtain ⟨o, ho, _⟩ := p2.isList
        exact Heap.lt_size ho
      refine zip_begins2 (begins_tuple a l1.toArray) (begins_list b l2.toArray) p1 p2.isList fun h' hz hTI hTO g1 g2 hsz hk => wpAny_pyIter_zip hz ?_
      have I2 : Inv X pins σ H1 { s1 with heap := h' } := I1.kept (t' := s1.toks) hk
      have lo : ∀ {t : Addr}, t < s1.heap.objs.size → ∀ b ∈ [t], b < s1.heap.objs.size := fun h b hb => by
        rw [List.mem_singleton.mp hb]
        exact h
      refine ⟨s1.heap.objs.size + 4, cells2 (s1.heap.objs.size + 4) (s1.heap.objs.size + 2) (s1.heap.objs.size + 3) s1.heap.objs.size (s1.heap.objs.size + 1), _, _, H1, rfl, I2,
        turn_zipTL (zip_sep2 (lo p1.lt) (lo lb)) (Nat.ne_of_lt p1.lt) (Nat.ne_of_lt (Nat.lt_succ_of_lt lb)), ⟨hz, hTI, ⟨_, _, hTO⟩, ⟨_, g1, rfl, rfl⟩, ⟨_, g2, rfl, rfl⟩⟩, fun e he => ?_, q⟩
      have hle : s1.heap.objs.size ≤ e := by
        rcases in_cells2 he with q | q | q | q | q <;> rw [q]
        all_goals first | exact Nat.le_refl _ | exact Nat.le_add_right _ _
      exact I1.fpOk hle (I1.hok.fresh hle)
theorem walk_zipTL {K : PySem.W.Frag} {a b : Addr} {xs ys : List V} {n : Nat} (h1 : xs.length = n) (h2 : ys.length = n) : Walk (ItzTL K a b) n (fun H => SqT K H a xs ∧ SqL K H b ys)
    (fun i H v H1 => ∃ T x y, v = .ref T ∧ H T = none ∧ H1 = upd H T (.tup [x, y]) ∧ xs[i]? = some x ∧ ys[i]? = some y) := by
  refine ⟨fun i H hi q => ⟨xs, ys, xs[i], ys[i], q.1, q.2, List.getElem?_eq_getElem (by omega), List.getElem?_eq_getElem (by omega)⟩, fun H q => ⟨n, rfl, xs, ys, q.1, q.2, h1, h2⟩, ?_⟩
  rintro i H v H1 _ q ⟨T, x, y, e1, e2, e3, e4, e5⟩
  exact ⟨T, x, y, e1, e2, e3, e4 xs q.1, e5 ys q.2⟩

/-! ### what a program comes to -/
def isIn : Stp → Bool
  | .inn _ _ => true
  | _ => false
/-- how many inputs stand ahead of the place i -/
def cnt (ss : List Stp) (i : Nat) : Nat := (ss.take i).countP isIn
def givOf (ss : List Stp) (ins : List Int) (i : Nat) : Option Int := match ss.getD i default with
  | .inn _ _ => some (ins.getD (cnt ss i) 0)
  | .num c => some c
  | .op _ _ _ => none
def giv (ss : List Stp) (ins : List Int) : List (Option Int) := (List.range ss.length).map (givOf ss ins)
def valOf (acc : List Int) (o : Option Int) (s : Stp) : Int := match o, s with
  | some x, _ => x
  | none, .op k i j => op3 k (acc.getD i 0) (acc.getD j 0)
  | none, _ => 0
def valsN (ss : List Stp) (ins : List Int) : Nat → List Int
  | 0 => []
  | i + 1 => valsN ss ins i ++ [valOf (valsN ss ins i) (givOf ss ins i) (ss.getD i default)]
abbrev vals (ss : List Stp) (ins : List Int) : List Int := valsN ss ins ss.length
theorem valsN_len (ss : List Stp) (ins : List Int) : ∀ i, (valsN ss ins i).length = i
  | 0 => rfl
  | i + 1 => by
    show (valsN ss ins i ++ [_]).length = i + 1
    rw [List.length_append, valsN_len ss ins i] <;> rfl
theorem cnt_succ {ss : List Stp} {i : Nat} (h : i < ss.length) : cnt ss (i + 1) = cnt ss i + (if isIn (ss.getD i default) then 1 else 0) := by
  unfold cnt
  rw [List.take_add_one, getD_some default h, List.countP_append]
  show _ + List.countP isIn [ss.getD i default] = _
  rw [List.countP_cons, List.countP_nil, Nat.zero_add]
/-- fitting inputs -/
structure InpOk (ss : List Stp) (ins : List Int) : Prop where
  len : ins.length = cnt ss ss.length
  fit : ∀ i lo hi, ss[i]? = some (.inn lo hi) → lo ≤ ins.getD (cnt ss i) 0 ∧ ins.getD (cnt ss i) 0 ≤ hi
theorem cnt_mono {ss : List Stp} : ∀ {i j : Nat}, i ≤ j → j ≤ ss.length → cnt ss i ≤ cnt ss j
  | i, 0, h, _ => by
    obtain rfl : i = 0 := Nat.le_zero.mp h
    exact Nat.le_refl _
  | i, j + 1, h, hj => by
    by_cases e : i = j + 1
    · rw [e]
      exact Nat.le_refl _
    · rw [cnt_succ (by omega)]
      exact Nat.le_trans (cnt_mono (show i ≤ j by omega) (by omega)) (Nat.le_add_right _ _)
theorem cnt_lt {ss : List Stp} {ins : List Int} (I : InpOk ss ins) {i : Nat} (h : i < ss.length) (hi : isIn (ss.getD i default) = true) : cnt ss i < ins.length := by
  rw [I.len]
  have e := cnt_succ h
  rw [hi] at e
  have m := cnt_mono (ss := ss) (show i + 1 ≤ ss.length from h) (Nat.le_refl _)
  rw [e] at m
  exact m
theorem getD_append_left {α : Type} {xs ys : List α} {i : Nat} (d : α) (h : i < xs.length) : (xs ++ ys).getD i d = xs.getD i d := by
  rw [List.getD_eq_getElem?_getD, List.getD_eq_getElem?_getD, List.getElem?_append_left h]
theorem getD_append_last {α : Type} {xs : List α} {x : α} (d : α) : (xs ++ [x]).getD xs.length d = x := by
  rw [List.getD_eq_getElem?_getD, List.getElem?_append_right (Nat.le_refl _), Nat.sub_self] <;> rfl
/-! ### values lie in hulls -/
theorem mul_between {a b x y : Int} (h1 : a ≤ x) (h2 : x ≤ b) : (a * y ≤ x * y ∧ x * y ≤ b * y) ∨ (b * y ≤ x * y ∧ x * y ≤ a * y) := by
  by_cases h : 0 ≤ y
  · exact .inl ⟨Int.mul_le_mul_of_nonneg_right h1 h, Int.mul_le_mul_of_nonneg_right h2 h⟩
  · exact .inr ⟨Int.mul_le_mul_of_nonpos_right h2 (by omega), Int.mul_le_mul_of_nonpos_right h1 (by omega)⟩
theorem mul_hull {a b c d x y : Int} (h1 : a ≤ x) (h2 : x ≤ b) (h3 : c ≤ y) (h4 : y ≤ d) : min4 (a * c) (a * d) (b * c) (b * d) ≤ x * y ∧ x * y ≤ max4 (a * c) (a * d) (b * c) (b * d) := by
  have k1 := mul_between (y := y) h1 h2
  have k2 : (c * a ≤ y * a ∧ y * a ≤ d * a) ∨ (d * a ≤ y * a ∧ y * a ≤ c * a) := mul_between h3 h4
  have k3 : (c * b ≤ y * b ∧ y * b ≤ d * b) ∨ (d * b ≤ y * b ∧ y * b ≤ c * b) := mul_between h3 h4
  rw [Int.mul_comm c a, Int.mul_comm y a, Int.mul_comm d a] at k2
  rw [Int.mul_comm c b, Int.mul_comm y b, Int.mul_comm d b] at k3
  unfold min4 max4
  omega
def InHull (e : Int × Int) (x : Int) : Prop := e.1 ≤ x ∧ x ≤ e.2
theorem hullOp_in {k : Nat} {e f : Int × Int} {x y : Int} (h1 : InHull e x) (h2 : InHull f y) : InHull (hullOp k e f) (op3 k x y) := by
  obtain ⟨a1, a2⟩ := h1
  obtain ⟨b1, b2⟩ := h2
  match k with
  | 0 => exact ⟨by show e.1 + f.1 ≤ x + y; omega, by show x + y ≤ e.2 + f.2; omega⟩
  | 1 => exact ⟨by show e.1 - f.2 ≤ x - y; omega, by show x - y ≤ e.2 - f.1; omega⟩
  | _ + 2 => exact mul_hull a1 a2 b1 b2
theorem vals_in {ss : List Stp} {ins : List Int} (P : IsProg ss) (I : InpOk ss ins) : ∀ i, i ≤ ss.length → ∀ j, j < i → InHull ((hullsN ss i).getD j (0, 0)) ((valsN ss ins i).getD j 0)
  | 0, _, _, h => absurd h (Nat.not_lt_zero _)
  | i + 1, hi, j, hj => by
    have ih := vals_in P I i (by omega)
    have l1 := hullsN_len ss i
    have l2 := valsN_len ss ins i
    show InHull ((hullsN ss i ++ [hullS (hullsN ss i) (ss.getD i default)]).getD j (0, 0)) ((valsN ss ins i ++ [valOf (valsN ss ins i) (givOf ss ins i) (ss.getD i default)]).getD j 0)
    by_cases h : j < i
    · rw [getD_append_left _ (by omega), getD_append_left _ (by omega)]
      exact ih j h
    · obtain rfl : j = i := by omega
      have e1 := getD_append_last (xs := hullsN ss j) (x := hullS (hullsN ss j) (ss.getD j default)) (0, 0)
      have e2 := getD_append_last (xs := valsN ss ins j) (x := valOf (valsN ss ins j) (givOf ss ins j) (ss.getD j default)) 0
      rw [l1] at e1
      rw [l2] at e2
      rw [e1, e2]
      have hs := getD_some (default : Stp) (show j < ss.length by omega)
      have ok := P.ok j _ hs
      unfold givOf
      generalize ss.getD j default = s at hs ok
      cases s with
      | inn lo hi' => exact I.fit j lo hi' hs
      | num c => exact ⟨Int.le_refl _, Int.le_refl _⟩
      | op k a b => exact hullOp_in (ih a ok.2.1) (ih b ok.2.2)
theorem in_bnd {e : Int × Int} {x : Int} (h : InHull e x) (b : Bnd e) : x.natAbs ≤ 10 ^ 120 := by
  obtain ⟨h1, h2⟩ := h
  obtain ⟨b1, b2⟩ := b
  omega
theorem vals_bnd {ss : List Stp} {ins : List Int} (P : IsProg ss) (I : InpOk ss ins) {i j : Nat} (hi : i ≤ ss.length) (hj : j < i) : ((valsN ss ins i).getD j 0).natAbs ≤ 10 ^ 120 :=
  in_bnd (vals_in P I i hi j hj) (P.bnd i hi _ (List.mem_of_getElem? (getD_some (0, 0) (by rw [hullsN_len]; exact hj))))
theorem mem_getD {α : Type} {xs : List α} {x : α} (d : α) (h : x ∈ xs) : ∃ i, i < xs.length ∧ xs.getD i d = x := by
  obtain ⟨i, hi, e⟩ := List.mem_iff_getElem.mp h
  exact ⟨i, hi, by rw [List.getD_eq_getElem?_getD, List.getElem?_eq_getElem hi]; exact e⟩
theorem vals_bndAll {ss : List Stp} {ins : List Int} (P : IsProg ss) (I : InpOk ss ins) : ∀ x ∈ vals ss ins, x.natAbs ≤ 10 ^ 120 := by
  intro x hx
  obtain ⟨i, hi, rfl⟩ := mem_getD 0 hx
  rw [valsN_len] at hi
  exact vals_bnd P I (Nat.le_refl _) hi

/-! ### the promises -/
def sp_given_integers (K : PySem.W.Frag) : Sp := fun vs H Q _ => ∃ (t p : Addr) (ss : List Stp) (ins : List Int), vs = [.ref t, .ref p] ∧ ProgAt H t ss ∧ SqT K H p (ins.map V.int) ∧ IsProg ss ∧ InpOk ss ins ∧
  ∀ (l : Addr) (H' : Hp), Same H H' → H l = none → H' l = some (.lst ((giv ss ins).map vO)) → Q (.ref l) H'
def sp_reckoned (K : PySem.W.Frag) : Sp := fun vs H Q _ => ∃ (p l : Addr) (k i j : Nat) (acc : List Int), vs = [.ref p, .ref l] ∧ StepAt H p (.op k i j) ∧ SqL K H l (acc.map V.int) ∧ k ≤ 2 ∧ i < acc.length ∧ j < acc.length ∧ (∀ x ∈ acc, x.natAbs ≤ 10 ^ 120) ∧
  Q (.int (op3 k (acc.getD i 0) (acc.getD j 0))) H
def sp_run (K : PySem.W.Frag) : Sp := fun vs H Q _ => ∃ (t p : Addr) (ss : List Stp) (ins : List Int), vs = [.ref t, .ref p] ∧ ProgAt H t ss ∧ SqT K H p (ins.map V.int) ∧ IsProg ss ∧ InpOk ss ins ∧
  ∀ (l : Addr) (H' : Hp), Same H H' → H l = none → H' l = some (.tup ((vals ss ins).map V.int)) → Q (.ref l) H'
def sp_result (K : PySem.W.Frag) : Sp := fun vs H Q _ => ∃ (t p : Addr) (ss : List Stp) (ins : List Int), vs = [.ref t, .ref p] ∧ ProgAt H t ss ∧ SqT K H p (ins.map V.int) ∧ IsProg ss ∧ InpOk ss ins ∧
  ∀ (H' : Hp), Same H H' → Q (.int ((vals ss ins).getD (ss.length - 1) 0)) H'
def sp_hulls (K : PySem.W.Frag) : Sp := fun vs H Q _ => ∃ (t : Addr) (ss : List Stp), vs = [.ref t] ∧ ProgAt H t ss ∧ IsProg ss ∧
  ∀ (l : Addr) (H' : Hp), Same H H' → H l = none → HltAt H' l (hullsN ss ss.length) → Q (.ref l) H'
def sp__law_values (K : PySem.W.Frag) : Sp := fun vs H Q _ => ∃ (t p : Addr) (ss : List Stp) (ins : List Int), vs = [.ref t, .ref p] ∧ ProgAt H t ss ∧ SqT K H p (ins.map V.int) ∧ IsProg ss ∧ InpOk ss ins ∧
  ∀ (l : Addr) (H' : Hp), Same H H' → H l = none → H' l = some (.lst ((vals ss ins).map V.int)) → Q (.ref l) H'
def sp__law_inputs (_ : PySem.W.Frag) : Sp := fun vs H Q _ => ∃ (H0 : Hp) (b g t : Addr) (ss : List Stp), vs = [.ref b, .ref t] ∧ Bs H0 H b g ∧ ProgAt H0 t ss ∧ IsProg ss ∧
  ∀ (ins : List Int) (p : Addr) (H1 H' : Hp), InpOk ss ins → Same H0 H1 → H0 p = none → H1 p = some (.tup (ins.map V.int)) → Bs H1 H' b g → Q (.ref p) H'
end Sx
namespace Sx
open PySem PySem.Spec PyProof.Rows L2
def sw : Stp → Str
  | .inn _ _ => "in"
  | .num _ => "is"
  | .op k _ _ => opw k
theorem sw_at (s : Stp) : atI (stepV s) 0 = some (.str (sw s)) := by cases s <;> exact atI_nat (j := 0) rfl
def isNumS : Stp → Bool
  | .num _ => true
  | _ => false
theorem opw_in {k : Nat} (h : k ≤ 2) : decide (V.str (opw k) = V.str "in") = false ∧ decide (V.str (opw k) = V.str "is") = false := by
  match k, h with
  | 0, _ => exact ⟨wne (by decide +kernel), wne (by decide +kernel)⟩
  | 1, _ => exact ⟨wne (by decide +kernel), wne (by decide +kernel)⟩
  | 2, _ => exact ⟨wne (by decide +kernel), wne (by decide +kernel)⟩
theorem sw_in {n : Nat} {s : Stp} (h : StepOk n s) : decide (V.str (sw s) = V.str "in") = isIn s := by
  cases s with
  | inn lo hi => exact decide_eq_true rfl
  | num c => exact wne (a := "is") (b := "in") (by decide +kernel)
  | op k i j => exact (opw_in h.1).1
theorem sw_is {n : Nat} {s : Stp} (h : StepOk n s) (hi : isIn s = false) : decide (V.str (sw s) = V.str "is") = isNumS s := by
  cases s with
  | inn lo hi => exact nomatch hi
  | num c => exact decide_eq_true rfl
  | op k i j => exact (opw_in h.1).2
theorem giv_len (ss : List Stp) (ins : List Int) : (giv ss ins).length = ss.length := by
  unfold giv
  rw [List.length_map, List.length_range]
theorem giv_at {ss : List Stp} {ins : List Int} {i : Nat} (h : i < ss.length) : (giv ss ins)[i]? = some (givOf ss ins i) := by
  unfold giv
  rw [List.getElem?_map, List.getElem?_range h] <;> rfl
theorem giv_take {ss : List Stp} {ins : List Int} {i : Nat} (h : i < ss.length) : (giv ss ins).take (i + 1) = (giv ss ins).take i ++ [givOf ss ins i] := by
  rw [List.take_add_one, giv_at h] <;> rfl
theorem stps_at {R : Addr → Stp → Prop} {as : List Addr} {ss : List Stp} {i : Nat} {x : V} (p : Paired R as ss) (h : (as.map V.ref)[i]? = some x) : i < ss.length ∧ ∃ a, x = .ref a ∧ ss[i]? = some (ss.getD i default) ∧ R a (ss.getD i default) := by
  have hi : i < ss.length := by
    have := (List.getElem?_eq_some_iff.mp h).1
    rw [List.length_map, paired_len p] at this
    exact this
  have hs := getD_some (default : Stp) hi
  obtain ⟨a, h1, h2⟩ := paired_at p hs
  rw [List.getElem?_map, h1] at h
  exact ⟨hi, a, (Option.some.inj h).symm, hs, h2⟩
theorem prs_at {as : List Addr} {E : List (Int × Int)} {R : Addr → Int × Int → Prop} {i : Nat} {x : V} (p : Paired R as E) (h : (as.map V.ref)[i]? = some x) : i < E.length ∧ ∃ a, x = .ref a ∧ R a (E.getD i (0, 0)) := by
  have hi : i < E.length := by
    have := (List.getElem?_eq_some_iff.mp h).1
    rw [List.length_map, paired_len p] at this
    exact this
  obtain ⟨a, h1, h2⟩ := paired_at p (getD_some (0, 0) hi)
  rw [List.getElem?_map, h1] at h
  exact ⟨hi, a, (Option.some.inj h).symm, h2⟩
/-- a new list, appended to -/
theorem lst_put {H H1 : Hp} {l : Addr} {o : HO} (s : Same H H1) (n : H l = none) : Same H (upd H1 l o) := same_put s n
end Sx

namespace Sx
open PySem PySem.Spec PyProof.Rows L2
theorem vals_last {ss : List Stp} {ins : List Int} (h : 1 ≤ ss.length) : atI ((vals ss ins).map V.int) (-1) = some (.int ((vals ss ins).getD (ss.length - 1) 0)) := by
  obtain ⟨k, hk⟩ : ∃ k, ss.length = k + 1 := ⟨ss.length - 1, by omega⟩
  have e : vals ss ins = valsN ss ins k ++ [valOf (valsN ss ins k) (givOf ss ins k) (ss.getD k default)] := by
    unfold vals
    rw [hk] <;> rfl
  have e2 := getD_append_last (xs := valsN ss ins k) (x := valOf (valsN ss ins k) (givOf ss ins k) (ss.getD k default)) 0
  rw [valsN_len] at e2
  rw [hk, Nat.add_sub_cancel, e, e2, List.map_append]
  exact atI_last _ _
end Sx

namespace Sx
open PySem PySem.Spec PyProof.Rows L2
def opKv (x y : Int) : List (Key × V) := [(Sum.inr "sum", .int (x + y)), (Sum.inr "less", .int (x - y)), (Sum.inr "times", .int (x * y))]
theorem opKv_at {k : Nat} (h : k ≤ 2) (x y : Int) : valV (opKv x y) (Sum.inr (opw k) : Key) = some (.int (op3 k x y)) := by
  match k, h with
  | 0, _ => rfl
  | 1, _ => rfl
  | 2, _ => rfl
theorem opKv_merge (x y : Int) : mergeK [] (opKv x y) = opKv x y := rfl
end Sx
namespace Sx
open PySem PySem.Spec PyProof.Rows L2

/-! ### rows of tuples of ints -/
abbrev TupAt (K : PySem.W.Frag) (H : Hp) (a : Addr) (ns : List Int) : Prop := SqT K H a (ns.map V.int)
theorem SqT.put {K : PySem.W.Frag} {H : Hp} {p a : Addr} {xs ys : List V} {o : HO} (hp : H p = some (.lst xs)) (h : SqT K H a ys) : SqT K (upd H p o) a ys := by
  rcases h with (h | ⟨ob, h⟩) | h
  · exact .inl (.inl (by rw [upd_ne (ne_of h hp (fun z => nomatch z))]; exact h))
  · exact .inl (.inr ⟨ob, by rw [upd_ne (ne_of h hp (fun z => nomatch z))]; exact h⟩)
  · exact .inr h
/-- comprehensions whose items are new tuples -/
theorem lc_tups {K : PySem.W.Frag} {β : Type} {J : It} {n : Nat} {zs : List β} {G : Hp → Prop} {Y : Nat → Hp → V → Hp → Prop} (w : Walk J n G Y) (hzn : zs.length = n) {g : TG} {te : TE} {vs : List Nat} {σ : L2.St} {H1 : Hp} {D : Addr} {Qd : Hp → Prop} (v : β → List Int) (hn : zs.length ≤ 100000)
    (hD : H1 D = none) (hG : ∀ H, Same H1 H → G H)
    (hs : ∀ i z x H H2, zs[i]? = some z → Same H1 H → Y i H x H2 → Same H H2 ∧ ∃ σ2, (∀ Q : L2.St → Hp → Prop, Q σ2 H2 → g x (wipe σ vs) H2 Q) ∧ wipe σ2 vs = wipe σ vs ∧
      (∀ Q : VK, Same H1 H2 → (∀ a H4, Same H2 H4 → TupAt K H4 a (v z) → Q (.ref a) H4) → te σ2 H2 Q))
    (hd : ∀ (H : Hp) (as : List Addr), Same H1 H → H D = some (.lst (as.map V.ref)) → Paired (TupAt K H) as (zs.map v) → Qd H) :
    ∃ W : Nat → Nat → Hp → Prop, (∃ m, W 0 m (upd H1 D (.lst []))) ∧ ∀ i m H, W i m H →
      (J.stop i H ∧ Qd H) ∨ (J.go i H ∧ ∃ Nx : Hp → Prop, (∀ H', Nx H' → ∃ m', m' < m ∧ W (i + 1) m' H') ∧ ∀ x H', J.yld i H x H' → g x (wipe σ vs) H' fun σ2 H2 => wipe σ2 vs = wipe σ vs ∧ tYes σ2 H2 fun b H3 =>
        if b = true then te σ2 H3 fun y H4 => ∃ acc, H4 D = some (.lst acc) ∧ acc.length < sizeLine ∧ Nx (upd H4 D (.lst (acc ++ [y]))) else Nx H3) := by
  subst hzn
  refine lc_it w (fun i H => Same H1 H ∧ ∃ as : List Addr, H D = some (.lst (as.map V.ref)) ∧ Paired (TupAt K H) as ((zs.take i).map v)) ⟨same_new hD, [], upd_same, .nil⟩ (fun i H _ p => hG H p.1) ?_ ?_
  · rintro i x H H2 hi ⟨s1, as, e1, p1⟩ y
    have hz : zs[i]? = some zs[i] := List.getElem?_eq_getElem hi
    obtain ⟨s2, σ2, h1, h2, h3⟩ := hs i zs[i] x H H2 hz s1 y
    have tk : zs.take (i + 1) = zs.take i ++ [zs[i]] := by
      rw [List.take_add_one, hz] <;> rfl
    refine h1 _ ⟨h2, ?_⟩
    unfold tYes
    refine iteT (h3 _ (s1.trans s2) fun a H4 s4 ha => ?_)
    have e4 : H4 D = some (.lst (as.map V.ref)) := s4 _ _ (s2 _ _ e1)
    refine ⟨_, e4, ?_, ?_, as ++ [a], ?_, ?_⟩
    · rw [List.length_map, paired_len p1, List.length_map, List.length_take]
      exact Nat.lt_of_lt_of_le (show _ < 100000 by omega) (by decide)
    · exact same_put ((s1.trans s2).trans s4) hD
    · rw [upd_same, List.map_append] <;> rfl
    · rw [tk, List.map_append]
      exact paired_snoc (paired_same (R := fun H a ns => TupAt K H a ns) (fun b c r => SqT.put e4 (Sx.Same.tup (s2.trans s4) r)) p1) (SqT.put e4 ha)
  · rintro H ⟨s1, as, e1, p1⟩
    rw [List.take_length] at p1
    exact hd H as s1 e1 p1
theorem paired_app {β : Type} {R : Addr → β → Prop} : ∀ {as bs : List Addr} {xs ys : List β}, Paired R as xs → Paired R bs ys → Paired R (as ++ bs) (xs ++ ys)
  | _, _, _, _, .nil, h => h
  | _, _, _, _, .cons r t, h => .cons r (paired_app t h)

/-! ### all inputs of a small program -/
def rg (lo hi : Int) : List Int := (List.range (hi + 1 - lo).toNat).map fun i => lo + (i : Nat)
theorem mem_rg {lo hi z : Int} : z ∈ rg lo hi ↔ lo ≤ z ∧ z ≤ hi := by
  unfold rg
  rw [List.mem_map]
  constructor
  · rintro ⟨i, hi', rfl⟩
    have := List.mem_range.mp hi'
    omega
  · rintro ⟨h1, h2⟩
    exact ⟨(z - lo).toNat, List.mem_range.mpr (by omega), by omega⟩
theorem rg_len (lo hi : Int) : (rg lo hi).length = (hi + 1 - lo).toNat := by
  unfold rg
  rw [List.length_map, List.length_range]
theorem rgV_rg (lo hi : Int) : rgV lo (hi + 1) = (rg lo hi).map V.int := by
  unfold rgV rg
  rw [List.map_map] <;> rfl
def grow (L : List (List Int)) (zs : List Int) : List (List Int) := zs.flatMap fun z => L.map (· ++ [z])
theorem grow_len (L : List (List Int)) : ∀ zs : List Int, (grow L zs).length = zs.length * L.length
  | [] => by simp [grow]
  | z :: zs => by
    have e := grow_len L zs
    unfold grow at e ⊢
    rw [List.flatMap_cons, List.length_append, e, List.length_map, List.length_cons, Nat.succ_mul, Nat.add_comm]
theorem grow_snoc (L : List (List Int)) (zs : List Int) (z : Int) : grow L (zs ++ [z]) = grow L zs ++ L.map (· ++ [z]) := by
  unfold grow
  rw [List.flatMap_append]
  simp
def allStep (L : List (List Int)) : Stp → List (List Int)
  | .inn lo hi => grow L (rg lo hi)
  | _ => L
def numsOf : Stp → List Int
  | .inn lo hi => rg lo hi
  | _ => []
def allN (ss : List Stp) : Nat → List (List Int)
  | 0 => [[]]
  | i + 1 => allStep (allN ss i) (ss.getD i default)
theorem allN_item : ∀ {ss : List Stp} (i : Nat), ∀ ns ∈ allN ss i, ns.length ≤ i
  | ss, 0, ns, h => by
    rw [List.mem_singleton.mp (show ns ∈ [[]] from h)]
    exact Nat.le_refl _
  | ss, i + 1, ns, h => by
    have h : ns ∈ allStep (allN ss i) (ss.getD i default) := h
    generalize ss.getD i default = s at h
    cases s with
    | inn lo hi =>
      obtain ⟨z, _, h2⟩ := List.mem_flatMap.mp (show ns ∈ (rg lo hi).flatMap fun z => (allN ss i).map (· ++ [z]) from h)
      obtain ⟨l, hl, rfl⟩ := List.mem_map.mp h2
      have := allN_item i l hl
      rw [List.length_append, List.length_singleton]
      omega
    | num c =>
      have := allN_item i ns h
      omega
    | op k a b =>
      have := allN_item i ns h
      omega
structure Tiny (ss : List Stp) : Prop where
  most : ss.length ≤ 3
  ok : ∀ (i : Nat) (s : Stp), ss[i]? = some s → StepOk i s
  near : ∀ (i : Nat) (lo hi : Int), ss[i]? = some (Stp.inn lo hi) → -100 ≤ lo ∧ lo ≤ hi ∧ hi < lo + 5 ∧ lo ≤ 100
theorem allN_len {ss : List Stp} (T : Tiny ss) : ∀ i, i ≤ ss.length → (allN ss i).length ≤ 5 ^ i
  | 0, _ => Nat.le_refl _
  | i + 1, h => by
    have ih := allN_len T i (by omega)
    have hs := getD_some (default : Stp) (show i < ss.length by omega)
    have n := T.near i
    show (allStep (allN ss i) (ss.getD i default)).length ≤ 5 ^ (i + 1)
    have h5 : 5 ^ (i + 1) = 5 ^ i * 5 := Nat.pow_succ 5 i
    generalize ss.getD i default = s at *
    cases s with
    | inn lo hi =>
      obtain ⟨n1, n2, n3, n4⟩ := n lo hi hs
      show (grow _ _).length ≤ _
      rw [grow_len, rg_len, h5, Nat.mul_comm]
      exact Nat.mul_le_mul ih (by omega)
    | num c =>
      show (allN ss i).length ≤ _
      omega
    | op k a b =>
      show (allN ss i).length ≤ _
      omega
theorem allN_small {ss : List Stp} (T : Tiny ss) {i : Nat} (h : i ≤ ss.length) : (allN ss i).length ≤ 125 := by
  have h1 := allN_len T i h
  have h2 : 5 ^ i ≤ 5 ^ 3 := Nat.pow_le_pow_right (by decide) (Nat.le_trans h T.most)
  omega
def sp__law_all_inputs (K : PySem.W.Frag) : Sp := fun vs H Q _ => ∃ (t : Addr) (ss : List Stp), vs = [.ref t] ∧ ProgAt H t ss ∧ Tiny ss ∧
  ∀ (l : Addr) (H' : Hp) (as : List Addr), Same H H' → H l = none → H' l = some (.lst (as.map V.ref)) → Paired (TupAt K H') as (allN ss ss.length) → Q (.ref l) H'
def sp__law_is_filled (_ : PySem.W.Frag) : Sp := fun vs H Q _ => ∃ (H0 : Hp) (b g : Addr), vs = [.ref b] ∧ Bs H0 H b g ∧ ∀ H' : Hp, Bs H0 H' b g → Q (.bl true) H'

/-! ### a program of two inputs and one op -/
/-- its two places -/
def tri (a b c d : Int) (k : Nat) (sw : Bool) : List Stp := [.inn a b, .inn c d, if sw then .op k 1 0 else .op k 0 1]
def hullTri (a b c d : Int) (k : Nat) (sw : Bool) : Int × Int := if sw then hullOp k (c, d) (a, b) else hullOp k (a, b) (c, d)
def valTri (k : Nat) (sw : Bool) (x y : Int) : Int := if sw then op3 k y x else op3 k x y
theorem hulls_tri (a b c d : Int) (k : Nat) (sw : Bool) : hullsN (tri a b c d k sw) 3 = [(a, b), (c, d), hullTri a b c d k sw] := by cases sw <;> rfl
theorem vals_tri (a b c d : Int) (k : Nat) (sw : Bool) (x y : Int) : vals (tri a b c d k sw) [x, y] = [x, y, valTri k sw x y] := by cases sw <;> rfl
theorem all_tri (a b c d : Int) (k : Nat) (sw : Bool) (ins : List Int) : ins ∈ allN (tri a b c d k sw) 3 ↔ ∃ x y, ins = [x, y] ∧ a ≤ x ∧ x ≤ b ∧ c ≤ y ∧ y ≤ d := by
  have e : allN (tri a b c d k sw) 3 = grow (grow [[]] (rg a b)) (rg c d) := by cases sw <;> rfl
  rw [e]
  unfold grow
  simp only [List.mem_flatMap, List.mem_map, mem_rg, List.mem_singleton]
  constructor
  · rintro ⟨y, hy, l, ⟨x, hx, l2, rfl, rfl⟩, rfl⟩
    exact ⟨x, y, rfl, hx.1, hx.2, hy.1, hy.2⟩
  · rintro ⟨x, y, rfl, h1, h2, h3, h4⟩
    exact ⟨y, ⟨h3, h4⟩, [x], ⟨x, ⟨h1, h2⟩, [], rfl, rfl⟩, rfl⟩
theorem mul_abs {x y : Int} (hx : x.natAbs ≤ 100) (hy : y.natAbs ≤ 100) : (x * y).natAbs ≤ 10000 := by
  rw [Int.natAbs_mul]
  exact Nat.mul_le_mul hx hy
theorem hullOp_small {k : Nat} {e f : Int × Int} (h1 : e.1.natAbs ≤ 100) (h2 : e.2.natAbs ≤ 100) (h3 : f.1.natAbs ≤ 100) (h4 : f.2.natAbs ≤ 100) : (hullOp k e f).1.natAbs ≤ 10000 ∧ (hullOp k e f).2.natAbs ≤ 10000 := by
  match k with
  | 0 => exact ⟨by show (e.1 + f.1).natAbs ≤ _; omega, by show (e.2 + f.2).natAbs ≤ _; omega⟩
  | 1 => exact ⟨by show (e.1 - f.2).natAbs ≤ _; omega, by show (e.2 - f.1).natAbs ≤ _; omega⟩
  | k + 2 =>
    have m1 := mul_abs h1 h3
    have m2 := mul_abs h1 h4
    have m3 := mul_abs h2 h3
    have m4 := mul_abs h2 h4
    constructor
    · show (min4 _ _ _ _).natAbs ≤ _
      unfold min4
      omega
    · show (max4 _ _ _ _).natAbs ≤ _
      unfold max4
      omega
structure TriOk (a b c d : Int) (k : Nat) : Prop where
  ab : a ≤ b
  b5 : b < a + 5
  cd : c ≤ d
  d5 : d < c + 5
  al : -50 ≤ a
  ah : a ≤ 50
  cl : -50 ≤ c
  ch : c ≤ 50
  k2 : k ≤ 2
theorem tri_ok {a b c d : Int} {k : Nat} (T : TriOk a b c d k) (sw : Bool) : ∀ i s, (tri a b c d k sw)[i]? = some s → StepOk i s := by
  have t1 := T.ab
  have t2 := T.b5
  have t3 := T.cd
  have t4 := T.d5
  have t5 := T.al
  have t6 := T.ah
  have t7 := T.cl
  have t8 := T.ch
  intro i s h
  match i with
  | 0 =>
    cases h
    exact ⟨⟨by omega, by omega⟩, ⟨by omega, by omega⟩, t1⟩
  | 1 =>
    cases h
    exact ⟨⟨by omega, by omega⟩, ⟨by omega, by omega⟩, t3⟩
  | 2 =>
    cases sw with
    | true =>
      cases h
      exact ⟨T.k2, by decide, by decide⟩
    | false =>
      cases h
      exact ⟨T.k2, by decide, by decide⟩
  | i + 3 => simp [tri] at h
theorem tri_tiny {a b c d : Int} {k : Nat} (T : TriOk a b c d k) (sw : Bool) : Tiny (tri a b c d k sw) := by
  refine ⟨Nat.le_refl 3, tri_ok T sw, fun i lo hi h => ?_⟩
  have t1 := T.ab
  have t2 := T.b5
  have t3 := T.cd
  have t4 := T.d5
  have t5 := T.al
  have t6 := T.ah
  have t7 := T.cl
  have t8 := T.ch
  match i with
  | 0 =>
    cases h
    exact ⟨by omega, by omega, by omega, by omega⟩
  | 1 =>
    cases h
    exact ⟨by omega, by omega, by omega, by omega⟩
  | 2 => cases sw <;> exact nomatch h
  | i + 3 => simp [tri] at h
theorem tri_prog {a b c d : Int} {k : Nat} (T : TriOk a b c d k) (sw : Bool) : IsProg (tri a b c d k sw) := by
  have t1 := T.ab
  have t2 := T.b5
  have t3 := T.cd
  have t4 := T.d5
  have t5 := T.al
  have t6 := T.ah
  have t7 := T.cl
  have t8 := T.ch
  have big : 10000 ≤ 10 ^ 120 := by decide +kernel
  have b1 : Bnd (a, b) := ⟨Nat.le_trans (show a.natAbs ≤ 10000 by omega) big, Nat.le_trans (show b.natAbs ≤ 10000 by omega) big⟩
  have b2 : Bnd (c, d) := ⟨Nat.le_trans (show c.natAbs ≤ 10000 by omega) big, Nat.le_trans (show d.natAbs ≤ 10000 by omega) big⟩
  have b3 : Bnd (hullTri a b c d k sw) := by
    unfold hullTri
    have h1 : a.natAbs ≤ 100 := by omega
    have h2 : b.natAbs ≤ 100 := by omega
    have h3 : c.natAbs ≤ 100 := by omega
    have h4 : d.natAbs ≤ 100 := by omega
    cases sw with
    | true =>
      have q := hullOp_small (k := k) (e := (c, d)) (f := (a, b)) h3 h4 h1 h2
      exact ⟨Nat.le_trans q.1 big, Nat.le_trans q.2 big⟩
    | false =>
      have q := hullOp_small (k := k) (e := (a, b)) (f := (c, d)) h1 h2 h3 h4
      exact ⟨Nat.le_trans q.1 big, Nat.le_trans q.2 big⟩
  refine ⟨by show 1 ≤ 3; decide, by show 3 ≤ 30; decide, tri_ok T sw, fun i hi e he => ?_⟩
  have e3 : ∀ e ∈ hullsN (tri a b c d k sw) 3, Bnd e := by
    rw [hulls_tri]
    intro e he
    simp only [List.mem_cons, List.mem_nil_iff, or_false] at he
    rcases he with h | h | h <;> rw [h]
    · exact b1
    · exact b2
    · exact b3
  match i, (show i ≤ 3 from hi) with
  | 0, _ => exact nomatch he
  | 1, _ => exact e3 e (List.mem_append_left _ (List.mem_append_left _ he))
  | 2, _ => exact e3 e (List.mem_append_left _ he)
  | 3, _ => exact e3 e he
theorem inp_tri {a b c d x y : Int} {k : Nat} {sw : Bool} (h1 : a ≤ x) (h2 : x ≤ b) (h3 : c ≤ y) (h4 : y ≤ d) : InpOk (tri a b c d k sw) [x, y] := by
  constructor
  · cases sw <;> rfl
  · intro i lo hi h
    match i with
    | 0 =>
      cases h
      exact ⟨h1, h2⟩
    | 1 =>
      cases h
      exact ⟨h3, h4⟩
    | 2 => cases sw <;> exact nomatch h
    | i + 3 => simp [tri] at h
theorem ends_op {k : Nat} (hk : k ≤ 2) {a b c d : Int} (h1 : a ≤ b) (h2 : c ≤ d) : (∃ x y, (x = a ∨ x = b) ∧ (y = c ∨ y = d) ∧ op3 k x y = (hullOp k (a, b) (c, d)).1) ∧ (∃ x y, (x = a ∨ x = b) ∧ (y = c ∨ y = d) ∧ op3 k x y = (hullOp k (a, b) (c, d)).2) := by
  match k, hk with
  | 0, _ => exact ⟨⟨a, c, .inl rfl, .inl rfl, rfl⟩, ⟨b, d, .inr rfl, .inr rfl, rfl⟩⟩
  | 1, _ => exact ⟨⟨a, d, .inl rfl, .inr rfl, rfl⟩, ⟨b, c, .inr rfl, .inl rfl, rfl⟩⟩
  | 2, _ =>
    constructor
    · have h : min4 (a * c) (a * d) (b * c) (b * d) = a * c ∨ min4 (a * c) (a * d) (b * c) (b * d) = a * d ∨ min4 (a * c) (a * d) (b * c) (b * d) = b * c ∨ min4 (a * c) (a * d) (b * c) (b * d) = b * d := by
        unfold min4
        omega
      rcases h with h | h | h | h
      · exact ⟨a, c, .inl rfl, .inl rfl, h.symm⟩
      · exact ⟨a, d, .inl rfl, .inr rfl, h.symm⟩
      · exact ⟨b, c, .inr rfl, .inl rfl, h.symm⟩
      · exact ⟨b, d, .inr rfl, .inr rfl, h.symm⟩
    · have h : max4 (a * c) (a * d) (b * c) (b * d) = a * c ∨ max4 (a * c) (a * d) (b * c) (b * d) = a * d ∨ max4 (a * c) (a * d) (b * c) (b * d) = b * c ∨ max4 (a * c) (a * d) (b * c) (b * d) = b * d := by
        unfold max4
        omega
      rcases h with h | h | h | h
      · exact ⟨a, c, .inl rfl, .inl rfl, h.symm⟩
      · exact ⟨a, d, .inl rfl, .inr rfl, h.symm⟩
      · exact ⟨b, c, .inr rfl, .inl rfl, h.symm⟩
      · exact ⟨b, d, .inr rfl, .inr rfl, h.symm⟩
/-- the ends of the hull are the least and the greatest value -/
theorem tri_min {a b c d : Int} {k : Nat} (T : TriOk a b c d k) (sw : Bool) {m M : Int} {vs : List Int} (hv : vs = (allN (tri a b c d k sw) 3).map fun ins => (vals (tri a b c d k sw) ins).getD 2 0)
    (hm : m ∈ vs) (hml : ∀ y, y ∈ vs → m ≤ y) (hM : M ∈ vs) (hMg : ∀ y, y ∈ vs → y ≤ M) : hullTri a b c d k sw = (m, M) := by
  subst hv
  have mem : ∀ z : Int, z ∈ ((allN (tri a b c d k sw) 3).map fun ins => (vals (tri a b c d k sw) ins).getD 2 0) ↔ ∃ x y, (a ≤ x ∧ x ≤ b ∧ c ≤ y ∧ y ≤ d) ∧ z = valTri k sw x y := by
    intro z
    rw [List.mem_map]
    constructor
    · rintro ⟨ins, h, rfl⟩
      obtain ⟨x, y, rfl, h1⟩ := (all_tri a b c d k sw ins).mp h
      exact ⟨x, y, h1, by rw [vals_tri] <;> rfl⟩
    · rintro ⟨x, y, h1, rfl⟩
      exact ⟨[x, y], (all_tri a b c d k sw _).mpr ⟨x, y, rfl, h1⟩, by rw [vals_tri] <;> rfl⟩
  have ab := T.ab
  have cd := T.cd
  have inn : ∀ x y, a ≤ x → x ≤ b → c ≤ y → y ≤ d → InHull (hullTri a b c d k sw) (valTri k sw x y) := by
    intro x y h1 h2 h3 h4
    unfold hullTri valTri
    cases sw with
    | true => exact hullOp_in (e := (c, d)) (f := (a, b)) ⟨h3, h4⟩ ⟨h1, h2⟩
    | false => exact hullOp_in (e := (a, b)) (f := (c, d)) ⟨h1, h2⟩ ⟨h3, h4⟩
  have att : (∃ x y, (a ≤ x ∧ x ≤ b ∧ c ≤ y ∧ y ≤ d) ∧ (hullTri a b c d k sw).1 = valTri k sw x y) ∧ (∃ x y, (a ≤ x ∧ x ≤ b ∧ c ≤ y ∧ y ≤ d) ∧ (hullTri a b c d k sw).2 = valTri k sw x y) := by
    unfold hullTri valTri
    cases sw with
    | true =>
      obtain ⟨⟨x, y, hx, hy, e⟩, ⟨x2, y2, hx2, hy2, e2⟩⟩ := ends_op T.k2 (a := c) (b := d) (c := a) (d := b) cd ab
      exact ⟨⟨y, x, ⟨by omega, by omega, by omega, by omega⟩, e.symm⟩, ⟨y2, x2, ⟨by omega, by omega, by omega, by omega⟩, e2.symm⟩⟩
    | false =>
      obtain ⟨⟨x, y, hx, hy, e⟩, ⟨x2, y2, hx2, hy2, e2⟩⟩ := ends_op T.k2 (a := a) (b := b) (c := c) (d := d) ab cd
      exact ⟨⟨x, y, ⟨by omega, by omega, by omega, by omega⟩, e.symm⟩, ⟨x2, y2, ⟨by omega, by omega, by omega, by omega⟩, e2.symm⟩⟩
  obtain ⟨⟨x1, y1, r1, e1⟩, ⟨x2, y2, r2, e2⟩⟩ := att
  obtain ⟨x3, y3, r3, e3⟩ := (mem m).mp hm
  obtain ⟨x4, y4, r4, e4⟩ := (mem M).mp hM
  have k1 := hml _ ((mem _).mpr ⟨x1, y1, r1, rfl⟩)
  have k2 := hMg _ ((mem _).mpr ⟨x2, y2, r2, rfl⟩)
  have k3 := (inn x3 y3 r3.1 r3.2.1 r3.2.2.1 r3.2.2.2).1
  have k4 := (inn x4 y4 r4.1 r4.2.1 r4.2.2.1 r4.2.2.2).2
  refine Prod.ext ?_ ?_
  · show (hullTri a b c d k sw).1 = m
    omega
  · show (hullTri a b c d k sw).2 = M
    omega
theorem tri_small {a b c d : Int} {k : Nat} (T : TriOk a b c d k) (sw : Bool) : (hullTri a b c d k sw).1.natAbs ≤ 10000 ∧ (hullTri a b c d k sw).2.natAbs ≤ 10000 := by
  have t1 := T.ab
  have t2 := T.b5
  have t3 := T.cd
  have t4 := T.d5
  have t5 := T.al
  have t6 := T.ah
  have t7 := T.cl
  have t8 := T.ch
  have h1 : a.natAbs ≤ 100 := by omega
  have h2 : b.natAbs ≤ 100 := by omega
  have h3 : c.natAbs ≤ 100 := by omega
  have h4 : d.natAbs ≤ 100 := by omega
  unfold hullTri
  cases sw with
  | true => exact hullOp_small (k := k) (e := (c, d)) (f := (a, b)) h3 h4 h1 h2
  | false => exact hullOp_small (k := k) (e := (a, b)) (f := (c, d)) h1 h2 h3 h4
theorem row_two {x y : Int} (h1 : x.natAbs ≤ 10000) (h2 : y.natAbs ≤ 10000) : Shows (.tuple [.int x, .int y]) :=
  (Row.ints (ns := [x, y]) (fun n hn => by
    rcases List.mem_cons.mp hn with h | h
    · rw [h]
      exact Nat.lt_of_le_of_lt h1 (by decide +kernel)
    · rw [List.mem_singleton.mp h]
      exact Nat.lt_of_le_of_lt h2 (by decide +kernel)) (by show 2 ≤ 9000; decide)).one
end Sx
namespace Sx
open PySem PySem.Spec PyProof.Rows L2
theorem fine_int' {i : Int} (h : i.natAbs ≤ 10 ^ 120) : fine (.int i) = true := by
  have h2 : i.natAbs < big := Nat.lt_of_le_of_lt h (by decide +kernel)
  simpa [fine] using h2
theorem nodAll_le {α : Type} {f : α → PyData} {k : Nat} (h : ∀ x, nod (f x) ≤ k) : ∀ xs : List α, nodAll (xs.map f) ≤ k * xs.length
  | [] => Nat.le_refl _
  | x :: xs => by
    show nod (f x) + nodAll (xs.map f) ≤ k * (xs.length + 1)
    have := nodAll_le h xs
    have := h x
    rw [Nat.mul_succ]
    omega
theorem stepD_nod (s : Stp) : nod (.tuple (stepD s)) ≤ 12 := by
  cases s with
  | inn lo hi => exact (by decide +kernel : nod (.tuple [.str "in", .int 0, .int 0]) ≤ 12)
  | num c => exact (by decide +kernel : nod (.tuple [.str "is", .int 0]) ≤ 12)
  | op k i j =>
    match k with
    | 0 => exact (by decide +kernel : nod (.tuple [.str "sum", .int 0, .int 0]) ≤ 12)
    | 1 => exact (by decide +kernel : nod (.tuple [.str "less", .int 0, .int 0]) ≤ 12)
    | _ + 2 => exact (by decide +kernel : nod (.tuple [.str "times", .int 0, .int 0]) ≤ 12)
theorem stepD_depth (s : Stp) : PyData.depth (.tuple (stepD s)) ≤ 1 := by
  cases s with
  | inn lo hi => exact (by decide +kernel : PyData.depth (.tuple [.str "in", .int 0, .int 0]) ≤ 1)
  | num c => exact (by decide +kernel : PyData.depth (.tuple [.str "is", .int 0]) ≤ 1)
  | op k i j => exact (by decide +kernel : PyData.depth (.tuple [.str "", .int 0, .int 0]) ≤ 1)
theorem fine3 {x y z : PyData} (h1 : fine x = true) (h2 : fine y = true) (h3 : fine z = true) : fine (.tuple [x, y, z]) = true := by
  show (fine x && (fine y && (fine z && true))) = true
  rw [h1, h2, h3] <;> rfl
theorem fine2 {x y : PyData} (h1 : fine x = true) (h2 : fine y = true) : fine (.tuple [x, y]) = true := by
  show (fine x && (fine y && true)) = true
  rw [h1, h2] <;> rfl
theorem stepD_fine {n : Nat} {s : Stp} (h : StepOk n s) (hn : n ≤ 1000) : fine (.tuple (stepD s)) = true := by
  cases s with
  | inn lo hi =>
    obtain ⟨h1, h2, _⟩ := h
    exact fine3 (by decide +kernel : fine (.str "in") = true) (fine_int' (num_bnd h1)) (fine_int' (num_bnd h2))
  | num c =>
    exact fine2 (by decide +kernel : fine (.str "is") = true) (fine_int' (num_bnd h))
  | op k i j =>
    obtain ⟨_, h1, h2⟩ := h
    have hw : fine (.str (opw k)) = true := by
      match k with
      | 0 => decide +kernel
      | 1 => decide +kernel
      | _ + 2 => exact (by decide +kernel : fine (.str "times") = true)
    have big : 1000 ≤ 10 ^ 120 := by decide +kernel
    exact fine3 hw (fine_int' (Nat.le_trans (show ((i : Nat) : Int).natAbs ≤ 1000 by omega) big)) (fine_int' (Nat.le_trans (show ((j : Nat) : Int).natAbs ≤ 1000 by omega) big))
theorem Row.prog {ss : List Stp} (P : IsProg ss) : Row (.tuple (ss.map fun s => .tuple (stepD s))) := by
  have h30 := P.most
  refine .tup (fineAll_map ss fun s hs => ?_) ?_ (Nat.le_trans (depthAll_map (k := 1) ss fun s _ => stepD_depth s) (by decide))
  · obtain ⟨i, hi, e⟩ := List.mem_iff_getElem.mp hs
    exact stepD_fine (P.ok i s (by rw [List.getElem?_eq_getElem hi, e])) (by omega)
  · have := nodAll_le (f := fun s => PyData.tuple (stepD s)) (k := 12) stepD_nod ss
    omega
theorem Row.hlt {E : List (Int × Int)} (hb : ∀ e ∈ E, Bnd e) (hl : E.length ≤ 1000) : Row (.tuple (E.map hullD)) := by
  refine .tup (fineAll_map E fun e he => ?_) ?_ (Nat.le_trans (depthAll_map (k := 1) E fun e _ => Nat.le_refl _) (by decide))
  · obtain ⟨h1, h2⟩ := hb e he
    exact fine2 (fine_int' h1) (fine_int' h2)
  · have := nodAll_le (f := hullD) (k := 3) (fun e => Nat.le_refl _) E
    omega
theorem Row.nums {ns : List Int} (h : ∀ n ∈ ns, n.natAbs ≤ 10 ^ 120) (hl : ns.length ≤ 9000) : Row (.tuple (ns.map PyData.int)) := by
  refine .tup (fineAll_map ns fun n hn => fine_int' (h n hn)) ?_ (depthAll_map ns fun _ _ => Nat.zero_le _)
  rw [nodAll_map (fun _ => rfl)]
  exact hl
theorem Row.int {n : Int} (h : n.natAbs ≤ 10 ^ 120) : Row (.int n) := ⟨fine_int' h, by show 1 ≤ 10000; decide, Nat.zero_le _⟩
end Sx
namespace Sx
open PySem PySem.Spec PyProof.Rows L2

/-! ### data of all kinds, the empty dict among it -/
mutual
inductive Dt (K : PySem.W.Frag) (H : Hp) : V → PyData → Prop
  | non : Dt K H .non .none
  | bl (b : Bool) : Dt K H (.bl b) (.bool b)
  | int (i : Int) : Dt K H (.int i) (.int i)
  | str (x : Str) : Dt K H (.str x) (.str x)
  | lst {a : Addr} {xs : List V} {ds : List PyData} (e : SqL K H a xs) (h : DtAll K H xs ds) : Dt K H (.ref a) (.list ds)
  | tup {a : Addr} {xs : List V} {ds : List PyData} (e : SqT K H a xs) (h : DtAll K H xs ds) : Dt K H (.ref a) (.tuple ds)
  | dct {a : Addr} (e : H a = some (.dK [])) : Dt K H (.ref a) (.dict [])
inductive DtAll (K : PySem.W.Frag) (H : Hp) : List V → List PyData → Prop
  | nil : DtAll K H [] []
  | cons {v : V} {vs : List V} {d : PyData} {ds : List PyData} : Dt K H v d → DtAll K H vs ds → DtAll K H (v :: vs) (d :: ds)
end
mutual
theorem dt_same {K : PySem.W.Frag} {H H' : Hp} (e : Same H H') : ∀ (d : PyData) (v : V), Dt K H v d → Dt K H' v d
  | .none, _, h => by
    cases h
    exact .non
  | .bool _, _, h => by
    cases h
    exact .bl _
  | .int _, _, h => by
    cases h
    exact .int _
  | .str _, _, h => by
    cases h
    exact .str _
  | .list ds, _, h => by
    cases h with
    | lst h1 h2 => exact .lst (L2.Same.seq e h1) (dta_same e ds _ h2)
  | .tuple ds, _, h => by
    cases h with
    | tup h1 h2 => exact .tup (Same.tup e h1) (dta_same e ds _ h2)
  | .dict _, _, h => by
    cases h with
    | dct h1 => exact .dct (e _ _ h1)
theorem dta_same {K : PySem.W.Frag} {H H' : Hp} (e : Same H H') : ∀ (ds : List PyData) (vs : List V), DtAll K H vs ds → DtAll K H' vs ds
  | [], _, h => by
    cases h
    exact .nil
  | d :: ds, _, h => by
    cases h with
    | cons h1 h2 => exact .cons (dt_same e d _ h1) (dta_same e ds _ h2)
end
mutual
theorem dt_of {K : PySem.W.Frag} {H : Hp} : ∀ (d : PyData) (v : V), Dp K H v d → Dt K H v d
  | .none, _, h => by
    cases h
    exact .non
  | .bool _, _, h => by
    cases h
    exact .bl _
  | .int _, _, h => by
    cases h
    exact .int _
  | .str _, _, h => by
    cases h
    exact .str _
  | .list ds, _, h => by
    cases h with
    | lst h1 h2 => exact .lst h1 (dta_of ds _ h2)
  | .tuple ds, _, h => by
    cases h with
    | tup h1 h2 => exact .tup h1 (dta_of ds _ h2)
  | .dict _, _, h => by cases h
theorem dta_of {K : PySem.W.Frag} {H : Hp} : ∀ (ds : List PyData) (vs : List V), DpAll K H vs ds → DtAll K H vs ds
  | [], _, h => by
    cases h
    exact .nil
  | d :: ds, _, h => by
    cases h with
    | cons h1 h2 => exact .cons (dt_of d _ h1) (dta_of ds _ h2)
end
section
variable {X : Cx} {pins : List (Addr × Obj)} {σ : L2.St} {H : Hp} {s : Shared}
theorem empty_dict {a : Addr} (I : Inv X pins σ H s) (e : H a = some (.dK [])) : (a == sysModules) = false ∧ ∃ o n, s.heap.get? a = some o ∧ o.cls = .type "dict" ∧ o.data = .dict #[] n := by
  obtain ⟨_, hd, vs, rel, o, es, ep, h1, h2, h3, h4⟩ := dk_of I.hok e
  cases rel
  obtain ⟨_, hp, _⟩ := h4
  have he : es = #[] := by
    have := hp.length
    simpa using this
  subst he
  exact ⟨hd, o, ep, h1, h2.1, h3⟩
/-- each part, and how it shows -/
def Sh (X : Cx) (s : Shared) (u : Value) (d : PyData) : Prop := (∃ as, Reads s.heap u d as) ∧ ∃ bs, ReadAtMost s.heap d.depth bs ∧ ReprK X.prog X.w bs s.heap d.depth u d.shown
def ShAll (X : Cx) (s : Shared) (us : List Value) (ds : List PyData) : Prop := (∃ as, ReadsAll s.heap us ds as) ∧ ∃ bs, ReadAtMost s.heap (PyData.depthAll ds) bs ∧ ReprAllK X.prog X.w bs s.heap (PyData.depthAll ds) us (PyData.shownAll ds)
mutual
theorem Dt.sh (I : Inv X pins σ H s) : ∀ (d : PyData) (v : V) (u : Value), Dt X.K H v d → RelV v u → d.showable = true → d.shown.length ≤ sizeLine → Sh X s u d
  | .none, _, _, h, r, _, _ => by
    cases h
    cases r
    exact ⟨⟨_, .none⟩, [], (fun _ z => nomatch z), by simp only [PyData.shown]; exact .of_is ReprIs.none _ _ _⟩
  | .bool b, _, _, h, r, _, _ => by
    cases h
    cases r
    exact ⟨⟨_, .bool b⟩, [], (fun _ z => nomatch z), by simp only [PyData.shown]; exact .of_is (ReprIs.bool b) _ _ _⟩
  | .int i, _, _, h, r, hs, _ => by
    cases h
    obtain ⟨t, rfl⟩ := r
    exact ⟨⟨_, .int i t⟩, [], (fun _ z => nomatch z), by simp only [PyData.shown]; exact .of_is (ReprIs.int t (by simpa [PyData.showable] using hs)) _ _ _⟩
  | .str x, _, _, h, r, _, hz => by
    cases h
    obtain ⟨t, rfl⟩ := r
    exact ⟨⟨_, .str x t⟩, [], (fun _ z => nomatch z), by simp only [PyData.shown]; exact .of_is (ReprIs.str x t (by simpa only [PyData.shown] using hz)) _ _ _⟩
  | .list ds, _, _, h, r, hs, hz => by
    cases h with
    | lst e ha =>
      cases r
      obtain ⟨its, rv, ⟨o, n, ho, hc, _, hd⟩, _⟩ := I.list e
      have hz' : (listText (PyData.shownAll ds)).length ≤ sizeLine := by simpa only [PyData.shown] using hz
      obtain ⟨⟨as, ra⟩, bs, hb, hk⟩ := DtAll.sh I ds _ its ha rv (by simpa [PyData.showable] using hs) fun t ht => Nat.le_trans (listText_mem_le ht) hz'
      have r0 := Reads.list ho hc hd ra
      have hna := not_mem_of_deeper r0 (by simp only [PyData.depth]; omega) hb
      refine ⟨⟨_, r0⟩, _, ReadAtMost.cons r0 (by simp only [PyData.depth]; omega) hb, ?_⟩
      simp only [PyData.depth, PyData.shown]
      cases its with
      | nil =>
        cases ra
        simp only [PyData.shownAll, listText_nil]
        exact ReprK.listEmpty ho hc hd
      | cons x l => exact ReprK.list ho hc hd hna (by simpa using hk.length_eq) fun i y z => hk.item i y (by simpa using z)
  | .tuple ds, _, _, h, r, hs, hz => by
    cases h with
    | tup e ha =>
      cases r
      obtain ⟨its, rv, ⟨o, ho, hc, n, hd⟩, _⟩ := I.tuple e
      have hz' : (tupleText (PyData.shownAll ds)).length ≤ sizeLine := by simpa only [PyData.shown] using hz
      obtain ⟨⟨as, ra⟩, bs, hb, hk⟩ := DtAll.sh I ds _ its ha rv (by simpa [PyData.showable] using hs) fun t ht => Nat.le_trans (tupleText_mem_le ht) hz'
      have r0 := Reads.tuple ho hc hd ra
      have hna := not_mem_of_deeper r0 (by simp only [PyData.depth]; omega) hb
      refine ⟨⟨_, r0⟩, _, ReadAtMost.cons r0 (by simp only [PyData.depth]; omega) hb, ?_⟩
      simp only [PyData.depth, PyData.shown]
      exact ReprK.tuple ho hc hd hna hk
  | .dict kvs, _, _, h, r, hs, hz => by
    cases h with
    | dct e =>
      cases r
      obtain ⟨hsys, o, n, ho, hc, hd⟩ := empty_dict I e
      have r0 : Reads s.heap (.ref _) (.dict []) _ := Reads.dict ho hc hd ReadsAll.nil ReadsAll.nil
      refine ⟨⟨_, r0⟩, [_], ReadAtMost.cons (n := 0) (bs := []) r0 (Nat.zero_le _) (fun _ z => nomatch z), ?_⟩
      simp only [PyData.depth, PyData.shown, PyData.shownKv_eq]
      exact ReprK.dict (as := []) ho hc hd hsys (fun z => nomatch z) .nil
theorem DtAll.sh (I : Inv X pins σ H s) : ∀ (ds : List PyData) (vs : List V) (us : List Value), DtAll X.K H vs ds → Vals vs us → PyData.showableAll ds = true → (∀ t ∈ PyData.shownAll ds, t.length ≤ sizeLine) → ShAll X s us ds
  | [], _, _, h, r, _, _ => by
    cases h
    cases r
    exact ⟨⟨_, .nil⟩, [], (fun _ z => nomatch z), by simp only [PyData.shownAll]; exact .nil⟩
  | d :: ds, _, _, h, r, hs, hz => by
    cases h with
    | cons h1 h2 =>
      cases r with
      | cons r1 r2 =>
        have hs' : d.showable = true ∧ PyData.showableAll ds = true := by simpa [PyData.showableAll] using hs
        obtain ⟨⟨a1, q1⟩, b1, m1, k1⟩ := Dt.sh I d _ _ h1 r1 hs'.1 (hz _ (by simp only [PyData.shownAll]; exact List.mem_cons_self ..))
        obtain ⟨⟨a2, q2⟩, b2, m2, k2⟩ := DtAll.sh I ds _ _ h2 r2 hs'.2 fun t ht => hz t (by simp only [PyData.shownAll]; exact List.mem_cons_of_mem _ ht)
        refine ⟨⟨_, .cons q1 q2⟩, b1 ++ b2, ?_, ?_⟩
        · simp only [PyData.depthAll]
          exact (m1.mono (Nat.le_max_left _ _)).append (m2.mono (Nat.le_max_right _ _))
        · simp only [PyData.depthAll, PyData.shownAll]
          exact .cons ((k1.more fun b z => List.mem_append_left _ z).level_le (Nat.le_max_left _ _)) (k2.more_le (fun b z => List.mem_append_right _ z) (Nat.le_max_right _ _))
end
end
def rShowD (K : PySem.W.Frag) : List V → Hp → VK → Prop := fun xs H Q => ∃ v d, xs = [v] ∧ Dt K H v d ∧ Shows d ∧ Q (.str d.shown) H
theorem call_showD {X : Cx} (hg : X.A.guards = some []) (hu : X.A.units + 64 < cLine) : CallR X (.builtin "repr") (rShowD X.K) := by
  intro pins s σ H xs us Q I r h
  obtain ⟨v, d, rfl, hd, S, q⟩ := h
  obtain ⟨u, rfl, r1⟩ := vals1 r
  obtain ⟨⟨as, rd⟩, _⟩ := Dt.sh I d v u hd r1 S.ok S.sz
  have hdp := S.dp
  have fin : ∀ {a : Addr} {T idr : String}, u = .ref a → ShowsBy X.prog X.w s.heap a d T idr → wpAny (model X.prog X.w) X.A (call (.builtin "repr") [u]) (EP X pins σ Q) X.xe s := by
    rintro a T idr rfl SB
    exact call_repr_slot (by omega) (SB.typeIs s fun _ _ e => e) SB.slotRepr (SB.call X.A.in1 _ s _ hg (by show X.A.units + 1 + d.depth < cLine; omega) (fun _ _ e => e) fun h' tu tk hk => ⟨_, _, rfl, .str _, H, I.kept hk, ⟨_, rfl⟩, q⟩)
  cases hd with
  | non => exact call_show hg hu pins s σ H _ _ Q I r ⟨_, _, rfl, .non, S, q⟩
  | bl b => exact call_show hg hu pins s σ H _ _ Q I r ⟨_, _, rfl, .bl b, S, q⟩
  | int i => exact call_show hg hu pins s σ H _ _ Q I r ⟨_, _, rfl, .int i, S, q⟩
  | str y => exact call_show hg hu pins s σ H _ _ Q I r ⟨_, _, rfl, .str y, S, q⟩
  | @lst a ys ds e ha =>
    obtain rfl : u = Value.ref a := r1
    obtain ⟨its, rv, ⟨o, n, ho, hc, _, hdd⟩, _⟩ := I.list e
    have hz' : (listText (PyData.shownAll ds)).length ≤ sizeLine := by simpa only [PyData.shown] using S.sz
    obtain ⟨⟨as2, ra⟩, bs, hb, hk⟩ := DtAll.sh I ds _ its ha rv (by simpa [PyData.showable] using S.ok) fun t ht => Nat.le_trans (listText_mem_le ht) hz'
    have hna := not_mem_of_deeper (Reads.list ho hc hdd ra) (by simp only [PyData.depth]; omega) hb
    refine fin rfl (T := "list") (idr := "list.__repr__") ⟨F.slot_list_repr.toG, F.slot_list_str, F.slot_list_format, fun s hk0 => ⟨o, hk0 _ _ ho, hc⟩, fun A E s Q hg hu hk0 hQ => ?_⟩
    simp only [PyData.depth] at hu
    simp only [PyData.shown] at hQ
    cases its with
    | nil =>
      cases ra
      simp only [PyData.shownAll, listText_nil] at hQ
      exact call_list_repr_empty ⟨o, hk0 _ _ ho, hc⟩ (hk0 _ _ ho) hdd (hQ s.heap _ _ fun _ _ e => e)
    | cons x l => exact call_list_reprK ho hc hdd hna (by simpa using hk.length_eq) (fun i y z => hk.item i y (by simpa using z)) hg (fun b _ => Clear.nil b) hu hk0 hQ hz'
  | @tup a ys ds e ha =>
    obtain rfl : u = Value.ref a := r1
    obtain ⟨its, rv, ⟨o, ho, hc, n, hdd⟩, _⟩ := I.tuple e
    have hz' : (tupleText (PyData.shownAll ds)).length ≤ sizeLine := by simpa only [PyData.shown] using S.sz
    obtain ⟨⟨as2, ra⟩, bs, hb, hk⟩ := DtAll.sh I ds _ its ha rv (by simpa [PyData.showable] using S.ok) fun t ht => Nat.le_trans (tupleText_mem_le ht) hz'
    have hna := not_mem_of_deeper (Reads.tuple ho hc hdd ra) (by simp only [PyData.depth]; omega) hb
    refine fin rfl (T := "tuple") (idr := "tuple.__repr__") ⟨F.slot_tuple_repr, F.slot_tuple_str, F.slot_tuple_format, fun s hk0 => ⟨o, hk0 _ _ ho, hc⟩, fun A E s Q hg hu hk0 hQ => ?_⟩
    simp only [PyData.depth] at hu
    simp only [PyData.shown] at hQ
    exact call_tuple_reprK ho hc hdd hna hk hg (fun b _ => Clear.nil b) hu hk0 hQ hz'
  | @dct a e =>
    obtain rfl : u = Value.ref a := r1
    obtain ⟨hsys, o, n, ho, hc, hdd⟩ := empty_dict I e
    refine fin rfl (T := "dict") (idr := "dict.__repr__") ⟨F.slot_dict_repr, F.slot_dict_str, F.slot_dict_format, fun s hk0 => ⟨o, hk0 _ _ ho, hc⟩, fun A E s Q hg hu hk0 hQ => ?_⟩
    simp only [PyData.depth] at hu
    simp only [PyData.shown, PyData.shownKv_eq] at hQ
    exact call_dict_reprK (as := []) ho hc hdd hsys (fun z => nomatch z) .nil hg (fun b _ => Clear.nil b) hu hk0 hQ (by decide +kernel)
end Sx
namespace Sx
open PySem PySem.Spec PyProof.Rows L2

/-! ### the class of a piece of data -/
def clsOf : PyData → String
  | .none => "NoneType"
  | .bool _ => "bool"
  | .int _ => "int"
  | .str _ => "str"
  | .list _ => "list"
  | .tuple _ => "tuple"
  | .dict _ => "dict"
theorem tyx_of {K : PySem.W.Frag} {H : Hp} {v : V} {d : PyData} (h : Dt K H v d) : TyX K H v (.type (clsOf d)) := by
  cases h with
  | non => exact .base .non
  | bl b => exact .base (.bl b)
  | int i => exact .base (.int i)
  | str x => exact .base (.str x)
  | lst e _ =>
    rcases e with (e | ⟨o, e⟩) | ⟨o, its, n, e, c, _⟩
    · exact .base (.lst e)
    · exact .base (.frz e)
    · exact .kList e c
  | tup e _ =>
    rcases e with (e | ⟨o, e⟩) | ⟨o, its, n, e, c, _⟩
    · exact .base (.tup e)
    · exact .fTuple e
    · exact .kTuple e c
  | dct e => exact .base (.dK e)
def isOf (n : String) (d : PyData) : Bool := (kitB (clsOf d) n).getD false
theorem isi_of {K : PySem.W.Frag} {H : Hp} {v : V} {d : PyData} {n : String} {b : Bool} {Q : VK} (h : Dt K H v d) (e : kitB (clsOf d) n = some b) (q : Q (.bl b) H) : rIsi K [v, .ty n] H Q :=
  ⟨v, .ty n, _, _, b, rfl, .ty n, tyx_of h, kit_ty e, q⟩
def wholeD : PyData → Bool
  | .int _ => true
  | _ => false
def tupD : PyData → Bool
  | .tuple _ => true
  | _ => false
theorem kit_int (d : PyData) : kitB (clsOf d) "int" = some (match d with | .int _ => true | .bool _ => true | _ => false) := by
  cases d
  · exact (by decide +kernel : kitB "NoneType" "int" = some false)
  · exact (by decide +kernel : kitB "bool" "int" = some true)
  · exact (by decide +kernel : kitB "int" "int" = some true)
  · exact (by decide +kernel : kitB "str" "int" = some false)
  · exact (by decide +kernel : kitB "list" "int" = some false)
  · exact (by decide +kernel : kitB "tuple" "int" = some false)
  · exact (by decide +kernel : kitB "dict" "int" = some false)
theorem kit_bool (d : PyData) : kitB (clsOf d) "bool" = some (match d with | .bool _ => true | _ => false) := by
  cases d
  · exact (by decide +kernel : kitB "NoneType" "bool" = some false)
  · exact (by decide +kernel : kitB "bool" "bool" = some true)
  · exact (by decide +kernel : kitB "int" "bool" = some false)
  · exact (by decide +kernel : kitB "str" "bool" = some false)
  · exact (by decide +kernel : kitB "list" "bool" = some false)
  · exact (by decide +kernel : kitB "tuple" "bool" = some false)
  · exact (by decide +kernel : kitB "dict" "bool" = some false)
theorem kit_tuple (d : PyData) : kitB (clsOf d) "tuple" = some (tupD d) := by
  cases d
  · exact (by decide +kernel : kitB "NoneType" "tuple" = some false)
  · exact (by decide +kernel : kitB "bool" "tuple" = some false)
  · exact (by decide +kernel : kitB "int" "tuple" = some false)
  · exact (by decide +kernel : kitB "str" "tuple" = some false)
  · exact (by decide +kernel : kitB "list" "tuple" = some false)
  · exact (by decide +kernel : kitB "tuple" "tuple" = some true)
  · exact (by decide +kernel : kitB "dict" "tuple" = some false)
theorem kit_str (d : PyData) : kitB (clsOf d) "str" = some (match d with | .str _ => true | _ => false) := by
  cases d
  · exact (by decide +kernel : kitB "NoneType" "str" = some false)
  · exact (by decide +kernel : kitB "bool" "str" = some false)
  · exact (by decide +kernel : kitB "int" "str" = some false)
  · exact (by decide +kernel : kitB "str" "str" = some true)
  · exact (by decide +kernel : kitB "list" "str" = some false)
  · exact (by decide +kernel : kitB "tuple" "str" = some false)
  · exact (by decide +kernel : kitB "dict" "str" = some false)
def withinD (d : PyData) (lo hi : Int) : Bool := match d with
  | .int i => decide (lo ≤ i) && decide (i ≤ hi)
  | _ => false
def sp_is_whole (K : PySem.W.Frag) : Sp := fun vs H Q _ => ∃ (v : V) (d : PyData), vs = [v] ∧ Dt K H v d ∧ Q (.bl (wholeD d)) H
def sp_is_within (K : PySem.W.Frag) : Sp := fun vs H Q _ => ∃ (v : V) (d : PyData) (lo hi : Int), vs = [v, .int lo, .int hi] ∧ Dt K H v d ∧ Q (.bl (withinD d lo hi)) H
def sp__law_is_from (K : PySem.W.Frag) : Sp := sp_is_within K

/-! ### rows of data -/
theorem dta_len {K : PySem.W.Frag} {H : Hp} : ∀ {vs : List V} {ds : List PyData}, DtAll K H vs ds → vs.length = ds.length
  | _, _, .nil => rfl
  | _, _, .cons _ t => congrArg (· + 1) (dta_len t)
theorem dta_at {K : PySem.W.Frag} {H : Hp} : ∀ {vs : List V} {ds : List PyData} {i : Nat} {d : PyData}, DtAll K H vs ds → ds[i]? = some d → ∃ v, vs[i]? = some v ∧ Dt K H v d
  | _, _, _, _, .nil, h => by simp at h
  | _, _, 0, d, .cons r t, h => ⟨_, rfl, by rw [← Option.some.inj h]; exact r⟩
  | _, _, i + 1, d, .cons r t, h => dta_at (i := i) t (by simpa using h)
theorem dta_app {K : PySem.W.Frag} {H : Hp} : ∀ {vs ws : List V} {ds es : List PyData}, DtAll K H vs ds → DtAll K H ws es → DtAll K H (vs ++ ws) (ds ++ es)
  | _, _, _, _, .nil, h => h
  | _, _, _, _, .cons r t, h => .cons r (dta_app t h)
theorem dta_take {K : PySem.W.Frag} {H : Hp} : ∀ {vs : List V} {ds : List PyData} (n : Nat), DtAll K H vs ds → DtAll K H (vs.take n) (ds.take n)
  | _, _, 0, _ => .nil
  | _, _, _ + 1, .nil => .nil
  | _, _, n + 1, .cons r t => .cons r (dta_take n t)
theorem dta_drop {K : PySem.W.Frag} {H : Hp} : ∀ {vs : List V} {ds : List PyData} (n : Nat), DtAll K H vs ds → DtAll K H (vs.drop n) (ds.drop n)
  | _, _, 0, h => h
  | _, _, _ + 1, .nil => .nil
  | _, _, n + 1, .cons _ t => dta_drop n t
theorem dta_val {K : PySem.W.Frag} {H : Hp} {vs : List V} {ds : List PyData} {i : Nat} {v : V} (h : DtAll K H vs ds) (e : vs[i]? = some v) : i < ds.length ∧ Dt K H v (ds.getD i .none) := by
  have hi : i < ds.length := by
    rw [← dta_len h]
    exact (List.getElem?_eq_some_iff.mp e).1
  obtain ⟨w, h1, h2⟩ := dta_at h (getD_some PyData.none hi)
  rw [e] at h1
  cases h1
  exact ⟨hi, h2⟩
theorem dta_three {K : PySem.W.Frag} {H : Hp} {xs : List V} {ds : List PyData} (h : DtAll K H xs ds) (hl : ds.length = 3) : ∃ x y z dx dy dz, xs = [x, y, z] ∧ ds = [dx, dy, dz] ∧ Dt K H x dx ∧ Dt K H y dy ∧ Dt K H z dz := by
  cases h with
  | nil => exact nomatch hl
  | cons r1 h =>
    cases h with
    | nil => exact nomatch hl
    | cons r2 h =>
      cases h with
      | nil => exact nomatch hl
      | cons r3 h =>
        cases h with
        | nil => exact ⟨_, _, _, _, _, _, rfl, rfl, r1, r2, r3⟩
        | cons r4 h => simp at hl

/-! ### strays -/
/-- the greatest rest of the lane that a names -/
def topOf (ns : List Int) : PyData → Int
  | .int i => ns.getD i.toNat 0 - 1
  | _ => -1
def strayD (ns : List Int) (m : Nat) : PyData → Bool
  | .tuple [a, b, c] => withinD a 0 ((ns.length : Int) - 1) && (withinD b 0 ((m : Int) - 1) && withinD c 0 (topOf ns a))
  | _ => false
def le2 (a b a' b' : Int) : Bool := Ob.lexAt (fun j => decide ([a, b].getD j 0 = [a', b'].getD j 0)) (fun j => decide ([a, b].getD j 0 ≤ [a', b'].getD j 0)) (decide ([a, b].length ≤ [a', b'].length)) 0 (min [a, b].length [a', b'].length)
def ordD : PyData → PyData → Bool
  | .tuple (.int a :: .int b :: _), .tuple (.int a' :: .int b' :: _) => le2 a b a' b'
  | _, _ => false
def faultS (ns : List Int) (m : Nat) (ds : List PyData) : PyData := match (List.range ds.length).find? (fun i => !strayD ns m (ds.getD i .none)) with
  | some i => .tuple [.str "stray", .int (i : Nat)]
  | none => match (List.range ds.length).find? (fun i => decide (1 ≤ i) && ordD (ds.getD i .none) (ds.getD (i - 1) .none)) with
    | some i => .tuple [.str "order", .int (i : Nat)]
    | none => .none
def faultD (ns : List Int) (m : Nat) : PyData → PyData
  | .tuple ds => faultS ns m ds
  | _ => .str "form"
theorem find_at {p : Nat → Bool} {n i : Nat} (hi : i < n) (h : p i = true) (hj : ∀ j, j < i → p j = false) : (List.range n).find? p = some i :=
  List.find?_range_eq_some.mpr ⟨h, List.mem_range.mpr hi, fun j z => by rw [hj j z] <;> rfl⟩
theorem find_no {p : Nat → Bool} {n : Nat} (hj : ∀ j, j < n → p j = false) : (List.range n).find? p = none :=
  List.find?_eq_none.mpr fun j z => by
    rw [hj j (List.mem_range.mp z)]
    decide
theorem fault_stray {ns : List Int} {m : Nat} {ds : List PyData} {i : Nat} (hi : i < ds.length) (h : strayD ns m (ds.getD i .none) = false) (hj : ∀ j, j < i → strayD ns m (ds.getD j .none) = true) : faultS ns m ds = .tuple [.str "stray", .int (i : Nat)] := by
  unfold faultS
  rw [find_at hi (by rw [h] <;> rfl) fun j z => by rw [hj j z] <;> rfl]
theorem fault_none {ns : List Int} {m : Nat} {ds : List PyData} (hj : ∀ j, j < ds.length → strayD ns m (ds.getD j .none) = true) : faultS ns m ds = match (List.range ds.length).find? (fun i => decide (1 ≤ i) && ordD (ds.getD i .none) (ds.getD (i - 1) .none)) with
    | some i => .tuple [.str "order", .int (i : Nat)]
    | none => .none := by
  unfold faultS
  rw [find_no fun j z => by rw [hj j z] <;> rfl]
theorem stray_is {ns : List Int} {m : Nat} {d : PyData} (h : strayD ns m d = true) : ∃ a b c : Int, d = .tuple [.int a, .int b, .int c] := by
  match d with
  | .tuple [a, b, c] =>
    obtain ⟨h1, h23⟩ := Bool.and_eq_true_iff.mp (show (withinD a 0 ((ns.length : Int) - 1) && (withinD b 0 ((m : Int) - 1) && withinD c 0 (topOf ns a))) = true from h)
    obtain ⟨h2, h3⟩ := Bool.and_eq_true_iff.mp h23
    have num : ∀ {d : PyData} {lo hi : Int}, withinD d lo hi = true → ∃ i, d = .int i := by
      intro d lo hi h
      cases d with
      | int i => exact ⟨i, rfl⟩
      | none => exact nomatch h
      | bool b => exact nomatch h
      | str x => exact nomatch h
      | list x => exact nomatch h
      | tuple x => exact nomatch h
      | dict x => exact nomatch h
    obtain ⟨i, rfl⟩ := num h1
    obtain ⟨j, rfl⟩ := num h2
    obtain ⟨k, rfl⟩ := num h3
    exact ⟨i, j, k, rfl⟩
  | .tuple [] => exact nomatch h
  | .tuple [a] => exact nomatch h
  | .tuple [a, b] => exact nomatch h
  | .tuple (a :: b :: c :: e :: r) => exact nomatch h
  | .none => exact nomatch h
  | .bool b => exact nomatch h
  | .int i => exact nomatch h
  | .str x => exact nomatch h
  | .list x => exact nomatch h
  | .dict x => exact nomatch h
theorem stray_not3 {ns : List Int} {m : Nat} {ds : List PyData} (h : ds.length ≠ 3) : strayD ns m (.tuple ds) = false := by
  match ds, h with
  | [], _ => rfl
  | [a], _ => rfl
  | [a, b], _ => rfl
  | [a, b, c], h3 => exact absurd rfl h3
  | a :: b :: c :: e :: r, _ => rfl
theorem within_num {d : PyData} {lo hi : Int} (h : withinD d lo hi = true) : ∃ i, d = .int i ∧ lo ≤ i ∧ i ≤ hi := by
  cases d with
  | int i =>
    have h' : (decide (lo ≤ i) && decide (i ≤ hi)) = true := h
    exact ⟨i, rfl, by simpa using h'⟩
  | none => exact nomatch h
  | bool b => exact nomatch h
  | str x => exact nomatch h
  | list x => exact nomatch h
  | tuple x => exact nomatch h
  | dict x => exact nomatch h
theorem lane_at {ns : List Int} {i : Int} (h0 : 0 ≤ i) (h1 : i ≤ (ns.length : Int) - 1) : atI (ns.map V.int) i = some (.int (ns.getD i.toNat 0)) := by
  have hi : i = ((i.toNat : Nat) : Int) := by omega
  rw [hi]
  refine atI_nat ?_
  rw [Int.toNat_natCast, List.getElem?_map, getD_some 0 (by omega)] <;> rfl
def sp_is_stray (K : PySem.W.Frag) : Sp := fun vs H Q _ => ∃ (t p : Addr) (v : V) (ns : List Int) (ss : List Stp) (d : PyData), vs = [.ref t, .ref p, v] ∧ SqT K H t (ns.map V.int) ∧ ProgAt H p ss ∧ Dt K H v d ∧ Q (.bl (strayD ns ss.length d)) H
def dlen : PyData → Nat
  | .tuple ds => ds.length
  | _ => 0
def sp_strays_error (K : PySem.W.Frag) : Sp := fun vs H Q _ => ∃ (t p : Addr) (v : V) (ns : List Int) (ss : List Stp) (d : PyData), vs = [.ref t, .ref p, v] ∧ SqT K H t (ns.map V.int) ∧ ProgAt H p ss ∧ Dt K H v d ∧ dlen d ≤ 100000 ∧
  ∀ (r : V) (H' : Hp), Same H H' → Dt K H' r (faultD ns ss.length d) → Q r H'
def sp__law_fault (K : PySem.W.Frag) : Sp := sp_strays_error K
/-- the order of two strays that stand side by side -/
def orderS (ds : List PyData) : PyData := match (List.range ds.length).find? (fun i => decide (1 ≤ i) && ordD (ds.getD i .none) (ds.getD (i - 1) .none)) with
    | some i => .tuple [.str "order", .int (i : Nat)]
    | none => .none
theorem fault_order {ns : List Int} {m : Nat} {ds : List PyData} (hj : ∀ j, j < ds.length → strayD ns m (ds.getD j .none) = true) : faultS ns m ds = orderS ds := fault_none hj
theorem order_at {ds : List PyData} {i : Nat} (hi : i < ds.length) (h1 : 1 ≤ i) (h : ordD (ds.getD i .none) (ds.getD (i - 1) .none) = true) (hj : ∀ j, 1 ≤ j → j < i → ordD (ds.getD j .none) (ds.getD (j - 1) .none) = false) : orderS ds = .tuple [.str "order", .int (i : Nat)] := by
  unfold orderS
  rw [find_at hi (by rw [h, decide_eq_true h1] <;> rfl) fun j z => by
    by_cases hz : 1 ≤ j
    · rw [hj j hz z, Bool.and_false]
    · rw [decide_eq_false hz] <;> rfl]
theorem order_no {ds : List PyData} (hj : ∀ j, 1 ≤ j → j < ds.length → ordD (ds.getD j .none) (ds.getD (j - 1) .none) = false) : orderS ds = .none := by
  unfold orderS
  rw [find_no fun j z => by
    by_cases hz : 1 ≤ j
    · rw [hj j hz z, Bool.and_false]
    · rw [decide_eq_false hz] <;> rfl]
/-- where a stray stands -/
theorem stray_cells {K : PySem.W.Frag} {H : Hp} {v : V} {ns : List Int} {m : Nat} {d : PyData} (h : Dt K H v d) (hs : strayD ns m d = true) : ∃ (a : Addr) (i j k : Int), v = .ref a ∧ d = .tuple [.int i, .int j, .int k] ∧ SqT K H a ([i, j, k].map V.int) := by
  obtain ⟨i, j, k, rfl⟩ := stray_is hs
  cases h with
  | tup e ha =>
    cases ha with
    | cons r1 ha =>
      cases r1
      cases ha with
      | cons r2 ha =>
        cases r2
        cases ha with
        | cons r3 ha =>
          cases r3
          cases ha
          exact ⟨_, i, j, k, rfl, rfl, e⟩
end Sx
namespace Sx
open PySem PySem.Spec PyProof.Rows L2 HT

/-! ### t[::-1] of a tuple -/
theorem fm_congr {α β : Type} {f g : α → Option β} : ∀ l : List α, (∀ m ∈ l, f m = g m) → l.filterMap f = l.filterMap g
  | [], _ => rfl
  | x :: l, h => by
    rw [List.filterMap_cons, List.filterMap_cons, h x List.mem_cons_self, fm_congr l fun m z => h m (List.mem_cons_of_mem _ z)]
theorem rev_pick (xs : Array Value) : ((List.range xs.size).filterMap fun (m : Nat) => xs[(((xs.size : Int) - 1) + (m : Int) * (-1)).toNat]?).toArray = xs.toList.reverse.toArray := by
  have e := pick_gen xs.toList.reverse.toArray 0 xs.size
  rw [List.drop_zero, List.take_of_length_le (by rw [List.length_reverse, Array.length_toList]; exact Nat.le_refl _)] at e
  rw [← e]
  congr 1
  refine fm_congr _ fun m hm => ?_
  have hm := List.mem_range.mp hm
  have e1 : (((xs.size : Int) - 1) + (m : Int) * (-1)).toNat = xs.size - 1 - m := by omega
  have e2 : (((0 : Nat) : Int) + (m : Int) * 1).toNat = m := by omega
  have e3 : xs.toList.reverse.toArray[m]? = xs.toList.reverse[m]? := by simp
  rw [e1, e2, e3, List.getElem?_reverse (by rw [Array.length_toList]; exact hm), Array.length_toList, Array.getElem?_toList]
theorem rev_bounds (n : Nat) : Builtin.Slice.sliceAdjust none none (-1) (n : Int) = ((n : Int) - 1, -1) := rfl
theorem rev_places (n : Nat) : Builtin.Slice.slicePlaces ((n : Int) - 1) (-1) (-1) = n := by
  unfold Builtin.Slice.slicePlaces
  have h1 : ¬ ((-1 : Int) > 0) := by decide
  rw [if_neg h1]
  by_cases h : (n : Int) - 1 > -1
  · rw [if_pos h]
    have : -(-1 : Int) = 1 := rfl
    rw [this, Int.ediv_one]
    omega
  · rw [if_neg h]
    omega
section
variable {prog : Program} {w : World} {A : Around} {E : Value → Shared → Prop} {s : Shared}
theorem getItem_tuple_rev {t sl : Addr} {items : Array Value} {u : Tok} {Q : Value → Shared → Prop} (ht : IsTup s.heap t items) (hs : s.heap.IsSliceOf sl .none .none (.int (-1) u)) (hsz : items.size ≤ sizeLine)
    (h : Q (.ref s.heap.objs.size) { s with heap := s.heap.push { cls := .type "tuple", data := .seq items.toList.reverse.toArray } }) : wpAny (model prog w) A (getItem (.ref t) (.ref sl)) Q E s := by
  have okz : sizeOk (.seq items.toList.reverse.toArray) := by
    show items.toList.reverse.toArray.size ≤ sizeLine
    rw [List.size_toArray, List.length_reverse, Array.length_toList]
    exact hsz
  obtain ⟨os, hos, hcs, hds⟩ := id hs
  have tys : s.TypeIs (.ref sl) "slice" := ⟨os, hos, hcs⟩
  unfold getItem
  try with_reducible refine wpAny_holding ?_
  first | refine wpAny_bind (wpAny_pure ?_) | skip
  refine wpAny_bind (wpAny_sequenceKey ht.typeIs (by decide) ?_)
  refine wpAny_bind (wpAny_callSpecial?_slot (name := Str.ofString "__getitem__") ht.typeIs PyProof.Rows.slot_tuple_getitem (wpAny_call_entry PyProof.Rows.slot_tuple_getitem ht.typeIs entry_tuple_getitem ?_ (args_tuple_getitem _ _)))
  show wpAny _ _ (Builtin.Tuple.tupleItemsOf (.ref t) >>= _) _ _ s
  refine wpAny_bind (tupleItemsOf_ ht (wpAny_bind (wpAny_typeOf tys ?_)))
  rw [if_pos (by decide)]
  have ap : ∀ {R : Int × Int × Nat → Shared → Prop}, R ((items.size : Int) - 1, -1, items.size) s → wpAny (model prog w) A.in1 (Builtin.Slice.sliceApplied (.ref sl) (pure (items.size : Int))) R E s := by
    intro R q
    unfold Builtin.Slice.sliceApplied Builtin.Slice.sliceFields
    refine wpAny_bind (wpAny_bind (wpAny_field hos hds (x := .none) rfl (wpAny_bind (wpAny_field hos hds (x := .none) rfl (wpAny_bind (wpAny_field hos hds (x := .int (-1) u) rfl (wpAny_pure ?_)))))))
    refine wpAny_bind (slicePart_int ?_)
    show wpAny _ _ (if ((-1 : Int) == 0) = true then _ else _) _ _ s
    rw [if_neg (by decide)]
    refine wpAny_bind (slicePart_none (wpAny_bind (slicePart_none (wpAny_bind (wpAny_pure ?_)))))
    show wpAny _ _ (pure ((items.size : Int) - 1, (-1 : Int), Builtin.Slice.slicePlaces ((items.size : Int) - 1) (-1) (-1))) _ _ s
    rw [rev_places]
    exact wpAny_pure q
  refine wpAny_bind (ap ?_)
  have hno : ¬ (((items.size : Int) - 1 == 0 && (-1 : Int) == 1 && items.size == items.size) = true) := by
    rw [show ((-1 : Int) == 1) = false from rfl, Bool.and_false, Bool.false_and]
    decide
  show wpAny _ _ (if ((items.size : Int) - 1 == 0 && (-1 : Int) == 1 && items.size == items.size) = true then _ else _) _ _ s
  rw [if_neg hno, rev_pick]
  first
    | exact wpAny_bind (m := Builtin.Tuple.tupleExact _) (wpAny_newObj_type (wpAny_pure ⟨_, rfl, wpAny_pure h⟩) okz)
    | exact wpAny_bind (m := Builtin.Tuple.tupleExact _) (wpAny_newObj_type (wpAny_bind (wpAny_pure (wpAny_pure ⟨_, rfl, wpAny_pure h⟩))) okz)
    | exact wpAny_bind (wpAny_bind (m := Builtin.Tuple.tupleExact _) (wpAny_newObj_type (wpAny_pure (wpAny_pure ⟨_, rfl, wpAny_pure h⟩)) okz))
    | exact wpAny_bind (wpAny_bind (m := Builtin.Tuple.tupleExact _) (wpAny_newObj_type (wpAny_pure ⟨_, rfl, wpAny_pure h⟩) okz))
end
def tRevT (K : PySem.W.Frag) (te : TE) : TE := fun σ H Q => te σ H fun x H1 => ∃ a xs, x = .ref a ∧ SqT K H1 a xs ∧ ∀ p, H1 p = none → Q (.ref p) (upd H1 p (.tup xs.reverse))
theorem pe_revT {X : Cx} {e : Expr} {te : TE} {k : Nat} {p1 p2 p3 pos : Pos} (he : PE X e te) : PE X (.Subscript e (.Slice none none (some (.UnaryOp .USub (.Constant (.int 1) k p1) p2)) p3) pos) (tRevT X.K te) := by
  refine ⟨fun pins s σ H Q I h => Subscript_ (thn (he.run pins s σ H _ I h) ?_)⟩
  rintro v s1 ⟨x, H1, I1, r1, a, xs, rfl, hx, q⟩
  cases r1
  have hst : PO X (some (.UnaryOp .USub (.Constant (.int 1) k p1) p2)) (tPart (tUn (rU fun i => .int (-i)) (tC (.int 1)))) := po_some (pe_un un_neg pe_int)
  refine wpAny_Slice (thn (po_none.run pins s1 σ H1 (fun o G => o = none ∧ G = H1) I1 ⟨rfl, rfl⟩) ?_)
  rintro vl s2 ⟨l, _, I2, pl, rfl, rfl⟩
  refine thn (po_none.run pins s2 σ _ (fun o G => o = none ∧ G = _) I2 ⟨rfl, rfl⟩) ?_
  rintro vu s3 ⟨l, _, I3, pu, rfl, rfl⟩
  refine thn (hst.run pins s3 σ _ (fun o G => o = some (-1) ∧ G = _) I3 ⟨1, rfl, -1, rfl, rfl, rfl⟩) ?_
  rintro vs s4 ⟨l, _, I4, ps, rfl, rfl⟩
  cases pl
  cases pu
  cases ps with
  | int _ t =>
    rename_i G
    have I5 : Inv X pins σ G { s4 with heap := s4.heap.push { cls := .type "slice", data := .fields #[.none, .none, .int (-1) t] } } := I4.kept (t' := s4.toks) fun b ob z => Heap.get?_push_of_some _ z
    obtain ⟨its, r, tp, hz⟩ := I5.tuple hx
    have hlen := r.length
    show wpAny (model X.prog X.w) X.A (subscriptTail e (.Slice none none (some (.UnaryOp .USub (.Constant (.int 1) k p1) p2)) p3) (.ref a) (.ref s4.heap.objs.size)) (EP X pins σ Q) X.xe { s4 with heap := s4.heap.push { cls := .type "slice", data := .fields #[.none, .none, .int (-1) t] } }
    refine tail_any (ops := [.ref a, .ref s4.heap.objs.size]) tp.typeIs (PyProof.Rows.slot_tuple_getitem.lookup) ?_ (by with_unfolding_all rfl)
    refine getItem_tuple_rev tp (Heap.IsSliceOf.new _ _ _ _) (by rw [List.size_toArray]; omega) ?_
    refine ⟨.ref _, _, I5.laid (t' := s4.toks) (o := .tup xs.reverse) (fun b ob z => Heap.get?_push_of_some _ z) (Nat.le_refl _) ?_, rfl, q _ (I5.hok.fresh (Nat.le_refl _))⟩
    exact ⟨by rw [List.length_reverse]; omega, _, r.reverse, IsTup.new _ _⟩
end Sx
namespace Sx
open PySem PySem.Spec PyProof.Rows L2

/-! ### how great a piece of data is -/
structure Ok (n k : Nat) (d : PyData) : Prop where
  f : fine d = true
  n : nod d ≤ n
  d : d.depth ≤ k
structure OkAll (n k : Nat) (ds : List PyData) : Prop where
  f : fineAll ds = true
  n : nodAll ds ≤ n
  d : PyData.depthAll ds ≤ k
theorem fineAll_app : ∀ xs ys : List PyData, fineAll (xs ++ ys) = (fineAll xs && fineAll ys)
  | [], _ => rfl
  | x :: xs, ys => by
    show (fine x && fineAll (xs ++ ys)) = ((fine x && fineAll xs) && fineAll ys)
    rw [fineAll_app xs ys, Bool.and_assoc]
theorem nodAll_app : ∀ xs ys : List PyData, nodAll (xs ++ ys) = nodAll xs + nodAll ys
  | [], _ => (Nat.zero_add _).symm
  | x :: xs, ys => by
    show nod x + nodAll (xs ++ ys) = (nod x + nodAll xs) + nodAll ys
    rw [nodAll_app xs ys, Nat.add_assoc]
theorem depthAll_app : ∀ xs ys : List PyData, PyData.depthAll (xs ++ ys) = max (PyData.depthAll xs) (PyData.depthAll ys)
  | [], ys => by
    show PyData.depthAll ys = max 0 (PyData.depthAll ys)
    omega
  | x :: xs, ys => by
    show max x.depth (PyData.depthAll (xs ++ ys)) = max (max x.depth (PyData.depthAll xs)) (PyData.depthAll ys)
    rw [depthAll_app xs ys]
    omega
namespace OkAll
variable {n m k j : Nat} {xs ys ds : List PyData} {d : PyData}
theorem app (a : OkAll n k xs) (b : OkAll m k ys) : OkAll (n + m) k (xs ++ ys) :=
  ⟨by rw [fineAll_app, a.f, b.f] <;> rfl, by rw [nodAll_app]; exact Nat.add_le_add a.n b.n, by rw [depthAll_app]; exact Nat.max_le.mpr ⟨a.d, b.d⟩⟩
theorem ge (a : OkAll n k xs) (h : n ≤ m) (h2 : k ≤ j) : OkAll m j xs := ⟨a.f, Nat.le_trans a.n h, Nat.le_trans a.d h2⟩
theorem parts (a : OkAll n k (xs ++ ys)) : OkAll n k xs ∧ OkAll n k ys := by
  obtain ⟨f, l, d⟩ := a
  rw [fineAll_app] at f
  rw [nodAll_app] at l
  rw [depthAll_app] at d
  obtain ⟨f1, f2⟩ := Bool.and_eq_true_iff.mp f
  exact ⟨⟨f1, by omega, by omega⟩, ⟨f2, by omega, by omega⟩⟩
theorem take (a : OkAll n k xs) (i : Nat) : OkAll n k (xs.take i) := by
  rw [← List.take_append_drop i xs] at a
  exact a.parts.1
theorem drop (a : OkAll n k xs) (i : Nat) : OkAll n k (xs.drop i) := by
  rw [← List.take_append_drop i xs] at a
  exact a.parts.2
theorem one (a : Ok n k d) : OkAll n k [d] := by
  obtain ⟨f, l, h⟩ := a
  refine ⟨?_, ?_, ?_⟩
  · show (fine d && true) = true
    rw [f] <;> rfl
  · show nod d + 0 ≤ n
    exact l
  · show max d.depth 0 ≤ k
    omega
theorem cons (a : Ok n k d) (b : OkAll m k xs) : OkAll (n + m) k (d :: xs) := (one a).app b
theorem nil : OkAll 0 k [] := ⟨rfl, Nat.le_refl _, Nat.zero_le _⟩
theorem mem (a : OkAll n k xs) (h : d ∈ xs) : Ok n k d := by
  obtain ⟨l, r, rfl⟩ := List.append_of_mem h
  have b := (a.parts.2).f
  have c := (a.parts.2).n
  have e := (a.parts.2).d
  have b' : (fine d && fineAll r) = true := b
  have c' : nod d + nodAll r ≤ n := c
  have e' : max d.depth (PyData.depthAll r) ≤ k := e
  obtain ⟨b1, _⟩ := Bool.and_eq_true_iff.mp b'
  exact ⟨b1, by omega, by omega⟩
theorem rev : ∀ {xs : List PyData}, fineAll xs.reverse = fineAll xs ∧ nodAll xs.reverse = nodAll xs ∧ PyData.depthAll xs.reverse = PyData.depthAll xs
  | [] => ⟨rfl, rfl, rfl⟩
  | x :: xs => by
    obtain ⟨h1, h2, h3⟩ := rev (xs := xs)
    rw [List.reverse_cons]
    refine ⟨?_, ?_, ?_⟩
    · rw [fineAll_app, h1]
      show (fineAll xs && (fine x && true)) = (fine x && fineAll xs)
      rw [Bool.and_true, Bool.and_comm]
    · rw [nodAll_app, h2]
      show nodAll xs + (nod x + 0) = nod x + nodAll xs
      omega
    · rw [depthAll_app, h3]
      show max (PyData.depthAll xs) (max x.depth 0) = max x.depth (PyData.depthAll xs)
      omega
theorem reverse (a : OkAll n k xs) : OkAll n k xs.reverse := by
  obtain ⟨h1, h2, h3⟩ := rev (xs := xs)
  exact ⟨by rw [h1]; exact a.f, by rw [h2]; exact a.n, by rw [h3]; exact a.d⟩
theorem tup (a : OkAll n k xs) : Ok (1 + n) (k + 1) (.tuple xs) := ⟨a.f, Nat.add_le_add_left a.n 1, Nat.add_le_add_right a.d 1⟩
theorem lst (a : OkAll n k xs) : Ok (1 + n) (k + 1) (.list xs) := ⟨a.f, Nat.add_le_add_left a.n 1, Nat.add_le_add_right a.d 1⟩
end OkAll
theorem nod_pos : ∀ d : PyData, 1 ≤ nod d
  | .none | .bool _ | .int _ | .dict _ => Nat.le_refl _
  | .str _ | .list _ | .tuple _ => Nat.le_add_right _ _
theorem nodAll_len : ∀ xs : List PyData, xs.length ≤ nodAll xs
  | [] => Nat.le_refl _
  | x :: xs => by
    show xs.length + 1 ≤ nod x + nodAll xs
    have := nodAll_len xs
    have := nod_pos x
    omega
theorem OkAll.len {n k : Nat} {xs : List PyData} (a : OkAll n k xs) : xs.length ≤ n := Nat.le_trans (nodAll_len xs) a.n
theorem Ok.ge {n m k j : Nat} {d : PyData} (a : Ok n k d) (h : n ≤ m) (h2 : k ≤ j) : Ok m j d := ⟨a.f, Nat.le_trans a.n h, Nat.le_trans a.d h2⟩
theorem Ok.shows {n k : Nat} {d : PyData} (a : Ok n k d) (h : n ≤ 50000) (h2 : k ≤ 60) : Shows d := shows_of a.f (Nat.le_trans a.n h) (Nat.le_trans a.d h2)
theorem Ok.tup_in {n k : Nat} {ds : List PyData} (a : Ok n (k + 1) (.tuple ds)) : OkAll n k ds := by
  obtain ⟨f, l, d⟩ := a
  have l' : 1 + nodAll ds ≤ n := l
  have d' : PyData.depthAll ds + 1 ≤ k + 1 := d
  exact ⟨f, by omega, by omega⟩
theorem Row.ok {d : PyData} (a : Row d) : Ok 10000 9 d := ⟨a.f, a.n, a.d⟩
theorem Ok.small {i : Int} {k : Nat} (h : i.natAbs ≤ 10 ^ 120) : Ok 1 k (.int i) := ⟨fine_int' h, Nat.le_refl _, Nat.zero_le _⟩

/-! ### data known to the heap beside the box -/
def cutD (xs : List PyData) (lo hi : Option Int) : List PyData := (xs.drop (HT.sIx xs.length 0 lo)).take (HT.sIx xs.length xs.length hi - HT.sIx xs.length 0 lo)
theorem OkAll.cut {n k : Nat} {xs : List PyData} (a : OkAll n k xs) (lo hi : Option Int) : OkAll n k (cutD xs lo hi) := (a.drop _).take _
theorem dta_cut {K : PySem.W.Frag} {H : Hp} {vs : List V} {ds : List PyData} (h : DtAll K H vs ds) (lo hi : Option Int) : DtAll K H (cutV vs lo hi) (cutD ds lo hi) := by
  unfold cutV cutD
  rw [dta_len h]
  exact dta_take _ (dta_drop _ h)
theorem dta_rev {K : PySem.W.Frag} {H : Hp} : ∀ {vs : List V} {ds : List PyData}, DtAll K H vs ds → DtAll K H vs.reverse ds.reverse
  | _, _, .nil => .nil
  | _, _, .cons r t => by
    rw [List.reverse_cons, List.reverse_cons]
    exact dta_app (dta_rev t) (.cons r .nil)
theorem tup_in {K : PySem.W.Frag} {H : Hp} {v : V} {ds : List PyData} (h : Dt K H v (.tuple ds)) : ∃ a xs, v = .ref a ∧ SqT K H a xs ∧ DtAll K H xs ds := by
  cases h with
  | tup e ha => exact ⟨_, _, rfl, e, ha⟩
/-- G: what data stands on; H0: all that is known (lists under way too) -/
structure Kn (G0 F0 G F H : Hp) (b g : Addr) : Prop where
  B : Bs F H b g
  sG : Same G0 G
  sF : Same F0 F
  s : Same G F
  ap : ∀ D, G0 D = none → F0 D ≠ none → G D = none
namespace Kn
variable {G0 F0 G F H H' : Hp} {b g p : Addr}
theorem start (B : Bs F H b g) (s : Same G F) : Kn G F G F H b g := ⟨B, Same.refl _, Same.refl _, s, fun _ h _ => h⟩
theorem new (k : Kn G0 F0 G F H b g) (np : H p = none) (o : HO) : Kn G0 F0 (upd G p o) (upd F p o) (upd H p o) b g := by
  have nF := k.B.sub.free np
  refine ⟨k.B.new np, k.sG.trans (same_new (k.s.free nF)), k.sF.trans (same_new nF), ?_, fun D h1 h2 => ?_⟩
  · intro c x e
    by_cases h : c = p
    · subst h
      rw [upd_same] at e ⊢
      exact e
    · rw [upd_ne h] at e ⊢
      exact k.s c x e
  · have hD : D ≠ p := by
      intro e
      cases hx : F0 D with
      | none => exact h2 hx
      | some x =>
        have := k.sF _ _ hx
        rw [e, nF] at this
        cases this
    rw [upd_ne hD]
    exact k.ap D h1 h2
theorem draw (k : Kn G0 F0 G F H b g) (B : Bs F H' b g) : Kn G0 F0 G F H' b g := ⟨B, k.sG, k.sF, k.s, k.ap⟩
theorem trans {G1 F1 : Hp} (k : Kn G0 F0 G F H b g) (k2 : Kn G F G1 F1 H' b g) : Kn G0 F0 G1 F1 H' b g :=
  ⟨k2.B, k.sG.trans k2.sG, k.sF.trans k2.sF, k2.s, fun D h1 h2 => k2.ap D (k.ap D h1 h2) (by
    cases hx : F0 D with
    | none => exact absurd hx h2
    | some x =>
      rw [k.sF _ _ hx]
      exact fun z => nomatch z)⟩
end Kn
section
variable {K : PySem.W.Frag} {G0 F0 G F H : Hp} {b g : Addr} {Q : VK}
theorem newK {p : Addr} (k : Kn G0 F0 G F H b g) (np : H p = none) (o : HO) : Kn G0 F0 (upd G p o) (upd F p o) (upd H p o) b g ∧ Same G (upd G p o) ∧ (upd G p o) p = some o := ⟨k.new np o, same_new (k.s.free (k.B.sub.free np)), upd_same⟩
theorem sl_k {a : Addr} {ds : List PyData} {lo hi : Option Int} (B : Kn G0 F0 G F H b g) (h : Dt K G (.ref a) (.tuple ds)) (k : ∀ (o : Addr) (G1 F1 H' : Hp), Same G G1 → Dt K G1 (.ref o) (.tuple (cutD ds lo hi)) → Kn G0 F0 G1 F1 H' b g → Q (.ref o) H') : rSlA K (.ref a) lo hi H Q := by
  obtain ⟨_, xs, e, hx, hd⟩ := tup_in h
  cases e
  have hc := dta_cut hd lo hi
  refine ⟨a, xs, rfl, Sx.Same.tup (B.s.trans B.B.sub) hx, fun hw => k a G F H (Same.refl _) ?_ B, fun _ p np => ?_⟩
  · have e : cutV xs lo hi = xs := by
      unfold cutV
      rw [hw.1, hw.2, List.drop_zero, Nat.sub_zero, List.take_length]
    rw [e] at hc
    exact .tup hx hc
  · obtain ⟨B1, s1, e1⟩ := newK B np (.tup (cutV xs lo hi))
    exact k p _ _ _ s1 (.tup (.of e1) (dta_same s1 _ _ hc)) B1
theorem cat_k {a c : Addr} {ds es : List PyData} (B : Kn G0 F0 G F H b g) (h1 : Dt K G (.ref a) (.tuple ds)) (h2 : Dt K G (.ref c) (.tuple es)) (hz : ds.length + es.length ≤ 100000) (k : ∀ (o : Addr) (G1 F1 H' : Hp), Same G G1 → Dt K G1 (.ref o) (.tuple (ds ++ es)) → Kn G0 F0 G1 F1 H' b g → Q (.ref o) H') : rCatA K (.ref a) (.ref c) H Q := by
  obtain ⟨_, xs, e, hx, hd⟩ := tup_in h1
  cases e
  obtain ⟨_, ys, e, hy, he⟩ := tup_in h2
  cases e
  have l1 := dta_len hd
  have l2 := dta_len he
  have hc := dta_app hd he
  have sB := B.s.trans B.B.sub
  refine ⟨a, c, xs, ys, rfl, rfl, Sx.Same.tup sB hx, Sx.Same.tup sB hy, ?_, ?_, ?_, ?_⟩
  · exact Nat.le_trans (show xs.length + ys.length ≤ 100000 by omega) (by decide)
  · rintro rfl
    exact k c G F H (Same.refl _) (.tup hy hc) B
  · rintro _ rfl
    rw [List.append_nil] at hc
    exact k a G F H (Same.refl _) (.tup hx hc) B
  · intro _ _ p np
    obtain ⟨B1, s1, e1⟩ := newK B np (.tup (xs ++ ys))
    exact k p _ _ _ s1 (.tup (.of e1) (dta_same s1 _ _ hc)) B1
end
/-- over range(n): each item a piece of data, drawn -/
theorem lc_drawnD {K : PySem.W.Frag} {G F H1 : Hp} {b g D : Addr} {n j : Nat} {te : TE} {vs : List Nat} {σ : L2.St} {Qd : Hp → Prop} (R : PyData → Prop) (B : Bs F H1 b g) (sg : Same G F) (hD : H1 D = none) (hn : n ≤ 100000) (hw : ∀ x, wipe ((wipe σ vs).set j (some x)) vs = wipe σ vs)
    (he : ∀ (i : Nat) (G2 F2 H3 : Hp) (Q : VK), i < n → Same G G2 → Same F F2 → Same G2 F2 → Bs F2 H3 b g → (∀ (v : V) (d : PyData) (G4 F4 H5 : Hp), R d → Kn G2 F2 G4 F4 H5 b g → Dt K G4 v d → Q v H5) → te ((wipe σ vs).set j (some (.int (0 + (i : Int))))) H3 Q)
    (hd : ∀ (ws : List V) (ds : List PyData) (G2 F2 H3 : Hp), ds.length = n → (∀ d ∈ ds, R d) → Same G G2 → Same F F2 → Same G2 F2 → G2 D = none → F2 D = some (.lst ws) → DtAll K G2 ws ds → Bs F2 H3 b g → Qd H3) :
    ∃ W : Nat → Nat → Hp → Prop, (∃ m, W 0 m (upd H1 D (.lst []))) ∧ ∀ i m H, W i m H →
      ((Itr 0 n).stop i H ∧ Qd H) ∨ ((Itr 0 n).go i H ∧ ∃ Nx : Hp → Prop, (∀ H', Nx H' → ∃ m', m' < m ∧ W (i + 1) m' H') ∧ ∀ x H', (Itr 0 n).yld i H x H' → gName j x (wipe σ vs) H' fun σ2 H2 => wipe σ2 vs = wipe σ vs ∧ tYes σ2 H2 fun b H3 =>
        if b = true then te σ2 H3 fun y H4 => ∃ acc, H4 D = some (.lst acc) ∧ acc.length < sizeLine ∧ Nx (upd H4 D (.lst (acc ++ [y]))) else Nx H3) := by
  have n0 : F D = none := B.sub.free hD
  have g0 : G D = none := sg.free n0
  refine lc_range (lo := 0) (n := n) (fun i H => ∃ (ws : List V) (ds : List PyData) (G2 F2 : Hp), ds.length = i ∧ (∀ d ∈ ds, R d) ∧ Same G G2 ∧ Same F F2 ∧ Same G2 F2 ∧ G2 D = none ∧ F2 D = some (.lst ws) ∧ DtAll K G2 ws ds ∧ Bs F2 H b g)
    ⟨[], [], G, _, rfl, (fun _ z => nomatch z), Same.refl _, same_new n0, same_put sg g0, g0, upd_same, .nil, B.new hD⟩ ?_ ?_
  · rintro i H hi ⟨ws, ds, G2, F2, hl, hr, s2, s2', s3, g2, e2, hds, B3⟩
    refine ⟨hw _, ?_⟩
    unfold tYes
    dsimp only
    refine iteT (he i G2 F2 H _ hi s2 s2' s3 B3 fun v d G4 F4 H5 hdr k4 hdt => ?_)
    have e4 := k4.sF _ _ e2
    have g4 : G4 D = none := k4.ap D g2 (by rw [e2]; exact fun z => nomatch z)
    have hlw := dta_len hds
    refine ⟨ws, k4.B.sub _ _ e4, ?_, ws ++ [v], ds ++ [d], G4, upd F4 D (.lst (ws ++ [v])), ?_, ?_, s2.trans k4.sG, same_put (s2'.trans k4.sF) n0, same_put k4.s g4, g4, upd_same, ?_, k4.B.put e4⟩
    · rw [hlw, hl]
      exact Nat.lt_of_lt_of_le hi (Nat.le_trans hn (by decide))
    · rw [List.length_append, hl, List.length_singleton]
    · intro x hx
      rcases List.mem_append.mp hx with h | h
      · exact hr x h
      · rw [List.mem_singleton.mp h]
        exact hdr
    · exact dta_app (dta_same k4.sG _ _ hds) (.cons hdt .nil)
  · rintro H ⟨ws, ds, G2, F2, hl, hr, s2, s2', s3, g2, e2, hds, B3⟩
    exact hd ws ds G2 F2 H hl hr s2 s2' s3 g2 e2 hds B3
/-! ### the promises of k08's own draws -/
def sp__law_strays (K : PySem.W.Frag) : Sp := fun vs H Q _ => ∃ (H0 : Hp) (b g t p : Addr) (ns : List Int) (ss : List Stp), vs = [.ref b, .ref t, .ref p] ∧ Bs H0 H b g ∧ SqT K H0 t (ns.map V.int) ∧ IsMach ns ∧ ProgAt H0 p ss ∧ IsProg ss ∧
  ∀ (r : Addr) (ds : List PyData) (H1 H' : Hp), Same H0 H1 → Dt K H1 (.ref r) (.tuple ds) → OkAll 1300 4 ds → Bs H1 H' b g → Q (.ref r) H'
def sp__law_turned (K : PySem.W.Frag) : Sp := fun vs H Q _ => ∃ (G F : Hp) (b g t p w : Addr) (ns : List Int) (ss : List Stp) (ds : List PyData) (n : Nat), vs = [.ref b, .ref t, .ref p, .ref w] ∧ Bs F H b g ∧ Same G F ∧ SqT K G t (ns.map V.int) ∧ IsMach ns ∧ ProgAt G p ss ∧ IsProg ss ∧
  Dt K G (.ref w) (.tuple ds) ∧ OkAll n 8 ds ∧ n ≤ 8000 ∧ ∀ (r : Addr) (es : List PyData) (G1 F1 H' : Hp), Kn G F G1 F1 H' b g → Dt K G1 (.ref r) (.tuple es) → OkAll (4 * n + 100) 8 es → Q (.ref r) H'
/-! ### a word between a test and what follows -/
def tCutT (t : TT) : TT := fun σ H Q => ∃ M : Bool → Hp → Prop, t σ H M ∧ ∀ c H', M c H' → Q c H'
theorem pt_cut {X : Cx} {e : Expr} {t : TT} (h : PT X e t) : PT X e (tCutT t) := by
  refine ⟨fun pins s σ H Q I q => ?_⟩
  obtain ⟨M, q1, q2⟩ := q
  exact thn (h.run pins s σ H M I q1) fun c s1 ⟨H1, I1, m⟩ => ⟨H1, I1, q2 c H1 m⟩
theorem noPart {σ : L2.St} {H : Hp} {Q : Option Int → Hp → Prop} (h : Q none H) : tNoPart σ H Q := h
/-- what strange items are -/
def odds1 : List PyData := [.none, .tuple [], .list [.int 0, .int 0, .int 0], .tuple [.int 0, .int 0], .tuple [.int 0, .int 0, .int 0, .int 0], .str "000", .int 5, .dict [], .tuple [.tuple [.int 0, .int 0, .int 0]], .tuple [.int 0, .list [.int 0], .int 0], .bool true]
theorem odds1_ok : OkAll 60 4 odds1 := ⟨by decide +kernel, by decide +kernel, by decide +kernel⟩
def odds2 (a b c : Int) : List PyData := ([.int (-1), .bool true, .bool false, .none, .str "0", .tuple [.int 0], .list [.int 0], .int 0, .int 1] ++ [.int a, .int b, .int c]) ++ ([.int (10 ^ 30), .dict []] ++ [.int (a - 1), .int (b - 1), .int (c - 1)])
theorem odds2_ok {a b c : Int} (ha : a.natAbs ≤ 1000000) (hb : b.natAbs ≤ 1000000) (hc : c.natAbs ≤ 1000000) : OkAll 60 4 (odds2 a b c) := by
  have big : 1000001 ≤ 10 ^ 120 := by decide +kernel
  have num : ∀ i : Int, i.natAbs ≤ 1000001 → Ok 1 4 (.int i) := fun i h => Ok.small (Nat.le_trans h big)
  have t3 : ∀ i j k : Int, i.natAbs ≤ 1000001 → j.natAbs ≤ 1000001 → k.natAbs ≤ 1000001 → OkAll 3 4 [.int i, .int j, .int k] := fun i j k h1 h2 h3 => (num i h1 |>.ge (Nat.le_refl _) (Nat.le_refl _) |> fun x => OkAll.cons x (OkAll.cons (num j h2) (OkAll.one (num k h3))))
  have c1 : OkAll 20 4 [.int (-1), .bool true, .bool false, .none, .str "0", .tuple [.int 0], .list [.int 0], .int 0, .int 1] := ⟨by decide +kernel, by decide +kernel, by decide +kernel⟩
  have c2 : OkAll 10 4 [.int (10 ^ 30), .dict []] := ⟨by decide +kernel, by decide +kernel, by decide +kernel⟩
  exact ((c1.app (t3 a b c (by omega) (by omega) (by omega))).app (c2.app (t3 (a - 1) (b - 1) (c - 1) (by omega) (by omega) (by omega)))).ge (by decide) (Nat.le_refl _)
def threeD : PyData → Bool
  | .tuple [_, _, _] => true
  | _ => false
theorem three_is {d : PyData} (h : threeD d = true) : ∃ x y z, d = .tuple [x, y, z] := by
  match d, h with
  | .tuple [x, y, z], _ => exact ⟨x, y, z, rfl⟩
theorem three_of {ds : List PyData} (h : ds.length = 3) : threeD (.tuple ds) = true := by
  match ds, h with
  | [_, _, _], _ => rfl
end Sx
namespace Sx
open PySem PySem.Spec PyProof.Rows L2
/-- a list that is still to change -/
theorem Kn.newL {G0 F0 G F H : Hp} {b g p : Addr} (k : Kn G0 F0 G F H b g) (np : H p = none) (o : HO) : Kn G0 F0 G (upd F p o) (upd H p o) b g ∧ (upd F p o) p = some o ∧ G p = none ∧ Same F (upd F p o) :=
  have nF := k.B.sub.free np
  have nG := k.s.free nF
  ⟨⟨k.B.new np, k.sG, k.sF.trans (same_new nF), same_put k.s nG, k.ap⟩, upd_same, nG, same_new nF⟩
theorem Kn.putL {G0 F0 G F H : Hp} {b g p : Addr} {u : HO} (k : Kn G0 F0 G F H b g) (e : F p = some u) (nG : G p = none) (n0 : F0 p = none) (o : HO) : Kn G0 F0 G (upd F p o) (upd H p o) b g :=
  ⟨k.B.put e, k.sG, same_put k.sF n0, same_put k.s nG, k.ap⟩
theorem Kn.off {G0 F0 G F H : Hp} {b g p L : Addr} {u : HO} (k : Kn G0 F0 G F H b g) (e : F L = some u) (gL : G L = none) (np : H p = none) (o : HO) : (upd F p o) L = some u ∧ (upd G p o) L = none := by
  have h := ne_of_none e (k.B.sub.free np)
  exact ⟨by rw [upd_ne h]; exact e, by rw [upd_ne h]; exact gL⟩
abbrev Thing (d : PyData) : Prop := Ok 22000 10 d
theorem fault_ok {ns : List Int} {m : Nat} {d : PyData} (h : dlen d ≤ 100000) : Ok 20 3 (faultD ns m d) := by
  have big : 100000 ≤ 10 ^ 120 := by decide +kernel
  have num : ∀ i : Nat, i ≤ 100000 → Ok 1 2 (.int (i : Nat)) := fun i hi => Ok.small (Nat.le_trans (show ((i : Nat) : Int).natAbs ≤ 100000 by omega) big)
  have txt : ∀ x : Str, Ok 12 2 (.str x) → ∀ i : Nat, i ≤ 100000 → Ok 20 3 (.tuple [.str x, .int (i : Nat)]) := fun x hx i hi => ((OkAll.cons hx (OkAll.one (num i hi))).tup).ge (by decide) (by decide)
  have bound : ∀ {n i : Nat} {p : Nat → Bool}, (List.range n).find? p = some i → i < n := fun e => List.mem_range.mp (List.mem_of_find?_eq_some e)
  have frm : Ok 20 3 (.str "form") := ⟨by decide +kernel, by decide +kernel, Nat.zero_le _⟩
  cases d with
  | tuple ds =>
    have h : ds.length ≤ 100000 := h
    show Ok 20 3 (faultS ns m ds)
    unfold faultS
    split
    · rename_i i e
      exact txt _ ⟨by decide +kernel, by decide +kernel, Nat.zero_le _⟩ i (by have := bound e; omega)
    · split
      · rename_i i e
        exact txt _ ⟨by decide +kernel, by decide +kernel, Nat.zero_le _⟩ i (by have := bound e; omega)
      · exact ⟨rfl, by decide, Nat.zero_le _⟩
  | none => exact frm
  | bool x => exact frm
  | int x => exact frm
  | str x => exact frm
  | list x => exact frm
  | dict x => exact frm
theorem thing_len {d : PyData} (h : Thing d) : dlen d ≤ 100000 := by
  cases d with
  | tuple ds =>
    have h1 := (Ok.tup_in (n := 22000) (k := 9) h).len
    exact Nat.le_trans h1 (by decide)
  | none => exact Nat.zero_le _
  | bool x => exact Nat.zero_le _
  | int x => exact Nat.zero_le _
  | str x => exact Nat.zero_le _
  | list x => exact Nat.zero_le _
  | dict x => exact Nat.zero_le _
def odds3 : List PyData := [.none, .int 5, .dict [], .bool true, .str "()", .tuple [.none], .tuple [.tuple [.int 0, .int 0]], .list [.list [.int 0, .int 0, .int 0]], .tuple [.int 0, .int 0, .int 0]]
theorem odds3_ok : OkAll 60 4 odds3 := ⟨by decide +kernel, by decide +kernel, by decide +kernel⟩
theorem dta_ints {K : PySem.W.Frag} {H : Hp} (ns : List Int) : DtAll K H (ns.map V.int) (ns.map PyData.int) := dta_of _ _ (dpa_ints ns)
theorem last_of {ns : List Int} (h : 1 ≤ ns.length) : ∃ m, m ∈ ns ∧ atI (ns.map V.int) (-1) = some (.int m) := by
  rcases List.eq_nil_or_concat ns with e | ⟨l, m, e⟩
  · rw [e] at h
    exact absurd h (by decide)
  · rw [List.concat_eq_append] at e
    refine ⟨m, by rw [e]; exact List.mem_append_right _ List.mem_cons_self, ?_⟩
    rw [e, List.map_append]
    exact atI_last _ _
end Sx
namespace Sx
open PySem PySem.Spec PyProof.Rows L2
theorem dta_two {K : PySem.W.Frag} {H : Hp} {xs : List V} {ds : List PyData} (h : DtAll K H xs ds) (hl : ds.length = 2) : ∃ x y dx dy, xs = [x, y] ∧ ds = [dx, dy] ∧ Dt K H x dx ∧ Dt K H y dy := by
  cases h with
  | nil => exact nomatch hl
  | cons r1 h =>
    cases h with
    | nil => exact nomatch hl
    | cons r2 h =>
      cases h with
      | nil => exact ⟨_, _, _, _, rfl, rfl, r1, r2⟩
      | cons r3 h => simp at hl
def v_MAX_NUMBER : V := .int (10 ^ 60)
def v_MAX_MODULUS : V := .int (10 ^ 6)
def v_MAX_LANES : V := .int 10
def numD (d : PyData) : Bool := withinD d (-(10 ^ 60)) (10 ^ 60)
def firstD (name : Str) (n : Nat) (p : Nat → Bool) : PyData := match (List.range n).find? p with
  | some i => .tuple [.str name, .int (i : Nat)]
  | none => .none
theorem first_at {name : Str} {n i : Nat} {p : Nat → Bool} (hi : i < n) (h : p i = true) (hj : ∀ j, j < i → p j = false) : firstD name n p = .tuple [.str name, .int (i : Nat)] := by
  unfold firstD
  rw [find_at hi h hj]
theorem first_no {name : Str} {n : Nat} {p : Nat → Bool} (hj : ∀ j, j < n → p j = false) : firstD name n p = .none := by
  unfold firstD
  rw [find_no hj]
def badMod (ds : List PyData) (i : Nat) : Bool := !withinD (ds.getD i .none) 2 (10 ^ 6)
def machD : PyData → PyData
  | .tuple ds => if 1 ≤ ds.length ∧ ds.length ≤ 10 then firstD "modulus" ds.length (badMod ds) else .str "form"
  | _ => .str "form"
theorem machD_tup (ds : List PyData) : machD (.tuple ds) = if 1 ≤ ds.length ∧ ds.length ≤ 10 then firstD "modulus" ds.length (badMod ds) else .str "form" := rfl
def isNoneD : PyData → Bool
  | .none => true
  | _ => false
def badRest (ns : List Int) (ds : List PyData) (i : Nat) : Bool := !isNoneD (ds.getD i .none) && !withinD (ds.getD i .none) 0 (ns.getD i 0 - 1)
def wordD (ns : List Int) : PyData → PyData
  | .tuple ds => if ds.length = ns.length then firstD "rest" ds.length (badRest ns ds) else .str "form"
  | _ => .str "form"
theorem wordD_tup (ns : List Int) (ds : List PyData) : wordD ns (.tuple ds) = if ds.length = ns.length then firstD "rest" ds.length (badRest ns ds) else .str "form" := rfl
def gtD (a b : PyData) : Bool := match a, b with
  | .int i, .int j => decide (j < i)
  | _, _ => false
def stretchD : PyData → PyData
  | .tuple [a, b] => if numD a = true ∧ numD b = true then (if gtD a b = true then .str "empty" else .none) else .str "form"
  | _ => .str "form"
def sp_is_number (K : PySem.W.Frag) : Sp := fun vs H Q _ => ∃ (v : V) (d : PyData), vs = [v] ∧ Dt K H v d ∧ Q (.bl (numD d)) H
def sp__law_is_number (K : PySem.W.Frag) : Sp := sp_is_number K
def sp_told (f : PyData → PyData) (K : PySem.W.Frag) : Sp := fun vs H Q _ => ∃ (v : V) (d : PyData), vs = [v] ∧ Dt K H v d ∧ ∀ (r : V) (H' : Hp), Same H H' → Dt K H' r (f d) → Q r H'
def sp_machine_error (K : PySem.W.Frag) : Sp := sp_told machD K
def sp__law_of_machine (K : PySem.W.Frag) : Sp := sp_told machD K
def sp_stretch_error (K : PySem.W.Frag) : Sp := sp_told stretchD K
def sp__law_of_stretch (K : PySem.W.Frag) : Sp := sp_told stretchD K
def sp_word_error (K : PySem.W.Frag) : Sp := fun vs H Q _ => ∃ (t : Addr) (v : V) (ns : List Int) (d : PyData), vs = [.ref t, v] ∧ SqT K H t (ns.map V.int) ∧ Dt K H v d ∧ ∀ (r : V) (H' : Hp), Same H H' → Dt K H' r (wordD ns d) → Q r H'
def sp__law_of_word (K : PySem.W.Frag) : Sp := sp_word_error K
theorem stretch_not2 {ds : List PyData} (h : ds.length ≠ 2) : stretchD (.tuple ds) = .str "form" := by
  match ds, h with
  | [], _ => rfl
  | [a], _ => rfl
  | [a, b], h => exact absurd rfl h
  | a :: b :: c :: r, _ => rfl
theorem stretch_bad {a b : PyData} (h : numD a = false ∨ numD b = false) : stretchD (.tuple [a, b]) = .str "form" := by
  show (if numD a = true ∧ numD b = true then _ else _) = _
  rw [if_neg]
  rintro ⟨h1, h2⟩
  rcases h with h | h
  · rw [h1] at h
    exact nomatch h
  · rw [h2] at h
    exact nomatch h
theorem stretch_good {i j : Int} (h1 : numD (.int i) = true) (h2 : numD (.int j) = true) : stretchD (.tuple [.int i, .int j]) = if j < i then .str "empty" else .none := by
  show (if numD (.int i) = true ∧ numD (.int j) = true then (if decide (j < i) = true then _ else _) else _) = _
  rw [if_pos ⟨h1, h2⟩]
  by_cases h : j < i
  · rw [if_pos h, if_pos (decide_eq_true h)]
  · rw [if_neg h, if_neg (by rw [decide_eq_false h]; decide)]
def sp__law_spoilt (K : PySem.W.Frag) : Sp := fun vs H Q _ => ∃ (G F : Hp) (b g w o : Addr) (ds odds : List PyData) (xs : List V) (n : Nat), vs = [.ref b, .ref w, .ref o] ∧ Bs F H b g ∧ Same G F ∧ Dt K G (.ref w) (.tuple ds) ∧ 1 ≤ ds.length ∧ OkAll n 8 ds ∧ n ≤ 8000 ∧
  F o = some (.lst xs) ∧ DtAll K G xs odds ∧ (∀ d ∈ odds, Ok 60 8 d) ∧ 1 ≤ odds.length ∧ odds.length ≤ 1000 ∧ ∀ (v : V) (d : PyData) (G1 F1 H' : Hp), Kn G F G1 F1 H' b g → Dt K G1 v d → Ok (2 * n + 70) 9 d → Q v H'
theorem first_ok {name : Str} {n : Nat} {p : Nat → Bool} (hn : n ≤ 100000) (hx : Ok 12 2 (.str name)) : Ok 20 3 (firstD name n p) := by
  have big : 100000 ≤ 10 ^ 120 := by decide +kernel
  unfold firstD
  split
  · rename_i i e
    have hi := List.mem_range.mp (List.mem_of_find?_eq_some e)
    exact ((OkAll.cons hx (OkAll.one (Ok.small (i := (i : Nat)) (k := 2) (Nat.le_trans (show ((i : Nat) : Int).natAbs ≤ 100000 by omega) big)))).tup).ge (by decide) (by decide)
  · exact ⟨rfl, by decide, Nat.zero_le _⟩
theorem form_ok : Ok 20 3 (.str "form") := ⟨by decide +kernel, by decide +kernel, Nat.zero_le _⟩
theorem mach_ok (d : PyData) : Ok 20 3 (machD d) := by
  cases d with
  | tuple ds =>
    rw [machD_tup]
    split
    · rename_i h
      exact first_ok (by omega) ⟨by decide +kernel, by decide +kernel, Nat.zero_le _⟩
    · exact form_ok
  | none => exact form_ok
  | bool x => exact form_ok
  | int x => exact form_ok
  | str x => exact form_ok
  | list x => exact form_ok
  | dict x => exact form_ok
theorem word_ok {ns : List Int} (h : ns.length ≤ 10) (d : PyData) : Ok 20 3 (wordD ns d) := by
  cases d with
  | tuple ds =>
    rw [wordD_tup]
    split
    · rename_i h
      exact first_ok (by omega) ⟨by decide +kernel, by decide +kernel, Nat.zero_le _⟩
    · exact form_ok
  | none => exact form_ok
  | bool x => exact form_ok
  | int x => exact form_ok
  | str x => exact form_ok
  | list x => exact form_ok
  | dict x => exact form_ok
theorem stretch_ok (d : PyData) : Ok 20 3 (stretchD d) := by
  have emp : Ok 20 3 (.str "empty") := ⟨by decide +kernel, by decide +kernel, Nat.zero_le _⟩
  cases d with
  | tuple ds =>
    by_cases h : ds.length = 2
    · match ds, h with
      | [a, b], _ =>
        show Ok 20 3 (if numD a = true ∧ numD b = true then (if gtD a b = true then .str "empty" else .none) else .str "form")
        split
        · split
          · exact emp
          · exact ⟨rfl, by decide, Nat.zero_le _⟩
        · exact form_ok
    · rw [stretch_not2 h]
      exact form_ok
  | none => exact form_ok
  | bool x => exact form_ok
  | int x => exact form_ok
  | str x => exact form_ok
  | list x => exact form_ok
  | dict x => exact form_ok
def sp__law_are_told (K : PySem.W.Frag) : Sp := fun vs H Q _ => ∃ (x : V) (name : Str) (t l : Addr) (ns : List Int) (ws : List V) (ds : List PyData), vs = [x, .str name, .ref t, .ref l] ∧ SqT K H t (ns.map V.int) ∧ ns.length ≤ 10 ∧ H l = some (.lst ws) ∧ DtAll K H ws ds ∧ (∀ d ∈ ds, Thing d) ∧
  ∀ H' : Hp, Same H H' → Q (.bl true) H'
end Sx
namespace Sx
open PySem PySem.Spec PyProof.Rows L2

/-! ### t * 0, and t != () for a tuple of any data -/
theorem tuple_mul0 (l : Addr) (items : Array Value) (n : Nat) (dd : Option Addr) (sl : Array (Option Value)) (u : Tok) (hi : items.isEmpty = false) :
    Meets (Builtin.«tuple.__mul__» ⟨[.ref l, .int 0 u], []⟩) (fun _ R s => s.heap.get? l = some { cls := .type "tuple", dict := dd, data := .seq items n, slots := sl } ∧
      R (.ok (.ret (Value.ref s.heap.objs.size))) { s with heap := s.heap.push { cls := Value.type "tuple", data := Data.seq #[] }, toks := s.toks }) :=
  .of_wp fun prog w A R s h => by
    obtain ⟨hp, g, d, tk, os⟩ := s
    obtain ⟨hl, h⟩ := h
    have f1 := AutoSeq1.idx_int
    have c1 : (items.isEmpty || (0 : Int) == 1) = false := by rw [hi] <;> rfl
    have c2 : (decide ((0 : Int) ≤ 0) || items.isEmpty) = true := by simp
    have hsz : (#[] : Array Value).size ≤ sizeLine := Nat.zero_le _
    wp_walk using wpAny_loadPart' hl
    repeat (first
      | (refine wpAny_ite_false (by decide) ?_; wp_walk using wpAny_loadPart' hl)
      | (refine wpAny_ite_false (decide_eq_false (by rw [c1]; exact Bool.false_ne_true)) ?_; wp_walk using wpAny_loadPart' hl)
      | (refine wpAny_ite_true (decide_eq_true (by rw [c2])) ?_; wp_walk using wpAny_loadPart' hl)
      | (refine wpAny_ite_false (decide_eq_false (Nat.not_lt.mpr hsz)) ?_; wp_walk using wpAny_loadPart' hl))
    exact ⟨_, rfl, h⟩
def rRep0 (K : PySem.W.Frag) : R2 := fun x y H Q => ∃ l xs, x = .ref l ∧ y = .int 0 ∧ SqT K H l xs ∧ xs ≠ [] ∧ ∀ p, H p = none → Q (.ref p) (upd H p (.tup []))
theorem op_rep0 {X : Cx} : OpR X (binaryOp .Mult) (rRep0 X.K) := by
  intro pins s σ H x y v u Q I rx ry h
  obtain ⟨l, xs, rfl, rfl, hT, hne, q⟩ := h
  obtain rfl : v = Value.ref l := rx
  obtain ⟨t, rfl⟩ := ry
  obtain ⟨its, r, ⟨⟨cls, dd, data, sl⟩, ho, hc, n, hd⟩, hs⟩ := I.tuple hT
  simp only at hc hd
  subst hc hd
  have hi : its.toArray.isEmpty = false := by
    cases its with
    | nil =>
      have := r.length
      exact absurd (List.eq_nil_of_length_eq_zero this) hne
    | cons a b => rfl
  refine wpAny_binaryOp_repeat_ref (T := "tuple") (U := "int") (by decide) ⟨_, ho, rfl⟩ (fun s' => typeIs_int s' 0 t) noFill_tuple_mul F.fills_int_mul F.slot_int_rmul repeat_tuple F.slot_int_index.lookup
    (call_meets F.slot_int_rmul (typeIs_int s 0 t) F.entry_int_rmul (F.args_int_rmul_2 _ _) (int_rmul_tuple 0 t l its.toArray n dd sl)
      ⟨ho, rfl, ⟨_, ho, rfl⟩, call_meets F.slot_tuple_mul ⟨_, ho, rfl⟩ F.entry_tuple_mul (F.args_tuple_mul_2 _ _) (tuple_mul0 l its.toArray n dd sl t hi) ⟨ho, ?_⟩⟩)
  refine ⟨.ref s.heap.objs.size, _, I.laid (t' := s.toks) (o := .tup []) (fun b ob q => Heap.get?_push_of_some _ q) (Nat.le_refl _) ?_, rfl, q _ (I.hok.fresh (Nat.le_refl _))⟩
  exact ⟨Nat.zero_le _, [], .nil, IsTup.new _ _⟩
/-- t * k, 0 ≤ k -/
def rRepZ (K : PySem.W.Frag) : R2 := fun x y H Q => rRepAny K x y H Q ∨ rRep0 K x y H Q
theorem op_repZ {X : Cx} : OpR X (binaryOp .Mult) (rRepZ X.K) := OpR.or op_repAny op_rep0

def rNeNil (K : PySem.W.Frag) : R2 := fun x y H Q => ∃ a b xs, x = .ref a ∧ y = .ref b ∧ SqT K H a xs ∧ SqT K H b [] ∧ Q (.bl (!xs.isEmpty)) H
theorem op_neNil {X : Cx} (hu : X.A.units + 64 < cLine) : OpR X (compareOp .NotEq) (rNeNil X.K) := by
  intro pins s σ H x y v u Q I rx ry h
  obtain ⟨a, b, xs, rfl, rfl, hA, hB, q⟩ := h
  obtain rfl : v = Value.ref a := rx
  obtain rfl : u = Value.ref b := ry
  obtain ⟨its, r, tp, hs⟩ := I.tuple hA
  obtain ⟨its2, r2, tp2, hs2⟩ := I.tuple hB
  cases r2
  have key := SeqAt.RcNeAt.tuples (A := X.A) (s := s) (e := fun _ => true) (show s.heap.IsTuple a its.toArray from tp) (show s.heap.IsTuple b ([] : List Value).toArray from tp2) (by omega) (fun j h1 h2 => absurd h2 (Nat.not_lt_zero j))
  refine key X.prog X.w _ _ ?_
  have e : (!((List.range (min its.toArray.size ([] : List Value).toArray.size)).all (fun _ => true) && its.toArray.size == ([] : List Value).toArray.size)) = !xs.isEmpty := by
    have hl := r.length
    cases its with
    | nil =>
      have h0 := List.eq_nil_of_length_eq_zero hl
      rw [h0] <;> rfl
    | cons y l =>
      cases xs with
      | nil => exact nomatch hl
      | cons z zs => rfl
  rw [e]
  exact ⟨.bl _, H, I, rfl, q⟩

/-! ### a, b = a list -/
def gLst (K : PySem.W.Frag) (n : Nat) (t : TGs) : TG := fun v σ H Q => ∃ a xs, v = .ref a ∧ SqL K H a xs ∧ xs.length = n ∧ t xs σ H Q
theorem pg_lst {X : Cx} {es : List Expr} {k : Nat} {t : TGs} {n : Nat} {pos : Pos} (hc : X.calm = true) (h : PGs X es t)
    (hn : (assignEach es X.env).length = n := by rfl) (hst : (assignEach es X.env).findIdx? (·.1) = none := by rfl) : PG X (.Tuple es k pos) (gLst X.K n t) := by
  refine ⟨fun pins s σ H v u Q I r hw => ?_⟩
  obtain ⟨a, xs, e1, hq, hl, hw⟩ := hw
  subst e1
  cases r
  obtain ⟨its, rv, ht, hz⟩ := I.list hq
  rw [assign_Tuple]
  refine wpAny_bind (wpAny_standAt ?_)
  unfold unpack
  have e : (assignEach es X.env).length = its.toArray.size := by simp [hn, ← hl, rv.length]
  rw [e, hst]
  refine wpAny_bind (wpAny_holding (PySem.W.kun_itemsOf (I.ok.hd hc) ht.isList fun h' hx => ?_))
  have I1 : Inv X pins σ H { s with heap := h' } := I.kept (t' := s.toks) fun b o e => hx b o (Nat.ne_of_lt (Heap.lt_size e)) e
  exact h.run pins _ σ H xs _ Q I1 (by simpa using rv) hw

/-- what a draw laid, data from now on -/
theorem Kn.own {G0 F0 G F H H' : Hp} {b g p : Addr} {o : HO} (k : Kn G0 F0 G F H b g) (B : Bs F H' b g) (nF : F p = none) (e : H' p = some o) (pb : p ≠ b) (pg : p ≠ g) : Kn G0 F0 (upd G p o) (upd F p o) H' b g := by
  refine ⟨B.own e pb pg, k.sG.trans (same_new (k.s.free nF)), k.sF.trans (same_new nF), ?_, fun D h1 h2 => ?_⟩
  · intro c x e
    by_cases h : c = p
    · subst h
      rw [upd_same] at e ⊢
      exact e
    · rw [upd_ne h] at e ⊢
      exact k.s c x e
  · have hD : D ≠ p := by
      intro e
      cases hx : F0 D with
      | none => exact h2 hx
      | some x =>
        have := k.sF _ _ hx
        rw [e, nF] at this
        cases this
    rw [upd_ne hD]
    exact k.ap D h1 h2
def othersD : List PyData := [.none, .int 0, .bool true, .bool false, .str "7", .tuple [], .list [], .dict [], .tuple [.none], .tuple [.tuple [.int 7, .int 11]], .int 7, .str "7 11", .tuple [.int 7, .list [.int 11]]]
theorem others_ok : OkAll 60 4 othersD := ⟨by decide +kernel, by decide +kernel, by decide +kernel⟩
theorem okAll_each {n k : Nat} {ds : List PyData} (h : OkAll n k ds) : ∀ d ∈ ds, Ok n k d := fun d hd => h.mem hd
def odds4 : List PyData := [.int 1, .int 0, .int (-1), .int 2, .int (10 ^ 6), .int (10 ^ 6 + 1), .bool true, .bool false, .none, .str "7", .tuple [.int 7], .list [.int 7], .int (10 ^ 30), .int (-(10 ^ 6)), .dict []]
theorem odds4_ok : OkAll 60 8 odds4 := ⟨by decide +kernel, by decide +kernel, by decide +kernel⟩
end Sx
namespace Sx
open PySem PySem.Spec PyProof.Rows L2
/-! ### data * n -/
theorem dta_rep {K : PySem.W.Frag} {H : Hp} {vs : List V} {ds : List PyData} (h : DtAll K H vs ds) : ∀ n : Nat, DtAll K H (List.replicate n vs).flatten (List.replicate n ds).flatten
  | 0 => .nil
  | n + 1 => by
    rw [List.replicate_succ, List.replicate_succ, List.flatten_cons, List.flatten_cons]
    exact dta_app h (dta_rep h n)
theorem OkAll.rep {m k : Nat} {ds : List PyData} (a : OkAll m k ds) : ∀ n : Nat, OkAll (n * m) k (List.replicate n ds).flatten
  | 0 => by
    rw [Nat.zero_mul]
    exact ⟨rfl, Nat.le_refl _, Nat.zero_le _⟩
  | n + 1 => by
    rw [List.replicate_succ, List.flatten_cons]
    exact (a.app (OkAll.rep a n)).ge (by rw [Nat.succ_mul]; omega) (Nat.le_refl _)
section
variable {K : PySem.W.Frag} {G0 F0 G F H : Hp} {b g : Addr} {Q : VK}
theorem rep_z {a : Addr} {ds : List PyData} {r : Int} (B : Kn G0 F0 G F H b g) (h : Dt K G (.ref a) (.tuple ds)) (hn : ds ≠ []) (hl : ds.length ≤ 1000) (r0 : 0 ≤ r) (r1 : r ≤ 1000)
    (k : ∀ (o : Addr) (G1 F1 H' : Hp), Same G G1 → Dt K G1 (.ref o) (.tuple (List.replicate r.toNat ds).flatten) → Kn G0 F0 G1 F1 H' b g → Q (.ref o) H') : rRepZ K (.ref a) (.int r) H Q := by
  obtain ⟨_, xs, e, hx, hd⟩ := tup_in h
  cases e
  have sB := B.s.trans B.B.sub
  have hX := Sx.Same.tup sB hx
  have hne : xs ≠ [] := by
    rintro rfl
    cases hd
    exact hn rfl
  have hc := dta_rep hd r.toNat
  by_cases h0 : r = 0
  · subst h0
    refine .inr ⟨a, xs, rfl, rfl, hX, hne, fun p np => ?_⟩
    obtain ⟨B1, s1, e1⟩ := newK B np (.tup [])
    exact k p _ _ _ s1 (.tup (.of e1) .nil) B1
  by_cases h1 : r = 1
  · subst h1
    refine .inl (.inr ⟨a, xs, rfl, rfl, hX, k a G F H (Same.refl _) ?_ B⟩)
    have e : (List.replicate (1 : Int).toNat ds).flatten = ds := by simp
    rw [e]
    exact h
  refine .inl (.inl ⟨a, r, xs, rfl, rfl, hX, hne, by omega, r1, by rw [dta_len hd]; exact hl, fun p np => ?_⟩)
  obtain ⟨B1, s1, e1⟩ := newK B np (.tup (List.replicate r.toNat xs).flatten)
  exact k p _ _ _ s1 (.tup (.of e1) (dta_same s1 _ _ hc)) B1
theorem rep_a {a : Addr} {ds : List PyData} {r : Int} (B : Kn G0 F0 G F H b g) (h : Dt K G (.ref a) (.tuple ds)) (hn : ds ≠ []) (hl : ds.length ≤ 1000) (r0 : 1 ≤ r) (r1 : r ≤ 1000)
    (k : ∀ (o : Addr) (G1 F1 H' : Hp), Same G G1 → Dt K G1 (.ref o) (.tuple (List.replicate r.toNat ds).flatten) → Kn G0 F0 G1 F1 H' b g → Q (.ref o) H') : rRepAny K (.ref a) (.int r) H Q := by
  obtain ⟨_, xs, e, hx, hd⟩ := tup_in h
  cases e
  have sB := B.s.trans B.B.sub
  have hX := Sx.Same.tup sB hx
  have hne : xs ≠ [] := by
    rintro rfl
    cases hd
    exact hn rfl
  have hc := dta_rep hd r.toNat
  by_cases h1 : r = 1
  · subst h1
    refine .inr ⟨a, xs, rfl, rfl, hX, k a G F H (Same.refl _) ?_ B⟩
    have e : (List.replicate (1 : Int).toNat ds).flatten = ds := by simp
    rw [e]
    exact h
  refine .inl ⟨a, r, xs, rfl, rfl, hX, hne, by omega, r1, by rw [dta_len hd]; exact hl, fun p np => ?_⟩
  obtain ⟨B1, s1, e1⟩ := newK B np (.tup (List.replicate r.toNat xs).flatten)
  exact k p _ _ _ s1 (.tup (.of e1) (dta_same s1 _ _ hc)) B1
end
theorem mach_okAll {ns : List Int} (hm : IsMach ns) : OkAll 10 8 (ns.map PyData.int) := by
  have h := (Row.mach hm).f
  refine ⟨h, ?_, depthAll_map ns fun _ _ => Nat.zero_le _⟩
  rw [nodAll_map (fun _ => rfl)]
  exact hm.ten
theorem cutD_first {ds : List PyData} : cutD ds none (some 1) = ds.take 1 := by
  cases ds with
  | nil => rfl
  | cons x xs =>
    unfold cutD
    have e1 : HT.sIx (x :: xs).length 0 none = 0 := rfl
    have e2 : HT.sIx (x :: xs).length (x :: xs).length (some 1) = 1 := by
      show HT.sIx (xs.length + 1) (xs.length + 1) (some 1) = 1
      simp [HT.sIx]
    rw [e1, e2] <;> rfl
end Sx
namespace Sx
open PySem PySem.Spec PyProof.Rows L2
theorem okAll_of {k : Nat} : ∀ {ds : List PyData}, (∀ d ∈ ds, Ok 1 k d) → OkAll ds.length k ds
  | [], _ => OkAll.nil
  | d :: ds, h => ((h d List.mem_cons_self |> fun a => OkAll.cons a (okAll_of fun e he => h e (List.mem_cons_of_mem _ he)))).ge (by rw [List.length_cons]; omega) (Nat.le_refl _)
/-- over a row: each item a piece of data, drawn -/
theorem lc_drawnV {K : PySem.W.Frag} {G F H1 : Hp} {b g D : Addr} {J : It} {xs : List V} {Gw : Hp → Prop} (w : Walk J xs.length Gw (YAt xs)) {j : Nat} {te : TE} {vs : List Nat} {σ : L2.St} {Qd : Hp → Prop} (R : PyData → Prop) (B : Bs F H1 b g) (sg : Same G F) (hD : H1 D = none) (hn : xs.length ≤ 100000)
    (hGw : ∀ H', Same F H' → Gw H') (hw : ∀ x, wipe ((wipe σ vs).set j (some x)) vs = wipe σ vs)
    (he : ∀ (i : Nat) (x : V) (G2 F2 H3 : Hp) (Q : VK), xs[i]? = some x → Same G G2 → Same F F2 → Same G2 F2 → Bs F2 H3 b g → (∀ (v : V) (d : PyData) (G4 F4 H5 : Hp), R d → Kn G2 F2 G4 F4 H5 b g → Dt K G4 v d → Q v H5) → te ((wipe σ vs).set j (some x)) H3 Q)
    (hd : ∀ (ws : List V) (ds : List PyData) (G2 F2 H3 : Hp), ds.length = xs.length → (∀ d ∈ ds, R d) → Same G G2 → Same F F2 → Same G2 F2 → G2 D = none → F2 D = some (.lst ws) → DtAll K G2 ws ds → Bs F2 H3 b g → Qd H3) :
    ∃ W : Nat → Nat → Hp → Prop, (∃ m, W 0 m (upd H1 D (.lst []))) ∧ ∀ i m H, W i m H →
      (J.stop i H ∧ Qd H) ∨ (J.go i H ∧ ∃ Nx : Hp → Prop, (∀ H', Nx H' → ∃ m', m' < m ∧ W (i + 1) m' H') ∧ ∀ x H', J.yld i H x H' → gName j x (wipe σ vs) H' fun σ2 H2 => wipe σ2 vs = wipe σ vs ∧ tYes σ2 H2 fun b H3 =>
        if b = true then te σ2 H3 fun y H4 => ∃ acc, H4 D = some (.lst acc) ∧ acc.length < sizeLine ∧ Nx (upd H4 D (.lst (acc ++ [y]))) else Nx H3) := by
  have n0 : F D = none := B.sub.free hD
  have g0 : G D = none := sg.free n0
  refine lc_it w (fun i H => ∃ (ws : List V) (ds : List PyData) (G2 F2 : Hp), ds.length = i ∧ (∀ d ∈ ds, R d) ∧ Same G G2 ∧ Same F F2 ∧ Same G2 F2 ∧ G2 D = none ∧ F2 D = some (.lst ws) ∧ DtAll K G2 ws ds ∧ Bs F2 H b g)
    ⟨[], [], G, _, rfl, (fun _ z => nomatch z), Same.refl _, same_new n0, same_put sg g0, g0, upd_same, .nil, B.new hD⟩ (fun i H _ ⟨_, _, _, F2, _, _, _, s, _, _, _, _, B⟩ => hGw H (s.trans B.sub)) ?_ ?_
  · rintro i x H H' hi ⟨ws, ds, G2, F2, hl, hr, s2, s2', s3, g2, e2, hds, B3⟩ ⟨rfl, hx⟩
    refine ⟨hw _, ?_⟩
    unfold tYes
    dsimp only
    refine iteT (he i x G2 F2 _ _ hx s2 s2' s3 B3 fun v d G4 F4 H5 hdr k4 hdt => ?_)
    have e4 := k4.sF _ _ e2
    have g4 : G4 D = none := k4.ap D g2 (by rw [e2]; exact fun z => nomatch z)
    have hlw := dta_len hds
    refine ⟨ws, k4.B.sub _ _ e4, ?_, ws ++ [v], ds ++ [d], G4, upd F4 D (.lst (ws ++ [v])), ?_, ?_, s2.trans k4.sG, same_put (s2'.trans k4.sF) n0, same_put k4.s g4, g4, upd_same, ?_, k4.B.put e4⟩
    · rw [hlw, hl]
      exact Nat.lt_of_lt_of_le hi (Nat.le_trans hn (by decide))
    · rw [List.length_append, hl, List.length_singleton]
    · intro x hx
      rcases List.mem_append.mp hx with h | h
      · exact hr x h
      · rw [List.mem_singleton.mp h]
        exact hdr
    · exact dta_app (dta_same k4.sG _ _ hds) (.cons hdt .nil)
  · rintro H ⟨ws, ds, G2, F2, hl, hr, s2, s2', s3, g2, e2, hds, B3⟩
    exact hd ws ds G2 F2 H hl hr s2 s2' s3 g2 e2 hds B3
def odds5 (m : Int) : List PyData := [.int m, .int (m - 1)] ++ [.int (-1), .bool true, .bool false, .none, .str "0", .tuple [.int 0], .list [.int 0], .int 0, .int 1, .int (10 ^ 30), .dict []]
theorem odds5_ok {m : Int} (h : m.natAbs ≤ 1000000) : OkAll 60 8 (odds5 m) := by
  have big : 1000001 ≤ 10 ^ 120 := by decide +kernel
  have c1 : OkAll 40 8 [.int (-1), .bool true, .bool false, .none, .str "0", .tuple [.int 0], .list [.int 0], .int 0, .int 1, .int (10 ^ 30), .dict []] := ⟨by decide +kernel, by decide +kernel, by decide +kernel⟩
  exact ((OkAll.cons (Ok.small (Nat.le_trans (show m.natAbs ≤ 1000001 by omega) big)) (OkAll.one (Ok.small (Nat.le_trans (show (m - 1).natAbs ≤ 1000001 by omega) big)))).app c1).ge (by decide) (Nat.le_refl _)
def odds6 (m : Int) : List PyData := [.int (10 ^ 60), .int (-(10 ^ 60)), .int (10 ^ 60 + 1), .int (-(10 ^ 60) - 1), .bool true, .bool false, .none, .str "0", .tuple [.int 0], .list [.int 0], .int 0] ++ [.int (m + 1)]
theorem odds6_ok {m : Int} (h : IsNum m) : OkAll 60 8 (odds6 m) := by
  have big : 10 ^ 60 + 1 ≤ 10 ^ 120 := by decide +kernel
  obtain ⟨h1, h2⟩ := h
  have c1 : OkAll 40 8 [.int (10 ^ 60), .int (-(10 ^ 60)), .int (10 ^ 60 + 1), .int (-(10 ^ 60) - 1), .bool true, .bool false, .none, .str "0", .tuple [.int 0], .list [.int 0], .int 0] := ⟨by decide +kernel, by decide +kernel, by decide +kernel⟩
  exact (c1.app (OkAll.one (Ok.small (Nat.le_trans (show (m + 1).natAbs ≤ 10 ^ 60 + 1 by omega) big)))).ge (by decide) (Nat.le_refl _)
theorem num_ok {m : Int} {k : Nat} (h : IsNum m) : Ok 1 k (.int m) := by
  have big : 10 ^ 60 + 1 ≤ 10 ^ 120 := by decide +kernel
  obtain ⟨h1, h2⟩ := h
  exact Ok.small (Nat.le_trans (show m.natAbs ≤ 10 ^ 60 + 1 by omega) big)
theorem pair_ok {x y : Int} (h : Ok 1 8 (.int x)) (h2 : Ok 1 8 (.int y)) : OkAll 2 8 [.int x, .int y] := OkAll.cons h (OkAll.one h2)
theorem perm_two {a b : Int} {l : List Int} (h : l.Perm [a, b]) : ∃ x y, l = [x, y] ∧ (x = a ∨ x = b) ∧ (y = a ∨ y = b) := by
  match l, h.length_eq with
  | [x, y], _ =>
    have m : ∀ z, z ∈ [x, y] → z = a ∨ z = b := fun z hz => by
      have := h.mem_iff.mp hz
      simpa using this
    exact ⟨x, y, rfl, m x (by simp), m y (by simp)⟩
end Sx
namespace Sx
open PySem PySem.Spec PyProof.Rows L2
/-! ### Euclid's rows -/
def eNx (p q : Int × Int) : Int × Int := (p.1 - p.1 / q.1 * q.1, p.2 - p.1 / q.1 * q.2)
def eR (a b : Int) : Nat → Int × Int
  | 0 => (a, 0)
  | 1 => (b, 1)
  | n + 2 => eNx (eR a b n) (eR a b (n + 1))
/-- what holds of two rows, one behind another -/
structure EI (a b : Int) (n : Nat) (p q : Int × Int) : Prop where
  s0 : 0 ≤ q.1
  sr : q.1 < p.1
  sum : p.1 * (q.2.natAbs : Int) + q.1 * (p.2.natAbs : Int) = a
  sg : (p.2 ≤ 0 ∧ 0 < q.2) ∨ (0 ≤ p.2 ∧ q.2 < 0)
  d1 : a ∣ p.1 - p.2 * b
  d2 : a ∣ q.1 - q.2 * b
  gc : ∀ d : Int, (d ∣ p.1 ∧ d ∣ q.1) ↔ (d ∣ a ∧ d ∣ b)
  gr : 1 ≤ n → p.2.natAbs ≤ q.2.natAbs
  pw : p.1 * q.1 * 2 ^ n ≤ a * b
theorem EI.start {a b : Int} (h0 : 0 ≤ b) (h1 : b < a) : EI a b 0 (a, 0) (b, 1) where
  s0 := h0
  sr := h1
  sum := by
    show a * ((1 : Int).natAbs : Int) + b * ((0 : Int).natAbs : Int) = a
    simp
  sg := .inl ⟨Int.le_refl 0, (by decide : (0 : Int) < 1)⟩
  d1 := by
    show a ∣ a - 0 * b
    rw [Int.zero_mul, Int.sub_zero]
    exact Int.dvd_refl a
  d2 := by
    show a ∣ b - 1 * b
    rw [Int.one_mul, Int.sub_self]
    exact Int.dvd_zero a
  gc := fun d => Iff.rfl
  gr := fun h => absurd h (by decide)
  pw := by
    show a * b * 2 ^ 0 ≤ a * b
    rw [Int.pow_zero, Int.mul_one]
    exact Int.le_refl _
theorem EI.next {a b : Int} {n : Nat} {p q : Int × Int} (e : EI a b n p q) (hs : 0 < q.1) : EI a b (n + 1) q (eNx p q) := by
  obtain ⟨r, t⟩ := p
  obtain ⟨s, u⟩ := q
  have hs : 0 < s := hs
  have hr : s < r := e.sr
  have hm0 : 0 ≤ r % s := Int.emod_nonneg r (by omega)
  have hm1 : r % s < s := Int.emod_lt_of_pos r hs
  have hmod : r - r / s * s = r % s := by
    have := Int.emod_add_mul_ediv r s
    rw [Int.mul_comm] at this
    omega
  have hq : 1 ≤ r / s := Int.le_ediv_of_mul_le hs (by omega)
  have hsum : r * (u.natAbs : Int) + s * (t.natAbs : Int) = a := e.sum
  have hsg : (t ≤ 0 ∧ 0 < u) ∨ (0 ≤ t ∧ u < 0) := e.sg
  have hpw : r * s * 2 ^ n ≤ a * b := e.pw
  have hd1 : a ∣ r - t * b := e.d1
  have hd2 : a ∣ s - u * b := e.d2
  generalize hk : r / s = k at hmod hq
  have hdiv : r = k * s + r % s := by omega
  -- the new times
  have hku : k * (u.natAbs : Int) = (k * u).natAbs := by
    rw [Int.natAbs_mul]
    have : (k.natAbs : Int) = k := by omega
    rw [Int.natCast_mul, this]
  have hab : ((t - k * u).natAbs : Int) = (t.natAbs : Int) + k * (u.natAbs : Int) := by
    rw [hku]
    rcases hsg with ⟨h1, h2⟩ | ⟨h1, h2⟩
    · have : 0 < k * u := Int.mul_pos (by omega) h2
      omega
    · have : k * u < 0 := Int.mul_neg_of_pos_of_neg (by omega) h2
      omega
  have hkn : (u.natAbs : Int) ≤ k * (u.natAbs : Int) := by
    have := Int.mul_le_mul_of_nonneg_right hq (show (0 : Int) ≤ (u.natAbs : Int) by omega)
    rw [Int.one_mul] at this
    exact this
  have hnx : eNx (r, t) (s, u) = (r % s, t - k * u) := by
    show (r - r / s * s, t - r / s * u) = _
    rw [hk, hmod]
  rw [hnx]
  constructor
  · exact hm0
  · exact hm1
  · show s * ((t - k * u).natAbs : Int) + r % s * (u.natAbs : Int) = a
    rw [hab, Int.mul_add, ← hsum]
    have e1 : r * (u.natAbs : Int) = s * (k * (u.natAbs : Int)) + r % s * (u.natAbs : Int) := by
      have h2 : (k * s + r % s) * (u.natAbs : Int) = s * (k * (u.natAbs : Int)) + r % s * (u.natAbs : Int) := by
        rw [Int.add_mul, Int.mul_comm k s, Int.mul_assoc]
      rw [← h2, ← hdiv]
    rw [e1]
    omega
  · show (u ≤ 0 ∧ 0 < t - k * u) ∨ (0 ≤ u ∧ t - k * u < 0)
    rcases hsg with ⟨h1, h2⟩ | ⟨h1, h2⟩
    · have : 0 < k * u := Int.mul_pos (by omega) h2
      exact .inr ⟨by omega, by omega⟩
    · have : k * u < 0 := Int.mul_neg_of_pos_of_neg (by omega) h2
      exact .inl ⟨by omega, by omega⟩
  · exact hd2
  · show a ∣ r % s - (t - k * u) * b
    have e1 : r % s - (t - k * u) * b = (r - t * b) - k * (s - u * b) := by
      rw [← hmod, Int.sub_mul, Int.mul_sub, Int.mul_assoc]
      omega
    rw [e1]
    exact Int.dvd_sub hd1 (Int.dvd_mul_of_dvd_right hd2)
  · intro d
    refine Iff.trans ⟨fun h => ?_, fun h => ?_⟩ (e.gc d)
    · obtain ⟨h1, h2⟩ := h
      refine ⟨?_, h1⟩
      show d ∣ r
      rw [hdiv]
      exact Int.dvd_add (Int.dvd_mul_of_dvd_right h1) h2
    · obtain ⟨h1, h2⟩ := h
      refine ⟨h2, ?_⟩
      show d ∣ r % s
      rw [← hmod]
      exact Int.dvd_sub h1 (Int.dvd_mul_of_dvd_right h2)
  · intro _
    show u.natAbs ≤ (t - k * u).natAbs
    omega
  · show s * (r % s) * 2 ^ (n + 1) ≤ a * b
    have h1 : r % s * 2 ≤ r := by
      have : s ≤ k * s := by
        have := Int.mul_le_mul_of_nonneg_right hq (show (0 : Int) ≤ s by omega)
        rw [Int.one_mul] at this
        exact this
      omega
    have h2 : s * (r % s) * 2 ^ (n + 1) = (s * 2 ^ n) * (r % s * 2) := by
      rw [Int.pow_succ, Int.mul_assoc, Int.mul_assoc]
      congr 1
      rw [← Int.mul_assoc, Int.mul_comm (r % s) (2 ^ n), Int.mul_assoc]
    have h3 : (s * 2 ^ n) * (r % s * 2) ≤ (s * 2 ^ n) * r := Int.mul_le_mul_of_nonneg_left h1 (Int.mul_nonneg (by omega) (Int.le_of_lt (Int.pow_pos (by decide))))
    have h4 : (s * 2 ^ n) * r = r * s * 2 ^ n := by
      rw [Int.mul_comm, Int.mul_assoc]
    rw [h2]
    omega
/-- as far as the rests are above 0 -/
def eGo (a b : Int) (k : Nat) : Prop := ∀ j, 1 ≤ j → j + 1 < k → 0 < (eR a b j).1
theorem eI_at {a b : Int} (h0 : 0 ≤ b) (h1 : b < a) : ∀ n, eGo a b (n + 2) → EI a b n (eR a b n) (eR a b (n + 1))
  | 0, _ => EI.start h0 h1
  | n + 1, h => (eI_at h0 h1 n fun j h2 h3 => h j h2 (by omega)).next (h (n + 1) (by omega) (by omega))
def eL (a b : Int) (k : Nat) : List (Int × Int) := (List.range k).map (eR a b)
theorem eL_len (a b : Int) (k : Nat) : (eL a b k).length = k := by
  unfold eL
  rw [List.length_map, List.length_range]
theorem eL_at {a b : Int} {k i : Nat} (h : i < k) : (eL a b k)[i]? = some (eR a b i) := by
  unfold eL
  rw [List.getElem?_map, List.getElem?_range h] <;> rfl
theorem eL_succ (a b : Int) (k : Nat) : eL a b (k + 1) = eL a b k ++ [eR a b k] := by
  unfold eL
  rw [List.range_succ, List.map_append] <;> rfl
/-- the whole -/
structure eAll (a b : Int) (k : Nat) : Prop where
  two : 2 ≤ k
  go : eGo a b k
  nil : (eR a b (k - 1)).1 = 0
theorem eAll.uniq {a b : Int} {k l : Nat} (x : eAll a b k) (y : eAll a b l) : k = l := by
  have two := x.two
  have two' := y.two
  rcases Nat.lt_trichotomy k l with h | h | h
  · have := y.go (k - 1) (by omega) (by omega)
    rw [x.nil] at this
    exact absurd this (by decide)
  · exact h
  · have := x.go (l - 1) (by omega) (by omega)
    rw [y.nil] at this
    exact absurd this (by decide)
def eMost : Int := 10 ^ 70
theorem e_few {a b : Int} (h0 : 0 ≤ b) (h1 : b < a) (hm : a ≤ eMost) {n : Nat} (h : eGo a b (n + 2)) (hp : 0 < (eR a b (n + 1)).1) : n < 500 := by
  have e := eI_at h0 h1 n h
  have pw := e.pw
  have sr := e.sr
  generalize (eR a b (n + 1)).1 = s at hp pw sr
  generalize (eR a b n).1 = r at pw sr
  by_cases hn : n < 500
  · exact hn
  exfalso
  have hab : a * b ≤ eMost * eMost := Int.mul_le_mul hm (by omega) h0 (by unfold eMost; decide)
  have hrs : 1 ≤ r * s := by
    have : 0 < r * s := Int.mul_pos (by omega) hp
    omega
  have h2 : (2 : Int) ^ n ≤ r * s * 2 ^ n := by
    have := Int.mul_le_mul_of_nonneg_right hrs (show (0 : Int) ≤ 2 ^ n from Int.le_of_lt (Int.pow_pos (by decide)))
    rw [Int.one_mul] at this
    exact this
  have h3 : (2 : Int) ^ 500 ≤ 2 ^ n := by
    have e : ∀ k : Nat, (2 : Int) ^ k = ((2 ^ k : Nat) : Int) := fun k => (Int.natCast_pow 2 k).symm
    rw [e, e]
    exact Int.ofNat_le.mpr (Nat.pow_le_pow_right (by decide) (by omega))
  have h4 : eMost * eMost < 2 ^ 500 := by unfold eMost; decide +kernel
  omega
theorem e_bnd {a b : Int} (h0 : 0 ≤ b) (h1 : b < a) {n : Nat} (h : eGo a b (n + 2)) : ((eR a b n).1.natAbs : Int) ≤ a ∧ ((eR a b n).2.natAbs : Int) ≤ a ∧ ((eR a b (n + 1)).1.natAbs : Int) ≤ a ∧ ((eR a b (n + 1)).2.natAbs : Int) ≤ a := by
  have e := eI_at h0 h1 n h
  obtain ⟨s0, sr, sum, sg, _, _, _, gr, _⟩ := e
  have gr' : n = 0 ∨ ((eR a b n).2.natAbs ≤ (eR a b (n + 1)).2.natAbs) := by
    rcases Nat.eq_zero_or_pos n with z | z
    · exact .inl z
    · exact .inr (gr z)
  have t0 : n = 0 → (eR a b n).2 = 0 := fun z => by rw [z] <;> rfl
  generalize (eR a b (n + 1)).1 = s at *
  generalize (eR a b n).1 = r at *
  generalize (eR a b (n + 1)).2 = u at *
  generalize (eR a b n).2 = t at *
  have hu : 1 ≤ (u.natAbs : Int) := by omega
  have h2 : r * 1 ≤ r * (u.natAbs : Int) := Int.mul_le_mul_of_nonneg_left hu (by omega)
  have h3 : 1 * (u.natAbs : Int) ≤ r * (u.natAbs : Int) := Int.mul_le_mul_of_nonneg_right (by omega) (by omega)
  have h4 : 0 ≤ s * (t.natAbs : Int) := Int.mul_nonneg s0 (by omega)
  rw [Int.mul_one] at h2
  rw [Int.one_mul] at h3
  refine ⟨by omega, ?_, by omega, by omega⟩
  rcases gr' with z | z
  · rw [t0 z]
    show ((0 : Nat) : Int) ≤ a
    omega
  · omega

/-! ### the deck: a dict with a list and an int -/
def deckKv (g : Addr) (st : Int) : List (Key × V) := [(Sum.inr "deep", .ref g), (Sum.inr "state", .int st)]
structure Ds (H0 H : Hp) (b g : Addr) : Prop where
  sub : Same H0 H
  nb : H0 b = none
  ng : H0 g = none
  ls : ∃ ms : List Int, H g = some (.lst (ms.map V.int)) ∧ ms.length ≤ 63
  dc : ∃ st : Int, H b = some (.dK (deckKv g st))
namespace Ds
variable {H0 H H1 : Hp} {b g p : Addr} {o u : HO}
theorem bg (B : Ds H0 H b g) : b ≠ g := by
  obtain ⟨ms, h1, _⟩ := B.ls
  obtain ⟨st, h2⟩ := B.dc
  exact ne_of h2 h1 (fun z => nomatch z)
theorem pb (B : Ds H0 H b g) (n : H p = none) : p ≠ b := by
  obtain ⟨st, h2⟩ := B.dc
  exact (ne_of_none h2 n).symm
theorem pg (B : Ds H0 H b g) (n : H p = none) : p ≠ g := by
  obtain ⟨ms, h2, _⟩ := B.ls
  exact (ne_of_none h2 n).symm
theorem more (B : Ds H0 H b g) (s : Same H H1) : Ds H0 H1 b g := by
  obtain ⟨ms, h1, h2⟩ := B.ls
  obtain ⟨st, h3⟩ := B.dc
  exact ⟨B.sub.trans s, B.nb, B.ng, ⟨ms, s _ _ h1, h2⟩, ⟨st, s _ _ h3⟩⟩
theorem new (B : Ds H0 H b g) (n : H p = none) : Ds (upd H0 p o) (upd H p o) b g := by
  have B1 := B.more (same_new (o := o) n)
  refine ⟨?_, by rw [upd_ne (B.pb n).symm]; exact B.nb, by rw [upd_ne (B.pg n).symm]; exact B.ng, B1.ls, B1.dc⟩
  intro c x e
  by_cases h : c = p
  · subst h
    rw [upd_same] at e ⊢
    exact e
  · rw [upd_ne h] at e ⊢
    exact B.sub c x e
theorem put (B : Ds H0 H b g) (e : H0 p = some u) : Ds (upd H0 p o) (upd H p o) b g := by
  have pb : p ≠ b := ne_of_none e B.nb
  have pg : p ≠ g := ne_of_none e B.ng
  obtain ⟨ms, h1, h2⟩ := B.ls
  obtain ⟨st, h3⟩ := B.dc
  refine ⟨?_, by rw [upd_ne pb.symm]; exact B.nb, by rw [upd_ne pg.symm]; exact B.ng, ⟨ms, by rw [upd_ne pg.symm]; exact h1, h2⟩, ⟨st, by rw [upd_ne pb.symm]; exact h3⟩⟩
  intro c x h
  by_cases hc : c = p
  · subst hc
    rw [upd_same] at h ⊢
    exact h
  · rw [upd_ne hc] at h ⊢
    exact B.sub c x h
theorem less {H2 : Hp} (B : Ds H0 H b g) (s : Same H2 H0) : Ds H2 H b g := ⟨s.trans B.sub, s.free B.nb, s.free B.ng, B.ls, B.dc⟩
/-- what a draw laid -/
theorem own (B : Ds H0 H b g) (e : H p = some o) (pb : p ≠ b) (pg : p ≠ g) : Ds (upd H0 p o) H b g := by
  refine ⟨?_, by rw [upd_ne pb.symm]; exact B.nb, by rw [upd_ne pg.symm]; exact B.ng, B.ls, B.dc⟩
  intro c x h
  by_cases hc : c = p
  · subst hc
    rw [upd_same] at h
    cases h
    exact e
  · rw [upd_ne hc] at h
    exact B.sub c x h
end Ds
theorem small_most {m : Int} (h0 : 0 < m) (h1 : m ≤ 10 ^ 71) : Small m := by
  have h2 : m.natAbs ≤ 10 ^ 71 := by omega
  have h3 : 10 ^ 71 < 2 ^ 240 := by decide +kernel
  exact ⟨h0, Nat.lt_trans (PySem.Flt.log2_lt_of (k := 240) (by decide) (Nat.lt_of_le_of_lt h2 h3)) (by decide)⟩
theorem atI_last2 {α : Type} (xs : List α) (u v : α) : atI (xs ++ [u, v]) (-2) = some u := by
  have hl : (xs ++ [u, v]).length = xs.length + 2 := by simp
  have e : ixN (xs ++ [u, v]).length (-2) = some xs.length := by
    unfold ixN
    rw [hl, if_neg (by decide), if_pos (by omega)]
    congr 1
    omega
  unfold atI
  rw [e]
  simp
theorem paired_split {β : Type} {R : Addr → β → Prop} {x : β} : ∀ {as : List Addr} {xs : List β}, Paired R as (xs ++ [x]) → ∃ (bs : List Addr) (a : Addr), as = bs ++ [a] ∧ Paired R bs xs ∧ R a x
  | _, [], .cons r .nil => ⟨[], _, rfl, .nil, r⟩
  | _, y :: ys, .cons r t => by
    obtain ⟨bs, a, e, p, q⟩ := paired_split (xs := ys) t
    exact ⟨_ :: bs, a, by rw [e] <;> rfl, .cons r p, q⟩
/-- the last two rows -/
theorem rows_end {H : Hp} {x y : Int} {k : Nat} {as : List Addr} (p : Paired (PairAt H) as (eL x y (k + 2))) : ∃ (bs : List Addr) (c d : Addr), as = bs ++ [c, d] ∧ PairAt H c (eR x y k) ∧ PairAt H d (eR x y (k + 1)) := by
  rw [eL_succ] at p
  obtain ⟨bs, d, rfl, p, hd⟩ := paired_split p
  rw [eL_succ] at p
  obtain ⟨cs, c, rfl, p, hc⟩ := paired_split p
  exact ⟨cs, c, d, by rw [List.append_assoc] <;> rfl, hc, hd⟩
end Sx
namespace K30
open PySem PySem.Spec PyProof.Rows L2 Sx
def sp__law_draw (_ : PySem.W.Frag) : Sp := fun vs H Q _ => ∃ (H0 : Hp) (b g : Addr) (m : Int), vs = [.ref b, .int m] ∧ Ds H0 H b g ∧ Small m ∧ ∀ (r : Int) (H' : Hp), 0 ≤ r → r < m → Ds H0 H' b g → Q (.int r) H'
def sp__law_pick (K : PySem.W.Frag) : Sp := fun vs H Q _ => ∃ (H0 : Hp) (b g a : Addr) (xs : List V), vs = [.ref b, .ref a] ∧ Ds H0 H b g ∧ (SqL K H0 a xs ∨ SqT K H0 a xs) ∧ xs ≠ [] ∧ xs.length ≤ 100000 ∧
  ∀ (i : Nat) (x : V) (H' : Hp), xs[i]? = some x → Ds H0 H' b g → Q x H'
def sp__law_deck (K : PySem.W.Frag) : Sp := fun vs H Q _ => ∃ (a : Addr) (ns : List Int), vs = [.ref a] ∧ SqL K H a (ns.map V.int) ∧ ns.length ≤ 63 ∧ ∀ (b g : Addr) (H' : Hp), Ds H H' b g → Q (.ref b) H'
structure EP (a b : Int) : Prop where
  b0 : 0 ≤ b
  lt : b < a
  most : a ≤ eMost
def sp__law_pair (_ : PySem.W.Frag) : Sp := fun vs H Q _ => ∃ (H0 : Hp) (b g : Addr), vs = [.ref b] ∧ Ds H0 H b g ∧ ∀ (x y : Int) (p : Addr) (H' : Hp), EP x y → H0 p = none → H' p = some (.tup [.int x, .int y]) → p ≠ b → p ≠ g → Ds H0 H' b g → Q (.ref p) H'
def sp__law_divisor (_ : PySem.W.Frag) : Sp := fun vs H Q _ => ∃ (x y : Int), vs = [.int x, .int y] ∧ 0 < x ∧ 0 ≤ y ∧ ∀ z : Int, 0 ≤ z → (∀ d : Int, d ∣ z ↔ (d ∣ x ∧ d ∣ y)) → Q (.int z) H
def sp_euclid_rows (_ : PySem.W.Frag) : Sp := fun vs H Q _ => ∃ (x y : Int), vs = [.int x, .int y] ∧ EP x y ∧ ∀ (k : Nat) (l : Addr) (H' : Hp), eAll x y k → Same H H' → H l = none → HltAt H' l (eL x y k) → Q (.ref l) H'
def sp__law_due (_ : PySem.W.Frag) : Sp := fun vs H Q _ => ∃ (x y : Int), vs = [.int x, .int y] ∧ EP x y ∧ ∀ (k : Nat) (l : Addr) (H' : Hp), eAll x y k → Same H H' → H l = none → HlsAt H' l (eL x y k) → Q (.ref l) H'
def sp__law_are_kept (_ : PySem.W.Frag) : Sp := fun vs H Q _ => ∃ (x y : Int) (k : Nat) (l : Addr), vs = [.int x, .int y, .ref l] ∧ EP x y ∧ eAll x y k ∧ HltAt H l (eL x y k) ∧ ∀ H', Same H H' → Q (.bl true) H'
theorem lc_pairs {F H1 : Hp} {b g D : Addr} {n j : Nat} {te : TE} {vs : List Nat} {σ : L2.St} {Qd : Hp → Prop} (B : Ds F H1 b g) (hD : H1 D = none) (hn : n ≤ 1000) (hw : ∀ x, wipe ((wipe σ vs).set j (some x)) vs = wipe σ vs)
    (he : ∀ (i : Nat) (F2 H3 : Hp) (Q : VK), Same F F2 → Ds F2 H3 b g → (∀ (x y : Int) (p : Addr) (H4 : Hp), EP x y → F2 p = none → H4 p = some (.tup [.int x, .int y]) → p ≠ b → p ≠ g → Ds F2 H4 b g → Q (.ref p) H4) → te ((wipe σ vs).set j (some (.int (0 + (i : Int))))) H3 Q)
    (hd : ∀ (as : List Addr) (L : List (Int × Int)) (F2 H3 : Hp), as.length = n → Same F F2 → F2 D = some (.lst (as.map V.ref)) → Paired (PairAt F2) as L → (∀ e ∈ L, EP e.1 e.2) → Ds F2 H3 b g → Qd H3) :
    ∃ W : Nat → Nat → Hp → Prop, (∃ m, W 0 m (upd H1 D (.lst []))) ∧ ∀ i m H, W i m H →
      ((Itr 0 n).stop i H ∧ Qd H) ∨ ((Itr 0 n).go i H ∧ ∃ Nx : Hp → Prop, (∀ H', Nx H' → ∃ m', m' < m ∧ W (i + 1) m' H') ∧ ∀ x H', (Itr 0 n).yld i H x H' → gName j x (wipe σ vs) H' fun σ2 H2 => wipe σ2 vs = wipe σ vs ∧ tYes σ2 H2 fun b H3 =>
        if b = true then te σ2 H3 fun y H4 => ∃ acc, H4 D = some (.lst acc) ∧ acc.length < sizeLine ∧ Nx (upd H4 D (.lst (acc ++ [y]))) else Nx H3) := by
  have n0 : F D = none := B.sub.free hD
  refine lc_range (lo := 0) (n := n) (fun i H => ∃ (as : List Addr) (L : List (Int × Int)) (F2 : Hp), as.length = i ∧ Same F F2 ∧ F2 D = some (.lst (as.map V.ref)) ∧ Paired (PairAt F2) as L ∧ (∀ e ∈ L, EP e.1 e.2) ∧ Ds F2 H b g)
    ⟨[], [], _, rfl, same_new n0, upd_same, .nil, (fun _ z => nomatch z), B.new hD⟩ ?_ ?_
  · rintro i H hi ⟨as, L, F2, hl, s2, e2, pr, hr, B3⟩
    refine ⟨hw _, ?_⟩
    unfold tYes
    dsimp only
    refine iteT (he i F2 H _ s2 B3 fun x y p H4 hE np ep pb pg B4 => ?_)
    have B5 := B4.own ep pb pg
    have t5 : Same F2 (upd F2 p (.tup [.int x, .int y])) := same_new np
    have e5 := t5 _ _ e2
    have B6 := B5.put (o := .lst (as.map V.ref ++ [.ref p])) e5
    refine ⟨_, B5.sub _ _ e5, ?_, as ++ [p], L ++ [(x, y)], _, ?_, ?_, ?_, ?_, ?_, B6⟩
    · rw [List.length_map, hl]
      exact Nat.lt_of_lt_of_le hi (Nat.le_trans hn (by decide))
    · rw [List.length_append, hl, List.length_singleton]
    · exact same_put (s2.trans t5) n0
    · rw [upd_same, List.map_append] <;> rfl
    · exact paired_snoc (paired_same (fun a x r => tup_put e5 (t5 _ _ r)) pr) (tup_put e5 upd_same)
    · intro e h
      rcases List.mem_append.mp h with h | h
      · exact hr e h
      · rw [List.mem_singleton.mp h]
        exact hE
  · rintro H ⟨as, L, F2, hl, s2, e2, pr, hr, B3⟩
    exact hd as L F2 H hl s2 e2 pr hr B3
theorem e_row {x y : Int} (P : EP x y) {k : Nat} (A : eAll x y k) : Row (.tuple ((eL x y k).map hullD)) := by
  have x0 := P.b0
  have x1 := P.lt
  have x2 : x ≤ 10 ^ 70 := P.most
  have two := A.two
  have big : 10 ^ 70 ≤ 10 ^ 120 := by decide +kernel
  have hk : k ≤ 600 := by
    by_cases h3 : k ≤ 3
    · omega
    · obtain ⟨n, rfl⟩ : ∃ n, k = n + 3 := ⟨k - 3, by omega⟩
      have := e_few x0 x1 P.most (n := n) (fun j h1 h2 => A.go j h1 (by omega)) (A.go (n + 1) (by omega) (by omega))
      omega
  refine Row.hlt (fun e he => ?_) (by rw [eL_len]; omega)
  obtain ⟨i, hi, rfl⟩ := List.mem_map.mp he
  have hi := List.mem_range.mp hi
  have bd : ((eR x y i).1.natAbs : Int) ≤ x ∧ ((eR x y i).2.natAbs : Int) ≤ x := by
    by_cases h : i + 2 ≤ k
    · exact ⟨(e_bnd x0 x1 (n := i) fun j h1 h2 => A.go j h1 (by omega)).1, (e_bnd x0 x1 (n := i) fun j h1 h2 => A.go j h1 (by omega)).2.1⟩
    · obtain ⟨j, rfl⟩ : ∃ j, i = j + 1 := ⟨i - 1, by omega⟩
      exact ⟨(e_bnd x0 x1 (n := j) fun j h1 h2 => A.go j h1 (by omega)).2.2.1, (e_bnd x0 x1 (n := j) fun j h1 h2 => A.go j h1 (by omega)).2.2.2⟩
  exact ⟨Nat.le_trans (show (eR x y i).1.natAbs ≤ 10 ^ 70 by omega) big, Nat.le_trans (show (eR x y i).2.natAbs ≤ 10 ^ 70 by omega) big⟩
theorem all10 : eAll 1 0 2 := ⟨by decide, fun j h1 h2 => absurd h1 (by omega), rfl⟩
theorem all75 : eAll 7 5 5 := by
  refine ⟨by decide, fun j h1 h2 => ?_, rfl⟩
  match j, h1, h2 with
  | 1, _, _ => decide
  | 2, _, _ => decide
  | 3, _, _ => decide
end K30
namespace Sx
open PySem PySem.Spec PyProof.Rows L2
/-! ### the vat: a list of a list and two ints -/
def vatL (g : Addr) (st ct : Int) : List V := [.ref g, .int st, .int ct]
structure Vs (H0 H : Hp) (b g : Addr) : Prop where
  sub : Same H0 H
  nb : H0 b = none
  ng : H0 g = none
  ls : ∃ ms : List Int, H g = some (.lst (ms.map V.int)) ∧ ms.length ≤ 63
  dc : ∃ st ct : Int, H b = some (.lst (vatL g st ct))
theorem vat_ne {g : Addr} {st ct : Int} {ms : List Int} : HO.lst (vatL g st ct) ≠ HO.lst (ms.map V.int) := by
  intro e
  have e := HO.lst.inj e
  cases ms with
  | nil => exact nomatch e
  | cons m ms =>
    have := (List.cons.inj e).1
    exact nomatch this
namespace Vs
variable {H0 H H1 : Hp} {b g p : Addr} {o u : HO}
theorem bg (B : Vs H0 H b g) : b ≠ g := by
  obtain ⟨ms, h1, _⟩ := B.ls
  obtain ⟨st, ct, h2⟩ := B.dc
  rintro rfl
  rw [h2] at h1
  exact vat_ne (Option.some.inj h1)
theorem pb (B : Vs H0 H b g) (n : H p = none) : p ≠ b := by
  obtain ⟨st, ct, h2⟩ := B.dc
  exact (ne_of_none h2 n).symm
theorem pg (B : Vs H0 H b g) (n : H p = none) : p ≠ g := by
  obtain ⟨ms, h2, _⟩ := B.ls
  exact (ne_of_none h2 n).symm
theorem more (B : Vs H0 H b g) (s : Same H H1) : Vs H0 H1 b g := by
  obtain ⟨ms, h1, h2⟩ := B.ls
  obtain ⟨st, ct, h3⟩ := B.dc
  exact ⟨B.sub.trans s, B.nb, B.ng, ⟨ms, s _ _ h1, h2⟩, ⟨st, ct, s _ _ h3⟩⟩
theorem new (B : Vs H0 H b g) (n : H p = none) : Vs (upd H0 p o) (upd H p o) b g := by
  have B1 := B.more (same_new (o := o) n)
  refine ⟨?_, by rw [upd_ne (B.pb n).symm]; exact B.nb, by rw [upd_ne (B.pg n).symm]; exact B.ng, B1.ls, B1.dc⟩
  intro c x e
  by_cases h : c = p
  · subst h
    rw [upd_same] at e ⊢
    exact e
  · rw [upd_ne h] at e ⊢
    exact B.sub c x e
theorem put (B : Vs H0 H b g) (e : H0 p = some u) : Vs (upd H0 p o) (upd H p o) b g := by
  have pb : p ≠ b := ne_of_none e B.nb
  have pg : p ≠ g := ne_of_none e B.ng
  obtain ⟨ms, h1, h2⟩ := B.ls
  obtain ⟨st, ct, h3⟩ := B.dc
  refine ⟨?_, by rw [upd_ne pb.symm]; exact B.nb, by rw [upd_ne pg.symm]; exact B.ng, ⟨ms, by rw [upd_ne pg.symm]; exact h1, h2⟩, ⟨st, ct, by rw [upd_ne pb.symm]; exact h3⟩⟩
  intro c x h
  by_cases hc : c = p
  · subst hc
    rw [upd_same] at h ⊢
    exact h
  · rw [upd_ne hc] at h ⊢
    exact B.sub c x h
theorem less {H2 : Hp} (B : Vs H0 H b g) (s : Same H2 H0) : Vs H2 H b g := ⟨s.trans B.sub, s.free B.nb, s.free B.ng, B.ls, B.dc⟩
theorem own (B : Vs H0 H b g) (e : H p = some o) (pb : p ≠ b) (pg : p ≠ g) : Vs (upd H0 p o) H b g := by
  refine ⟨?_, by rw [upd_ne pb.symm]; exact B.nb, by rw [upd_ne pg.symm]; exact B.ng, B.ls, B.dc⟩
  intro c x h
  by_cases hc : c = p
  · subst hc
    rw [upd_same] at h
    cases h
    exact e
  · rw [upd_ne hc] at h
    exact B.sub c x h
end Vs
end Sx
namespace Vat
open PySem PySem.Spec PyProof.Rows L2 Sx
section
variable {H0 H1 : Hp} {b g D : Addr}
/-- over range(n): each item an int with the property R -/
theorem lc_drawn {n j : Nat} {te : TE} {vs : List Nat} {σ : L2.St} {Qd : Hp → Prop} (R : Int → Prop) (B : Vs H0 H1 b g) (hD : H1 D = none) (hn : n ≤ 100000) (hw : ∀ x, wipe ((wipe σ vs).set j (some x)) vs = wipe σ vs)
    (he : ∀ (i : Nat) (H2 H3 : Hp) (Q : VK), i < n → Same H0 H2 → Vs H2 H3 b g → (∀ (m : Int) (H4 : Hp), R m → Vs H2 H4 b g → Q (.int m) H4) → te ((wipe σ vs).set j (some (.int (0 + (i : Int))))) H3 Q)
    (hd : ∀ (ms : List Int) (H3 : Hp), ms.length = n → (∀ m ∈ ms, R m) → Vs (upd H0 D (.lst (ms.map V.int))) H3 b g → Qd H3) :
    ∃ W : Nat → Nat → Hp → Prop, (∃ m, W 0 m (upd H1 D (.lst []))) ∧ ∀ i m H, W i m H →
      ((Itr 0 n).stop i H ∧ Qd H) ∨ ((Itr 0 n).go i H ∧ ∃ Nx : Hp → Prop, (∀ H', Nx H' → ∃ m', m' < m ∧ W (i + 1) m' H') ∧ ∀ x H', (Itr 0 n).yld i H x H' → gName j x (wipe σ vs) H' fun σ2 H2 => wipe σ2 vs = wipe σ vs ∧ tYes σ2 H2 fun b H3 =>
        if b = true then te σ2 H3 fun y H4 => ∃ acc, H4 D = some (.lst acc) ∧ acc.length < sizeLine ∧ Nx (upd H4 D (.lst (acc ++ [y]))) else Nx H3) := by
  have n0 : H0 D = none := B.sub.free hD
  have s0 : ∀ o, Same H0 (upd H0 D o) := fun o => same_new n0
  refine lc_range (lo := 0) (n := n) (fun i H => ∃ ms : List Int, ms.length = i ∧ (∀ m ∈ ms, R m) ∧ Vs (upd H0 D (.lst (ms.map V.int))) H b g) ⟨[], rfl, (fun _ z => nomatch z), B.new hD⟩ ?_ ?_
  · rintro i H hi ⟨ms, hl, hr, B3⟩
    refine ⟨hw _, ?_⟩
    unfold tYes
    dsimp only
    refine iteT (he i (upd H0 D (.lst (ms.map V.int))) H _ hi (s0 _) B3 fun m H4 hm B4 => ?_)
    refine ⟨ms.map V.int, B4.sub _ _ upd_same, ?_, ms ++ [m], ?_, ?_, ?_⟩
    · rw [List.length_map, hl]
      exact Nat.lt_of_lt_of_le hi (Nat.le_trans hn (by decide))
    · rw [List.length_append, hl, List.length_singleton]
    · intro x hx
      rcases List.mem_append.mp hx with h | h
      · exact hr x h
      · rw [List.mem_singleton.mp h]
        exact hm
    · have B5 := B4.put (o := .lst ((ms ++ [m]).map V.int)) upd_same
      rw [upd_upd] at B5
      rw [List.map_append] at B5 ⊢
      exact B5
  · rintro H ⟨ms, hl, hr, B3⟩
    exact hd ms H hl hr B3
end
theorem perm_erase {α : Type} : ∀ (l : List α) (i : Nat) (h : i < l.length), (l[i] :: l.eraseIdx i).Perm l
  | x :: l, 0, _ => List.Perm.refl _
  | x :: l, i + 1, h => by
    have h' : i < l.length := Nat.lt_of_succ_lt_succ h
    have ih := perm_erase l i h'
    show (l[i] :: x :: l.eraseIdx i).Perm (x :: l)
    exact (List.Perm.swap x _ _).trans (List.Perm.cons x ih)
theorem map_erase {α β : Type} (f : α → β) : ∀ (l : List α) (i : Nat), (l.map f).eraseIdx i = (l.eraseIdx i).map f
  | [], _ => rfl
  | x :: l, 0 => rfl
  | x :: l, i + 1 => congrArg (f x :: ·) (map_erase f l i)
def sp__law_draw (_ : PySem.W.Frag) : Sp := fun vs H Q _ => ∃ (H0 : Hp) (b g : Addr) (m : Int), vs = [.ref b, .int m] ∧ Vs H0 H b g ∧ Small m ∧ ∀ (r : Int) (H' : Hp), 0 ≤ r → r < m → Vs H0 H' b g → Q (.int r) H'
def sp__law_pick (K : PySem.W.Frag) : Sp := fun vs H Q _ => ∃ (H0 : Hp) (b g a : Addr) (xs : List V), vs = [.ref b, .ref a] ∧ Vs H0 H b g ∧ (SqL K H0 a xs ∨ SqT K H0 a xs) ∧ xs ≠ [] ∧ xs.length ≤ 100000 ∧
  ∀ (i : Nat) (x : V) (H' : Hp), xs[i]? = some x → Vs H0 H' b g → Q x H'
def sp__law_vat (K : PySem.W.Frag) : Sp := fun vs H Q _ => ∃ (a : Addr) (ns : List Int), vs = [.ref a] ∧ SqL K H a (ns.map V.int) ∧ ns.length ≤ 63 ∧ ∀ (b g : Addr) (H' : Hp), Vs H H' b g → Q (.ref b) H'
/-- ints in another order -/
def sp__law_mixed (K : PySem.W.Frag) : Sp := fun vs H Q _ => ∃ (H0 : Hp) (b g a : Addr) (ns : List Int), vs = [.ref b, .ref a] ∧ Vs H0 H b g ∧ (SqL K H0 a (ns.map V.int) ∨ SqT K H0 a (ns.map V.int)) ∧ ns.length ≤ 1000 ∧
  ∀ (ms : List Int) (p : Addr) (H' : Hp), ms.Perm ns → H0 p = none → H' p = some (.lst (ms.map V.int)) → p ≠ b → p ≠ g → Vs H0 H' b g → Q (.ref p) H'
def sp__law_far (_ : PySem.W.Frag) : Sp := fun vs H Q _ => ∃ (H0 : Hp) (b g : Addr) (n : Nat), vs = [.ref b, .int (n : Nat)] ∧ Vs H0 H b g ∧ n ≤ 100 ∧ ∀ (r : Int) (H' : Hp), r.natAbs < 10 ^ n → Vs H0 H' b g → Q (.int r) H'
structure Mods (most : Int) (ns : List Int) : Prop where
  one : 1 ≤ ns.length
  ten : ns.length ≤ 10
  mod : ∀ n ∈ ns, 2 ≤ n ∧ n ≤ most
def sp__law_mods (_ : PySem.W.Frag) : Sp := fun vs H Q _ => ∃ (H0 : Hp) (b g : Addr) (w most : Int), vs = [.ref b, .int w, .int most] ∧ Vs H0 H b g ∧ 1 ≤ w ∧ w ≤ 10 ∧ 4 ≤ most ∧ most ≤ 1000000 ∧
  ∀ (ns : List Int) (p : Addr) (H' : Hp), Mods most ns → ns.length = w.toNat → H0 p = none → H' p = some (.tup (ns.map V.int)) → p ≠ b → p ≠ g → Vs H0 H' b g → Q (.ref p) H'
def sp__law_common (_ : PySem.W.Frag) : Sp := fun vs H Q _ => ∃ (x y : Nat), vs = [.int (x : Nat), .int (y : Nat)] ∧ x < 2 ^ 8000 ∧ y < 2 ^ 8000 ∧ Q (.int ((Nat.gcd x y : Nat) : Int)) H
/-- a word of a machine -/
structure Wrd (ns : List Int) (ws : List (Option Int)) : Prop where
  len : ws.length = ns.length
  fit : ∀ i r, ws[i]? = some (some r) → 0 ≤ r ∧ r < ns.getD i 0
def sp__law_word (K : PySem.W.Frag) : Sp := fun vs H Q _ => ∃ (H0 : Hp) (b g t : Addr) (ns : List Int), vs = [.ref b, .ref t] ∧ Vs H0 H b g ∧ SqT K H0 t (ns.map V.int) ∧ Mods 1000000 ns ∧
  ∀ (ws : List (Option Int)) (p : Addr) (H' : Hp), Wrd ns ws → H0 p = none → H' p = some (.tup (ws.map vO)) → p ≠ b → p ≠ g → Vs H0 H' b g → Q (.ref p) H'
theorem Wrd.put {ns : List Int} {ws : List (Option Int)} {k : Nat} {o : Option Int} (w : Wrd ns ws) (h : ∀ r, o = some r → 0 ≤ r ∧ r < ns.getD k 0) : Wrd ns (ws.set k o) := by
  refine ⟨by rw [List.length_set]; exact w.len, fun i r e => ?_⟩
  rw [List.getElem?_set] at e
  split at e
  · rename_i hk
    subst hk
    split at e
    · exact h r (Option.some.inj e)
    · exact nomatch e
  · exact w.fit i r e
theorem map_set {α β : Type} (f : α → β) : ∀ (l : List α) (i : Nat) (x : α), (l.map f).set i (f x) = (l.set i x).map f
  | [], _, _ => rfl
  | y :: l, 0, x => rfl
  | y :: l, i + 1, x => congrArg (f y :: ·) (map_set f l i x)
theorem ixN_in {n : Nat} {i : Int} (h0 : 0 ≤ i) (h1 : i < n) : ixN n i = some i.toNat := by
  unfold ixN
  rw [if_pos h0, if_pos h1]
end Vat
namespace Sx
open PySem PySem.Spec PyProof.Rows L2
/-! ### data of any kind beside a text -/
theorem dict_eq_declines_str (l : Addr) (es : Array DictEntry) (ep : Nat) (dd : Option Addr) (sl : Array (Option Value)) (b : Str) (u : Tok) :
    Meets (Builtin.«dict.__eq__» ⟨[.ref l, .str b u], []⟩) (fun _ R s => s.heap.get? l = some { cls := .type "dict", dict := dd, data := .dict es ep, slots := sl } ∧ R (.ok (.ret .notImplemented)) s) :=
  .of_wp fun prog w A R s h => by obtain ⟨hp, g, d, tk, os⟩ := s; obtain ⟨hl, h⟩ := h; have f1 := F.sub_str_dict; wp_walk using wpAny_loadPart' hl; exact ⟨_, rfl, h⟩
theorem str_eq_declines_dict (b : Str) (u : Tok) (l : Addr) (es : Array DictEntry) (ep : Nat) (dd : Option Addr) (sl : Array (Option Value)) :
    Meets (Builtin.«str.__eq__» ⟨[.str b u, .ref l], []⟩) (fun _ R s => s.heap.get? l = some { cls := .type "dict", dict := dd, data := .dict es ep, slots := sl } ∧ R (.ok (.ret .notImplemented)) s) :=
  .of_wp fun prog w A R s h => by obtain ⟨hp, g, d, tk, os⟩ := s; obtain ⟨hl, h⟩ := h; wp_walk using wpAny_loadPart' hl, wpAny_load hl; exact ⟨_, rfl, h⟩
section
variable {A : Around} {s : Shared}
theorem rc_dict_str {l : Addr} {o : Obj} {n : Nat} (b : Str) (u : Tok) (ho : s.heap.get? l = some o) (hc : o.cls = .type "dict") (hd : o.data = .dict #[] n) (hu : A.units < cLine) : SeqAt.RcAt A s (.ref l) (.str b u) false := fun prog w E Q h => by
  obtain ⟨cls, dd, data, sl⟩ := o
  simp only at hc hd
  subst hc hd
  exact SeqAt.rc_eq_decline_or (k := false) ⟨_, ho, rfl⟩ (typeIs_str s b u) (by decide) F.sub_str_dict F.slot_dict_eq F.slot_str_eq_refl
    (fun _ hq => call_meets F.slot_dict_eq ⟨_, ho, rfl⟩ F.entry_dict_eq (F.args_dict_eq_2 _ _) (dict_eq_declines_str l _ n dd sl b u) ⟨ho, hq⟩)
    (fun _ hq => call_meets F.slot_str_eq_refl (typeIs_str s b u) F.entry_str_eq (F.args_str_eq_2 _ _) (str_eq_declines_dict b u l _ n dd sl) ⟨ho, hq⟩)
    (fun _ hq => wpAny_of_eq (rfl : isSame (.ref l) (.str b u) = pure false) hq) (.inr hu) h
theorem rc_str_dict {l : Addr} {o : Obj} {n : Nat} (b : Str) (u : Tok) (ho : s.heap.get? l = some o) (hc : o.cls = .type "dict") (hd : o.data = .dict #[] n) (hu : A.units < cLine) : SeqAt.RcAt A s (.str b u) (.ref l) false := fun prog w E Q h => by
  obtain ⟨cls, dd, data, sl⟩ := o
  simp only at hc hd
  subst hc hd
  exact SeqAt.rc_eq_decline_or (k := false) (typeIs_str s b u) ⟨_, ho, rfl⟩ (by decide) F.sub_dict_str F.slot_str_eq F.slot_dict_eq_refl
    (fun _ hq => call_meets F.slot_str_eq (typeIs_str s b u) F.entry_str_eq (F.args_str_eq_2 _ _) (str_eq_declines_dict b u l _ n dd sl) ⟨ho, hq⟩)
    (fun _ hq => call_meets F.slot_dict_eq_refl ⟨_, ho, rfl⟩ F.entry_dict_eq (F.args_dict_eq_2 _ _) (dict_eq_declines_str l _ n dd sl b u) ⟨ho, hq⟩)
    (fun _ hq => wpAny_of_eq (rfl : isSame (.str b u) (.ref l) = pure false) hq) (.inr hu) h
end
def isStr (d : PyData) (t : Str) : Bool := match d with
  | .str u => u == t
  | _ => false
def rEqS (K : PySem.W.Frag) : R2 := fun x y H Q => ∃ d t, Dt K H x d ∧ y = .str t ∧ Q (.bl (isStr d t)) H
theorem op_eqS {X : Cx} (hu : X.A.units + 64 < cLine) : OpR X (compareOp .Eq) (rEqS X.K) := by
  intro pins s σ H x y v u Q I rx ry h
  obtain ⟨d, t, hd, rfl, q⟩ := h
  obtain ⟨tk, rfl⟩ := ry
  have hu1 : X.A.units < cLine := by omega
  have fin : EP X pins σ Q (.bool (isStr d t)) s := ⟨.bl _, H, I, rfl, q⟩
  cases hd with
  | non =>
    obtain rfl : v = Value.none := rx
    exact SeqAt.RcAt.none_str _ _ X.prog X.w _ _ fin
  | bl b =>
    obtain rfl : v = Value.bool b := rx
    exact SeqAt.RcAt.bool_str b _ _ X.prog X.w _ _ fin
  | int i =>
    obtain ⟨t', rfl⟩ := rx
    exact SeqAt.RcAt.int_str i t' _ _ X.prog X.w _ _ fin
  | str z =>
    obtain ⟨t', rfl⟩ := rx
    exact SeqAt.RcAt.str_str z t' _ _ X.prog X.w _ _ fin
  | @lst a xs ds e ha =>
    obtain rfl : v = Value.ref a := rx
    obtain ⟨its, rv, pl, _⟩ := I.list e
    exact SeqAt.RcAt.list_str _ _ pl.isList hu1 X.prog X.w _ _ fin
  | @tup a xs ds e ha =>
    obtain rfl : v = Value.ref a := rx
    obtain ⟨its, rv, tp, _⟩ := I.tuple e
    exact SeqAt.RcAt.tuple_str _ _ (show s.heap.IsTuple a its.toArray from tp) hu1 X.prog X.w _ _ fin
  | @dct a e =>
    obtain rfl : v = Value.ref a := rx
    obtain ⟨_, o, n, ho, hc, hdd⟩ := empty_dict I e
    exact rc_dict_str _ _ ho hc hdd hu1 X.prog X.w _ _ fin
/-- any data in a tuple of texts -/
def rInS (K : PySem.W.Frag) : R2 := fun x y H Q => ∃ (d : PyData) (p : Addr) (ts : List Str), Dt K H x d ∧ y = .ref p ∧ SqT K H p (ts.map V.str) ∧ Q (.bl (ts.any fun t => isStr d t)) H
theorem eqAt_strs {X : Cx} {pins : List (Addr × Obj)} {σ : L2.St} {H : Hp} {s : Shared} (I : Inv X pins σ H s) {A : Around} (hu : A.units < cLine) {x : V} {v : Value} {d : PyData} (hd : Dt X.K H x d) (rx : RelV x v) (t : Str) (tk : Tok) : SeqAt.EqAt A s (.str t tk) v (isStr d t) := by
  have ref : ∀ (a : Addr), SeqAt.RcAt A s (.str t tk) (.ref a) false → SeqAt.EqAt A s (.str t tk) (.ref a) false := fun a h prog w E Q hq => by
    unfold eqBool
    refine wpAny_holding ?_
    refine wpAny_ite_split (fun hab => absurd (eq_of_beq hab) nofun) (fun _ => ?_)
    exact wpAny_bind (h prog w E _ (wpAny_truthy_bool hq))
  cases hd with
  | non =>
    obtain rfl : v = Value.none := rx
    exact SeqAt.EqAt.str_none t tk
  | bl b =>
    obtain rfl : v = Value.bool b := rx
    exact SeqAt.EqAt.str_bool t tk b
  | int i =>
    obtain ⟨t', rfl⟩ := rx
    exact SeqAt.EqAt.str_int t tk i t'
  | str z =>
    obtain ⟨t', rfl⟩ := rx
    have := SeqAt.EqAt.str_str (A := A) (s := s) t tk z t'
    have e : isStr (.str z) t = (t == z) := by
      show (z == t) = (t == z)
      exact BEq.comm
    rw [e]
    exact this
  | @lst a xs ds e ha =>
    obtain rfl : v = Value.ref a := rx
    obtain ⟨its, rv, pl, _⟩ := I.list e
    exact ref a (SeqAt.RcAt.str_list _ _ pl.isList hu)
  | @tup a xs ds e ha =>
    obtain rfl : v = Value.ref a := rx
    obtain ⟨its, rv, tp, _⟩ := I.tuple e
    exact ref a (SeqAt.RcAt.str_tuple _ _ (show s.heap.IsTuple a its.toArray from tp) hu)
  | @dct a e =>
    obtain rfl : v = Value.ref a := rx
    obtain ⟨_, o, n, ho, hc, hdd⟩ := empty_dict I e
    exact ref a (rc_str_dict _ _ ho hc hdd hu)
def eStr (d : PyData) : Value → Bool
  | .str t _ => isStr d t
  | _ => false
theorem any_eStr {d : PyData} : ∀ {ts : List Str} {us : List Value}, Vals (ts.map V.str) us → us.any (eStr d) = ts.any fun t => isStr d t
  | [], _, .nil => rfl
  | t :: ts, _, .cons r rs => by
    obtain ⟨tk, rfl⟩ := r
    rw [List.any_cons, List.any_cons, any_eStr rs] <;> rfl
theorem strs_mem : ∀ {ts : List Str} {us : List Value}, Vals (ts.map V.str) us → ∀ u ∈ us, ∃ t tk, u = .str t tk
  | [], _, .nil, _, h => nomatch h
  | t :: ts, _, .cons r rs, u, h => by
    rcases List.mem_cons.mp h with e | e
    · obtain ⟨tk, rfl⟩ := r
      exact ⟨t, tk, e⟩
    · exact strs_mem rs u e
theorem op_inS' {X : Cx} (hu : X.A.units + 64 < cLine) : OpR X (compareOp .In) (rInS X.K) := by
  intro pins s σ H x y v u Q I rx ry h
  obtain ⟨d, p, ts, hd, rfl, hq, q⟩ := h
  cases ry
  obtain ⟨its, r, pl, hz⟩ := I.tuple hq
  refine SeqAt.in_tupleAt (eStr d) pl (fun w hw => ?_) ⟨.bl _, H, I, rfl, ?_⟩
  · obtain ⟨t, tk, rfl⟩ := strs_mem r w (by simpa using hw)
    exact eqAt_strs I (show X.A.units + 1 < cLine by omega) hd rx t tk
  · rw [show its.toArray.any (eStr d) = its.any (eStr d) by simp, any_eStr r]
    exact q
end Sx
/-! The lifted layer: what a def does, told of data alone; the heap is kept behind it. -/
namespace Lf
open PySem PySem.Spec PyProof.Rows L2 Sx

/-- what is known of a slot: nothing, the very value, a piece of data, a list of its own that is still to change -/
inductive A where
  | un
  | raw (v : V)
  | d (x : PyData)
  | own (ds : List PyData)
/-- a raised error: its class and what it keeps -/
structure Ex where
  cls : Value
  fs : List (Str × PyData)


/-! ### data of all kinds; lists are such as may be read and joined -/
mutual
inductive Dv (K : PySem.W.Frag) (H : Hp) : V → PyData → Prop
  | non : Dv K H .non .none
  | bl (b : Bool) : Dv K H (.bl b) (.bool b)
  | int (i : Int) : Dv K H (.int i) (.int i)
  | str (x : Str) : Dv K H (.str x) (.str x)
  | lst {a : Addr} {xs : List V} {ds : List PyData} (e : H a = some (.lst xs)) (h : DvAll K H xs ds) : Dv K H (.ref a) (.list ds)
  | tup {a : Addr} {xs : List V} {ds : List PyData} (e : SqT K H a xs) (h : DvAll K H xs ds) : Dv K H (.ref a) (.tuple ds)
  | dct {a : Addr} (e : H a = some (.dK [])) : Dv K H (.ref a) (.dict [])
inductive DvAll (K : PySem.W.Frag) (H : Hp) : List V → List PyData → Prop
  | nil : DvAll K H [] []
  | cons {v : V} {vs : List V} {d : PyData} {ds : List PyData} : Dv K H v d → DvAll K H vs ds → DvAll K H (v :: vs) (d :: ds)
end
mutual
theorem dv_same {K : PySem.W.Frag} {H H' : Hp} (e : Same H H') : ∀ (d : PyData) (v : V), Dv K H v d → Dv K H' v d
  | .none, _, h => by
    cases h
    exact .non
  | .bool _, _, h => by
    cases h
    exact .bl _
  | .int _, _, h => by
    cases h
    exact .int _
  | .str _, _, h => by
    cases h
    exact .str _
  | .list ds, _, h => by
    cases h with
    | lst h1 h2 => exact .lst (e _ _ h1) (dva_same e ds _ h2)
  | .tuple ds, _, h => by
    cases h with
    | tup h1 h2 => exact .tup (Same.tup e h1) (dva_same e ds _ h2)
  | .dict _, _, h => by
    cases h with
    | dct h1 => exact .dct (e _ _ h1)
theorem dva_same {K : PySem.W.Frag} {H H' : Hp} (e : Same H H') : ∀ (ds : List PyData) (vs : List V), DvAll K H vs ds → DvAll K H' vs ds
  | [], _, h => by
    cases h
    exact .nil
  | d :: ds, _, h => by
    cases h with
    | cons h1 h2 => exact .cons (dv_same e d _ h1) (dva_same e ds _ h2)
end
mutual
theorem dv_dt {K : PySem.W.Frag} {H : Hp} : ∀ (d : PyData) (v : V), Dv K H v d → Dt K H v d
  | .none, _, h => by
    cases h
    exact .non
  | .bool _, _, h => by
    cases h
    exact .bl _
  | .int _, _, h => by
    cases h
    exact .int _
  | .str _, _, h => by
    cases h
    exact .str _
  | .list ds, _, h => by
    cases h with
    | lst h1 h2 => exact .lst (.of h1) (dva_dta ds _ h2)
  | .tuple ds, _, h => by
    cases h with
    | tup h1 h2 => exact .tup h1 (dva_dta ds _ h2)
  | .dict _, _, h => by
    cases h with
    | dct h1 => exact .dct h1
theorem dva_dta {K : PySem.W.Frag} {H : Hp} : ∀ (ds : List PyData) (vs : List V), DvAll K H vs ds → DtAll K H vs ds
  | [], _, h => by
    cases h
    exact .nil
  | d :: ds, _, h => by
    cases h with
    | cons h1 h2 => exact .cons (dv_dt d _ h1) (dva_dta ds _ h2)
end
theorem dva_len {K : PySem.W.Frag} {H : Hp} : ∀ {vs : List V} {ds : List PyData}, DvAll K H vs ds → vs.length = ds.length
  | _, _, .nil => rfl
  | _, _, .cons _ t => congrArg (· + 1) (dva_len t)
theorem dva_at {K : PySem.W.Frag} {H : Hp} : ∀ {vs : List V} {ds : List PyData} {i : Nat} {d : PyData}, DvAll K H vs ds → ds[i]? = some d → ∃ v, vs[i]? = some v ∧ Dv K H v d
  | _, _, _, _, .nil, h => by simp at h
  | _, _, 0, d, .cons r t, h => ⟨_, rfl, by rw [← Option.some.inj h]; exact r⟩
  | _, _, i + 1, d, .cons r t, h => dva_at (i := i) t (by simpa using h)
theorem dva_app {K : PySem.W.Frag} {H : Hp} : ∀ {vs ws : List V} {ds es : List PyData}, DvAll K H vs ds → DvAll K H ws es → DvAll K H (vs ++ ws) (ds ++ es)
  | _, _, _, _, .nil, h => h
  | _, _, _, _, .cons r t, h => .cons r (dva_app t h)
theorem dva_take {K : PySem.W.Frag} {H : Hp} : ∀ {vs : List V} {ds : List PyData} (n : Nat), DvAll K H vs ds → DvAll K H (vs.take n) (ds.take n)
  | _, _, 0, _ => .nil
  | _, _, _ + 1, .nil => .nil
  | _, _, n + 1, .cons r t => .cons r (dva_take n t)
theorem dva_drop {K : PySem.W.Frag} {H : Hp} : ∀ {vs : List V} {ds : List PyData} (n : Nat), DvAll K H vs ds → DvAll K H (vs.drop n) (ds.drop n)
  | _, _, 0, h => h
  | _, _, _ + 1, .nil => .nil
  | _, _, n + 1, .cons _ t => dva_drop n t
theorem dva_set {K : PySem.W.Frag} {H : Hp} {v : V} {d : PyData} (hv : Dv K H v d) : ∀ {vs : List V} {ds : List PyData} (i : Nat), DvAll K H vs ds → DvAll K H (vs.set i v) (ds.set i d)
  | _, _, _, .nil => .nil
  | _, _, 0, .cons _ t => .cons hv t
  | _, _, i + 1, .cons r t => .cons r (dva_set hv i t)
theorem dva_erase {K : PySem.W.Frag} {H : Hp} : ∀ {vs : List V} {ds : List PyData} (i : Nat), DvAll K H vs ds → DvAll K H (vs.eraseIdx i) (ds.eraseIdx i)
  | _, _, _, .nil => .nil
  | _, _, 0, .cons _ t => t
  | _, _, i + 1, .cons r t => .cons r (dva_erase i t)
theorem dva_rep {K : PySem.W.Frag} {H : Hp} {vs : List V} {ds : List PyData} (h : DvAll K H vs ds) : ∀ n : Nat, DvAll K H (List.replicate n vs).flatten (List.replicate n ds).flatten
  | 0 => .nil
  | n + 1 => by
    rw [List.replicate_succ, List.replicate_succ, List.flatten_cons, List.flatten_cons]
    exact dva_app h (dva_rep h n)
theorem dva_val {K : PySem.W.Frag} {H : Hp} {vs : List V} {ds : List PyData} {i : Nat} {v : V} (h : DvAll K H vs ds) (e : vs[i]? = some v) : i < ds.length ∧ Dv K H v (ds.getD i .none) := by
  have hi : i < ds.length := by
    rw [← dva_len h]
    exact (List.getElem?_eq_some_iff.mp e).1
  obtain ⟨w, h1, h2⟩ := dva_at h (getD_some PyData.none hi)
  rw [e] at h1
  cases h1
  exact ⟨hi, h2⟩
theorem tup_in {K : PySem.W.Frag} {H : Hp} {v : V} {ds : List PyData} (h : Dv K H v (.tuple ds)) : ∃ a xs, v = .ref a ∧ SqT K H a xs ∧ DvAll K H xs ds := by
  cases h with
  | tup e ha => exact ⟨_, _, rfl, e, ha⟩
theorem lst_in {K : PySem.W.Frag} {G : Hp} {v : V} {ds : List PyData} (h : Dv K G v (.list ds)) : ∃ a xs, v = .ref a ∧ G a = some (.lst xs) ∧ DvAll K G xs ds := by
  cases h with
  | lst e ha => exact ⟨_, _, rfl, e, ha⟩

/-- what stands in the heap beside all that is known -/
structure Bx where
  P : Hp → Hp → Prop
  sub : ∀ {F H}, P F H → Same F H
  more : ∀ {F H H1}, P F H → Same H H1 → P F H1
  new : ∀ {F H p} (o : HO), P F H → H p = none → P (upd F p o) (upd H p o)
  put : ∀ {F H p u} (o : HO), P F H → F p = some u → P (upd F p o) (upd H p o)
  less : ∀ {F F' H}, P F H → Same F' F → P F' H
def Bx.nil : Bx where
  P := Same
  sub h := h
  more h s := h.trans s
  new {F H p} o h n := by
    intro c x e
    by_cases hc : c = p
    · subst hc
      rw [upd_same] at e ⊢
      exact e
    · rw [upd_ne hc] at e ⊢
      exact h c x e
  put {F H p u} o h e0 := by
    intro c x e
    by_cases hc : c = p
    · subst hc
      rw [upd_same] at e ⊢
      exact e
    · rw [upd_ne hc] at e ⊢
      exact h c x e
  less h s := s.trans h

structure Kn (B : Bx) (G0 F0 G F H : Hp) : Prop where
  B : B.P F H
  sG : Same G0 G
  sF : Same F0 F
  s : Same G F
  ap : ∀ D, G0 D = none → F0 D ≠ none → G D = none

section
variable {B : Bx} {K : PySem.W.Frag} {G0 F0 G F H : Hp}
theorem Kn.sub (k : Kn B G0 F0 G F H) : Same F H := B.sub k.B
theorem Kn.gh (k : Kn B G0 F0 G F H) : Same G H := k.s.trans k.sub
theorem Kn.start (b : B.P F H) (s : Same G F) : Kn B G F G F H := ⟨b, Same.refl _, Same.refl _, s, fun _ h _ => h⟩
theorem Kn.trans {G1 F1 H' : Hp} (k : Kn B G0 F0 G F H) (k2 : Kn B G F G1 F1 H') : Kn B G0 F0 G1 F1 H' :=
  ⟨k2.B, k.sG.trans k2.sG, k.sF.trans k2.sF, k2.s, fun D h1 h2 => k2.ap D (k.ap D h1 h2) (by
    cases hx : F0 D with
    | none => exact absurd hx h2
    | some x =>
      rw [k.sF _ _ hx]
      exact fun z => nomatch z)⟩
theorem Kn.old {p : Addr} (k : Kn B G0 F0 G F H) (h : F p = none) : F0 p = none := by
  cases e : F0 p with
  | none => rfl
  | some x =>
    rw [k.sF _ _ e] at h
    cases h
/-- a new object, data from now on -/
theorem Kn.newG (k : Kn B G0 F0 G F H) {p : Addr} (np : H p = none) (o : HO) : Kn B G0 F0 (upd G p o) (upd F p o) (upd H p o) := by
  have nF := k.sub.free np
  have nG := k.s.free nF
  have n0 := k.old nF
  refine ⟨B.new o k.B np, k.sG.trans (same_new nG), k.sF.trans (same_new nF), ?_, fun D h1 h2 => ?_⟩
  · intro c x e
    by_cases h : c = p
    · subst h
      rw [upd_same] at e ⊢
      exact e
    · rw [upd_ne h] at e ⊢
      exact k.s c x e
  · have hD : D ≠ p := fun e => h2 (by rw [e]; exact n0)
    rw [upd_ne hD]
    exact k.ap D h1 h2
/-- a new object that is still to change -/
theorem Kn.newF (k : Kn B G0 F0 G F H) {p : Addr} (np : H p = none) (o : HO) : Kn B G0 F0 G (upd F p o) (upd H p o) := by
  have nF := k.sub.free np
  have nG := k.s.free nF
  exact ⟨B.new o k.B np, k.sG, k.sF.trans (same_new nF), k.s.trans (same_new nF), k.ap⟩
theorem Kn.putF (k : Kn B G0 F0 G F H) {p : Addr} {u : HO} (e : F p = some u) (nG : G p = none) (n0 : F0 p = none) (o : HO) : Kn B G0 F0 G (upd F p o) (upd H p o) :=
  ⟨B.put o k.B e, k.sG, same_put k.sF n0, same_put k.s nG, k.ap⟩
/-- from now on data -/
theorem Kn.fix (k : Kn B G0 F0 G F H) {p : Addr} {o : HO} (e : F p = some o) (n0 : F0 p = none) (nG : G p = none) : Kn B G0 F0 (upd G p o) F H := by
  refine ⟨k.B, k.sG.trans (same_new nG), k.sF, ?_, fun D h1 h2 => ?_⟩
  · intro c x h
    by_cases hc : c = p
    · subst hc
      rw [upd_same] at h
      rw [e]
      exact h
    · rw [upd_ne hc] at h
      exact k.s c x h
  · have hD : D ≠ p := fun z => h2 (by rw [z]; exact n0)
    rw [upd_ne hD]
    exact k.ap D h1 h2
theorem Kn.more {H1 : Hp} (k : Kn B G0 F0 G F H) (s : Same H H1) : Kn B G0 F0 G F H1 := ⟨B.more k.B s, k.sG, k.sF, k.s, k.ap⟩

/-! ### slots -/
def VOk (K : PySem.W.Frag) (G F0 F : Hp) : A → Option V → Prop
  | .un, _ => True
  | .raw v, x => x = some v
  | .d y, x => ∃ v, x = some v ∧ Dv K G v y
  | .own ds, x => ∃ a ws, x = some (.ref a) ∧ F a = some (.lst ws) ∧ G a = none ∧ F0 a = none ∧ DvAll K G ws ds
structure Sl (K : PySem.W.Frag) (G F0 F : Hp) (as : List A) (xs : List (Option V)) : Prop where
  len : as.length = xs.length
  ok : ∀ (i : Nat) (a : A), as[i]? = some a → ∃ x, xs[i]? = some x ∧ VOk K G F0 F a x
  nd : ∀ (i j : Nat) (ds es : List PyData) (p : Addr), as[i]? = some (.own ds) → as[j]? = some (.own es) → xs[i]? = some (some (.ref p)) → xs[j]? = some (some (.ref p)) → i = j
theorem Sl.nil : Sl K G F0 F [] [] := ⟨rfl, fun i a h => by simp at h, fun i j ds es p h => by simp at h⟩
theorem Sl.reindex {as bs : List A} {xs ys : List (Option V)} (S : Sl K G F0 F as xs) (l : bs.length = ys.length) (f : Nat → Nat) (h1 : ∀ i, i < bs.length → bs[i]? = as[f i]?) (h2 : ∀ i, i < bs.length → ys[i]? = xs[f i]?)
    (inj : ∀ i j, i < bs.length → j < bs.length → f i = f j → i = j) : Sl K G F0 F bs ys := by
  refine ⟨l, fun i a h => ?_, fun i j ds es p e1 e2 e3 e4 => ?_⟩
  · have hi := (List.getElem?_eq_some_iff.mp h).1
    rw [h1 i hi] at h
    rw [h2 i hi]
    exact S.ok _ _ h
  · have hi := (List.getElem?_eq_some_iff.mp e1).1
    have hj := (List.getElem?_eq_some_iff.mp e2).1
    rw [h1 i hi] at e1
    rw [h1 j hj] at e2
    rw [h2 i hi] at e3
    rw [h2 j hj] at e4
    exact inj i j hi hj (S.nd _ _ _ _ _ e1 e2 e3 e4)
theorem Sl.pop {a : A} {x : Option V} {as : List A} {xs : List (Option V)} (S : Sl K G F0 F (a :: as) (x :: xs)) : Sl K G F0 F as xs :=
  S.reindex (Nat.succ.inj S.len) (· + 1) (fun i _ => (List.getElem?_cons_succ ..).symm) (fun i _ => (List.getElem?_cons_succ ..).symm) fun i j _ _ h => Nat.succ.inj h
/-- whatever is no list of its own may come to it -/
theorem Sl.push {a : A} {x : Option V} {as : List A} {xs : List (Option V)} (S : Sl K G F0 F as xs) (h : VOk K G F0 F a x) (n : ∀ ds, a = A.own ds → ∀ p, x = some (V.ref p) → ∀ (j : Nat) es, as[j]? = some (A.own es) → xs[j]? ≠ some (some (V.ref p))) : Sl K G F0 F (a :: as) (x :: xs) := by
  refine ⟨congrArg (· + 1) S.len, fun i b e => ?_, fun i j ds es p e1 e2 e3 e4 => ?_⟩
  · match i, e with
    | 0, e =>
      cases e
      exact ⟨x, rfl, h⟩
    | i + 1, e => exact S.ok i b e
  · match i, j, e1, e2, e3, e4 with
    | 0, 0, _, _, _, _ => rfl
    | 0, j + 1, e1, e2, e3, e4 =>
      cases e1
      cases e3
      exact absurd e4 (n _ rfl _ rfl _ _ e2)
    | i + 1, 0, e1, e2, e3, e4 =>
      cases e2
      cases e4
      exact absurd e3 (n _ rfl _ rfl _ _ e1)
    | i + 1, j + 1, e1, e2, e3, e4 => exact congrArg (· + 1) (S.nd i j ds es p e1 e2 e3 e4)
theorem VOk.grow {G' F' : Hp} {a : A} {x : Option V} (h : VOk K G F0 F a x) (sg : Same G G') (sf : ∀ ds p, a = A.own ds → x = some (V.ref p) → F' p = F p ∧ G' p = none) : VOk K G' F0 F' a x := by
  cases a with
  | un => exact trivial
  | raw v => exact h
  | d y =>
    obtain ⟨v, e, hd⟩ := h
    exact ⟨v, e, dv_same sg _ _ hd⟩
  | own ds =>
    obtain ⟨p, ws, e, e1, e2, e3, e4⟩ := h
    obtain ⟨q1, q2⟩ := sf _ _ rfl e
    exact ⟨p, ws, e, by rw [q1]; exact e1, q2, e3, dva_same sg _ _ e4⟩
theorem Sl.grow {G' F' : Hp} {as : List A} {xs : List (Option V)} (S : Sl K G F0 F as xs) (sg : Same G G') (sf : ∀ p u, F p = some u → G p = none → F0 p = none → F' p = F p ∧ G' p = none) : Sl K G' F0 F' as xs := by
  refine ⟨S.len, fun i a e => ?_, S.nd⟩
  obtain ⟨x, hx, ok⟩ := S.ok i a e
  refine ⟨x, hx, ok.grow sg fun ds p e1 e2 => ?_⟩
  subst e1
  obtain ⟨q, ws, e3, e4, e5, e6, _⟩ := ok
  rw [e2] at e3
  cases e3
  exact sf p _ e4 e5 e6

structure St (B : Bx) (K : PySem.W.Frag) (G0 F0 : Hp) (as : List A) (xs : List (Option V)) (H : Hp) : Prop where
  ex : ∃ G F, Kn B G0 F0 G F H ∧ Sl K G F0 F as xs
/-- the same, and an error on its way -/
def XR (K : PySem.W.Frag) (G H : Hp) (e : Ex) (c : Value) (dd : Option Addr) : Prop := c = e.cls ∧ e.fs = [] ∧ dd = none
structure XS (B : Bx) (K : PySem.W.Frag) (G0 F0 : Hp) (as : List A) (xs : List (Option V)) (H : Hp) (e : Ex) (c : Value) (dd : Option Addr) : Prop where
  ex : ∃ G F, Kn B G0 F0 G F H ∧ Sl K G F0 F as xs ∧ XR K G H e c dd

variable {as bs θ ρ : List A} {xs ys τ σ : List (Option V)} {a : A} {x : Option V} {v : V} {y : PyData}
theorem St.len (S : St B K G0 F0 as xs H) : as.length = xs.length := by
  obtain ⟨_, _, _, s⟩ := S.ex
  exact s.len
theorem St.pop (S : St B K G0 F0 (a :: as) (x :: xs) H) : St B K G0 F0 as xs H := by
  obtain ⟨G, F, k, s⟩ := S.ex
  exact ⟨G, F, k, s.pop⟩
theorem St.reindex (S : St B K G0 F0 as xs H) (l : bs.length = ys.length) (f : Nat → Nat) (h1 : ∀ i, i < bs.length → bs[i]? = as[f i]?) (h2 : ∀ i, i < bs.length → ys[i]? = xs[f i]?)
    (inj : ∀ i j, i < bs.length → j < bs.length → f i = f j → i = j) : St B K G0 F0 bs ys H := by
  obtain ⟨G, F, k, s⟩ := S.ex
  exact ⟨G, F, k, s.reindex l f h1 h2 inj⟩
theorem St.more {H1 : Hp} (S : St B K G0 F0 as xs H) (s : Same H H1) : St B K G0 F0 as xs H1 := by
  obtain ⟨G, F, k, s1⟩ := S.ex
  exact ⟨G, F, k.more s, s1⟩
theorem St.push (S : St B K G0 F0 as xs H) (h : ∀ G, Dv K G v y) : St B K G0 F0 (.d y :: as) (some v :: xs) H := by
  obtain ⟨G, F, k, s⟩ := S.ex
  exact ⟨G, F, k, s.push ⟨v, rfl, h G⟩ fun ds z => nomatch z⟩
theorem St.pushRaw (S : St B K G0 F0 as xs H) : St B K G0 F0 (.raw v :: as) (some v :: xs) H := by
  obtain ⟨G, F, k, s⟩ := S.ex
  exact ⟨G, F, k, s.push rfl fun ds z => nomatch z⟩
/-- data that hangs on what the first ones are -/
theorem St.data (S : St B K G0 F0 as xs H) (h : ∀ G F, Same G F → Same F H → Sl K G F0 F as xs → Dv K G v y) : St B K G0 F0 (.d y :: as) (some v :: xs) H := by
  obtain ⟨G, F, k, s⟩ := S.ex
  exact ⟨G, F, k, s.push ⟨v, rfl, h G F k.s k.sub s⟩ fun ds z => nomatch z⟩
/-- what the first one is, by the heap -/
theorem St.get (S : St B K G0 F0 (.d y :: as) (some v :: xs) H) : Dv K H v y := by
  obtain ⟨G, F, k, s⟩ := S.ex
  obtain ⟨x, e, v', e2, h⟩ := s.ok 0 _ rfl
  cases e
  cases e2
  exact dv_same k.gh _ _ h
theorem St.getRaw {u : V} (S : St B K G0 F0 (.raw u :: as) (x :: xs) H) : x = some u := by
  obtain ⟨G, F, k, s⟩ := S.ex
  obtain ⟨x, e, h⟩ := s.ok 0 _ rfl
  cases e
  exact h
/-- a new tuple, or whatever is data when it stands -/
theorem St.newD {p : Addr} {o : HO} (S : St B K G0 F0 as xs H) (np : H p = none) (h : ∀ G F, Same G F → Same F H → Sl K G F0 F as xs → ∀ G', Same G G' → G' p = some o → Dv K G' (.ref p) y) : St B K G0 F0 (.d y :: as) (some (.ref p) :: xs) (upd H p o) := by
  obtain ⟨G, F, k, s⟩ := S.ex
  have nF := k.sub.free np
  have nG := k.s.free nF
  have sg : Same G (upd G p o) := same_new nG
  refine ⟨_, _, k.newG np o, Sl.push (s.grow sg fun q u e1 e2 e3 => ?_) ⟨_, rfl, h G F k.s k.sub s _ sg upd_same⟩ fun ds z => nomatch z⟩
  have hq := ne_of_none e1 nF
  exact ⟨upd_ne hq, by rw [upd_ne hq]; exact e2⟩
/-- a new list of its own -/
theorem St.newL {p : Addr} {ws : List V} {ds : List PyData} (S : St B K G0 F0 as xs H) (np : H p = none) (h : ∀ G F, Same G F → Same F H → Sl K G F0 F as xs → DvAll K G ws ds) : St B K G0 F0 (.own ds :: as) (some (.ref p) :: xs) (upd H p (.lst ws)) := by
  obtain ⟨G, F, k, s⟩ := S.ex
  have nF := k.sub.free np
  have nG := k.s.free nF
  refine ⟨_, _, k.newF np (.lst ws), Sl.push (s.grow (Same.refl _) fun q u e1 e2 e3 => ?_) ⟨p, ws, rfl, upd_same, nG, k.old nF, h G F k.s k.sub s⟩ fun ds z q e j es e2 e3 => ?_⟩
  · exact ⟨upd_ne (ne_of_none e1 nF), e2⟩
  · cases e
    obtain ⟨x, e4, q, ws, e5, e6, _⟩ := s.ok j _ e2
    rw [e3] at e4
    cases e4
    cases e5
    rw [nF] at e6
    cases e6
/-- the first one is data from now on -/
theorem St.fix {ds : List PyData} (S : St B K G0 F0 (.own ds :: as) (x :: xs) H) : St B K G0 F0 (.d (.list ds) :: as) (x :: xs) H := by
  obtain ⟨G, F, k, s⟩ := S.ex
  obtain ⟨x', e, p, ws, rfl, e1, e2, e3, e4⟩ := s.ok 0 _ rfl
  cases e
  have sg : Same G (upd G p (.lst ws)) := same_new e2
  refine ⟨_, F, k.fix e1 e3 e2, Sl.push ⟨?_, fun j b hb => ?_, s.pop.nd⟩ ⟨_, rfl, .lst upd_same (dva_same sg _ _ e4)⟩ fun ds z => nomatch z⟩
  · exact s.pop.len
  · obtain ⟨x, hx, ok⟩ := s.pop.ok j b hb
    refine ⟨x, hx, ok.grow sg fun es q z1 z2 => ⟨rfl, ?_⟩⟩
    subst z1
    obtain ⟨q', ws', z3, _, z4, _⟩ := ok
    rw [z2] at z3
    cases z3
    have hq : q ≠ p := by
      rintro rfl
      have := s.nd 0 (j + 1) _ _ q rfl hb rfl (by rw [List.getElem?_cons_succ, hx, z2])
      omega
    rw [upd_ne hq]
    exact z4
/-- the first one's content is changed -/
theorem St.alter {ds es : List PyData} (S : St B K G0 F0 (.own ds :: as) (x :: xs) H) : ∃ p ws, x = some (.ref p) ∧ H p = some (.lst ws) ∧ ws.length = ds.length ∧ (∃ G, DvAll K G ws ds ∧ Same G H ∧ G p = none) ∧
    ∀ us, (∀ G F, Same G F → Same F H → Sl K G F0 F (.own ds :: as) (x :: xs) → DvAll K G ws ds → DvAll K G us es) → St B K G0 F0 (.own es :: as) (x :: xs) (upd H p (.lst us)) := by
  obtain ⟨G, F, k, s⟩ := S.ex
  obtain ⟨x', e, p, ws, rfl, e1, e2, e3, e4⟩ := s.ok 0 _ rfl
  cases e
  refine ⟨p, ws, rfl, k.sub _ _ e1, dva_len e4, ⟨G, e4, k.gh, e2⟩, fun us hus => ⟨G, _, k.putF e1 e2 e3 (.lst us), Sl.push ⟨s.pop.len, fun j b hb => ?_, s.pop.nd⟩ ⟨p, us, rfl, upd_same, e2, e3, hus G F k.s k.sub s e4⟩ fun es' z q hq j fs hj hx => ?_⟩⟩
  · obtain ⟨x, hx, ok⟩ := s.pop.ok j b hb
    refine ⟨x, hx, ok.grow (Same.refl _) fun es' q z1 z2 => ?_⟩
    subst z1
    obtain ⟨q', ws', z3, _, z4, _⟩ := ok
    rw [z2] at z3
    cases z3
    refine ⟨upd_ne ?_, z4⟩
    rintro rfl
    have := s.nd 0 (j + 1) _ _ q rfl hb rfl (by rw [List.getElem?_cons_succ, hx, z2])
    omega
  · cases hq
    have := s.nd 0 (j + 1) _ _ p rfl (by rw [List.getElem?_cons_succ]; exact hj) rfl (by rw [List.getElem?_cons_succ]; exact hx)
    omega
end
end Lf
namespace Lf
open PySem PySem.Spec PyProof.Rows L2 Sx

abbrev Po := A → List A → Prop
abbrev Zo := Ex → List A → Prop
abbrev AEx := List A → Po → Zo → Prop
abbrev ATx := List A → (Bool → List A → Prop) → Zo → Prop
abbrev AAx := List A → (List A → List A → Prop) → Zo → Prop
abbrev AOx := List A → (Option Int → List A → Prop) → Zo → Prop
abbrev AIx := List A → (List PyData → List A → Prop) → Zo → Prop
abbrev AGx := A → List A → (List A → Prop) → Zo → Prop
structure AE where
  rt : A → Prop
  bk : List A → Prop
  ct : List A → Prop
  ex : Zo
abbrev ASx := AE → (List A → Prop) → List A → Prop
abbrev Wx := Value → Option Addr → L2.St → Hp → Prop
def A.on : A → (PyData → Prop) → Prop
  | .d x, k => k x
  | .own ds, k => k (.list ds)
  | _, _ => False
/-- as data, or the very value -/
def A.fz : A → A
  | .own ds => .d (.list ds)
  | a => a
def A.isOwn : A → Bool
  | .own _ => true
  | _ => false

section
variable (B : Bx) (K : PySem.W.Frag) (W : Wx) (G0 F0 : Hp)
def WOk (θ : List A) (τ : List (Option V)) (Z : Zo) : Prop := ∀ e ρ' σ' H' c dd, Z e ρ' → XS B K G0 F0 (θ ++ ρ') (τ ++ σ') H' e c dd → W c dd σ' H'
def LE (t : TE) (f : AEx) : Prop := ∀ (G0 F0 : Hp) (θ : List A) (τ : List (Option V)) (ρ : List A) (σ : L2.St) (H : Hp) (R : Po) (Z : Zo) (Q : VK), θ.length = τ.length → St B K G0 F0 (θ ++ ρ) (τ ++ σ) H → f ρ R Z →
  (∀ v H' a ρ', R a ρ' → St B K G0 F0 (a :: (θ ++ ρ')) (some v :: (τ ++ σ)) H' → Q v H') → WOk B K W G0 F0 θ τ Z → t σ H Q
def LT (t : TT) (f : ATx) : Prop := ∀ (G0 F0 : Hp) (θ : List A) (τ : List (Option V)) (ρ : List A) (σ : L2.St) (H : Hp) (R : Bool → List A → Prop) (Z : Zo) (Q : Bool → Hp → Prop), θ.length = τ.length → St B K G0 F0 (θ ++ ρ) (τ ++ σ) H → f ρ R Z →
  (∀ b H' ρ', R b ρ' → St B K G0 F0 (θ ++ ρ') (τ ++ σ) H' → Q b H') → WOk B K W G0 F0 θ τ Z → t σ H Q
def LA (t : TA) (f : AAx) : Prop := ∀ (G0 F0 : Hp) (θ : List A) (τ : List (Option V)) (ρ : List A) (σ : L2.St) (H : Hp) (R : List A → List A → Prop) (Z : Zo) (Q : List V → Hp → Prop), θ.length = τ.length → St B K G0 F0 (θ ++ ρ) (τ ++ σ) H → f ρ R Z →
  (∀ vs H' as ρ', R as ρ' → as.length = vs.length → St B K G0 F0 (as ++ (θ ++ ρ')) (vs.map some ++ (τ ++ σ)) H' → Q vs H') → WOk B K W G0 F0 θ τ Z → t σ H Q
def LO (t : TO) (f : AOx) : Prop := ∀ (G0 F0 : Hp) (θ : List A) (τ : List (Option V)) (ρ : List A) (σ : L2.St) (H : Hp) (R : Option Int → List A → Prop) (Z : Zo) (Q : Option Int → Hp → Prop), θ.length = τ.length → St B K G0 F0 (θ ++ ρ) (τ ++ σ) H → f ρ R Z →
  (∀ o H' ρ', R o ρ' → St B K G0 F0 (θ ++ ρ') (τ ++ σ) H' → Q o H') → WOk B K W G0 F0 θ τ Z → t σ H Q
def LG (t : TG) (f : AGx) : Prop := ∀ (G0 F0 : Hp) (θ : List A) (τ : List (Option V)) (ρ : List A) (σ : L2.St) (H : Hp) (a : A) (v : V) (R : List A → Prop) (Z : Zo) (Q : L2.St → Hp → Prop), θ.length = τ.length → St B K G0 F0 (a :: (θ ++ ρ)) (some v :: (τ ++ σ)) H → f a ρ R Z →
  (∀ ρ' σ' H', R ρ' → St B K G0 F0 (θ ++ ρ') (τ ++ σ') H' → Q σ' H') → WOk B K W G0 F0 θ τ Z → t v σ H Q
def LGs (t : TGs) (f : List A → List A → (List A → Prop) → Zo → Prop) : Prop := ∀ (G0 F0 : Hp) (θ : List A) (τ : List (Option V)) (ρ : List A) (σ : L2.St) (H : Hp) (as : List A) (vs : List V) (R : List A → Prop) (Z : Zo) (Q : L2.St → Hp → Prop), θ.length = τ.length → as.length = vs.length → St B K G0 F0 (as ++ (θ ++ ρ)) (vs.map some ++ (τ ++ σ)) H → f as ρ R Z →
  (∀ ρ' σ' H', R ρ' → St B K G0 F0 (θ ++ ρ') (τ ++ σ') H' → Q σ' H') → WOk B K W G0 F0 θ τ Z → t vs σ H Q
structure EOk (θ : List A) (τ : List (Option V)) (E : AE) (N : List A → Prop) (D : Ends) : Prop where
  nx : ∀ ρ' σ' H', N ρ' → St B K G0 F0 (θ ++ ρ') (τ ++ σ') H' → D.nx σ' H'
  rt : ∀ v a H', E.rt a → St B K G0 F0 (a :: θ) (some v :: τ) H' → D.rt v H'
  bk : ∀ ρ' σ' H', E.bk ρ' → St B K G0 F0 (θ ++ ρ') (τ ++ σ') H' → D.bk σ' H'
  ct : ∀ ρ' σ' H', E.ct ρ' → St B K G0 F0 (θ ++ ρ') (τ ++ σ') H' → D.ct σ' H'
  ex : WOk B K W G0 F0 θ τ E.ex
def LS (t : TS) (f : ASx) : Prop := ∀ (G0 F0 : Hp) (θ : List A) (τ : List (Option V)) (ρ : List A) (σ : L2.St) (H : Hp) (E : AE) (N : List A → Prop) (D : Ends), θ.length = τ.length → St B K G0 F0 (θ ++ ρ) (τ ++ σ) H → f E N ρ → EOk B K W G0 F0 θ τ E N D → t D σ H
/-- what is walked over yields these pieces of data -/
def ItOk (θ1 : List A) (τ1 : List (Option V)) (J : It) (ds : List PyData) : Prop := ∀ as xs H i, St B K G0 F0 (θ1 ++ as) (τ1 ++ xs) H →
  (i < ds.length → J.go i H ∧ ∀ x H', J.yld i H x H' → St B K G0 F0 (.d (ds.getD i .none) :: (θ1 ++ as)) (some x :: (τ1 ++ xs)) H') ∧ (ds.length ≤ i → J.stop i H)
def LI (t : TI) (f : AIx) : Prop := ∀ (G0 F0 : Hp) (θ : List A) (τ : List (Option V)) (ρ : List A) (σ : L2.St) (H : Hp) (R : List PyData → List A → Prop) (Z : Zo) (Q : It → Hp → Prop), θ.length = τ.length → St B K G0 F0 (θ ++ ρ) (τ ++ σ) H → f ρ R Z →
  (∀ J H' θ1 τ1 ds ρ', R ds ρ' → θ1.length = τ1.length → St B K G0 F0 (θ1 ++ (θ ++ ρ')) (τ1 ++ (τ ++ σ)) H' → ItOk B K G0 F0 θ1 τ1 J ds → Q J H') → WOk B K W G0 F0 θ τ Z → t σ H Q
end

section
variable {B : Bx} {K : PySem.W.Frag} {W : Wx} {G0 F0 H : Hp} {θ ρ as bs : List A} {τ xs ys : List (Option V)} {σ : L2.St} {a b : A} {x : Option V} {v w : V}
theorem XS.pop {e : Ex} {c : Value} {dd : Option Addr} (S : XS B K G0 F0 (a :: as) (x :: xs) H e c dd) : XS B K G0 F0 as xs H e c dd := by
  obtain ⟨G, F, k, s, r⟩ := S.ex
  exact ⟨G, F, k, s.pop, r⟩
theorem WOk.push {Z : Zo} (h : WOk B K W G0 F0 θ τ Z) : WOk B K W G0 F0 (a :: θ) (x :: τ) Z := fun e ρ' σ' H' c dd z s => h e ρ' σ' H' c dd z s.pop
theorem St.pops {θ : List A} {τ : List (Option V)} (hl : θ.length = τ.length) (S : St B K G0 F0 (θ ++ as) (τ ++ xs) H) : St B K G0 F0 as xs H := by
  induction θ generalizing τ with
  | nil =>
    cases τ with
    | nil => exact S
    | cons _ _ => exact nomatch hl
  | cons a θ ih =>
    cases τ with
    | nil => exact nomatch hl
    | cons x τ => exact ih (Nat.succ.inj hl) S.pop
theorem XS.pops {e : Ex} {c : Value} {dd : Option Addr} {θ : List A} {τ : List (Option V)} (hl : θ.length = τ.length) (S : XS B K G0 F0 (θ ++ as) (τ ++ xs) H e c dd) : XS B K G0 F0 as xs H e c dd := by
  induction θ generalizing τ with
  | nil =>
    cases τ with
    | nil => exact S
    | cons _ _ => exact nomatch hl
  | cons a θ ih =>
    cases τ with
    | nil => exact nomatch hl
    | cons x τ => exact ih (Nat.succ.inj hl) S.pop
theorem WOk.pushes {Z : Zo} {θ1 : List A} {τ1 : List (Option V)} (hl : θ1.length = τ1.length) (h : WOk B K W G0 F0 θ τ Z) : WOk B K W G0 F0 (θ1 ++ θ) (τ1 ++ τ) Z := fun e ρ' σ' H' c dd z s => h e ρ' σ' H' c dd z (by
  rw [List.append_assoc, List.append_assoc] at s
  exact s.pops hl)
theorem app_at {α : Type} {l m : List α} {i : Nat} : (l ++ m)[l.length + i]? = m[i]? := by
  rw [List.getElem?_append_right (Nat.le_add_right _ _), Nat.add_sub_cancel_left]
/-- the first one goes to a slot -/
theorem St.set {i : Nat} (hl : θ.length = τ.length) (S : St B K G0 F0 (a :: (θ ++ ρ)) (x :: (τ ++ σ)) H) : St B K G0 F0 (θ ++ ρ.set i a) (τ ++ σ.set i x) H := by
  have l0 := S.len
  have l1 : ρ.length = σ.length := by simp at l0; omega
  refine S.reindex (by simp; omega) (fun j => if j = θ.length + i then 0 else j + 1) (fun j hj => ?_) (fun j hj => ?_) fun j k hj hk h => ?_
  · rw [List.length_append, List.length_set] at hj
    by_cases e : j = θ.length + i
    · subst e
      rw [if_pos rfl, app_at, List.getElem?_set_self (by omega)] <;> rfl
    · rw [if_neg e, List.getElem?_cons_succ]
      by_cases z : j < θ.length
      · rw [List.getElem?_append_left z, List.getElem?_append_left z]
      · rw [List.getElem?_append_right (by omega), List.getElem?_append_right (by omega), List.getElem?_set_ne (by omega)]
  · rw [List.length_append, List.length_set] at hj
    by_cases e : j = θ.length + i
    · subst e
      rw [if_pos rfl, hl, app_at, List.getElem?_set_self (by omega)] <;> rfl
    · rw [if_neg e, List.getElem?_cons_succ]
      by_cases z : j < τ.length
      · rw [List.getElem?_append_left z, List.getElem?_append_left z]
      · rw [List.getElem?_append_right (by omega), List.getElem?_append_right (by omega), List.getElem?_set_ne (by omega)]
  · split at h <;> split at h <;> omega
/-- a slot that is no list of its own, once more ahead -/
theorem St.dup {i : Nat} (hl : θ.length = τ.length) (S : St B K G0 F0 (θ ++ ρ) (τ ++ σ) H) (e : ρ[i]? = some a) (ha : a.isOwn = false) : ∃ x, σ[i]? = some x ∧ St B K G0 F0 (a :: (θ ++ ρ)) (x :: (τ ++ σ)) H := by
  obtain ⟨G, F, k, s⟩ := S.ex
  obtain ⟨x, hx, ok⟩ := s.ok (θ.length + i) a (by rw [app_at]; exact e)
  rw [hl, app_at] at hx
  exact ⟨x, hx, G, F, k, s.push ok fun ds z => by subst z; exact nomatch ha⟩
/-- a list of its own in a slot goes ahead; nothing is known of its old place -/
theorem St.takeOwn {i : Nat} {ds : List PyData} (hl : θ.length = τ.length) (S : St B K G0 F0 (θ ++ ρ) (τ ++ σ) H) (e : ρ[i]? = some (.own ds)) : ∃ x, σ[i]? = some x ∧ St B K G0 F0 (A.own ds :: (θ ++ ρ.set i .un)) (x :: (τ ++ σ)) H := by
  have l0 := S.len
  have l1 : ρ.length = σ.length := by simp at l0; omega
  have hi : i < ρ.length := (List.getElem?_eq_some_iff.mp e).1
  obtain ⟨x, hx⟩ : ∃ x, σ[i]? = some x := ⟨_, List.getElem?_eq_getElem (by omega)⟩
  refine ⟨x, hx, ?_⟩
  obtain ⟨G, F, k, s⟩ := S.ex
  refine ⟨G, F, k, ?_⟩
  obtain ⟨x', hx', ok⟩ := s.ok (θ.length + i) _ (by rw [app_at]; exact e)
  rw [hl, app_at, hx] at hx'
  cases hx'
  have s' : Sl K G F0 F (θ ++ ρ.set i .un) (τ ++ σ) := by
    refine ⟨by rw [List.length_append, List.length_append, List.length_set]; omega, fun j b hb => ?_, fun j k es fs p e1 e2 e3 e4 => ?_⟩
    · by_cases z : j < θ.length
      · rw [List.getElem?_append_left z] at hb
        exact s.ok j b (by rw [List.getElem?_append_left z]; exact hb)
      · rw [List.getElem?_append_right (by omega)] at hb
        by_cases z2 : j - θ.length = i
        · rw [z2, List.getElem?_set_self (by omega)] at hb
          cases hb
          refine ⟨x, ?_, trivial⟩
          rw [List.getElem?_append_right (by omega), ← hl, z2]
          exact hx
        · rw [List.getElem?_set_ne (by omega)] at hb
          exact s.ok j b (by rw [List.getElem?_append_right (by omega)]; exact hb)
    · have at' : ∀ (j : Nat) (es : List PyData), (θ ++ ρ.set i A.un)[j]? = some (A.own es) → (θ ++ ρ)[j]? = some (A.own es) := by
        intro j es h
        by_cases z : j < θ.length
        · rw [List.getElem?_append_left z] at h ⊢
          exact h
        · rw [List.getElem?_append_right (by omega)] at h ⊢
          by_cases z2 : j - θ.length = i
          · rw [z2, List.getElem?_set_self (by omega)] at h
            cases h
          · rw [List.getElem?_set_ne (by omega)] at h
            exact h
      exact s.nd j k es fs p (at' j es e1) (at' k fs e2) e3 e4
  refine s'.push ok fun es z p hp j fs hj hxj => ?_
  subst hp
  have hj' : (θ ++ ρ)[j]? = some (A.own fs) ∧ j ≠ θ.length + i := by
    by_cases z : j < θ.length
    · rw [List.getElem?_append_left z] at hj ⊢
      exact ⟨hj, by omega⟩
    · rw [List.getElem?_append_right (by omega)] at hj ⊢
      by_cases z2 : j - θ.length = i
      · rw [z2, List.getElem?_set_self (by omega)] at hj
        cases hj
      · rw [List.getElem?_set_ne (by omega)] at hj
        exact ⟨hj, by omega⟩
  exact hj'.2 (s.nd j (θ.length + i) _ _ p hj'.1 (by rw [app_at]; exact e) hxj (by rw [hl, app_at]; exact hx))
/-- a list of its own in a slot is data from now on, and ahead -/
theorem St.dupOwn {i : Nat} {ds : List PyData} (hl : θ.length = τ.length) (S : St B K G0 F0 (θ ++ ρ) (τ ++ σ) H) (e : ρ[i]? = some (.own ds)) : ∃ x, σ[i]? = some x ∧ St B K G0 F0 (.d (.list ds) :: (θ ++ ρ.set i (.d (.list ds)))) (x :: (τ ++ σ)) H := by
  have l0 := S.len
  have l1 : ρ.length = σ.length := by simp at l0; omega
  have hi : i < ρ.length := (List.getElem?_eq_some_iff.mp e).1
  obtain ⟨x, hx⟩ : ∃ x, σ[i]? = some x := ⟨_, List.getElem?_eq_getElem (by omega)⟩
  obtain ⟨x', hx', S1⟩ := S.takeOwn hl e
  rw [hx] at hx'
  cases hx'
  have S2 := S1.fix
  refine ⟨x, hx, ?_⟩
  -- its old place knows it again
  obtain ⟨G, F, k, s⟩ := S2.ex
  refine ⟨G, F, k, ?_⟩
  obtain ⟨x', e1, ok⟩ := s.ok 0 _ rfl
  cases e1
  have hset : ∀ j, (A.d (.list ds) :: (θ ++ ρ.set i (.d (.list ds))))[j]? = if j = θ.length + i + 1 then some (.d (.list ds)) else (A.d (.list ds) :: (θ ++ ρ.set i .un))[j]? := by
    intro j
    match j with
    | 0 => rw [if_neg (by omega)] <;> rfl
    | j + 1 =>
      rw [List.getElem?_cons_succ, List.getElem?_cons_succ]
      by_cases z : j = θ.length + i
      · subst z
        rw [if_pos rfl, app_at, List.getElem?_set_self (by omega)]
      · rw [if_neg (by omega)]
        by_cases z1 : j < θ.length
        · rw [List.getElem?_append_left z1, List.getElem?_append_left z1]
        · rw [List.getElem?_append_right (by omega), List.getElem?_append_right (by omega), List.getElem?_set_ne (by omega), List.getElem?_set_ne (by omega)]
  refine ⟨by have := s.len; simp at this ⊢; omega, fun j b hb => ?_, fun j k es fs p e1 e2 e3 e4 => ?_⟩
  · rw [hset] at hb
    by_cases z : j = θ.length + i + 1
    · rw [if_pos z] at hb
      cases hb
      refine ⟨x, ?_, ok⟩
      rw [z, List.getElem?_cons_succ, hl, app_at]
      exact hx
    · rw [if_neg z] at hb
      exact s.ok j b hb
  · rw [hset] at e1 e2
    by_cases z : j = θ.length + i + 1
    · rw [if_pos z] at e1
      cases e1
    · by_cases z2 : k = θ.length + i + 1
      · rw [if_pos z2] at e2
        cases e2
      · rw [if_neg z] at e1
        rw [if_neg z2] at e2
        exact s.nd j k es fs p e1 e2 e3 e4
theorem St.fz (S : St B K G0 F0 (a :: as) (x :: xs) H) : St B K G0 F0 (a.fz :: as) (x :: xs) H := by
  cases a with
  | own ds => exact S.fix
  | un => exact S
  | raw v => exact S
  | d y => exact S
theorem A.on_fz {k : PyData → Prop} (h : a.on k) : ∃ y, a.fz = .d y ∧ k y := by
  cases a with
  | own ds => exact ⟨_, rfl, h⟩
  | un => exact h.elim
  | raw v => exact h.elim
  | d y => exact ⟨_, rfl, h⟩
theorem St.on (S : St B K G0 F0 (a :: as) (x :: xs) H) {k : PyData → Prop} (h : a.on k) : ∃ y, k y ∧ St B K G0 F0 (.d y :: as) (x :: xs) H := by
  obtain ⟨y, e, q⟩ := A.on_fz h
  have := S.fz
  rw [e] at this
  exact ⟨y, q, this⟩
theorem St.swap2 {y : Option V} (S : St B K G0 F0 (a :: b :: as) (x :: y :: xs) H) : St B K G0 F0 (b :: a :: as) (y :: x :: xs) H := by
  refine S.reindex (by have := S.len; simpa using this) (fun j => if j = 0 then 1 else if j = 1 then 0 else j) (fun j hj => ?_) (fun j hj => ?_) fun j k hj hk h => ?_
  · match j with
    | 0 => rfl
    | 1 => rfl
    | j + 2 => rfl
  · match j with
    | 0 => rfl
    | 1 => rfl
    | j + 2 => rfl
  · split at h <;> split at h <;> (try split at h) <;> (try split at h) <;> omega
/-- what stands behind some comes to the front -/
theorem St.front (hl : as.length = xs.length) (S : St B K G0 F0 (as ++ a :: bs) (xs ++ x :: ys) H) : St B K G0 F0 (a :: (as ++ bs)) (x :: (xs ++ ys)) H := by
  induction as generalizing xs with
  | nil =>
    cases xs with
    | nil => exact S
    | cons _ _ => exact nomatch hl
  | cons c as ih =>
    cases xs with
    | nil => exact nomatch hl
    | cons w xs =>
      obtain ⟨G, F, k, s⟩ := S.ex
      have hl' : as.length = xs.length := Nat.succ.inj hl
      suffices h : Sl K G F0 F (c :: a :: (as ++ bs)) (w :: x :: (xs ++ ys)) from St.swap2 ⟨G, F, k, h⟩
      -- by places
      refine s.reindex (by have := s.len; simp at this ⊢; omega) (fun j => if j = 0 then 0 else if j = 1 then as.length + 1 else if j < as.length + 2 then j - 1 else j) (fun j hj => ?_) (fun j hj => ?_) fun j k hj hk h => ?_
      · match j with
        | 0 => rfl
        | 1 =>
          show some a = (as ++ a :: bs)[as.length]?
          rw [List.getElem?_append_right (Nat.le_refl _), Nat.sub_self] <;> rfl
        | j + 2 =>
          try show (c :: a :: (as ++ bs))[j + 2]? = _
          try show (w :: x :: (xs ++ ys))[j + 2]? = _
          rw [if_neg (show ¬ j + 2 = 0 by omega), if_neg (show ¬ j + 2 = 1 by omega)]
          by_cases z : j < as.length
          · rw [if_pos (by omega), List.getElem?_cons_succ, List.getElem?_cons_succ, show j + 2 - 1 = j + 1 from rfl, List.cons_append, List.getElem?_cons_succ, List.getElem?_append_left z, List.getElem?_append_left z]
          · rw [if_neg (by omega), List.getElem?_cons_succ, List.getElem?_cons_succ, List.cons_append, List.getElem?_cons_succ, List.getElem?_append_right (by omega), List.getElem?_append_right (by omega), show j + 1 - as.length = (j - as.length) + 1 by omega, List.getElem?_cons_succ]
      · match j with
        | 0 => rfl
        | 1 =>
          show some x = (xs ++ x :: ys)[as.length]?
          rw [hl', List.getElem?_append_right (Nat.le_refl _), Nat.sub_self] <;> rfl
        | j + 2 =>
          try show (c :: a :: (as ++ bs))[j + 2]? = _
          try show (w :: x :: (xs ++ ys))[j + 2]? = _
          rw [if_neg (show ¬ j + 2 = 0 by omega), if_neg (show ¬ j + 2 = 1 by omega)]
          by_cases z : j < xs.length
          · rw [if_pos (by omega), List.getElem?_cons_succ, List.getElem?_cons_succ, show j + 2 - 1 = j + 1 from rfl, List.cons_append, List.getElem?_cons_succ, List.getElem?_append_left z, List.getElem?_append_left z]
          · rw [if_neg (by omega), List.getElem?_cons_succ, List.getElem?_cons_succ, List.cons_append, List.getElem?_cons_succ, List.getElem?_append_right (by omega), List.getElem?_append_right (by omega), show j + 1 - xs.length = (j - xs.length) + 1 by omega, List.getElem?_cons_succ]
      · split at h <;> split at h <;> (try split at h) <;> (try split at h) <;> (try split at h) <;> (try split at h) <;> omega
end
end Lf
namespace Lf
open PySem PySem.Spec PyProof.Rows L2 Sx

/-! ### what the constructs do, told of data -/
def sl : List A → Nat → A
  | [], _ => .un
  | a :: _, 0 => a
  | _ :: l, n + 1 => sl l n
theorem sl_get : ∀ {l : List A} {i : Nat}, sl l i ≠ .un → l[i]? = some (sl l i)
  | [], _, h => absurd rfl h
  | a :: _, 0, _ => rfl
  | _ :: l, n + 1, h => by
    rw [List.getElem?_cons_succ]
    exact sl_get (l := l) h
def A.bl : A → (Bool → Prop) → Prop
  | .d (.bool b), k => k b
  | _, _ => False
def A.ons : List A → (List PyData → Prop) → Prop
  | [], k => k []
  | a :: as, k => a.on fun d => A.ons as fun ds => k (d :: ds)
def A.look (a : A) (i : Nat) (ρ : List A) (R : Po) : Prop := match a with
  | .d x => R (.d x) ρ
  | .raw v => R (.raw v) ρ
  | .own ds => R (.d (.list ds)) (ρ.set i (.d (.list ds)))
  | .un => False
def aVar (i : Nat) : AEx := fun ρ R _ => (sl ρ i).look i ρ R
def aC (y : PyData) : AEx := fun ρ R _ => R (.d y) ρ
def aRaw (v : V) : AEx := fun ρ R _ => R (.raw v) ρ
abbrev G1 := PyData → (A → Prop) → Prop
abbrev G2 := PyData → PyData → (A → Prop) → Prop
abbrev GB := List A → (A → Prop) → Prop
abbrev Ct := List A → (A → Prop) → (Ex → Prop) → Prop
def aOp (g : G2) (fa fb : AEx) : AEx := fun ρ R Z => fa ρ (fun x ρ1 => fb ρ1 (fun y ρ2 => x.on fun dx => y.on fun dy => g dx dy fun a => R a ρ2) Z) Z
def aUn (g : G1) (fa : AEx) : AEx := fun ρ R Z => fa ρ (fun x ρ1 => x.on fun dx => g dx fun a => R a ρ1) Z
def aNot (fa : AEx) : AEx := fun ρ R Z => fa ρ (fun x ρ1 => x.bl fun b => R (.d (.bool (!b))) ρ1) Z
def aAnd (fa fb : AEx) : AEx := fun ρ R Z => fa ρ (fun x ρ1 => x.bl fun b => if b = true then fb ρ1 R Z else R (.d (.bool false)) ρ1) Z
def aOr (fa fb : AEx) : AEx := fun ρ R Z => fa ρ (fun x ρ1 => x.bl fun b => if b = true then R (.d (.bool true)) ρ1 else fb ρ1 R Z) Z
def aChain (g g' : G2) (fa fb fc : AEx) : AEx := fun ρ R Z => fa ρ (fun x ρ1 => fb ρ1 (fun y ρ2 => x.on fun dx => y.on fun dy => g dx dy fun a => a.bl fun b => if b = true then fc ρ2 (fun z ρ3 => z.on fun dz => g' dy dz fun a => R a ρ3) Z else R (.d (.bool false)) ρ2) Z) Z
def aTern (ft : ATx) (fa fb : AEx) : AEx := fun ρ R Z => ft ρ (fun b ρ1 => if b = true then fa ρ1 R Z else fb ρ1 R Z) Z
def aNil : AAx := fun ρ R _ => R [] ρ
def aCons (fa : AEx) (fr : AAx) : AAx := fun ρ R Z => fa ρ (fun a ρ1 => fr ρ1 (fun as ρ2 => R (a :: as) ρ2) Z) Z
def aTup (fa : AAx) : AEx := fun ρ R Z => fa ρ (fun as ρ1 => A.ons as fun ds => R (.d (.tuple ds)) ρ1) Z
def aLst (fa : AAx) : AEx := fun ρ R Z => fa ρ (fun as ρ1 => A.ons as fun ds => R (.own ds) ρ1) Z
def aB (fa : AEx) : ATx := fun ρ R Z => fa ρ (fun x ρ1 => x.bl fun b => R b ρ1) Z
def tAndA (fa fb : ATx) : ATx := fun ρ R Z => fa ρ (fun b ρ1 => if b = true then fb ρ1 R Z else R false ρ1) Z
def tOrA (fa fb : ATx) : ATx := fun ρ R Z => fa ρ (fun b ρ1 => if b = true then R true ρ1 else fb ρ1 R Z) Z
def tNotA (fa : ATx) : ATx := fun ρ R Z => fa ρ (fun b ρ1 => R (!b) ρ1) Z
def aCB (g : GB) (fa : AAx) : AEx := fun ρ R Z => fa ρ (fun as ρ1 => g (as.map A.fz) fun a => R a ρ1) Z
def aCall (c : Ct) (fa : AAx) : AEx := fun ρ R Z => fa ρ (fun as ρ1 => c (as.map A.fz) (fun a => R a ρ1) fun e => Z e ρ1) Z
def aCallK (c : Ct) (gA : List A → List A → List A) (fa fk : AAx) : AEx := fun ρ R Z => fa ρ (fun as ρ1 => fk ρ1 (fun zs ρ2 => c (gA (as.map A.fz) (zs.map A.fz)) (fun a => R a ρ2) fun e => Z e ρ2) Z) Z
def aSl (g : PyData → Option Int → Option Int → (A → Prop) → Prop) (fe : AEx) (fl fh : AOx) : AEx := fun ρ R Z => fe ρ (fun x ρ1 => fl ρ1 (fun l ρ2 => fh ρ2 (fun h ρ3 => x.on fun dx => g dx l h fun a => R a ρ3) Z) Z) Z
def aNoP : AOx := fun ρ R _ => R none ρ
def aPart (fe : AEx) : AOx := fun ρ R Z => fe ρ (fun x ρ1 => x.on fun d => match d with
  | .int i => R (some i) ρ1
  | _ => False) Z

/-! ### what a def promises -/
/-- dk: the law's deck, if there is one; box: what stands beside all that is known then -/
def SpL (K : PySem.W.Frag) (box : V → Bx → Prop) (c : V → Ct) : Sp := fun vs H Q E => ∃ (dk : V) (B : Bx) (G0 F0 : Hp) (as bs : List A) (xs : List (Option V)) (R : A → Prop) (Z : Ex → Prop), box dk B ∧ as.length = vs.length ∧ (∀ a ∈ as, a.isOwn = false) ∧
  St B K G0 F0 (as ++ bs) (vs.map some ++ xs) H ∧ c dk as R Z ∧ (∀ a v H', R a → St B K G0 F0 (a :: bs) (some v :: xs) H' → Q v H') ∧ (∀ e H' cv dd, Z e → XS B K G0 F0 bs xs H' e cv dd → E cv dd H')
def noBox : V → Bx → Prop := fun _ _ => True
/-- a call of what raises nothing -/
def aCall0 (c : Ct) (fa : AAx) : AEx := fun ρ R Z => fa ρ (fun as ρ1 => c (as.map A.fz) (fun a => R a ρ1) fun _ => False) Z
def aCallK0 (c : Ct) (gA : List A → List A → List A) (fa fk : AAx) : AEx := fun ρ R Z => fa ρ (fun as ρ1 => fk ρ1 (fun zs ρ2 => c (gA (as.map A.fz) (zs.map A.fz)) (fun a => R a ρ2) fun _ => False) Z) Z

section
variable {B : Bx} {K : PySem.W.Frag} {W : Wx} {G0 F0 H : Hp} {θ ρ as bs : List A} {τ xs ys : List (Option V)} {σ : L2.St} {a b : A} {x : Option V} {v w : V}
variable {ta tb tc : TE} {fa fb fc : AEx}
def OpL (K : PySem.W.Frag) (r : R2) (g : G2) : Prop := ∀ (B : Bx) (G0 F0 : Hp) (as : List A) (xs : List (Option V)) (H : Hp) (v w : V) (x y : PyData) (R : A → Prop) (Q : VK), St B K G0 F0 (.d y :: .d x :: as) (some w :: some v :: xs) H → g x y R →
  (∀ u H' a, R a → St B K G0 F0 (a :: as) (some u :: xs) H' → Q u H') → r v w H Q
def UnL (K : PySem.W.Frag) (r : V → Hp → VK → Prop) (g : G1) : Prop := ∀ (B : Bx) (G0 F0 : Hp) (as : List A) (xs : List (Option V)) (H : Hp) (v : V) (x : PyData) (R : A → Prop) (Q : VK), St B K G0 F0 (.d x :: as) (some v :: xs) H → g x R →
  (∀ u H' a, R a → St B K G0 F0 (a :: as) (some u :: xs) H' → Q u H') → r v H Q
def CbL (K : PySem.W.Frag) (r : List V → Hp → VK → Prop) (g : GB) : Prop := ∀ (B : Bx) (G0 F0 : Hp) (cs as : List A) (vs : List V) (xs : List (Option V)) (H : Hp) (R : A → Prop) (Q : VK), cs.length = vs.length → (∀ a ∈ cs, a.isOwn = false) → St B K G0 F0 (cs ++ as) (vs.map some ++ xs) H → g cs R →
  (∀ u H' a, R a → St B K G0 F0 (a :: as) (some u :: xs) H' → Q u H') → r vs H Q
theorem St.back {as bs : List A} {xs ys : List (Option V)} (hl : as.length = xs.length) (S : St B K G0 F0 (a :: (as ++ bs)) (x :: (xs ++ ys)) H) : St B K G0 F0 (as ++ a :: bs) (xs ++ x :: ys) H := by
  refine S.reindex (by have := S.len; simp at this ⊢; omega) (fun j => if j < as.length then j + 1 else if j = as.length then 0 else j) (fun j hj => ?_) (fun j hj => ?_) fun i j hi hj e => ?_
  · by_cases z : j < as.length
    · rw [if_pos z, List.getElem?_append_left z, List.getElem?_cons_succ, List.getElem?_append_left z]
    · rw [if_neg z, List.getElem?_append_right (by omega)]
      by_cases z2 : j = as.length
      · rw [if_pos z2, z2, Nat.sub_self] <;> rfl
      · rw [if_neg z2]
        obtain ⟨m, rfl⟩ : ∃ m, j = as.length + 1 + m := ⟨j - (as.length + 1), by omega⟩
        rw [show as.length + 1 + m - as.length = m + 1 by omega, List.getElem?_cons_succ, show as.length + 1 + m = (as.length + m) + 1 by omega, List.getElem?_cons_succ, app_at]
  · by_cases z : j < as.length
    · rw [if_pos z, List.getElem?_append_left (by omega), List.getElem?_cons_succ, List.getElem?_append_left (by omega)]
    · rw [if_neg z, List.getElem?_append_right (by omega)]
      by_cases z2 : j = as.length
      · rw [if_pos z2, z2, hl, Nat.sub_self] <;> rfl
      · rw [if_neg z2]
        obtain ⟨m, rfl⟩ : ∃ m, j = xs.length + 1 + m := ⟨j - (as.length + 1), by omega⟩
        rw [show xs.length + 1 + m - xs.length = m + 1 by omega, List.getElem?_cons_succ, show xs.length + 1 + m = (xs.length + m) + 1 by omega, List.getElem?_cons_succ, app_at]
  · split at e <;> split at e <;> (try split at e) <;> (try split at e) <;> omega
theorem St.drop {θ1 : List A} {τ1 : List (Option V)} (hl : θ1.length = τ1.length) (S : St B K G0 F0 (a :: (θ1 ++ as)) (x :: (τ1 ++ xs)) H) : St B K G0 F0 (a :: as) (x :: xs) H := St.pops hl (St.back hl S)
theorem le_var {i : Nat} : LE B K W (tVar i) (aVar i) := by
  intro G0 F0 θ τ ρ σ H R Z Q hl S h q _
  unfold aVar at h
  cases e : sl ρ i with
  | un =>
    rw [e] at h
    exact h.elim
  | d y =>
    have e' := sl_get (l := ρ) (i := i) (by rw [e]; exact fun z => nomatch z)
    rw [e] at h e'
    obtain ⟨x, hx, S'⟩ := S.dup hl e' rfl
    obtain ⟨G, F, k, s⟩ := S'.ex
    obtain ⟨x', e1, v, e2, hd⟩ := s.ok 0 _ rfl
    cases e1
    subst e2
    exact ⟨v, hx, q v H _ _ h S'⟩
  | raw u =>
    have e' := sl_get (l := ρ) (i := i) (by rw [e]; exact fun z => nomatch z)
    rw [e] at h e'
    obtain ⟨x, hx, S'⟩ := S.dup hl e' rfl
    have e2 := S'.getRaw
    subst e2
    exact ⟨u, hx, q u H _ _ h S'⟩
  | own ds =>
    have e' := sl_get (l := ρ) (i := i) (by rw [e]; exact fun z => nomatch z)
    rw [e] at h e'
    obtain ⟨x, hx, S'⟩ := S.dupOwn hl e'
    obtain ⟨G, F, k, s⟩ := S'.ex
    obtain ⟨x', e1, v, e2, hd⟩ := s.ok 0 _ rfl
    cases e1
    subst e2
    exact ⟨v, hx, q v H _ _ h S'⟩
theorem le_c {v : V} {y : PyData} (hy : ∀ H, Dv K H v y) : LE B K W (tC v) (aC y) := fun G0 F0 θ τ ρ σ H R Z Q hl S h q _ => q v H _ _ h (S.push hy)
theorem le_raw {v : V} : LE B K W (tC v) (aRaw v) := fun G0 F0 θ τ ρ σ H R Z Q hl S h q _ => q v H _ _ h S.pushRaw
theorem le_op {r : R2} {g : G2} (hg : OpL K r g) (la : LE B K W ta fa) (lb : LE B K W tb fb) : LE B K W (tOp r ta tb) (aOp g fa fb) := by
  intro G0 F0 θ τ ρ σ H R Z Q hl S h q w
  refine la G0 F0 θ τ ρ σ H _ Z _ hl S h (fun v H1 x ρ1 h1 S1 => ?_) w
  refine lb G0 F0 (x :: θ) (some v :: τ) ρ1 σ H1 _ Z _ (congrArg (· + 1) hl) S1 h1 (fun u H2 y ρ2 h2 S2 => ?_) w.push
  obtain ⟨dx, k1, S3⟩ := (S2.swap2).on h2
  obtain ⟨dy, k2, S4⟩ := (S3.swap2).on k1
  exact hg B G0 F0 _ _ H2 v u dx dy _ Q S4 k2 fun u H' a r S5 => q u H' a ρ2 r S5
theorem le_un {r : V → Hp → VK → Prop} {g : G1} (hg : UnL K r g) (la : LE B K W ta fa) : LE B K W (tUn r ta) (aUn g fa) := by
  intro G0 F0 θ τ ρ σ H R Z Q hl S h q w
  refine la G0 F0 θ τ ρ σ H _ Z _ hl S h (fun v H1 x ρ1 h1 S1 => ?_) w
  obtain ⟨dx, k1, S2⟩ := S1.on h1
  exact hg B G0 F0 _ _ H1 v dx _ Q S2 k1 fun u H' a r S5 => q u H' a ρ1 r S5
theorem A.is_bl {k : Bool → Prop} (h : a.bl k) : ∃ b, a = .d (.bool b) ∧ k b := by
  cases a with
  | d y =>
    cases y with
    | bool b => exact ⟨b, rfl, h⟩
    | none => exact h.elim
    | int _ => exact h.elim
    | str _ => exact h.elim
    | list _ => exact h.elim
    | tuple _ => exact h.elim
    | dict _ => exact h.elim
  | un => exact h.elim
  | raw _ => exact h.elim
  | own _ => exact h.elim
theorem St.bl (S : St B K G0 F0 (a :: as) (some v :: xs) H) {k : Bool → Prop} (h : a.bl k) : ∃ b, v = .bl b ∧ k b := by
  obtain ⟨b, rfl, q⟩ := A.is_bl h
  have := S.get
  cases this
  exact ⟨b, rfl, q⟩
theorem le_not (la : LE B K W ta fa) : LE B K W (tNotV ta) (aNot fa) := by
  intro G0 F0 θ τ ρ σ H R Z Q hl S h q w
  refine la G0 F0 θ τ ρ σ H _ Z _ hl S h (fun v H1 x ρ1 h1 S1 => ?_) w
  obtain ⟨b, rfl, k⟩ := S1.bl h1
  exact ⟨b, rfl, q _ H1 _ _ k (S1.pop.push fun G => .bl _)⟩
theorem le_and (la : LE B K W ta fa) (lb : LE B K W tb fb) : LE B K W (tAndV ta tb) (aAnd fa fb) := by
  intro G0 F0 θ τ ρ σ H R Z Q hl S h q w
  refine la G0 F0 θ τ ρ σ H _ Z _ hl S h (fun v H1 x ρ1 h1 S1 => ?_) w
  obtain ⟨b, rfl, k⟩ := S1.bl h1
  refine ⟨b, rfl, ?_⟩
  cases b with
  | true => exact lb G0 F0 θ τ ρ1 σ H1 _ Z _ hl S1.pop k q w
  | false => exact q _ H1 _ _ k (S1.pop.push fun G => .bl _)
theorem le_or (la : LE B K W ta fa) (lb : LE B K W tb fb) : LE B K W (tOrV ta tb) (aOr fa fb) := by
  intro G0 F0 θ τ ρ σ H R Z Q hl S h q w
  refine la G0 F0 θ τ ρ σ H _ Z _ hl S h (fun v H1 x ρ1 h1 S1 => ?_) w
  obtain ⟨b, rfl, k⟩ := S1.bl h1
  refine ⟨b, rfl, ?_⟩
  cases b with
  | false => exact lb G0 F0 θ τ ρ1 σ H1 _ Z _ hl S1.pop k q w
  | true => exact q _ H1 _ _ k (S1.pop.push fun G => .bl _)
theorem le_chain {r r' : R2} {g g' : G2} (hg : OpL K r g) (hg' : OpL K r' g') (la : LE B K W ta fa) (lb : LE B K W tb fb) (lc : LE B K W tc fc) : LE B K W (tChain r r' ta tb tc) (aChain g g' fa fb fc) := by
  intro G0 F0 θ τ ρ σ H R Z Q hl S h q w
  refine la G0 F0 θ τ ρ σ H _ Z _ hl S h (fun v H1 x ρ1 h1 S1 => ?_) w
  refine lb G0 F0 (x :: θ) (some v :: τ) ρ1 σ H1 _ Z _ (congrArg (· + 1) hl) S1 h1 (fun u H2 y ρ2 h2 S2 => ?_) w.push
  obtain ⟨dx, k1, S3⟩ := (S2.swap2).on h2
  obtain ⟨dy, k2, S4⟩ := (S3.swap2).on k1
  -- once more, the middle one
  have S5 : St B K G0 F0 (.d dy :: .d dx :: .d dy :: (θ ++ ρ2)) (some u :: some v :: some u :: (τ ++ σ)) H2 := by
    have S6 : St B K G0 F0 (.d dy :: .d dy :: .d dx :: (θ ++ ρ2)) (some u :: some u :: some v :: (τ ++ σ)) H2 := by
      obtain ⟨G, F, k, s⟩ := S4.ex
      obtain ⟨x, e1, ok⟩ := s.ok 0 _ rfl
      cases e1
      exact ⟨G, F, k, s.push ok fun ds z => nomatch z⟩
    refine S6.reindex (by have := S6.len; simpa using this) (fun j => if j = 1 then 2 else if j = 2 then 1 else j) (fun j hj => ?_) (fun j hj => ?_) fun j k hj hk h => ?_
    · match j with
      | 0 => rfl
      | 1 => rfl
      | 2 => rfl
      | j + 3 => rfl
    · match j with
      | 0 => rfl
      | 1 => rfl
      | 2 => rfl
      | j + 3 => rfl
    · split at h <;> split at h <;> (try split at h) <;> (try split at h) <;> omega
  refine hg B G0 F0 (.d dy :: (θ ++ ρ2)) (some u :: (τ ++ σ)) H2 v u dx dy _ _ S5 k2 fun z H3 a3 k3 S7 => ?_
  obtain ⟨b, rfl, k⟩ := S7.bl k3
  refine ⟨b, rfl, ?_⟩
  cases b with
  | false => exact q _ H3 _ _ k (S7.pop.pop.push fun G => .bl _)
  | true =>
    refine lc G0 F0 (.d dy :: θ) (some u :: τ) ρ2 σ H3 _ Z _ (congrArg (· + 1) hl) S7.pop k (fun w' H4 z ρ3 k4 S8 => ?_) w.push
    obtain ⟨dz, k5, S9⟩ := S8.on k4
    exact hg' B G0 F0 _ _ H4 u w' dy dz _ Q S9 k5 fun u H' a r S5 => q u H' a ρ3 r S5
theorem le_tern {tt : TT} {ft : ATx} (lt : LT B K W tt ft) (la : LE B K W ta fa) (lb : LE B K W tb fb) : LE B K W (tIf tt ta tb) (aTern ft fa fb) := by
  intro G0 F0 θ τ ρ σ H R Z Q hl S h q w
  refine lt G0 F0 θ τ ρ σ H _ Z _ hl S h (fun b H1 ρ1 h1 S1 => ?_) w
  cases b with
  | true => exact la G0 F0 θ τ ρ1 σ H1 _ Z _ hl S1 h1 q w
  | false => exact lb G0 F0 θ τ ρ1 σ H1 _ Z _ hl S1 h1 q w
/-- the number of arguments is known -/
def LAn (n : Nat) (B : Bx) (K : PySem.W.Frag) (W : Wx) (t : TA) (f : AAx) : Prop := ∀ (G0 F0 : Hp) (θ : List A) (τ : List (Option V)) (ρ : List A) (σ : L2.St) (H : Hp) (R : List A → List A → Prop) (Z : Zo) (Q : List V → Hp → Prop), θ.length = τ.length → St B K G0 F0 (θ ++ ρ) (τ ++ σ) H → f ρ R Z →
  (∀ vs H' as ρ', R as ρ' → as.length = n → vs.length = n → St B K G0 F0 (as ++ (θ ++ ρ')) (vs.map some ++ (τ ++ σ)) H' → Q vs H') → WOk B K W G0 F0 θ τ Z → t σ H Q
theorem la_nil : LAn 0 B K W tNil aNil := fun G0 F0 θ τ ρ σ H R Z Q hl S h q w => q [] H [] ρ h rfl rfl S
theorem la_cons {n : Nat} {tr : TA} {fr : AAx} (la : LE B K W ta fa) (lr : LAn n B K W tr fr) : LAn (n + 1) B K W (tCons ta tr) (aCons fa fr) := by
  intro G0 F0 θ τ ρ σ H R Z Q hl S h q w
  refine la G0 F0 θ τ ρ σ H _ Z _ hl S h (fun v H1 a ρ1 h1 S1 => ?_) w
  refine lr G0 F0 (a :: θ) (some v :: τ) ρ1 σ H1 _ Z _ (congrArg (· + 1) hl) S1 h1 (fun vs H2 as ρ2 h2 l1 l2 S2 => ?_) w.push
  exact q (v :: vs) H2 (a :: as) ρ2 h2 (congrArg (· + 1) l1) (congrArg (· + 1) l2) (St.front (by rw [List.length_map, l1, l2]) S2)
theorem ons_ok {cs : List A} {vs : List V} (l : cs.length = vs.length) (S : St B K G0 F0 (cs ++ as) (vs.map some ++ xs) H) {k : List PyData → Prop} (h : A.ons cs k) : ∃ ds, k ds ∧ ds.length = vs.length ∧ St B K G0 F0 (ds.map A.d ++ as) (vs.map some ++ xs) H := by
  induction cs generalizing vs as xs k with
  | nil =>
    cases vs with
    | nil => exact ⟨[], h, rfl, S⟩
    | cons _ _ => exact nomatch l
  | cons c cs ih =>
    cases vs with
    | nil => exact nomatch l
    | cons v vs =>
      obtain ⟨y, k1, S1⟩ := S.on h
      have hl : cs.length = vs.length := Nat.succ.inj l
      have S2 : St B K G0 F0 (cs ++ (.d y :: as)) (vs.map some ++ (some v :: xs)) H := St.back (by rw [List.length_map]; exact hl) S1
      obtain ⟨ds, k2, l2, S3⟩ := ih hl S2 k1
      refine ⟨y :: ds, k2, congrArg (· + 1) l2, ?_⟩
      exact St.front (by rw [List.length_map, List.length_map, l2]) S3
/-- the values of the first ones, as data -/
theorem St.dts {ds : List PyData} {vs : List V} (l : ds.length = vs.length) {G F : Hp} (s : Sl K G F0 F (ds.map A.d ++ as) (vs.map some ++ xs)) : DvAll K G vs ds := by
  induction ds generalizing vs with
  | nil =>
    cases vs with
    | nil => exact .nil
    | cons _ _ => exact nomatch l
  | cons d ds ih =>
    cases vs with
    | nil => exact nomatch l
    | cons v vs =>
      obtain ⟨x, e, v', e2, hd⟩ := s.ok 0 _ rfl
      cases e
      cases e2
      exact .cons hd (ih (Nat.succ.inj l) s.pop)
theorem le_tup {n : Nat} {tr : TA} {fr : AAx} (la : LAn n B K W tr fr) (hn : n ≤ 100000) : LE B K W (tTup tr) (aTup fr) := by
  intro G0 F0 θ τ ρ σ H R Z Q hl S h q w
  refine la G0 F0 θ τ ρ σ H _ Z _ hl S h (fun vs H1 as ρ1 h1 l1 l2 S1 => ?_) w
  refine ⟨Nat.le_trans (Nat.le_trans (Nat.le_of_eq l2) hn) (by decide), fun p np => ?_⟩
  obtain ⟨ds, k, l, S2⟩ := ons_ok (by rw [l1, l2]) S1 h1
  have S3 := S2.newD (p := p) (o := .tup vs) (y := .tuple ds) np fun G F s1 s2 s3 G' sg e => .tup (.of e) (dva_same sg _ _ (St.dts l s3))
  exact q (.ref p) _ _ ρ1 k (S3.drop (by rw [List.length_map, List.length_map, l]))
theorem le_lst {n : Nat} {tr : TA} {fr : AAx} (la : LAn n B K W tr fr) (hn : n ≤ 100000) : LE B K W (tLst tr) (aLst fr) := by
  intro G0 F0 θ τ ρ σ H R Z Q hl S h q w
  refine la G0 F0 θ τ ρ σ H _ Z _ hl S h (fun vs H1 as ρ1 h1 l1 l2 S1 => ?_) w
  refine ⟨Nat.le_trans (Nat.le_trans (Nat.le_of_eq l2) hn) (by decide), fun p np => ?_⟩
  obtain ⟨ds, k, l, S2⟩ := ons_ok (by rw [l1, l2]) S1 h1
  have S3 := S2.newL (p := p) (ws := vs) (ds := ds) np fun G F s1 s2 s3 => St.dts l s3
  exact q (.ref p) _ _ ρ1 k (S3.drop (by rw [List.length_map, List.length_map, l]))
theorem fz_not (a : A) : a.fz.isOwn = false := by cases a <;> rfl
theorem fz_all {cs : List A} {vs : List V} (l : cs.length = vs.length) (S : St B K G0 F0 (cs ++ as) (vs.map some ++ xs) H) : St B K G0 F0 (cs.map A.fz ++ as) (vs.map some ++ xs) H := by
  induction cs generalizing vs as xs with
  | nil =>
    cases vs with
    | nil => exact S
    | cons _ _ => exact nomatch l
  | cons c cs ih =>
    cases vs with
    | nil => exact nomatch l
    | cons v vs =>
      have hl : cs.length = vs.length := Nat.succ.inj l
      have S2 : St B K G0 F0 (cs ++ (c.fz :: as)) (vs.map some ++ (some v :: xs)) H := St.back (by rw [List.length_map]; exact hl) (St.fz S)
      exact St.front (by rw [List.length_map, List.length_map, hl]) (ih hl S2)
theorem le_cb {n : Nat} {tr : TA} {fr : AAx} {r : List V → Hp → VK → Prop} {g : GB} (hg : CbL K r g) (la : LAn n B K W tr fr) : LE B K W (tCB r tr) (aCB g fr) := by
  intro G0 F0 θ τ ρ σ H R Z Q hl S h q w
  refine la G0 F0 θ τ ρ σ H _ Z _ hl S h (fun vs H1 as ρ1 h1 l1 l2 S1 => ?_) w
  exact hg B G0 F0 (as.map A.fz) _ vs _ H1 _ Q (by rw [List.length_map, l1, l2]) (fun a ha => by
    obtain ⟨b, _, rfl⟩ := List.mem_map.mp ha
    exact fz_not b) (fz_all (by rw [l1, l2]) S1) h1 fun u H' a r S5 => q u H' a ρ1 r S5
theorem le_call0 {n : Nat} {tr : TA} {fr : AAx} {box : V → Bx → Prop} {dk : V} {c : V → Ct} {E : XK} (hb : box dk B) (la : LAn n B K W tr fr) : LE B K W (tCall (SpL K box c) [] E tr) (aCall0 (c dk) fr) := by
  intro G0 F0 θ τ ρ σ H R Z Q hl S h q w
  refine la G0 F0 θ τ ρ σ H _ Z _ hl S h (fun vs H1 as ρ1 h1 l1 l2 S1 => ?_) w
  refine ⟨dk, B, G0, F0, as.map A.fz, θ ++ ρ1, τ ++ σ, _, _, hb, by rw [List.length_map, List.append_nil, l1, l2], fun a ha => ?_, ?_, h1, fun a v H' r S5 => q v H' a ρ1 r S5, fun e H' cv dd z xs => z.elim⟩
  · obtain ⟨b, _, rfl⟩ := List.mem_map.mp ha
    exact fz_not b
  · rw [List.append_nil]
    exact fz_all (by rw [l1, l2]) S1
/-- data picked out of what is there, once more ahead -/
theorem St.pick {cs : List A} {zs : List (Option V)} (S : St B K G0 F0 as xs H) (l : cs.length = zs.length) (h : ∀ i, i < cs.length → ∃ j : Nat, cs[i]? = as[j]? ∧ zs[i]? = xs[j]?) (n : ∀ a ∈ cs, a.isOwn = false) : St B K G0 F0 (cs ++ as) (zs ++ xs) H := by
  obtain ⟨G, F, k, s⟩ := S.ex
  refine ⟨G, F, k, ?_⟩
  induction cs generalizing zs with
  | nil =>
    cases zs with
    | nil => exact s
    | cons _ _ => exact nomatch l
  | cons c cs ih =>
    cases zs with
    | nil => exact nomatch l
    | cons z zs =>
      obtain ⟨j, e1, e2⟩ := h 0 (Nat.zero_lt_succ _)
      obtain ⟨x, hx, ok⟩ := s.ok j c e1.symm
      have hz : some z = xs[j]? := e2
      rw [hx] at hz
      cases hz
      refine Sl.push (ih (Nat.succ.inj l) (fun i hi => h (i + 1) (Nat.succ_lt_succ hi)) fun a ha => n a (List.mem_cons_of_mem _ ha)) ok fun ds e => ?_
      have := n c List.mem_cons_self
      rw [e] at this
      exact nomatch this
/-- how keywords bind, by places -/
def KwOk (n m : Nat) (gA : List A → List A → List A) (gV : List V → List V → List V) : Prop := ∀ (as zs : List A) (vs ws : List V), as.length = n → vs.length = n → zs.length = m → ws.length = m →
  (gA as zs).length = (gV vs ws).length ∧ (∀ a ∈ gA as zs, a ∈ as ∨ a ∈ zs) ∧ ∀ i, i < (gA as zs).length → ∃ j : Nat, (gA as zs)[i]? = (zs ++ as)[j]? ∧ (gV vs ws)[i]? = (ws ++ vs)[j]?
theorem le_callK0 {n m : Nat} {tr tk : TA} {fr fk : AAx} {box : V → Bx → Prop} {dk : V} {c : V → Ct} {E : XK} {gA : List A → List A → List A} {gV : List V → List V → List V} (hb : box dk B) (hg : KwOk n m gA gV) (la : LAn n B K W tr fr) (lk : LAn m B K W tk fk) : LE B K W (tCallK (SpL K box c) gV E tr tk) (aCallK0 (c dk) gA fr fk) := by
  intro G0 F0 θ τ ρ σ H R Z Q hl S h q w
  refine la G0 F0 θ τ ρ σ H _ Z _ hl S h (fun vs H1 as ρ1 h1 l1 l2 S1 => ?_) w
  refine lk G0 F0 (as ++ θ) (vs.map some ++ τ) ρ1 σ H1 _ Z _ (by simp; omega) (by rw [List.append_assoc, List.append_assoc]; exact S1) h1 (fun ws H2 zs ρ2 h2 l3 l4 S2 => ?_) (w.pushes (by rw [List.length_map, l1, l2]))
  rw [List.append_assoc, List.append_assoc] at S2
  -- all of them as data
  have S3 : St B K G0 F0 ((zs ++ as).map A.fz ++ (θ ++ ρ2)) ((ws ++ vs).map some ++ (τ ++ σ)) H2 := by
    refine fz_all (by simp; omega) ?_
    rw [List.map_append, List.append_assoc, List.append_assoc]
    exact S2
  rw [List.map_append, List.map_append] at S3
  obtain ⟨k1, k2, k3⟩ := hg (as.map A.fz) (zs.map A.fz) vs ws (by rw [List.length_map, l1]) l2 (by rw [List.length_map, l3]) l4
  have nown : ∀ a ∈ gA (as.map A.fz) (zs.map A.fz), a.isOwn = false := fun a ha => by
    rcases k2 a ha with h | h <;> (obtain ⟨b, _, rfl⟩ := List.mem_map.mp h; exact fz_not b)
  have S4 := S3.pick (cs := gA (as.map A.fz) (zs.map A.fz)) (zs := (gV vs ws).map some) (by rw [List.length_map, k1]) (fun i hi => by
    obtain ⟨j, e1, e2⟩ := k3 i hi
    have hj : j < (zs.map A.fz ++ as.map A.fz).length := by
      rw [List.getElem?_eq_getElem hi] at e1
      exact (List.getElem?_eq_some_iff.mp e1.symm).1
    refine ⟨j, by rw [e1, List.getElem?_append_left hj], ?_⟩
    rw [List.getElem?_append_left (by simp at hj ⊢; omega), List.getElem?_map, e2, ← List.map_append, List.getElem?_map]) nown
  refine ⟨dk, B, G0, F0, gA (as.map A.fz) (zs.map A.fz), θ ++ ρ2, τ ++ σ, _, _, hb, k1, nown, ?_, h2, fun a v H' r S5 => q v H' a ρ2 r S5, fun e H' cv dd z xs => z.elim⟩
  -- the others go
  have l5 : (zs.map A.fz ++ as.map A.fz).length = (ws.map some ++ vs.map some).length := by simp; omega
  generalize gA (as.map A.fz) (zs.map A.fz) = cs at S4 k1
  have key : ∀ (cs : List A) (us : List (Option V)), cs.length = us.length → St B K G0 F0 (cs ++ ((zs.map A.fz ++ as.map A.fz) ++ (θ ++ ρ2))) (us ++ ((ws.map some ++ vs.map some) ++ (τ ++ σ))) H2 → St B K G0 F0 (cs ++ (θ ++ ρ2)) (us ++ (τ ++ σ)) H2 := by
    intro cs
    induction cs with
    | nil =>
      intro us hu S
      cases us with
      | nil => exact S.pops l5
      | cons _ _ => exact nomatch hu
    | cons c cs ih =>
      intro us hu S
      cases us with
      | nil => exact nomatch hu
      | cons u us =>
        have hl' : cs.length = us.length := Nat.succ.inj hu
        refine S.reindex (by simp; have := S.len; simp at this; omega) (fun j => if j < cs.length + 1 then j else j + (zs.map A.fz ++ as.map A.fz).length) (fun j hj => ?_) (fun j hj => ?_) fun i j hi hj e => ?_
        · by_cases z : j < cs.length + 1
          · rw [if_pos z, List.getElem?_append_left z, List.getElem?_append_left z]
          · rw [if_neg z]
            obtain ⟨m, rfl⟩ : ∃ m, j = (c :: cs).length + m := ⟨j - (cs.length + 1), by simp; omega⟩
            rw [app_at, show (c :: cs).length + m + (zs.map A.fz ++ as.map A.fz).length = (c :: cs).length + ((zs.map A.fz ++ as.map A.fz).length + m) by omega, app_at, app_at]
        · by_cases z : j < cs.length + 1
          · rw [if_pos z, List.getElem?_append_left (by simp; omega), List.getElem?_append_left (by simp; omega)]
          · rw [if_neg z]
            obtain ⟨m, rfl⟩ : ∃ m, j = (u :: us).length + m := ⟨j - (cs.length + 1), by simp; omega⟩
            rw [app_at, l5, show (u :: us).length + m + (ws.map some ++ vs.map some).length = (u :: us).length + ((ws.map some ++ vs.map some).length + m) by omega, app_at, app_at]
        · split at e <;> split at e <;> omega
  exact key cs _ (by rw [List.length_map, k1]) S4
end
end Lf
namespace Lf
open PySem PySem.Spec PyProof.Rows L2 Sx

/-! ### statements, told of data -/
def gN (i : Nat) : AGx := fun a ρ R _ => R (ρ.set i a)
def gNil : List A → List A → (List A → Prop) → Zo → Prop := fun as ρ R _ => match as with
  | [] => R ρ
  | _ => False
def gCons (g : AGx) (gs : List A → List A → (List A → Prop) → Zo → Prop) : List A → List A → (List A → Prop) → Zo → Prop := fun as ρ R Z => match as with
  | [] => False
  | a :: as => g a ρ (fun ρ' => gs as ρ' R Z) Z
def gT (gs : List A → List A → (List A → Prop) → Zo → Prop) : AGx := fun a ρ R Z => match a with
  | .d (.tuple ds) => gs (ds.map A.d) ρ R Z
  | _ => False
def gL (gs : List A → List A → (List A → Prop) → Zo → Prop) : AGx := fun a ρ R Z => match a with
  | .own ds => gs (ds.map A.d) ρ R Z
  | .d (.list ds) => gs (ds.map A.d) ρ R Z
  | _ => False
def aNext : ASx := fun _ N ρ => N ρ
def aSeq (f g : ASx) : ASx := fun E N ρ => f E (fun ρ' => g E N ρ') ρ
def aCut (f g : ASx) : ASx := fun E N ρ => ∃ M : List A → Prop, f E M ρ ∧ ∀ ρ', M ρ' → g E N ρ'
def aBrk : ASx := fun E _ ρ => E.bk ρ
def aCnt : ASx := fun E _ ρ => E.ct ρ
def aDrop (fe : AEx) : ASx := fun E N ρ => fe ρ (fun _ ρ1 => N ρ1) E.ex
def aRet (fe : AEx) : ASx := fun E _ ρ => fe ρ (fun a _ => E.rt a) E.ex
def aRetN : ASx := fun E _ _ => E.rt (.d .none)
def aIfS (ft : ATx) (f g : ASx) : ASx := fun E N ρ => ft ρ (fun b ρ1 => if b = true then f E N ρ1 else g E N ρ1) E.ex
def aAsg (fe : AEx) (g : AGx) : ASx := fun E N ρ => fe ρ (fun a ρ1 => g a ρ1 N E.ex) E.ex
def A.it : A → (Int → Prop) → Prop
  | .d (.int i), k => k i
  | _, _ => False
def aAug (i : Nat) (k : Int → Int → Int) (fe : AEx) : ASx := fun E N ρ => (sl ρ i).it fun m => fe ρ (fun a ρ1 => a.it fun n => N (ρ1.set i (.d (.int (k m n))))) E.ex
def A.two : List A → (A → A → Prop) → Prop
  | [a, b], k => k a b
  | _, _ => False
def A.three : List A → (A → A → A → Prop) → Prop
  | [a, b, c], k => k a b c
  | _, _ => False
def A.one : List A → (A → Prop) → Prop
  | [a], k => k a
  | _, _ => False
def aPar (i j : Nat) (fa : AAx) : ASx := fun E N ρ => fa ρ (fun as ρ1 => A.two as fun a b => N ((ρ1.set i a).set j b)) E.ex
def forRun (ds : List PyData) (g : AGx) (fb : ASx) (E : AE) (N : List A → Prop) (ρ1 : List A) : Prop := ∃ I : Nat → List A → Prop, I 0 ρ1 ∧ (∀ i ρ', i < ds.length → I i ρ' → g (.d (ds.getD i .none)) ρ' (fun ρ2 => fb { rt := E.rt, bk := N, ct := I (i + 1), ex := E.ex } (I (i + 1)) ρ2) E.ex) ∧ ∀ ρ', I ds.length ρ' → N ρ'
def aFor (fi : AIx) (g : AGx) (fb : ASx) : ASx := fun E N ρ => fi ρ (fun ds ρ1 => forRun ds g fb E N ρ1) E.ex
def whileRun (ft : ATx) (fb : ASx) (E : AE) (N : List A → Prop) (ρ : List A) : Prop := ∃ I : Nat → List A → Prop, (∃ m, I m ρ) ∧ ∀ m ρ', I m ρ' → ft ρ' (fun b ρ1 => if b = true then fb { rt := E.rt, bk := N, ct := fun ρ2 => ∃ m', m' < m ∧ I m' ρ2, ex := E.ex } (fun ρ2 => ∃ m', m' < m ∧ I m' ρ2) ρ1 else N ρ1) E.ex
def aWhile (ft : ATx) (fb : ASx) : ASx := fun E N ρ => whileRun ft fb E N ρ
def wipeA (ρ : List A) : List Nat → List A
  | [] => ρ
  | v :: vs => (wipeA ρ vs).set v .un
def aYes : ATx := fun ρ R _ => R true ρ
/-- a list comprehension -/
def compRun (ds : List PyData) (g : AGx) (ft : ATx) (fe : AEx) (vs : List Nat) (ρ1 : List A) (R : Po) : Prop := ∃ I : Nat → List PyData → List A → Prop, I 0 [] ρ1 ∧
  (∀ i acc ρ', i < ds.length → I i acc ρ' → g (.d (ds.getD i .none)) ρ' (fun ρ2 => ft ρ2 (fun b ρ3 => if b = true then fe ρ3 (fun a ρ4 => a.on fun y => acc.length < 4000000 ∧ I (i + 1) (acc ++ [y]) (wipeA ρ4 vs)) (fun _ _ => False) else I (i + 1) acc (wipeA ρ3 vs)) fun _ _ => False) fun _ _ => False) ∧
  ∀ acc ρ', I ds.length acc ρ' → R (.own acc) (wipeA ρ' vs)
def aComp (fi : AIx) (g : AGx) (ft : ATx) (fe : AEx) (vs : List Nat) : AEx := fun ρ R Z => fi ρ (fun ds ρ1 => compRun ds g ft fe vs (wipeA ρ1 vs) R) Z

section
variable {B : Bx} {K : PySem.W.Frag} {W : Wx} {G0 F0 H : Hp} {θ ρ as bs : List A} {τ xs ys : List (Option V)} {σ : L2.St} {a b : A} {x : Option V} {v w : V}
variable {ta tb tc : TE} {fa fb fc : AEx} {tt tu : TT} {ft fu : ATx} {ts us : TS} {fs gs : ASx} {tg : TG} {fg : AGx} {wi : TI} {fi : AIx}
theorem lt_b (la : LE B K W ta fa) : LT B K W (tB ta) (aB fa) := by
  intro G0 F0 θ τ ρ σ H R Z Q hl S h q w
  refine la G0 F0 θ τ ρ σ H _ Z _ hl S h (fun v H1 x ρ1 h1 S1 => ?_) w
  obtain ⟨b, rfl, k⟩ := S1.bl h1
  exact ⟨b, rfl, q b H1 ρ1 k S1.pop⟩
theorem lt_test (la : LE B K W ta fa) : LT B K W (tTest ta) (aB fa) := lt_b la
theorem lt_and (la : LT B K W tt ft) (lb : LT B K W tu fu) : LT B K W (tAnd tt tu) (tAndA ft fu) := by
  intro G0 F0 θ τ ρ σ H R Z Q hl S h q w
  refine la G0 F0 θ τ ρ σ H _ Z _ hl S h (fun b H1 ρ1 h1 S1 => ?_) w
  cases b with
  | true => exact lb G0 F0 θ τ ρ1 σ H1 _ Z _ hl S1 h1 q w
  | false => exact q false H1 ρ1 h1 S1
theorem lt_or (la : LT B K W tt ft) (lb : LT B K W tu fu) : LT B K W (tOr tt tu) (tOrA ft fu) := by
  intro G0 F0 θ τ ρ σ H R Z Q hl S h q w
  refine la G0 F0 θ τ ρ σ H _ Z _ hl S h (fun b H1 ρ1 h1 S1 => ?_) w
  cases b with
  | false => exact lb G0 F0 θ τ ρ1 σ H1 _ Z _ hl S1 h1 q w
  | true => exact q true H1 ρ1 h1 S1
theorem lt_not (la : LT B K W tt ft) : LT B K W (tNot tt) (tNotA ft) := fun G0 F0 θ τ ρ σ H R Z Q hl S h q w => la G0 F0 θ τ ρ σ H _ Z _ hl S h (fun b H1 ρ1 h1 S1 => q _ H1 ρ1 h1 S1) w
theorem lt_yes : LT B K W tYes aYes := fun G0 F0 θ τ ρ σ H R Z Q hl S h q w => q true H ρ h S
theorem lo_no : LO B K W tNoPart aNoP := fun G0 F0 θ τ ρ σ H R Z Q hl S h q w => q none H ρ h S
theorem lo_some (la : LE B K W ta fa) : LO B K W (tPart ta) (aPart fa) := by
  intro G0 F0 θ τ ρ σ H R Z Q hl S h q w
  refine la G0 F0 θ τ ρ σ H _ Z _ hl S h (fun v H1 x ρ1 h1 S1 => ?_) w
  obtain ⟨d, k, S2⟩ := S1.on h1
  cases d with
  | int i =>
    have := S2.get
    cases this
    exact ⟨i, rfl, q _ H1 ρ1 k S2.pop⟩
  | none => exact k.elim
  | bool _ => exact k.elim
  | str _ => exact k.elim
  | list _ => exact k.elim
  | tuple _ => exact k.elim
  | dict _ => exact k.elim
def SlL (K : PySem.W.Frag) (r : V → Option Int → Option Int → Hp → VK → Prop) (g : PyData → Option Int → Option Int → (A → Prop) → Prop) : Prop := ∀ (B : Bx) (G0 F0 : Hp) (as : List A) (xs : List (Option V)) (H : Hp) (v : V) (x : PyData) (lo hi : Option Int) (R : A → Prop) (Q : VK), St B K G0 F0 (.d x :: as) (some v :: xs) H → g x lo hi R →
  (∀ u H' a, R a → St B K G0 F0 (a :: as) (some u :: xs) H' → Q u H') → r v lo hi H Q
theorem le_sl {r : V → Option Int → Option Int → Hp → VK → Prop} {g : PyData → Option Int → Option Int → (A → Prop) → Prop} {tl th : TO} {fl fh : AOx} (hg : SlL K r g) (la : LE B K W ta fa) (l1 : LO B K W tl fl) (l2 : LO B K W th fh) : LE B K W (L2.tSl r ta tl th) (aSl g fa fl fh) := by
  intro G0 F0 θ τ ρ σ H R Z Q hl S h q w
  refine la G0 F0 θ τ ρ σ H _ Z _ hl S h (fun v H1 x ρ1 h1 S1 => ?_) w
  refine l1 G0 F0 (x :: θ) (some v :: τ) ρ1 σ H1 _ Z _ (congrArg (· + 1) hl) S1 h1 (fun l H2 ρ2 h2 S2 => ?_) w.push
  refine l2 G0 F0 (x :: θ) (some v :: τ) ρ2 σ H2 _ Z _ (congrArg (· + 1) hl) S2 h2 (fun u H3 ρ3 h3 S3 => ?_) w.push
  obtain ⟨dx, k1, S4⟩ := S3.on h3
  exact hg B G0 F0 _ _ H3 v dx l u _ Q S4 k1 fun u' H' a r S5 => q u' H' a ρ3 r S5
-- targets
theorem lg_name {i : Nat} : LG B K W (gName i) (gN i) := fun G0 F0 θ τ ρ σ H a v R Z Q hl S h q w => q _ _ H h (S.set hl)
theorem lgs_nil : LGs B K W L2.gNil gNil := by
  intro G0 F0 θ τ ρ σ H as vs R Z Q hl hl2 S h q w
  cases as with
  | nil =>
    cases vs with
    | nil => exact ⟨rfl, q _ _ H h S⟩
    | cons _ _ => exact nomatch hl2
  | cons _ _ => exact h.elim
theorem lgs_cons {tgs : TGs} {fgs : List A → List A → (List A → Prop) → Zo → Prop} (l1 : LG B K W tg fg) (l2 : LGs B K W tgs fgs) : LGs B K W (L2.gCons tg tgs) (gCons fg fgs) := by
  intro G0 F0 θ τ ρ σ H as vs R Z Q hl hl2 S h q w
  cases as with
  | nil => exact h.elim
  | cons a as =>
    cases vs with
    | nil => exact nomatch hl2
    | cons v vs =>
      have hl3 : as.length = vs.length := Nat.succ.inj hl2
      refine ⟨v, vs, rfl, ?_⟩
      refine l1 G0 F0 (as ++ θ) (vs.map some ++ τ) ρ σ H a v _ Z _ (by simp; omega) (by rw [List.append_assoc, List.append_assoc]; exact S) h (fun ρ' σ' H' h' S' => ?_) (w.pushes (by rw [List.length_map, hl3]))
      rw [List.append_assoc, List.append_assoc] at S'
      exact l2 G0 F0 θ τ ρ' σ' H' as vs R Z Q hl hl3 S' h' q w
/-- the items of the first one, ahead of all -/
theorem Sl.items {G F : Hp} : ∀ {ws : List V} {ds : List PyData}, DvAll K G ws ds → Sl K G F0 F as xs → Sl K G F0 F (ds.map A.d ++ as) (ws.map some ++ xs)
  | _, _, .nil, s => s
  | _, _, .cons r t, s => (Sl.items t s).push ⟨_, rfl, r⟩ fun ds z => nomatch z
theorem St.items {ds : List PyData} {ws : List V} (S : St B K G0 F0 as xs H) (h : ∀ G F, Same G F → Same F H → Sl K G F0 F as xs → DvAll K G ws ds) : St B K G0 F0 (ds.map A.d ++ as) (ws.map some ++ xs) H := by
  obtain ⟨G, F, k, s⟩ := S.ex
  have hd := h G F k.s k.sub s
  exact ⟨G, F, k, Sl.items hd s⟩
theorem St.seqT {ds : List PyData} (S : St B K G0 F0 (.d (.tuple ds) :: as) (some v :: xs) H) : ∃ p ws, v = .ref p ∧ SqT K H p ws ∧ ws.length = ds.length ∧ St B K G0 F0 (ds.map A.d ++ (.d (.tuple ds) :: as)) (ws.map some ++ (some v :: xs)) H := by
  obtain ⟨G, F, k, s⟩ := S.ex
  obtain ⟨x, e, v', e2, hd⟩ := s.ok 0 _ rfl
  cases e
  cases e2
  obtain ⟨p, ws, rfl, e, ha⟩ := tup_in hd
  refine ⟨p, ws, rfl, Sx.Same.tup k.gh e, dva_len ha, ⟨G, F, k, Sl.items ha s⟩⟩
theorem St.seqL {ds : List PyData} (S : St B K G0 F0 (.d (.list ds) :: as) (some v :: xs) H) : ∃ p ws, v = .ref p ∧ H p = some (.lst ws) ∧ ws.length = ds.length ∧ St B K G0 F0 (ds.map A.d ++ (.d (.list ds) :: as)) (ws.map some ++ (some v :: xs)) H := by
  obtain ⟨G, F, k, s⟩ := S.ex
  obtain ⟨x, e, v', e2, hd⟩ := s.ok 0 _ rfl
  cases e
  cases e2
  obtain ⟨p, ws, rfl, e, ha⟩ := lst_in hd
  refine ⟨p, ws, rfl, k.gh _ _ e, dva_len ha, ⟨G, F, k, Sl.items ha s⟩⟩
theorem St.dropEnd {cs : List A} {zs : List (Option V)} (hl : cs.length = zs.length) (S : St B K G0 F0 (cs ++ a :: as) (zs ++ x :: xs) H) : St B K G0 F0 (cs ++ as) (zs ++ xs) H := (St.front hl S).pop
theorem lg_tup {tgs : TGs} {n : Nat} {fgs : List A → List A → (List A → Prop) → Zo → Prop} (l : LGs B K W tgs fgs) (hn : ∀ as ρ R Z, fgs as ρ R Z → as.length = n) : LG B K W (gTup K n tgs) (gT fgs) := by
  intro G0 F0 θ τ ρ σ H a v R Z Q hl S h q w
  cases a with
  | d y =>
    cases y with
    | tuple ds =>
      obtain ⟨p, ws, rfl, e, l1, S1⟩ := S.seqT
      have hlen := hn _ _ _ _ h
      rw [List.length_map] at hlen
      exact ⟨p, ws, rfl, e, by omega, l G0 F0 θ τ ρ σ H (ds.map A.d) ws R Z Q hl (by rw [List.length_map, l1]) (S1.dropEnd (by rw [List.length_map, List.length_map, l1])) h q w⟩
    | none => exact h.elim
    | bool _ => exact h.elim
    | int _ => exact h.elim
    | str _ => exact h.elim
    | list _ => exact h.elim
    | dict _ => exact h.elim
  | un => exact h.elim
  | raw _ => exact h.elim
  | own _ => exact h.elim
theorem lg_lst {tgs : TGs} {n : Nat} {fgs : List A → List A → (List A → Prop) → Zo → Prop} (l : LGs B K W tgs fgs) (hn : ∀ as ρ R Z, fgs as ρ R Z → as.length = n) : LG B K W (gLst K n tgs) (gL fgs) := by
  intro G0 F0 θ τ ρ σ H a v R Z Q hl S h q w
  have key : ∀ ds, St B K G0 F0 (.d (.list ds) :: (θ ++ ρ)) (some v :: (τ ++ σ)) H → fgs (ds.map A.d) ρ R Z → gLst K n tgs v σ H Q := by
    intro ds S h
    obtain ⟨p, ws, rfl, e, l1, S1⟩ := S.seqL
    have hlen := hn _ _ _ _ h
    rw [List.length_map] at hlen
    exact ⟨p, ws, rfl, .of e, by omega, l G0 F0 θ τ ρ σ H (ds.map A.d) ws R Z Q hl (by rw [List.length_map, l1]) (S1.dropEnd (by rw [List.length_map, List.length_map, l1])) h q w⟩
  cases a with
  | d y =>
    cases y with
    | list ds => exact key ds S h
    | none => exact h.elim
    | bool _ => exact h.elim
    | int _ => exact h.elim
    | str _ => exact h.elim
    | tuple _ => exact h.elim
    | dict _ => exact h.elim
  | un => exact h.elim
  | raw _ => exact h.elim
  | own ds => exact key ds S.fix h
theorem gN_len : ∀ as ρ R Z, gNil as ρ R Z → as.length = 0 := fun as ρ R Z h => by
  cases as with
  | nil => rfl
  | cons _ _ => exact h.elim
theorem gC_len {n i : Nat} {gs : List A → List A → (List A → Prop) → Zo → Prop} (h : ∀ as ρ R Z, gs as ρ R Z → as.length = n) : ∀ as ρ R Z, gCons (gN i) gs as ρ R Z → as.length = n + 1 := fun as ρ R Z z => by
  cases as with
  | nil => exact z.elim
  | cons a as => exact congrArg (· + 1) (h as _ _ _ z)
-- statements
theorem ls_next : LS B K W tNext aNext := fun G0 F0 θ τ ρ σ H E N D hl S h e => e.nx ρ σ H h S
theorem ls_brk : LS B K W tBreak aBrk := fun G0 F0 θ τ ρ σ H E N D hl S h e => e.bk ρ σ H h S
theorem ls_cnt : LS B K W tCont aCnt := fun G0 F0 θ τ ρ σ H E N D hl S h e => e.ct ρ σ H h S
theorem ls_seq (l1 : LS B K W ts fs) (l2 : LS B K W us gs) : LS B K W (tSeq ts us) (aSeq fs gs) := fun G0 F0 θ τ ρ σ H E N D hl S h e =>
  l1 G0 F0 θ τ ρ σ H _ _ _ hl S h ⟨fun ρ' σ' H' n S' => l2 G0 F0 θ τ ρ' σ' H' E N D hl S' n e, e.rt, e.bk, e.ct, e.ex⟩
theorem ls_cut (l1 : LS B K W ts fs) (l2 : LS B K W us gs) : LS B K W (tSeq ts us) (aCut fs gs) := fun G0 F0 θ τ ρ σ H E N D hl S ⟨_, h, n⟩ e =>
  l1 G0 F0 θ τ ρ σ H _ _ _ hl S h ⟨fun ρ' σ' H' m S' => l2 G0 F0 θ τ ρ' σ' H' E N D hl S' (n ρ' m) e, e.rt, e.bk, e.ct, e.ex⟩
theorem ls_drop (la : LE B K W ta fa) : LS B K W (tDrop ta) (aDrop fa) := fun G0 F0 θ τ ρ σ H E N D hl S h e =>
  la G0 F0 θ τ ρ σ H _ E.ex _ hl S h (fun v H1 x ρ1 h1 S1 => e.nx ρ1 σ H1 h1 S1.pop) e.ex
theorem St.keepFirst (hl : θ.length = τ.length) (S : St B K G0 F0 (a :: (θ ++ ρ)) (x :: (τ ++ σ)) H) : St B K G0 F0 (a :: θ) (x :: τ) H := by
  refine S.reindex (congrArg (· + 1) hl) id (fun i hi => ?_) (fun i hi => ?_) fun i j _ _ h => h
  · rw [← List.cons_append]
    exact (List.getElem?_append_left hi).symm
  · rw [← List.cons_append]
    exact (List.getElem?_append_left (by simp at hi ⊢; omega)).symm
theorem ls_ret (la : LE B K W ta fa) : LS B K W (tRet ta) (aRet fa) := fun G0 F0 θ τ ρ σ H E N D hl S h e =>
  la G0 F0 θ τ ρ σ H _ E.ex _ hl S h (fun v H1 x ρ1 h1 S1 => e.rt v x H1 h1 (S1.keepFirst hl)) e.ex
theorem ls_retN : LS B K W tRetN aRetN := fun G0 F0 θ τ ρ σ H E N D hl S h e =>
  e.rt .non _ H h ((S.push (v := .non) (y := .none) fun _ => .non).keepFirst hl)
theorem ls_if (lt : LT B K W tt ft) (l1 : LS B K W ts fs) (l2 : LS B K W us gs) : LS B K W (tIfS tt ts us) (aIfS ft fs gs) := by
  intro G0 F0 θ τ ρ σ H E N D hl S h e
  refine lt G0 F0 θ τ ρ σ H _ E.ex _ hl S h (fun b H1 ρ1 h1 S1 => ?_) e.ex
  cases b with
  | true => exact l1 G0 F0 θ τ ρ1 σ H1 E N D hl S1 h1 e
  | false => exact l2 G0 F0 θ τ ρ1 σ H1 E N D hl S1 h1 e
theorem ls_asg (la : LE B K W ta fa) (lg : LG B K W tg fg) : LS B K W (tAsg ta tg) (aAsg fa fg) := fun G0 F0 θ τ ρ σ H E N D hl S h e =>
  la G0 F0 θ τ ρ σ H _ E.ex _ hl S h (fun v H1 x ρ1 h1 S1 => lg G0 F0 θ τ ρ1 σ H1 x v N E.ex D.nx hl S1 h1 e.nx e.ex) e.ex
theorem St.at {i : Nat} {y : PyData} (hl : θ.length = τ.length) (S : St B K G0 F0 (θ ++ ρ) (τ ++ σ) H) (e : ρ[i]? = some (.d y)) : ∃ v, σ[i]? = some (some v) ∧ St B K G0 F0 (.d y :: (θ ++ ρ)) (some v :: (τ ++ σ)) H := by
  obtain ⟨x, hx, S'⟩ := S.dup hl e rfl
  obtain ⟨G, F, k, s⟩ := S'.ex
  obtain ⟨x', e1, v, e2, hd⟩ := s.ok 0 _ rfl
  cases e1
  subst e2
  exact ⟨v, hx, S'⟩
theorem A.is_it {k : Int → Prop} (h : a.it k) : ∃ i, a = .d (.int i) ∧ k i := by
  cases a with
  | d y =>
    cases y with
    | int b => exact ⟨b, rfl, h⟩
    | none => exact h.elim
    | bool _ => exact h.elim
    | str _ => exact h.elim
    | list _ => exact h.elim
    | tuple _ => exact h.elim
    | dict _ => exact h.elim
  | un => exact h.elim
  | raw _ => exact h.elim
  | own _ => exact h.elim
theorem ls_aug {i : Nat} {k : Int → Int → Int} (la : LE B K W ta fa) : LS B K W (L2.tAug i ta (ipI k)) (aAug i k fa) := by
  intro G0 F0 θ τ ρ σ H E N D hl S h e
  obtain ⟨m, e1, h1⟩ := A.is_it h
  have e2 := sl_get (l := ρ) (i := i) (by rw [e1]; exact fun z => nomatch z)
  rw [e1] at e2
  obtain ⟨v, hv, S1⟩ := S.at hl e2
  have := S1.get
  cases this
  refine ⟨.int m, hv, la G0 F0 θ τ ρ σ H _ E.ex _ hl S h1 (fun v H1 x ρ1 h1 S1 => ?_) e.ex⟩
  obtain ⟨n, rfl, k1⟩ := A.is_it h1
  have := S1.get
  cases this
  exact ⟨m, n, rfl, rfl, e.nx _ _ H1 k1 (St.set hl (S1.pop.push fun _ => .int _))⟩
theorem ls_par {i j : Nat} {tr : TA} {fr : AAx} (la : LAn 2 B K W tr fr) (hij : i ≠ j) : LS B K W (L2.tPar i j tr) (aPar i j fr) := by
  intro G0 F0 θ τ ρ σ H E N D hl S h e
  refine la G0 F0 θ τ ρ σ H _ E.ex _ hl S h (fun vs H1 as ρ1 h1 l1 l2 S1 => ?_) e.ex
  match as, vs, l1, l2, h1, S1 with
  | [a, b], [v, w], _, _, h1, S1 =>
    refine ⟨v, w, rfl, e.nx _ _ H1 h1 ?_⟩
    have S2 : St B K G0 F0 (b :: (θ ++ ρ1.set i a)) (some w :: (τ ++ σ.set i (some v))) H1 := St.set (θ := b :: θ) (τ := some w :: τ) (congrArg (· + 1) hl) S1
    exact S2.set hl
theorem ItOk.step {θ1 : List A} {τ1 : List (Option V)} {J : It} {ds : List PyData} (h : ItOk B K G0 F0 θ1 τ1 J ds) : ItOk B K G0 F0 θ1 τ1 J ds := h
theorem ls_for (li : LI B K W wi fi) (lg : LG B K W tg fg) (lb : LS B K W ts fs) : LS B K W (L2.tFor wi tg ts) (aFor fi fg fs) := by
  intro G0 F0 θ τ ρ σ H E N D hl S h e
  refine li G0 F0 θ τ ρ σ H _ E.ex _ hl S h (fun J H1 θ1 τ1 ds ρ1 h1 hl1 S1 hJ => ?_) e.ex
  obtain ⟨I, i0, step, last⟩ := h1
  have hl2 : (θ1 ++ θ).length = (τ1 ++ τ).length := by simp; omega
  refine ⟨fun i m σ H => i + m = ds.length ∧ ∃ ρ, I i ρ ∧ St B K G0 F0 (θ1 ++ (θ ++ ρ)) (τ1 ++ (τ ++ σ)) H, ⟨ds.length, by omega, ρ1, i0, S1⟩, ?_⟩
  rintro i m σ H ⟨hm, ρ, hi, S⟩
  obtain ⟨j1, j2⟩ := hJ _ _ H i S
  by_cases z : i < ds.length
  · obtain ⟨j3, j4⟩ := j1 z
    refine .inr ⟨j3, fun σ' H' => ∃ ρ', I (i + 1) ρ' ∧ St B K G0 F0 (θ1 ++ (θ ++ ρ')) (τ1 ++ (τ ++ σ')) H', fun σ' H' ⟨ρ', h1, h2⟩ => ⟨m - 1, by omega, by omega, ρ', h1, h2⟩, fun x H' hy => ?_⟩
    have S2 := j4 x H' hy
    rw [← List.append_assoc, ← List.append_assoc] at S2
    refine lg G0 F0 (θ1 ++ θ) (τ1 ++ τ) ρ σ H' _ x _ E.ex _ hl2 S2 (step i ρ z hi) (fun ρ2 σ2 H2 h2 S3 => ?_) (e.ex.pushes hl1)
    refine lb G0 F0 (θ1 ++ θ) (τ1 ++ τ) ρ2 σ2 H2 _ _ _ hl2 S3 h2 ⟨fun ρ' σ' H' n S' => ⟨ρ', n, ?_⟩, fun v a H' r S' => e.rt v a H' r (S'.drop hl1), fun ρ' σ' H' n S' => ?_, fun ρ' σ' H' n S' => ⟨ρ', n, ?_⟩, e.ex.pushes hl1⟩
    · rw [List.append_assoc, List.append_assoc] at S'
      exact S'
    · rw [List.append_assoc, List.append_assoc] at S'
      exact e.nx ρ' σ' H' n (S'.pops hl1)
    · rw [List.append_assoc, List.append_assoc] at S'
      exact S'
  · have hi' : i = ds.length := by omega
    refine .inl ⟨j2 (by omega), e.nx ρ σ H (last ρ (by rw [← hi']; exact hi)) (S.pops hl1)⟩
theorem ls_while (lt : LT B K W tt ft) (lb : LS B K W ts fs) : LS B K W (L2.tWhile tt ts) (aWhile ft fs) := by
  intro G0 F0 θ τ ρ σ H E N D hl S h e
  obtain ⟨I, ⟨m0, i0⟩, step⟩ := h
  refine ⟨fun m σ H => ∃ ρ, I m ρ ∧ St B K G0 F0 (θ ++ ρ) (τ ++ σ) H, ⟨m0, ρ, i0, S⟩, ?_⟩
  rintro m σ H ⟨ρ, hi, S⟩
  refine lt G0 F0 θ τ ρ σ H _ E.ex _ hl S (step m ρ hi) (fun b H1 ρ1 h1 S1 => ?_) e.ex
  cases b with
  | false => exact e.nx ρ1 σ H1 h1 S1
  | true =>
    refine ⟨fun σ' H' => ∃ m', m' < m ∧ ∃ ρ', I m' ρ' ∧ St B K G0 F0 (θ ++ ρ') (τ ++ σ') H', fun σ' H' ⟨m', h1, h2⟩ => ⟨m', h1, h2⟩, ?_⟩
    exact lb G0 F0 θ τ ρ1 σ H1 _ _ _ hl S1 h1 ⟨fun ρ' σ' H' ⟨m', z, n⟩ S' => ⟨m', z, ρ', n, S'⟩, e.rt, e.nx, fun ρ' σ' H' ⟨m', z, n⟩ S' => ⟨m', z, ρ', n, S'⟩, e.ex⟩
end
end Lf
namespace Lf
open PySem PySem.Spec PyProof.Rows L2 Sx

/-! ### walks over a list or a tuple, whichever it is -/
def iAny (K : PySem.W.Frag) (tl : TE) : TI := fun σ H R => tl σ H fun x H1 => ∃ a, x = .ref a ∧ (((∃ xs, SqL K H1 a xs) ∧ R (Itl K a) H1) ∨ ((∃ xs, SqT K H1 a xs) ∧ R (Itt K a) H1))
theorem pi_any {X : Cx} {tg l : Expr} {tl : TE} (hl : PE X l tl) : PI X tg l (iAny X.K tl) := by
  refine ⟨fun pins s σ H R I h => ?_⟩
  refine thn (hl.run pins s σ H _ I h) fun v s1 ⟨x, H1, I1, r1, q1⟩ => ?_
  obtain ⟨a, e, q1⟩ := q1
  subst e
  obtain rfl : v = Value.ref a := r1
  rcases q1 with ⟨⟨xs, hq⟩, q⟩ | ⟨⟨xs, hq⟩, q⟩
  · obtain ⟨its, rv, p, hz⟩ := I1.list hq
    refine wpAny_pyIter_list p.isList ?_
    refine ⟨s1.heap.objs.size, [s1.heap.objs.size], _, _, H1, rfl, I1.kept (t' := s1.toks) fun b o e => Heap.get?_push_of_some _ e, turn_list a _, ⟨_, Heap.get?_push_size _ rfl, rfl, rfl⟩, fun b hb => ?_, q⟩
    have e : b = s1.heap.objs.size := by simpa using hb
    subst e
    exact I1.fpOk (Nat.le_refl _) (I1.hok.fresh (Nat.le_refl _))
  · obtain ⟨its, rv, p, hz⟩ := I1.tuple hq
    refine wpAny_pyIter_tuple (show s1.heap.IsTuple a its.toArray from p) ?_
    refine ⟨s1.heap.objs.size, [s1.heap.objs.size], _, _, H1, rfl, I1.kept (t' := s1.toks) fun b o e => Heap.get?_push_of_some _ e, turn_tuple a _, ⟨_, Heap.get?_push_size _ rfl, rfl, rfl⟩, fun b hb => ?_, q⟩
    have e : b = s1.heap.objs.size := by simpa using hb
    subst e
    exact I1.fpOk (Nat.le_refl _) (I1.hok.fresh (Nat.le_refl _))
def iEnumA (K : PySem.W.Frag) (ta : TA) : TI := fun σ H R => ta σ H fun vs H1 => ∃ a, vs = [.ref a] ∧ (((∃ xs, SqL K H1 a xs) ∧ R (Ite K a) H1) ∨ ((∃ xs, SqT K H1 a xs) ∧ R (IteT K a) H1))
theorem pi_enumA {X : Cx} {e : Expr} {ta : TA} {p pos tpos : Pos} {elts : List Expr} {kk : Nat} (hg : Gl X "enumerate") (hm : X.mg "enumerate" = none) (ha : PA X [e] ta) (hs : starEach [e] X.env = [(false, eval e X.env)] := by rfl) :
    PI X (.Tuple elts kk tpos) (.Call (.Name "enumerate" p) [e] [] pos) (iEnumA X.K ta) := by
  refine ⟨fun pins s σ H R I h => Call_ (ld_blt I hg hm boot_enumerate (PyProof.Rows.callWith_type1 (thn (ha.run pos pins s σ H _ I h) ?_) hs rfl))⟩
  rintro us s1 ⟨vs, H1, I1, r1, a, rfl, q1⟩
  obtain ⟨u, rfl, rr⟩ := vals1 r1
  obtain rfl : u = Value.ref a := rr
  rcases q1 with ⟨⟨xs, hq⟩, q⟩ | ⟨⟨xs, hq⟩, q⟩
  · obtain ⟨its, rv, p', hz⟩ := I1.list hq
    refine call_enumerate_list p'.isList fun h' he hit hsz hk => wpAny_pyIter_enum he ?_
    have I2 : Inv X pins σ H1 { s1 with heap := h' } := I1.kept (t' := s1.toks) hk
    refine ⟨s1.heap.objs.size + 1, [s1.heap.objs.size + 1, s1.heap.objs.size], _, _, H1, rfl, I2, turn_enum a (s1.heap.objs.size + 1) s1.heap.objs.size, ⟨⟨.none, he⟩, hit, Nat.succ_ne_self _⟩, fun b hb => ?_, q⟩
    have hle : s1.heap.objs.size ≤ b := by
      rcases List.mem_cons.mp hb with z | z
      · rw [z]
        exact Nat.le_add_right _ _
      · rw [List.mem_singleton.mp z]
        exact Nat.le_refl _
    exact I1.fpOk hle (I1.hok.fresh hle) |> fun f => ⟨f.1, f.2⟩
  · obtain ⟨its, rv, tp, hz⟩ := I1.tuple hq
    have hal : a < s1.heap.objs.size := tp.lt
    refine call_enum_one (begins_tuple a its.toArray) tp fun h1 he hit hsz hk => wpAny_pyIter_enum he ?_
    have I2 : Inv X pins σ H1 { s1 with heap := h1 } := I1.kept (t' := s1.toks) hk
    have n1 : s1.heap.objs.size + 1 ≠ a := Nat.ne_of_gt (Nat.lt_succ_of_lt hal)
    have n2 : a ≠ s1.heap.objs.size := Nat.ne_of_lt hal
    refine ⟨s1.heap.objs.size + 1, [s1.heap.objs.size + 1, s1.heap.objs.size], _, _, H1, rfl, I2, turn_enumT a (s1.heap.objs.size + 1) s1.heap.objs.size, ⟨⟨.none, he⟩, ⟨_, hit, rfl, rfl⟩, Nat.succ_ne_self _, n1, n2⟩, fun b hb => ?_, q⟩
    have hle : s1.heap.objs.size ≤ b := by
      rcases List.mem_cons.mp hb with z | z
      · rw [z]
        exact Nat.le_add_right _ _
      · rw [List.mem_singleton.mp z]
        exact Nat.le_refl _
    exact I1.fpOk hle (I1.hok.fresh hle) |> fun f => ⟨f.1, f.2⟩

/-! ### told of data -/
def A.seq : A → (List PyData → Prop) → Prop
  | .d (.tuple ds), k => k ds
  | .d (.list ds), k => k ds
  | .own ds, k => k ds
  | _, _ => False
def aIter (fe : AEx) : AIx := fun ρ R Z => fe ρ (fun a ρ1 => a.seq fun ds => R ds ρ1) Z
def enumD (ds : List PyData) : List PyData := (List.range ds.length).map fun i => .tuple [.int (i : Nat), ds.getD i .none]
def aEnum (fe : AAx) : AIx := fun ρ R Z => fe ρ (fun as ρ1 => A.one as fun a => a.seq fun ds => R (enumD ds) ρ1) Z
def rangeD (lo : Int) (n : Nat) : List PyData := (List.range n).map fun i => .int (lo + (i : Nat))
def aRange1 (fe : AAx) : AIx := fun ρ R Z => fe ρ (fun as ρ1 => A.one as fun a => a.it fun j => -(2 ^ 62) ≤ j ∧ j < 2 ^ 62 ∧ R (rangeD 0 j.toNat) ρ1) Z
def aRange2 (fe : AAx) : AIx := fun ρ R Z => fe ρ (fun as ρ1 => A.two as fun a b => a.it fun i => b.it fun j => (-(2 ^ 62) ≤ i ∧ i < 2 ^ 62 ∧ -(2 ^ 62) ≤ j ∧ j < 2 ^ 62) ∧ R (rangeD i (j - i).toNat) ρ1) Z
def zipD (xs ys : List PyData) : List PyData := (List.range (min xs.length ys.length)).map fun i => .tuple [xs.getD i .none, ys.getD i .none]
def zip3D (xs ys zs : List PyData) : List PyData := (List.range xs.length).map fun i => .tuple [xs.getD i .none, ys.getD i .none, zs.getD i .none]
def A.lst : A → (List PyData → Prop) → Prop
  | .d (.list ds), k => k ds
  | .own ds, k => k ds
  | _, _ => False
def A.tup : A → (List PyData → Prop) → Prop
  | .d (.tuple ds), k => k ds
  | _, _ => False
def A.same2 : A → A → (List PyData → List PyData → Prop) → Prop
  | .d (.tuple ds), .d (.tuple es), k => k ds es
  | a, b, k => a.lst fun ds => b.lst fun es => k ds es
def aZip (fe : AAx) : AIx := fun ρ R Z => fe ρ (fun as ρ1 => A.two as fun a b => A.same2 a.fz b.fz fun xs ys => R (zipD xs ys) ρ1) Z
def aZipTL (fe : AAx) : AIx := fun ρ R Z => fe ρ (fun as ρ1 => A.two as fun a b => a.fz.tup fun xs => b.fz.lst fun ys => xs.length = ys.length ∧ R (zipD xs ys) ρ1) Z
def aZip3T (fe : AAx) : AIx := fun ρ R Z => fe ρ (fun as ρ1 => A.three as fun a b c => a.fz.tup fun xs => b.fz.tup fun ys => c.fz.tup fun zs => xs.length = ys.length ∧ xs.length = zs.length ∧ R (zip3D xs ys zs) ρ1) Z

section
variable {B : Bx} {K : PySem.W.Frag} {W : Wx} {G0 F0 H : Hp} {θ ρ as bs : List A} {τ xs ys : List (Option V)} {σ : L2.St} {a b : A} {x : Option V} {v w : V}
variable {ta tb tc : TE} {fa fb fc : AEx} {tt tu : TT} {ft fu : ATx} {ts us : TS} {fs gs : ASx} {tg : TG} {fg : AGx} {wi : TI} {fi : AIx}
theorem A.is_seq {k : List PyData → Prop} (h : a.seq k) (S : St B K G0 F0 (a :: as) (x :: xs) H) : ∃ ds, k ds ∧ ((St B K G0 F0 (.d (.tuple ds) :: as) (x :: xs) H) ∨ St B K G0 F0 (.d (.list ds) :: as) (x :: xs) H) := by
  cases a with
  | d y =>
    cases y with
    | tuple ds => exact ⟨ds, h, .inl S⟩
    | list ds => exact ⟨ds, h, .inr S⟩
    | none => exact h.elim
    | bool _ => exact h.elim
    | int _ => exact h.elim
    | str _ => exact h.elim
    | dict _ => exact h.elim
  | un => exact h.elim
  | raw _ => exact h.elim
  | own ds => exact ⟨ds, h, .inr S.fix⟩
theorem St.headT {ds : List PyData} (S : St B K G0 F0 (.d (.tuple ds) :: as) (x :: xs) H) : ∃ p ws, x = some (.ref p) ∧ SqT K H p ws ∧ ws.length = ds.length := by
  obtain ⟨G, F, k, s⟩ := S.ex
  obtain ⟨x, e, v', e2, hd⟩ := s.ok 0 _ rfl
  cases e
  obtain ⟨p, ws, rfl, e, ha⟩ := tup_in hd
  exact ⟨p, ws, e2, Sx.Same.tup k.gh e, dva_len ha⟩
theorem St.headL {ds : List PyData} (S : St B K G0 F0 (.d (.list ds) :: as) (x :: xs) H) : ∃ p ws, x = some (.ref p) ∧ H p = some (.lst ws) ∧ ws.length = ds.length := by
  obtain ⟨G, F, k, s⟩ := S.ex
  obtain ⟨x, e, v', e2, hd⟩ := s.ok 0 _ rfl
  cases e
  obtain ⟨p, ws, rfl, e, ha⟩ := lst_in hd
  exact ⟨p, ws, e2, k.gh _ _ e, dva_len ha⟩
theorem ito_tup {ds : List PyData} {p : Addr} : ItOk B K G0 F0 [.d (.tuple ds)] [some (.ref p)] (Itt K p) ds := by
  intro as xs H i S
  obtain ⟨G, F, k, s⟩ := S.ex
  obtain ⟨x, e, v', e2, hd⟩ := s.ok 0 _ rfl
  cases e
  cases e2
  obtain ⟨q, ws, e, hq, ha⟩ := tup_in hd
  cases e
  have hH := Sx.Same.tup k.gh hq
  have hl := dva_len ha
  refine ⟨fun hi => ⟨⟨ws, _, hH, List.getElem?_eq_getElem (by omega)⟩, ?_⟩, fun hi => ⟨ws, hH, by omega⟩⟩
  rintro x H' ⟨rfl, hx⟩
  obtain ⟨_, hx2⟩ := dva_val ha (hx ws hH)
  exact ⟨G, F, k, s.push ⟨_, rfl, hx2⟩ fun ds z => nomatch z⟩
theorem ito_lst {ds : List PyData} {p : Addr} : ItOk B K G0 F0 [.d (.list ds)] [some (.ref p)] (Itl K p) ds := by
  intro as xs H i S
  obtain ⟨G, F, k, s⟩ := S.ex
  obtain ⟨x, e, v', e2, hd⟩ := s.ok 0 _ rfl
  cases e
  cases e2
  obtain ⟨q, ws, e, hq, ha⟩ := lst_in hd
  cases e
  have hH : SqL K H p ws := .of (k.gh _ _ hq)
  have hl := dva_len ha
  refine ⟨fun hi => ⟨⟨ws, _, hH, List.getElem?_eq_getElem (by omega)⟩, ?_⟩, fun hi => ⟨ws, hH, by omega⟩⟩
  rintro x H' ⟨rfl, hx⟩
  obtain ⟨_, hx2⟩ := dva_val ha (hx ws hH)
  exact ⟨G, F, k, s.push ⟨_, rfl, hx2⟩ fun ds z => nomatch z⟩
theorem li_any (la : LE B K W ta fa) : LI B K W (iAny K ta) (aIter fa) := by
  intro G0 F0 θ τ ρ σ H R Z Q hl S h q w
  refine la G0 F0 θ τ ρ σ H _ Z _ hl S h (fun v H1 x ρ1 h1 S1 => ?_) w
  obtain ⟨ds, k, S2 | S2⟩ := A.is_seq h1 S1
  · obtain ⟨p, ws, e, hs, _⟩ := S2.headT
    cases e
    exact ⟨p, rfl, .inr ⟨⟨ws, hs⟩, q _ H1 [_] [_] ds ρ1 k rfl S2 ito_tup⟩⟩
  · obtain ⟨p, ws, e, hs, _⟩ := S2.headL
    cases e
    exact ⟨p, rfl, .inl ⟨⟨ws, .of hs⟩, q _ H1 [_] [_] ds ρ1 k rfl S2 ito_lst⟩⟩
theorem enumD_len (ds : List PyData) : (enumD ds).length = ds.length := by simp [enumD]
theorem enumD_at {ds : List PyData} {i : Nat} (h : i < ds.length) : (enumD ds).getD i .none = .tuple [.int (i : Nat), ds.getD i .none] := by
  unfold enumD
  rw [List.getD_eq_getElem?_getD, List.getElem?_map, List.getElem?_range h] <;> rfl
theorem rangeD_len (lo : Int) (n : Nat) : (rangeD lo n).length = n := by simp [rangeD]
theorem rangeD_at {lo : Int} {n i : Nat} (h : i < n) : (rangeD lo n).getD i .none = .int (lo + (i : Nat)) := by
  unfold rangeD
  rw [List.getD_eq_getElem?_getD, List.getElem?_map, List.getElem?_range h] <;> rfl
theorem zipD_len (xs ys : List PyData) : (zipD xs ys).length = min xs.length ys.length := by simp [zipD]
theorem zipD_at {xs ys : List PyData} {i : Nat} (h : i < min xs.length ys.length) : (zipD xs ys).getD i .none = .tuple [xs.getD i .none, ys.getD i .none] := by
  unfold zipD
  rw [List.getD_eq_getElem?_getD, List.getElem?_map, List.getElem?_range h] <;> rfl
theorem zip3D_len (xs ys zs : List PyData) : (zip3D xs ys zs).length = xs.length := by simp [zip3D]
theorem zip3D_at {xs ys zs : List PyData} {i : Nat} (h : i < xs.length) : (zip3D xs ys zs).getD i .none = .tuple [xs.getD i .none, ys.getD i .none, zs.getD i .none] := by
  unfold zip3D
  rw [List.getD_eq_getElem?_getD, List.getElem?_map, List.getElem?_range h] <;> rfl
theorem ito_enumT {ds : List PyData} {p : Addr} : ItOk B K G0 F0 [.d (.tuple ds)] [some (.ref p)] (IteT K p) (enumD ds) := by
  intro as xs H i S
  rw [enumD_len]
  obtain ⟨G, F, k, s⟩ := id S.ex
  obtain ⟨x, e, v', e2, hd⟩ := s.ok 0 _ rfl
  cases e
  cases e2
  obtain ⟨q, ws, e, hq, ha⟩ := tup_in hd
  cases e
  have hH := Sx.Same.tup k.gh hq
  have hl := dva_len ha
  refine ⟨fun hi => ⟨⟨ws, _, hH, List.getElem?_eq_getElem (by omega)⟩, ?_⟩, fun hi => ⟨ws, hH, by omega⟩⟩
  rintro x H' ⟨T, y, rfl, nT, rfl, hx⟩
  rw [enumD_at hi]
  obtain ⟨_, hx2⟩ := dva_val ha (hx ws hH)
  have S1 : St B K G0 F0 (.d (ds.getD i .none) :: ([.d (.tuple ds)] ++ as)) (some y :: ([some (.ref p)] ++ xs)) H := ⟨G, F, k, s.push ⟨_, rfl, hx2⟩ fun ds z => nomatch z⟩
  refine St.drop (θ1 := [_]) (τ1 := [_]) rfl (S1.newD nT fun G F s1 s2 s3 G' sg e => ?_)
  obtain ⟨x, e1, v, e2, h⟩ := s3.ok 0 _ rfl
  cases e1
  cases e2
  exact .tup (.of e) (.cons (.int _) (.cons (dv_same sg _ _ h) .nil))
theorem ito_enumL {ds : List PyData} {p : Addr} : ItOk B K G0 F0 [.d (.list ds)] [some (.ref p)] (Ite K p) (enumD ds) := by
  intro as xs H i S
  rw [enumD_len]
  obtain ⟨G, F, k, s⟩ := id S.ex
  obtain ⟨x, e, v', e2, hd⟩ := s.ok 0 _ rfl
  cases e
  cases e2
  obtain ⟨q, ws, e, hq, ha⟩ := lst_in hd
  cases e
  have hH : SqL K H p ws := .of (k.gh _ _ hq)
  have hl := dva_len ha
  refine ⟨fun hi => ⟨⟨ws, _, hH, List.getElem?_eq_getElem (by omega)⟩, ?_⟩, fun hi => ⟨ws, hH, by omega⟩⟩
  rintro x H' ⟨T, y, rfl, nT, rfl, hx⟩
  rw [enumD_at hi]
  obtain ⟨_, hx2⟩ := dva_val ha (hx ws hH)
  have S1 : St B K G0 F0 (.d (ds.getD i .none) :: ([.d (.list ds)] ++ as)) (some y :: ([some (.ref p)] ++ xs)) H := ⟨G, F, k, s.push ⟨_, rfl, hx2⟩ fun ds z => nomatch z⟩
  refine St.drop (θ1 := [_]) (τ1 := [_]) rfl (S1.newD nT fun G F s1 s2 s3 G' sg e => ?_)
  obtain ⟨x, e1, v, e2, h⟩ := s3.ok 0 _ rfl
  cases e1
  cases e2
  exact .tup (.of e) (.cons (.int _) (.cons (dv_same sg _ _ h) .nil))
theorem li_enum {tr : TA} {fr : AAx} (la : LAn 1 B K W tr fr) : LI B K W (iEnumA K tr) (aEnum fr) := by
  intro G0 F0 θ τ ρ σ H R Z Q hl S h q w
  refine la G0 F0 θ τ ρ σ H _ Z _ hl S h (fun vs H1 as ρ1 h1 l1 l2 S1 => ?_) w
  match as, vs, l1, l2, h1, S1 with
  | [a], [v], _, _, h1, S1 =>
    obtain ⟨ds, k, S2 | S2⟩ := A.is_seq h1 S1
    · obtain ⟨p, ws, e, hs, _⟩ := S2.headT
      cases e
      exact ⟨p, rfl, .inr ⟨⟨ws, hs⟩, q _ H1 [_] [_] _ ρ1 k rfl S2 ito_enumT⟩⟩
    · obtain ⟨p, ws, e, hs, _⟩ := S2.headL
      cases e
      exact ⟨p, rfl, .inl ⟨⟨ws, .of hs⟩, q _ H1 [_] [_] _ ρ1 k rfl S2 ito_enumL⟩⟩
theorem ito_range {lo : Int} {n : Nat} : ItOk B K G0 F0 [] [] (Itr lo n) (rangeD lo n) := by
  intro as xs H i S
  rw [rangeD_len]
  refine ⟨fun hi => ⟨hi, ?_⟩, fun hi => hi⟩
  rintro x H' ⟨rfl, rfl⟩
  rw [rangeD_at hi]
  exact S.push fun _ => .int _
theorem li_range1 {tr : TA} {fr : AAx} (la : LAn 1 B K W tr fr) : LI B K W (iRng1 tr) (aRange1 fr) := by
  intro G0 F0 θ τ ρ σ H R Z Q hl S h q w
  refine la G0 F0 θ τ ρ σ H _ Z _ hl S h (fun vs H1 as ρ1 h1 l1 l2 S1 => ?_) w
  match as, vs, l1, l2, h1, S1 with
  | [a], [v], _, _, h1, S1 =>
    obtain ⟨j, rfl, k1, k2, k⟩ := A.is_it h1
    have := S1.get
    cases this
    exact ⟨j, rfl, k1, k2, q _ H1 [] [] _ ρ1 k rfl S1.pop ito_range⟩
theorem li_range2 {tr : TA} {fr : AAx} (la : LAn 2 B K W tr fr) : LI B K W (iRng2 tr) (aRange2 fr) := by
  intro G0 F0 θ τ ρ σ H R Z Q hl S h q w
  refine la G0 F0 θ τ ρ σ H _ Z _ hl S h (fun vs H1 as ρ1 h1 l1 l2 S1 => ?_) w
  match as, vs, l1, l2, h1, S1 with
  | [a, b], [v, u], _, _, h1, S1 =>
    obtain ⟨i, e1, h1⟩ := A.is_it h1
    obtain ⟨j, e2, k1, k⟩ := A.is_it h1
    subst e1 e2
    have := S1.get
    cases this
    have := S1.pop.get
    cases this
    exact ⟨i, j, rfl, k1, q _ H1 [] [] _ ρ1 k rfl S1.pop.pop ito_range⟩
/-! ### comprehensions -/
theorem wipe_len : ∀ (σ : L2.St) (vs : List Nat), (L2.wipe σ vs).length = σ.length
  | _, [] => rfl
  | σ, v :: vs => by
    show ((L2.wipe σ vs).set v none).length = σ.length
    rw [List.length_set, wipe_len]
theorem wipeA_len : ∀ (ρ : List A) (vs : List Nat), (wipeA ρ vs).length = ρ.length
  | _, [] => rfl
  | ρ, v :: vs => by
    show ((wipeA ρ vs).set v .un).length = ρ.length
    rw [List.length_set, wipeA_len]
/-- a slot of which nothing is known any more -/
theorem St.forget {i : Nat} {x : Option V} (hl : θ.length = τ.length) (S : St B K G0 F0 (θ ++ ρ) (τ ++ σ) H) : St B K G0 F0 (θ ++ ρ.set i .un) (τ ++ σ.set i x) H := by
  obtain ⟨G, F, k, s⟩ := S.ex
  exact St.set hl ⟨G, F, k, s.push (a := .un) (x := x) trivial fun ds z => nomatch z⟩
theorem St.forgetA {i : Nat} (hl : θ.length = τ.length) (S : St B K G0 F0 (θ ++ ρ) (τ ++ σ) H) : St B K G0 F0 (θ ++ ρ.set i .un) (τ ++ σ) H := by
  by_cases h : i < σ.length
  · have := S.forget (i := i) (x := σ[i]) hl
    rw [List.set_getElem_self] at this
    exact this
  · have l0 := S.len
    have l1 : ρ.length = σ.length := by simp at l0; omega
    rw [List.set_eq_of_length_le (by omega)]
    exact S
theorem St.wipe (hl : θ.length = τ.length) : ∀ (vs : List Nat), St B K G0 F0 (θ ++ ρ) (τ ++ σ) H → St B K G0 F0 (θ ++ wipeA ρ vs) (τ ++ L2.wipe σ vs) H
  | [], S => S
  | v :: vs, S => (St.wipe hl vs S).forget hl
/-- slots that are forgotten may be anything -/
theorem St.wipeBack (hl : θ.length = τ.length) : ∀ (vs : List Nat) (σ : L2.St), St B K G0 F0 (θ ++ wipeA ρ vs) (τ ++ L2.wipe σ vs) H → St B K G0 F0 (θ ++ wipeA ρ vs) (τ ++ σ) H := by
  intro vs σ S
  have l0 := S.len
  have l1 : (wipeA ρ vs).length = σ.length := by
    have := wipe_len σ vs
    simp at l0
    omega
  -- by places
  have key : ∀ (vs : List Nat) (i : Nat), (L2.wipe σ vs)[i]? = σ[i]? ∨ (wipeA ρ vs)[i]? = some .un ∨ (wipeA ρ vs)[i]? = none := by
    intro vs
    induction vs with
    | nil => exact fun i => .inl rfl
    | cons v vs ih =>
      intro i
      by_cases h : v = i
      · subst h
        by_cases hv : v < (wipeA ρ vs).length
        · exact .inr (.inl (by show ((wipeA ρ vs).set v .un)[v]? = _; rw [List.getElem?_set_self hv]))
        · exact .inr (.inr (by show ((wipeA ρ vs).set v .un)[v]? = _; rw [List.getElem?_eq_none (by rw [List.length_set]; omega)]))
      · show ((L2.wipe σ vs).set v none)[i]? = _ ∨ ((wipeA ρ vs).set v .un)[i]? = _ ∨ ((wipeA ρ vs).set v .un)[i]? = _
        rw [List.getElem?_set_ne h, List.getElem?_set_ne h]
        exact ih i
  obtain ⟨G, F, k, s⟩ := S.ex
  refine ⟨G, F, k, by simp; omega, fun j a ha => ?_, fun i j ds es p e1 e2 e3 e4 => ?_⟩
  · by_cases z : j < θ.length
    · obtain ⟨x, hx, ok⟩ := s.ok j a ha
      rw [List.getElem?_append_left (by omega)] at hx ⊢
      exact ⟨x, hx, ok⟩
    · obtain ⟨m, rfl⟩ : ∃ m, j = θ.length + m := ⟨j - θ.length, by omega⟩
      have ha' := ha
      rw [app_at] at ha'
      have hm : m < σ.length := by
        have := (List.getElem?_eq_some_iff.mp ha').1
        omega
      rcases key vs m with h | h | h
      · obtain ⟨x, hx, ok⟩ := s.ok _ a ha
        rw [hl, app_at] at hx ⊢
        rw [h] at hx
        exact ⟨x, hx, ok⟩
      · rw [h] at ha'
        cases ha'
        rw [hl, app_at]
        exact ⟨_, List.getElem?_eq_getElem hm, trivial⟩
      · rw [h] at ha'
        cases ha'
  · have tr : ∀ (j : Nat) (es : List PyData), (θ ++ wipeA ρ vs)[j]? = some (A.own es) → (τ ++ L2.wipe σ vs)[j]? = (τ ++ σ)[j]? := by
      intro j es h
      by_cases z : j < θ.length
      · rw [List.getElem?_append_left (by omega), List.getElem?_append_left (by omega)]
      · obtain ⟨m, rfl⟩ : ∃ m, j = θ.length + m := ⟨j - θ.length, by omega⟩
        rw [app_at] at h
        rw [hl, app_at, app_at]
        rcases key vs m with h2 | h2 | h2
        · exact h2
        · rw [h2] at h
          cases h
        · rw [h2] at h
          cases h
    exact s.nd i j ds es p e1 e2 (by rw [tr i ds e1]; exact e3) (by rw [tr j es e2]; exact e4)
end
end Lf
namespace Lf
open PySem PySem.Spec PyProof.Rows L2 Sx
abbrev Wno : Wx := fun _ _ _ _ => False
/-- a target that stores in these slots alone -/
def TgOk (vs : List Nat) (g : TG) : Prop := ∀ (v : V) (σ σ0 : L2.St) (H : Hp) (Q Q' : L2.St → Hp → Prop), L2.wipe σ vs = σ0 → g v σ H Q → (∀ σ2 H2, L2.wipe σ2 vs = σ0 → Q σ2 H2 → Q' σ2 H2) → g v σ H Q'
def TgsOk (vs : List Nat) (g : TGs) : Prop := ∀ (us : List V) (σ σ0 : L2.St) (H : Hp) (Q Q' : L2.St → Hp → Prop), L2.wipe σ vs = σ0 → g us σ H Q → (∀ σ2 H2, L2.wipe σ2 vs = σ0 → Q σ2 H2 → Q' σ2 H2) → g us σ H Q'
theorem wipe_set : ∀ (vs : List Nat) (σ : L2.St) (i : Nat) (x : Option V), i ∈ vs → L2.wipe (σ.set i x) vs = L2.wipe σ vs := by
  have comm : ∀ (vs : List Nat) (σ : L2.St) (i : Nat) (x : Option V), i ∉ vs → L2.wipe (σ.set i x) vs = (L2.wipe σ vs).set i x := by
    intro vs
    induction vs with
    | nil => exact fun _ _ _ _ => rfl
    | cons v vs ih =>
      intro σ i x h
      have h1 : i ≠ v := fun e => h (by rw [e]; exact List.mem_cons_self)
      have h2 : i ∉ vs := fun e => h (List.mem_cons_of_mem _ e)
      show (L2.wipe (σ.set i x) vs).set v none = ((L2.wipe σ vs).set v none).set i x
      rw [ih σ i x h2, List.set_comm _ _ h1]
  intro vs
  induction vs with
  | nil => exact fun _ _ _ h => nomatch h
  | cons v vs ih =>
    intro σ i x h
    show (L2.wipe (σ.set i x) vs).set v none = (L2.wipe σ vs).set v none
    by_cases hi : i ∈ vs
    · rw [ih σ i x hi]
    · have hv : i = v := by
        rcases List.mem_cons.mp h with h | h
        · exact h
        · exact absurd h hi
      subst hv
      rw [comm vs σ i x hi, List.set_set]
theorem tg_name {vs : List Nat} {i : Nat} (h : i ∈ vs) : TgOk vs (gName i) := fun v σ σ0 H Q Q' e q k => k _ _ (by rw [wipe_set vs σ i _ h]; exact e) q
theorem tgs_nil {vs : List Nat} : TgsOk vs L2.gNil := fun us σ σ0 H Q Q' e q k => ⟨q.1, k _ _ e q.2⟩
theorem tgs_cons {vs : List Nat} {g : TG} {gs : TGs} (h1 : TgOk vs g) (h2 : TgsOk vs gs) : TgsOk vs (L2.gCons g gs) := by
  rintro us σ σ0 H Q Q' e ⟨v, r, rfl, q⟩ k
  exact ⟨v, r, rfl, h1 v σ σ0 H _ _ e q fun σ2 H2 e2 q2 => h2 r σ2 σ0 H2 _ _ e2 q2 k⟩
theorem tg_tup {K : PySem.W.Frag} {vs : List Nat} {n : Nat} {gs : TGs} (h : TgsOk vs gs) : TgOk vs (gTup K n gs) := by
  rintro v σ σ0 H Q Q' e ⟨a, xs, rfl, h1, h2, q⟩ k
  exact ⟨a, xs, rfl, h1, h2, h xs σ σ0 H _ _ e q k⟩
section
variable {B : Bx} {K : PySem.W.Frag} {W : Wx} {G0 F0 H : Hp} {θ ρ as bs : List A} {τ xs ys : List (Option V)} {σ : L2.St} {a b : A} {x : Option V} {v w : V}
variable {ta tb tc te : TE} {fa fb fc fe : AEx} {tt tu : TT} {ft fu : ATx} {ts us : TS} {fs gs : ASx} {tg : TG} {fg : AGx} {wi : TI} {fi : AIx}
theorem wno_ok : WOk B K Wno G0 F0 θ τ (fun _ _ => False) := fun _ _ _ _ _ _ z _ => z.elim
theorem big_size {n : Nat} (h : n < 4000000) : n < sizeLine := Nat.lt_of_lt_of_le h (by decide)
theorem wipe_wipe (σ : L2.St) : ∀ vs : List Nat, L2.wipe (L2.wipe σ vs) vs = L2.wipe σ vs := by
  have key : ∀ (vs ws : List Nat), (∀ i ∈ ws, i ∈ vs) → L2.wipe (L2.wipe σ vs) ws = L2.wipe σ vs := by
    intro vs ws
    induction ws with
    | nil => exact fun _ => rfl
    | cons u ws ih =>
      intro h
      show (L2.wipe (L2.wipe σ vs) ws).set u none = L2.wipe σ vs
      rw [ih fun i hi => h i (List.mem_cons_of_mem _ hi)]
      have hu := h u List.mem_cons_self
      clear ih h
      induction vs with
      | nil => exact nomatch hu
      | cons v vs ih =>
        show ((L2.wipe σ vs).set v none).set u none = (L2.wipe σ vs).set v none
        by_cases e : u = v
        · rw [e, List.set_set]
        · rw [List.set_comm _ _ (fun z => e z.symm), ih (by
            rcases List.mem_cons.mp hu with h | h
            · exact absurd h e
            · exact h)]
  exact fun vs => key vs vs fun _ h => h
/-- one more item, that stands right behind -/
theorem alter_done {acc : List PyData} {d : PyData} {y : V} {p : Addr} {ws : List V} {cs : List A} {zs : List (Option V)} (alt : ∀ us, (∀ G F, Same G F → Same F H → Sl K G F0 F (.own acc :: .d d :: cs) (some (.ref p) :: some y :: zs) → DvAll K G ws acc → DvAll K G us (acc ++ [d])) → St B K G0 F0 (.own (acc ++ [d]) :: .d d :: cs) (some (.ref p) :: some y :: zs) (upd H p (.lst us))) :
    St B K G0 F0 (.own (acc ++ [d]) :: .d d :: cs) (some (.ref p) :: some y :: zs) (upd H p (.lst (ws ++ [y]))) := by
  refine alt _ fun G F s1 s2 s3 h => ?_
  obtain ⟨x, e, v, e2, hd⟩ := s3.ok 1 _ rfl
  cases e
  cases e2
  exact dva_app h (.cons hd .nil)
theorem le_comp {vs : List Nat} (li : LI B K W wi fi) (lg : LG B K Wno tg fg) (ok : TgOk vs tg) (lt : LT B K Wno tt ft) (le : LE B K Wno te fe) : LE B K W (L2.tLc wi tg tt te vs) (aComp fi fg ft fe vs) := by
  intro G0 F0 θ τ ρ σ H R Z Q hl S h q w
  refine li G0 F0 θ τ ρ σ H _ Z _ hl S h (fun J H1 θ1 τ1 ds ρ1 h1 hl1 S1 hJ => ?_) w
  obtain ⟨I, i0, step, last⟩ := h1
  intro D hD
  -- what is so at each turn
  let T : List PyData → List A → Hp → Prop := fun acc ρ' H => St B K G0 F0 (θ1 ++ (.own acc :: (θ ++ ρ'))) (τ1 ++ (some (.ref D) :: (τ ++ L2.wipe σ vs))) H
  have start : T [] (wipeA ρ1 vs) (upd H1 D (.lst [])) := by
    have S2 : St B K G0 F0 ((θ1 ++ θ) ++ wipeA ρ1 vs) ((τ1 ++ τ) ++ L2.wipe σ vs) H1 := St.wipe (by simp; omega) vs (by rw [List.append_assoc, List.append_assoc]; exact S1)
    rw [List.append_assoc, List.append_assoc] at S2
    exact St.back hl1 (S2.newL (ds := []) hD fun _ _ _ _ _ => .nil)
  refine ⟨fun i m H => i + m = ds.length ∧ ∃ acc ρ', I i acc ρ' ∧ T acc ρ' H, ⟨ds.length, by omega, [], _, i0, start⟩, ?_⟩
  rintro i m H ⟨hm, acc, ρ', hi, S⟩
  obtain ⟨j1, j2⟩ := hJ _ _ H i S
  by_cases z : i < ds.length
  · obtain ⟨j3, j4⟩ := j1 z
    refine .inr ⟨j3, fun H' => ∃ acc ρ', I (i + 1) acc ρ' ∧ T acc ρ' H', fun H' ⟨acc, ρ', h1, h2⟩ => ⟨m - 1, by omega, by omega, acc, ρ', h1, h2⟩, fun x H' hy => ?_⟩
    have S2 := j4 x H' hy
    have hl2 : (θ1 ++ (.own acc :: θ)).length = (τ1 ++ (some (V.ref D) :: τ)).length := by simp; omega
    have S3 : St B K G0 F0 (.d (ds.getD i .none) :: ((θ1 ++ (.own acc :: θ)) ++ ρ')) (some x :: ((τ1 ++ (some (V.ref D) :: τ)) ++ L2.wipe σ vs)) H' := by
      rw [List.append_assoc, List.append_assoc]
      exact S2
    refine ok x (L2.wipe σ vs) (L2.wipe σ vs) H' _ _ (wipe_wipe σ vs) (lg G0 F0 (θ1 ++ (.own acc :: θ)) (τ1 ++ (some (V.ref D) :: τ)) ρ' (L2.wipe σ vs) H' _ x _ _ (fun σ2 H2 => ∀ e : L2.wipe σ2 vs = L2.wipe σ vs, tt σ2 H2 fun b H3 => if b = true then te σ2 H3 fun y H4 => ∃ acc, H4 D = some (.lst acc) ∧ acc.length < sizeLine ∧ ∃ acc' ρ', I (i + 1) acc' ρ' ∧ T acc' ρ' (upd H4 D (.lst (acc ++ [y]))) else ∃ acc ρ', I (i + 1) acc ρ' ∧ T acc ρ' H3) hl2 S3 (step i acc ρ' z hi) (fun ρ2 σ2 H2 h2 S4 e2 => ?_) wno_ok) fun σ2 H2 e2 q2 => ⟨e2, q2 e2⟩
    refine lt G0 F0 _ _ ρ2 σ2 H2 _ _ _ hl2 S4 h2 (fun b H3 ρ3 h3 S5 => ?_) wno_ok
    cases b with
    | false =>
      refine ⟨acc, wipeA ρ3 vs, h3, ?_⟩
      have S6 := St.wipe hl2 vs S5
      rw [e2, List.append_assoc, List.append_assoc] at S6
      exact S6
    | true =>
      refine le G0 F0 _ _ ρ3 σ2 H3 _ _ _ hl2 S5 h3 (fun y H4 a ρ4 h4 S6 => ?_) wno_ok
      obtain ⟨d, ⟨hz, k⟩, S7⟩ := S6.on h4
      have S8 : St B K G0 F0 (.d d :: ((θ1 ++ (.own acc :: θ)) ++ wipeA ρ4 vs)) (some y :: ((τ1 ++ (some (V.ref D) :: τ)) ++ L2.wipe σ vs)) H4 := by
        rw [← e2]
        exact St.wipe (θ := .d d :: (θ1 ++ (.own acc :: θ))) (τ := some y :: (τ1 ++ (some (V.ref D) :: τ))) (congrArg (· + 1) hl2) vs S7
      rw [List.append_assoc, List.append_assoc] at S8
      have S9 : St B K G0 F0 (.own acc :: ((.d d :: θ1) ++ (θ ++ wipeA ρ4 vs))) (some (V.ref D) :: ((some y :: τ1) ++ (τ ++ L2.wipe σ vs))) H4 := St.front (as := .d d :: θ1) (xs := some y :: τ1) (congrArg (· + 1) hl1) S8
      obtain ⟨p, ws, e, eH, lw, _, alt⟩ := S9.alter (es := acc ++ [d])
      cases e
      refine ⟨ws, eH, big_size (by omega), acc ++ [d], wipeA ρ4 vs, k, ?_⟩
      have S10 := alter_done alt
      exact (St.back (as := .d d :: θ1) (xs := some y :: τ1) (congrArg (· + 1) hl1) S10).pop
  · have hi' : i = ds.length := by omega
    refine .inl ⟨j2 (by omega), q (.ref D) H _ _ (last acc ρ' (by rw [← hi']; exact hi)) ?_⟩
    have S2 : St B K G0 F0 (.own acc :: (θ ++ ρ')) (some (.ref D) :: (τ ++ L2.wipe σ vs)) H := S.pops hl1
    have S3 : St B K G0 F0 ((.own acc :: θ) ++ wipeA ρ' vs) ((some (V.ref D) :: τ) ++ L2.wipe (L2.wipe σ vs) vs) H := St.wipe (θ := .own acc :: θ) (τ := some (V.ref D) :: τ) (congrArg (· + 1) hl) vs S2
    rw [wipe_wipe] at S3
    exact St.wipeBack (θ := .own acc :: θ) (τ := some (V.ref D) :: τ) (congrArg (· + 1) hl) vs σ S3
end
end Lf
namespace Lf
open PySem PySem.Spec PyProof.Rows L2 Sx

/-! ### into a def and out of it -/
section
variable {B : Bx} {K : PySem.W.Frag} {W : Wx} {G0 F0 H H' : Hp} {θ ρ as bs : List A} {τ xs ys : List (Option V)} {σ : L2.St} {a b : A} {x : Option V} {v w : V}
theorem VOk.any {G F F0' F' : Hp} (h : VOk K G F0 F a x) (n : a.isOwn = false) : VOk K G F0' F' a x := by
  cases a with
  | un => exact trivial
  | raw v => exact h
  | d y => exact h
  | own ds => exact nomatch n
theorem St.enter {vs : List V} (hl : as.length = vs.length) (n : ∀ a ∈ as, a.isOwn = false) (S : St B K G0 F0 (as ++ bs) (vs.map some ++ xs) H) :
    ∃ G F, Kn B G0 F0 G F H ∧ Sl K G F0 F bs xs ∧ ∀ m, St B K G F (as ++ List.replicate m .un) (vs.map some ++ List.replicate m none) H := by
  obtain ⟨G, F, k, s⟩ := S.ex
  have hl' : as.length = (vs.map some).length := by rw [List.length_map]; exact hl
  have sb : Sl K G F0 F bs xs := by
    have key : ∀ (as : List A) (zs : List (Option V)), as.length = zs.length → Sl K G F0 F (as ++ bs) (zs ++ xs) → Sl K G F0 F bs xs := by
      intro as
      induction as with
      | nil =>
        intro zs h s
        cases zs with
        | nil => exact s
        | cons _ _ => exact nomatch h
      | cons a as ih =>
        intro zs h s
        cases zs with
        | nil => exact nomatch h
        | cons z zs => exact ih zs (Nat.succ.inj h) s.pop
    exact key as _ hl' s
  refine ⟨G, F, k, sb, fun m => ⟨G, F, .start k.B k.s, by simp [hl], fun i a h => ?_, fun i j ds es p e1 e2 _ _ => ?_⟩⟩
  · by_cases z : i < as.length
    · rw [List.getElem?_append_left z] at h
      obtain ⟨x, hx, ok⟩ := s.ok i a (by rw [List.getElem?_append_left z]; exact h)
      rw [List.getElem?_append_left (by omega)] at hx
      refine ⟨x, by rw [List.getElem?_append_left (by omega)]; exact hx, ok.any (n a (List.mem_of_getElem? h))⟩
    · rw [List.getElem?_append_right (by omega)] at h
      have hm := (List.getElem?_eq_some_iff.mp h).1
      rw [List.length_replicate] at hm
      rw [List.getElem?_replicate_of_lt hm] at h
      cases h
      exact ⟨none, by rw [List.getElem?_append_right (by omega), List.getElem?_replicate_of_lt (by omega)], trivial⟩
  · by_cases z : i < as.length
    · rw [List.getElem?_append_left z] at e1
      have := n _ (List.mem_of_getElem? e1)
      exact nomatch this
    · rw [List.getElem?_append_right (by omega)] at e1
      have hm := (List.getElem?_eq_some_iff.mp e1).1
      rw [List.length_replicate] at hm
      rw [List.getElem?_replicate_of_lt hm] at e1
      cases e1
theorem Sl.after {G F G1 F1 : Hp} (k : Kn B G0 F0 G F H) (k1 : Kn B G F G1 F1 H') (s : Sl K G F0 F bs xs) : Sl K G1 F0 F1 bs xs :=
  s.grow k1.sG fun p u e1 e2 e3 => ⟨by rw [e1]; exact k1.sF _ _ e1, k1.ap p e2 (by rw [e1]; exact fun z => nomatch z)⟩
theorem St.leave {G F : Hp} (k : Kn B G0 F0 G F H) (s : Sl K G F0 F bs xs) (S : St B K G F [a] [some v] H') : St B K G0 F0 (a :: bs) (some v :: xs) H' := by
  obtain ⟨G1, F1, k1, s1⟩ := S.ex
  refine ⟨G1, F1, k.trans k1, Sl.push (s.after k k1) ?_ fun ds z p hp j es hj hx => ?_⟩
  · obtain ⟨x, e, ok⟩ := s1.ok 0 _ rfl
    cases e
    cases a with
    | un => exact trivial
    | raw v => exact ok
    | d y => exact ok
    | own ds =>
      obtain ⟨p, ws, e, e1, e2, e3, e4⟩ := ok
      refine ⟨p, ws, e, e1, e2, k.old e3, e4⟩
  · subst z
    cases hp
    obtain ⟨x, e, ok⟩ := s1.ok 0 _ rfl
    cases e
    obtain ⟨q, ws, e, e1, e2, e3, e4⟩ := ok
    cases e
    obtain ⟨x, e5, q, ws2, e6, e7, _⟩ := s.ok j _ hj
    rw [hx] at e5
    cases e5
    cases e6
    rw [e7] at e3
    cases e3
theorem XS.leave {G F : Hp} {e : Ex} {cv : Value} {dd : Option Addr} (k : Kn B G0 F0 G F H) (s : Sl K G F0 F bs xs) (S : XS B K G F ρ σ H' e cv dd) : XS B K G0 F0 bs xs H' e cv dd := by
  obtain ⟨G1, F1, k1, s1, r⟩ := S.ex
  exact ⟨G1, F1, k.trans k1, s.after k k1, r⟩
/-- the state at a def's start -/
def unA : Nat → List A
  | 0 => []
  | n + 1 => .un :: unA n
theorem unA_eq : ∀ n : Nat, unA n = List.replicate n .un
  | 0 => rfl
  | n + 1 => by
    rw [List.replicate_succ, ← unA_eq n] <;> rfl
def ends0 (R : A → Prop) : AE := ⟨R, fun _ => False, fun _ => False, fun _ _ => False⟩
/-- a def that raises nothing -/
theorem run0 {box : V → Bx → Prop} {c : V → Ct} {N : List Str} {np : Nat} {vs : List V} {Q : VK} {E : XK} {t : TS} {f : V → ASx} (h : SpL K box c vs H Q E) (hn : vs.length = np)
    (hl : ∀ dk B, box dk B → LS B K Wno t (f dk)) (hf : ∀ dk as R Z, as.length = np → c dk as R Z → f dk (ends0 R) (fun _ => R (.d .none)) (as ++ unA (N.length - np))) :
    t { nx := fun _ H1 => Q .non H1, rt := Q } (L2.start N vs) H := by
  obtain ⟨dk, B, G0, F0, as, bs, xs, R, Z, hb, l, n, S, hc, hR, hZ⟩ := h
  obtain ⟨G, F, k, s, S1⟩ := S.enter l n
  have hz := hf dk as R Z (by omega) hc
  have S2 : St B K G F ([] ++ (as ++ unA (N.length - np))) ([] ++ L2.start N vs) H := by
    have := S1 (N.length - np)
    unfold L2.start
    rw [hn, unA_eq]
    exact this
  refine hl dk B hb G F [] [] _ _ H (ends0 R) _ _ rfl S2 hz ⟨fun ρ' σ' H' r S' => ?_, fun v a H' r S' => hR a v H' r (St.leave k s S'), fun ρ' σ' H' r S' => r.elim, fun ρ' σ' H' r S' => r.elim, fun e ρ' σ' H' cv dd z _ => z.elim⟩
  refine hR _ _ H' r (St.leave k s ?_)
  exact St.keepFirst (θ := []) (τ := []) rfl (S'.push (v := .non) (y := .none) fun _ => .non)
theorem sp_len {box : V → Bx → Prop} {c : V → Ct} {vs : List V} {Q : VK} {E : XK} {n : Nat} (hc : ∀ dk as R Z, c dk as R Z → as.length = n) (h : SpL K box c vs H Q E) : vs.length = n := by
  obtain ⟨dk, B, G0, F0, as, bs, xs, R, Z, hb, l, _, S, h, _⟩ := h
  rw [← l]
  exact hc dk as R Z h
end
end Lf
namespace Lf
open PySem PySem.Spec PyProof.Rows L2 Sx

/-! ### operators, told of data -/
def gI0 (k : Int → Int → PyData) : G2 := fun x y R => match x, y with
  | .int i, .int j => R (.d (k i j))
  | _, _ => False
def gI (C : Int → Int → Prop) (k : Int → Int → PyData) : G2 := fun x y R => match x, y with
  | .int i, .int j => C i j ∧ R (.d (k i j))
  | _, _ => False
def gU (k : Int → PyData) : G1 := fun x R => match x with
  | .int i => R (.d (k i))
  | _ => False
def isNone : PyData → Bool
  | .none => true
  | _ => false
def gIsN : G2 := fun x y R => match y with
  | .none => R (.d (.bool (isNone x)))
  | _ => False
def gNotN : G2 := fun x y R => match y with
  | .none => R (.d (.bool (!isNone x)))
  | _ => False
def gEq : G2 := fun x y R => x.plain = true ∧ y.plain = true ∧ min x.depth y.depth ≤ 64 ∧ R (.d (.bool (PyData.eqv x y)))
def gNe : G2 := fun x y R => x.plain = true ∧ y.plain = true ∧ min x.depth y.depth ≤ 64 ∧ R (.d (.bool (!PyData.eqv x y)))
def gIn : G2 := fun x y R => match y with
  | .list ys => PyData.plainAll ys = true ∧ x.plain = true ∧ min (PyData.depthAll ys) x.depth ≤ 60 ∧ R (.d (.bool (ys.any fun z => PyData.eqv z x)))
  | .tuple ys => PyData.plainAll ys = true ∧ x.plain = true ∧ min (PyData.depthAll ys) x.depth ≤ 60 ∧ R (.d (.bool (ys.any fun z => PyData.eqv z x)))
  | _ => False
def gNotIn : G2 := fun x y R => match y with
  | .list ys => PyData.plainAll ys = true ∧ x.plain = true ∧ min (PyData.depthAll ys) x.depth ≤ 60 ∧ R (.d (.bool (!ys.any fun z => PyData.eqv z x)))
  | .tuple ys => PyData.plainAll ys = true ∧ x.plain = true ∧ min (PyData.depthAll ys) x.depth ≤ 60 ∧ R (.d (.bool (!ys.any fun z => PyData.eqv z x)))
  | _ => False
def gIx : G2 := fun x y R => match x, y with
  | .tuple ds, .int i => ∃ d, atI ds i = some d ∧ R (.d d)
  | .list ds, .int i => ∃ d, atI ds i = some d ∧ R (.d d)
  | _, _ => False
def gCat : G2 := fun x y R => match x, y with
  | .tuple ds, .tuple es => ds.length + es.length ≤ 4000000 ∧ R (.d (.tuple (ds ++ es)))
  | .list ds, .list es => ds.length + es.length ≤ 4000000 ∧ R (.own (ds ++ es))
  | .int i, .int j => R (.d (.int (i + j)))
  | _, _ => False
def gMul : G2 := fun x y R => match x, y with
  | .int i, .int j => CMulW i j ∧ R (.d (.int (i * j)))
  | .tuple ds, .int k => ds ≠ [] ∧ 0 ≤ k ∧ k ≤ 1000 ∧ ds.length ≤ 1000 ∧ R (.d (.tuple (List.replicate k.toNat ds).flatten))
  | .list ds, .int k => 0 ≤ k ∧ ds.length * k.toNat ≤ 4000000 ∧ k < 2 ^ 63 ∧ R (.own (List.replicate k.toNat ds).flatten)
  | _, _ => False
def gCut : PyData → Option Int → Option Int → (A → Prop) → Prop := fun x lo hi R => match x with
  | .tuple ds => R (.d (.tuple (Sx.cutD ds lo hi)))
  | .list ds => R (.own (Sx.cutD ds lo hi))
  | _ => False
def intD : PyData → Bool
  | .int _ => true
  | .bool _ => true
  | _ => false
def boolD : PyData → Bool
  | .bool _ => true
  | _ => false
def strD : PyData → Bool
  | .str _ => true
  | _ => false
def gP (p : PyData → Bool) : G1 := fun x R => R (.d (.bool (p x)))
def gLen : GB := fun as R => A.one as fun a => a.seq fun ds => R (.d (.int (ds.length : Nat)))
def gTuple : GB := fun as R => A.one as fun a => a.seq fun ds => R (.d (.tuple ds))
def gList : GB := fun as R => A.one as fun a => a.seq fun ds => R (.own ds)
def gInt : GB := fun as R => match as with
  | [.d (.int i)] => R (.d (.int i))
  | [.d (.bool b)] => R (.d (.int (if b then 1 else 0)))
  | _ => False
def gAbs : GB := fun as R => match as with
  | [.d (.int i)] => R (.d (.int (if i < 0 then -i else i)))
  | _ => False
def gRepr : GB := fun as R => match as with
  | [.d x] => Shows x ∧ R (.d (.str x.shown))
  | _ => False
def boolsD : List PyData → Option (List Bool)
  | [] => some []
  | .bool b :: ds => (boolsD ds).map (b :: ·)
  | _ => none
def intsD : List PyData → Option (List Int)
  | [] => some []
  | .int i :: ds => (intsD ds).map (i :: ·)
  | _ => none
def gAll : GB := fun as R => match as with
  | [.d (.list ds)] => ∃ bs, boolsD ds = some bs ∧ R (.d (.bool (bs.all id)))
  | _ => False
def gAny : GB := fun as R => match as with
  | [.d (.list ds)] => ∃ bs, boolsD ds = some bs ∧ R (.d (.bool (bs.any id)))
  | _ => False
def gSum : GB := fun as R => match as with
  | [.d (.list ds)] => ∃ ns, intsD ds = some ns ∧ R (.d (.int ns.sum))
  | _ => False
def gGcd : GB := fun as R => match as with
  | [.d (.int i), .d (.int j)] => R (.d (.int ((Nat.gcd i.natAbs j.natAbs : Nat) : Int)))
  | _ => False
def gSorted : GB := fun as R => match as with
  | [.d (.list ds)] => ∃ ns, intsD ds = some ns ∧ ∀ ns' : List Int, ns'.Perm ns → ns'.Pairwise (· ≤ ·) → R (.own (ns'.map PyData.int))
  | _ => False

section
variable {K : PySem.W.Frag} {B : Bx} {W : Wx} {G0 F0 H : Hp} {θ ρ as bs : List A} {τ xs ys : List (Option V)} {σ : L2.St} {a b : A} {x : Option V} {v w : V}
/-- how data reads -/
theorem reads_of {X : Cx} {pins : List (Addr × Obj)} {σ : L2.St} {H : Hp} {s : Shared} (I : Inv X pins σ H s) {d : PyData} {v : V} {u : Value} (h : Dv X.K H v d) (p : d.plain = true) (r : RelV v u) : ∃ as, Reads s.heap u d as := by
  have key : ∀ d v, d.plain = true → Dv X.K H v d → Dp X.K H v d := by
    intro d
    refine PyData.rec (motive_1 := fun d => ∀ v, d.plain = true → Dv X.K H v d → Dp X.K H v d) (motive_2 := fun ds => ∀ vs, PyData.plainAll ds = true → DvAll X.K H vs ds → DpAll X.K H vs ds) (motive_3 := fun _ => True) (motive_4 := fun _ => True) ?_ ?_ ?_ ?_ ?_ ?_ ?_ ?_ ?_ ?_ ?_ ?_ d
    · intro v _ h; cases h; exact .non
    · intro b v _ h; cases h; exact .bl _
    · intro i v _ h; cases h; exact .int _
    · intro x v _ h; cases h; exact .str _
    · intro ds ih v p h
      cases h with
      | lst e ha => exact .lst (.of e) (ih _ p ha)
    · intro ds ih v p h
      cases h with
      | tup e ha => exact .tup e (ih _ p ha)
    · intro kvs _ v p h
      exact nomatch p
    · intro vs _ h; cases h; exact .nil
    · intro d ds h1 h2 vs p h
      have p' : d.plain = true ∧ PyData.plainAll ds = true := by simpa [PyData.plainAll] using p
      cases h with
      | cons r t => exact .cons (h1 _ p'.1 r) (h2 _ p'.2 t)
    · trivial
    · intros; trivial
    · intros; trivial
  exact Dp.reads I d v u (key d v p h) r
def rEqP (K : PySem.W.Frag) : R2 := fun x y H Q => ∃ d e, Dv K H x d ∧ Dv K H y e ∧ d.plain = true ∧ e.plain = true ∧ min d.depth e.depth ≤ 64 ∧ Q (.bl (PyData.eqv d e)) H
def rNeP (K : PySem.W.Frag) : R2 := fun x y H Q => ∃ d e, Dv K H x d ∧ Dv K H y e ∧ d.plain = true ∧ e.plain = true ∧ min d.depth e.depth ≤ 64 ∧ Q (.bl (!PyData.eqv d e)) H
theorem op_eqP {X : Cx} (hu : X.A.units + 64 < cLine) : OpR X (compareOp .Eq) (rEqP X.K) := by
  intro pins s σ H x y v u Q I rx ry h
  obtain ⟨d, e, hd, he, pd, pe, hz, q⟩ := h
  obtain ⟨as, r1⟩ := reads_of I hd pd rx
  obtain ⟨bs, r2⟩ := reads_of I he pe ry
  exact SeqAt.eq_plain r1 r2 pd pe (by omega) ⟨.bl _, H, I, rfl, q⟩
theorem op_neP {X : Cx} (hu : X.A.units + 64 < cLine) : OpR X (compareOp .NotEq) (rNeP X.K) := by
  intro pins s σ H x y v u Q I rx ry h
  obtain ⟨d, e, hd, he, pd, pe, hz, q⟩ := h
  obtain ⟨as, r1⟩ := reads_of I hd pd rx
  obtain ⟨bs, r2⟩ := reads_of I he pe ry
  exact SeqAt.ne_plain r1 r2 pd pe (by omega) ⟨.bl _, H, I, rfl, q⟩
def rInP (K : PySem.W.Frag) (neg : Bool) : R2 := fun x y H Q => ∃ d e ys, Dv K H x d ∧ Dv K H y e ∧ (e = .list ys ∨ e = .tuple ys) ∧ PyData.plainAll ys = true ∧ d.plain = true ∧ min (PyData.depthAll ys) d.depth ≤ 60 ∧ Q (.bl (if neg then !(ys.any fun z => PyData.eqv z d) else ys.any fun z => PyData.eqv z d)) H
theorem op_inP {X : Cx} (hu : X.A.units + 64 < cLine) : OpR X (compareOp .In) (rInP X.K false) := by
  intro pins s σ H x y v u Q I rx ry h
  obtain ⟨d, e, ys, hd, he, hc, pd, pe, hz, q⟩ := h
  obtain ⟨as, r1⟩ := reads_of I hd pe rx
  rcases hc with rfl | rfl
  · obtain ⟨bs, r2⟩ := reads_of I he (by rw [PyData.plain]; exact pd) ry
    exact SeqAt.in_list_data r2 r1 pd pe (by omega) ⟨.bl _, H, I, rfl, q⟩
  · obtain ⟨bs, r2⟩ := reads_of I he (by rw [PyData.plain]; exact pd) ry
    exact SeqAt.in_tuple_data r2 r1 pd pe (by omega) ⟨.bl _, H, I, rfl, q⟩
theorem op_notInP {X : Cx} (hu : X.A.units + 64 < cLine) : OpR X (compareOp .NotIn) (rInP X.K true) := by
  intro pins s σ H x y v u Q I rx ry h
  obtain ⟨d, e, ys, hd, he, hc, pd, pe, hz, q⟩ := h
  obtain ⟨as, r1⟩ := reads_of I hd pe rx
  rcases hc with rfl | rfl
  · obtain ⟨bs, r2⟩ := reads_of I he (by rw [PyData.plain]; exact pd) ry
    exact SeqAt.notIn_list_data r2 r1 pd pe (by omega) ⟨.bl _, H, I, rfl, q⟩
  · obtain ⟨bs, r2⟩ := reads_of I he (by rw [PyData.plain]; exact pd) ry
    exact SeqAt.notIn_tuple_data r2 r1 pd pe (by omega) ⟨.bl _, H, I, rfl, q⟩
/-- the two ahead, by the heap -/
theorem St.two {x y : PyData} (S : St B K G0 F0 (.d y :: .d x :: as) (some w :: some v :: xs) H) : Dv K H v x ∧ Dv K H w y := ⟨S.pop.get, S.get⟩
theorem ol_I0 {f : Int → Int → V} {k : Int → Int → PyData} (hk : ∀ i j G, Dv K G (f i j) (k i j)) : OpL K (rI0 f) (gI0 k) := by
  intro B G0 F0 as xs H v w x y R Q S h q
  cases x <;> cases y <;> try exact h.elim
  obtain ⟨h1, h2⟩ := S.two
  cases h1
  cases h2
  exact ⟨_, _, rfl, rfl, q _ H _ h (S.pop.pop.push fun G => hk _ _ G)⟩
theorem ol_I {C : Int → Int → Prop} {f : Int → Int → V} {k : Int → Int → PyData} (hk : ∀ i j G, Dv K G (f i j) (k i j)) : OpL K (rI C f) (gI C k) := by
  intro B G0 F0 as xs H v w x y R Q S h q
  cases x <;> cases y <;> try exact h.elim
  obtain ⟨h1, h2⟩ := S.two
  cases h1
  cases h2
  exact ⟨_, _, rfl, rfl, h.1, q _ H _ h.2 (S.pop.pop.push fun G => hk _ _ G)⟩
theorem ul_U {f : Int → V} {k : Int → PyData} (hk : ∀ i G, Dv K G (f i) (k i)) : UnL K (rU f) (gU k) := by
  intro B G0 F0 as xs H v x R Q S h q
  cases x <;> try exact h.elim
  have h1 := S.get
  cases h1
  exact ⟨_, rfl, q _ H _ h (S.pop.push fun G => hk _ G)⟩
theorem dv_non {G : Hp} {v : V} {x : PyData} (h : Dv K G v x) : decide (v = .non) = isNone x := by cases h <;> rfl
theorem ol_isN : OpL K (fun x y H Q => y = .non ∧ Q (.bl (decide (x = .non))) H) gIsN := by
  intro B G0 F0 as xs H v w x y R Q S h q
  cases y <;> try exact h.elim
  obtain ⟨h1, h2⟩ := S.two
  cases h2
  rw [dv_non h1]
  exact ⟨rfl, q _ H _ h (S.pop.pop.push fun G => .bl _)⟩
theorem ol_notN : OpL K (fun x y H Q => y = .non ∧ Q (.bl (!decide (x = .non))) H) gNotN := by
  intro B G0 F0 as xs H v w x y R Q S h q
  cases y <;> try exact h.elim
  obtain ⟨h1, h2⟩ := S.two
  cases h2
  rw [dv_non h1]
  exact ⟨rfl, q _ H _ h (S.pop.pop.push fun G => .bl _)⟩
theorem ol_eq : OpL K (rEqP K) gEq := fun B G0 F0 as xs H v w x y R Q S h q => ⟨x, y, S.two.1, S.two.2, h.1, h.2.1, h.2.2.1, q _ H _ h.2.2.2 (S.pop.pop.push fun G => .bl _)⟩
theorem ol_ne : OpL K (rNeP K) gNe := fun B G0 F0 as xs H v w x y R Q S h q => ⟨x, y, S.two.1, S.two.2, h.1, h.2.1, h.2.2.1, q _ H _ h.2.2.2 (S.pop.pop.push fun G => .bl _)⟩
theorem ol_in : OpL K (rInP K false) gIn := by
  intro B G0 F0 as xs H v w x y R Q S h q
  cases y <;> try exact h.elim
  · exact ⟨x, _, _, S.two.1, S.two.2, .inl rfl, h.1, h.2.1, h.2.2.1, q _ H _ h.2.2.2 (S.pop.pop.push fun G => .bl _)⟩
  · exact ⟨x, _, _, S.two.1, S.two.2, .inr rfl, h.1, h.2.1, h.2.2.1, q _ H _ h.2.2.2 (S.pop.pop.push fun G => .bl _)⟩
theorem ol_notIn : OpL K (rInP K true) gNotIn := by
  intro B G0 F0 as xs H v w x y R Q S h q
  cases y <;> try exact h.elim
  · exact ⟨x, _, _, S.two.1, S.two.2, .inl rfl, h.1, h.2.1, h.2.2.1, q _ H _ h.2.2.2 (S.pop.pop.push fun G => .bl _)⟩
  · exact ⟨x, _, _, S.two.1, S.two.2, .inr rfl, h.1, h.2.1, h.2.2.1, q _ H _ h.2.2.2 (S.pop.pop.push fun G => .bl _)⟩
theorem atI_dv {G : Hp} {ws : List V} {ds : List PyData} {i : Int} {d : PyData} (h : DvAll K G ws ds) (e : atI ds i = some d) : ∃ u, atI ws i = some u ∧ Dv K G u d := by
  unfold atI at e ⊢
  rw [dva_len h]
  cases e1 : ixN ds.length i with
  | none =>
    rw [e1] at e
    exact nomatch e
  | some j =>
    rw [e1] at e
    exact dva_at h e
/-- what can be done beside what is known -/
structure Opn (B : Bx) (K : PySem.W.Frag) (G0 F0 : Hp) (as : List A) (xs : List (Option V)) (H G : Hp) : Prop where
  sg : Same G H
  pu : ∀ u d, Dv K G u d → St B K G0 F0 (.d d :: as) (some u :: xs) H
  nt : ∀ p us ds, H p = none → DvAll K G us ds → St B K G0 F0 (.d (.tuple ds) :: as) (some (.ref p) :: xs) (upd H p (.tup us))
  nl : ∀ p us ds, H p = none → DvAll K G us ds → St B K G0 F0 (.own ds :: as) (some (.ref p) :: xs) (upd H p (.lst us))
theorem opn {G F : Hp} (k : Kn B G0 F0 G F H) (s : Sl K G F0 F as xs) : Opn B K G0 F0 as xs H G := by
  have S : St B K G0 F0 as xs H := ⟨G, F, k, s⟩
  refine ⟨k.gh, fun u d h => ⟨G, F, k, s.push ⟨_, rfl, h⟩ fun ds z => nomatch z⟩, fun p us ds np h => ?_, fun p us ds np h => ?_⟩
  · have nF := k.sub.free np
    have nG := k.s.free nF
    have sg : Same G (upd G p (.tup us)) := same_new nG
    refine ⟨_, _, k.newG np (.tup us), Sl.push (s.grow sg fun q u e1 e2 e3 => ?_) ⟨_, rfl, .tup (.of upd_same) (dva_same sg _ _ h)⟩ fun ds z => nomatch z⟩
    have hq := ne_of_none e1 nF
    exact ⟨upd_ne hq, by rw [upd_ne hq]; exact e2⟩
  · have nF := k.sub.free np
    have nG := k.s.free nF
    refine ⟨_, _, k.newF np (.lst us), Sl.push (s.grow (Same.refl _) fun q u e1 e2 e3 => ?_) ⟨p, us, rfl, upd_same, nG, k.old nF, h⟩ fun ds z q e j es e2 e3 => ?_⟩
    · exact ⟨upd_ne (ne_of_none e1 nF), e2⟩
    · cases e
      obtain ⟨x, e4, q, ws, e5, e6, _⟩ := s.ok j _ e2
      rw [e3] at e4
      cases e4
      cases e5
      rw [nF] at e6
      cases e6
/-- what stands ahead, by what data stands on -/
theorem St.open2 {x y : PyData} (S : St B K G0 F0 (.d y :: .d x :: as) (some w :: some v :: xs) H) : ∃ G, Dv K G v x ∧ Dv K G w y ∧ Opn B K G0 F0 as xs H G := by
  obtain ⟨G, F, k, s⟩ := S.ex
  obtain ⟨z, ez, v', e3, hd⟩ := s.ok 1 _ rfl
  cases ez
  cases e3
  obtain ⟨z, ez, w', e3, hd2⟩ := s.ok 0 _ rfl
  cases ez
  cases e3
  exact ⟨G, hd, hd2, opn k s.pop.pop⟩
theorem St.open1 {x : PyData} (S : St B K G0 F0 (.d x :: as) (some v :: xs) H) : ∃ G, Dv K G v x ∧ Opn B K G0 F0 as xs H G := by
  obtain ⟨G, F, k, s⟩ := S.ex
  obtain ⟨z, ez, v', e3, hd⟩ := s.ok 0 _ rfl
  cases ez
  cases e3
  exact ⟨G, hd, opn k s.pop⟩
theorem ol_ix : OpL K (rIx K) gIx := by
  intro B G0 F0 as xs H v w x y R Q S h q
  obtain ⟨G, h1, h2, O⟩ := S.open2
  have sg := O.sg
  have pu := O.pu
  cases x <;> cases y <;> try exact h.elim
  · obtain ⟨d, e, r⟩ := h
    cases h2
    obtain ⟨p, ws, rfl, e1, ha⟩ := lst_in h1
    obtain ⟨u, e2, hu⟩ := atI_dv ha e
    exact .inl ⟨p, ws, _, u, rfl, rfl, .of (sg _ _ e1), e2, q _ H _ r (pu _ _ hu)⟩
  · obtain ⟨d, e, r⟩ := h
    cases h2
    obtain ⟨p, ws, rfl, e1, ha⟩ := tup_in h1
    obtain ⟨u, e2, hu⟩ := atI_dv ha e
    exact .inr (.inl ⟨p, ws, _, u, rfl, rfl, Sx.Same.tup sg e1, e2, q _ H _ r (pu _ _ hu)⟩)
theorem szL {n : Nat} (h : n ≤ 4000000) : n ≤ sizeLine := Nat.le_trans h (by decide)
/-- + of tuples, of lists, of ints -/
def rPlus (K : PySem.W.Frag) : R2 := fun x y H Q => rCatA K x y H Q ∨ rCat x y H Q ∨ rI0 (fun i j => .int (i + j)) x y H Q
theorem op_plus {X : Cx} : OpR X (binaryOp .Add) (rPlus X.K) := L2.OpR.or op_catA (L2.OpR.or op_cat op_add)
theorem ol_plus : OpL K (rPlus K) gCat := by
  intro B G0 F0 as xs H v w x y R Q S h q
  obtain ⟨G, h1, h2, O⟩ := S.open2
  have sg := O.sg
  have pu := O.pu
  cases x <;> cases y <;> try exact h.elim
  · cases h1
    cases h2
    exact .inr (.inr ⟨_, _, rfl, rfl, q _ H _ h (pu _ _ (.int _))⟩)
  · obtain ⟨hz, r⟩ := h
    obtain ⟨p, ws, rfl, e1, ha⟩ := lst_in h1
    obtain ⟨p2, ws2, rfl, e2, ha2⟩ := lst_in h2
    have l1 := dva_len ha
    have l2 := dva_len ha2
    exact .inr (.inl ⟨p, p2, ws, ws2, rfl, rfl, sg _ _ e1, sg _ _ e2, szL (by omega), fun n nn => q _ _ _ r (O.nl _ _ _ nn (dva_app ha ha2))⟩)
  · obtain ⟨hz, r⟩ := h
    obtain ⟨p, ws, rfl, e1, ha⟩ := tup_in h1
    obtain ⟨p2, ws2, rfl, e2, ha2⟩ := tup_in h2
    have l1 := dva_len ha
    have l2 := dva_len ha2
    have hc := dva_app ha ha2
    refine .inl ⟨p, p2, ws, ws2, rfl, rfl, Sx.Same.tup sg e1, Sx.Same.tup sg e2, szL (by omega), ?_, ?_, ?_⟩
    · rintro rfl
      exact q _ H _ r (pu _ _ (.tup e2 hc))
    · rintro _ rfl
      rw [List.append_nil] at hc
      exact q _ H _ r (pu _ _ (.tup e1 hc))
    · intro _ _ n nn
      exact q _ _ _ r (O.nt _ _ _ nn hc)
/-- * of ints, of a tuple and a count, of a list and a count -/
def rTimes (K : PySem.W.Frag) : R2 := fun x y H Q => rI CMulW (fun i j => .int (i * j)) x y H Q ∨ rRepZ K x y H Q ∨ rRep x y H Q
theorem op_times {X : Cx} : OpR X (binaryOp .Mult) (rTimes X.K) := L2.OpR.or op_mulW (L2.OpR.or op_repZ op_rep)
theorem ol_times : OpL K (rTimes K) gMul := by
  intro B G0 F0 as xs H v w x y R Q S h q
  obtain ⟨G, h1, h2, O⟩ := S.open2
  cases x <;> cases y <;> try exact h.elim
  · cases h1
    cases h2
    exact .inl ⟨_, _, rfl, rfl, h.1, q _ H _ h.2 (O.pu _ _ (.int _))⟩
  · rename_i ds k
    obtain ⟨k0, kz, k3, r⟩ := h
    cases h2
    obtain ⟨p, ws, rfl, e1, ha⟩ := lst_in h1
    have l1 := dva_len ha
    exact .inr (.inr ⟨p, _, ws, rfl, rfl, O.sg _ _ e1, by omega, k3, by rw [l1]; exact szL kz, fun n nn => q _ _ _ r (O.nl _ _ _ nn (dva_rep ha _))⟩)
  · rename_i ds k
    obtain ⟨k0, k1, k2, k3, r⟩ := h
    cases h2
    obtain ⟨p, ws, rfl, e1, ha⟩ := tup_in h1
    have l1 := dva_len ha
    have hne : ws ≠ [] := fun e => k0 (List.eq_nil_of_length_eq_zero (by rw [← l1, e] <;> rfl))
    refine .inr (.inl ?_)
    have r2 := dva_rep ha k.toNat
    by_cases z2 : 2 ≤ k
    · exact .inl (.inl ⟨p, k, ws, rfl, rfl, Sx.Same.tup O.sg e1, hne, z2, k2, by omega, fun n nn => q _ _ _ r (O.nt _ _ _ nn r2)⟩)
    · by_cases z1 : k = 1
      · subst z1
        refine .inl (.inr ⟨p, ws, rfl, rfl, Sx.Same.tup O.sg e1, q _ H _ r (O.pu _ _ (.tup e1 ?_))⟩)
        have e3 : (List.replicate (Int.toNat 1) ws).flatten = ws := by simp
        rw [e3] at r2
        exact r2
      · obtain rfl : k = 0 := by omega
        exact .inr ⟨p, ws, rfl, rfl, Sx.Same.tup O.sg e1, hne, fun n nn => q _ _ _ r (O.nt _ _ _ nn r2)⟩
/-- slices of tuples and of lists -/
theorem sl_or {X : Cx} {r r' : V → Option Int → Option Int → Hp → VK → Prop} (h : L2.SlR X r) (h' : L2.SlR X r') : L2.SlR X fun x lo hi H Q => r x lo hi H Q ∨ r' x lo hi H Q := fun pins s σ H x v vl vu lo hi sl Q I r1 s1 p1 p2 q => q.elim (h pins s σ H x v vl vu lo hi sl Q I r1 s1 p1 p2) (h' pins s σ H x v vl vu lo hi sl Q I r1 s1 p1 p2)
def rCut (K : PySem.W.Frag) : V → Option Int → Option Int → Hp → VK → Prop := fun x lo hi H Q => rSlA K x lo hi H Q ∨ rSlL K x lo hi H Q
theorem sl_cut {X : Cx} : L2.SlR X (rCut X.K) := sl_or sl_tupA sl_list
theorem dva_cut {G : Hp} {vs : List V} {ds : List PyData} (h : DvAll K G vs ds) (lo hi : Option Int) : DvAll K G (cutV vs lo hi) (Sx.cutD ds lo hi) := by
  unfold cutV Sx.cutD
  rw [dva_len h]
  exact dva_take _ (dva_drop _ h)
theorem sll_cut : SlL K (rCut K) gCut := by
  intro B G0 F0 as xs H v x lo hi R Q S h q
  obtain ⟨G, h1, O⟩ := S.open1
  cases x <;> try exact h.elim
  · obtain ⟨p, ws, rfl, e1, ha⟩ := lst_in h1
    exact .inr ⟨p, ws, rfl, .of (O.sg _ _ e1), fun n nn => q _ _ _ h (O.nl _ _ _ nn (dva_cut ha lo hi))⟩
  · obtain ⟨p, ws, rfl, e1, ha⟩ := tup_in h1
    have hc := dva_cut ha lo hi
    refine .inl ⟨p, ws, rfl, Sx.Same.tup O.sg e1, fun hw => q _ H _ h (O.pu _ _ ?_), fun _ n nn => q _ _ _ h (O.nt _ _ _ nn hc)⟩
    have e : cutV ws lo hi = ws := by
      unfold cutV
      rw [hw.1, hw.2, List.drop_zero, Nat.sub_zero, List.take_length]
    rw [e] at hc
    exact .tup e1 hc
/-! ### builtins -/
theorem St.opens {cs : List PyData} {vs : List V} (l : cs.length = vs.length) (S : St B K G0 F0 (cs.map A.d ++ as) (vs.map some ++ xs) H) : ∃ G, DvAll K G vs cs ∧ Opn B K G0 F0 as xs H G := by
  obtain ⟨G, F, k, s⟩ := S.ex
  have hd := St.dts l s
  refine ⟨G, hd, opn k ?_⟩
  clear hd S
  induction cs generalizing vs with
  | nil =>
    cases vs with
    | nil => exact s
    | cons _ _ => exact nomatch l
  | cons c cs ih =>
    cases vs with
    | nil => exact nomatch l
    | cons v vs => exact ih (Nat.succ.inj l) s.pop
theorem cb_seq {a : A} {vs : List V} (hl : [a].length = vs.length) (S : St B K G0 F0 ([a] ++ as) (vs.map some ++ xs) H) {k : List PyData → Prop} (h : a.seq k) : ∃ ds, k ds ∧ ∃ v, vs = [v] ∧ ((St B K G0 F0 (.d (.tuple ds) :: as) (some v :: xs) H) ∨ St B K G0 F0 (.d (.list ds) :: as) (some v :: xs) H) := by
  match vs, hl with
  | [v], _ =>
    obtain ⟨ds, k1, S1⟩ := A.is_seq h S
    exact ⟨ds, k1, v, rfl, S1⟩
theorem one_of {k : A → Prop} (h : A.one as k) : ∃ a, as = [a] ∧ k a := by
  match as, h with
  | [a], h => exact ⟨a, rfl, h⟩
theorem cl_len : CbL K (Sx.rLenS K) gLen := by
  intro B G0 F0 cs as vs xs H R Q l n S h q
  obtain ⟨a, rfl, h⟩ := one_of h
  obtain ⟨ds, k, v, rfl, S1 | S1⟩ := cb_seq l S h
  · obtain ⟨G, h1, O⟩ := S1.open1
    obtain ⟨p, ws, rfl, e1, ha⟩ := tup_in h1
    exact ⟨p, ws, rfl, .inr (Sx.Same.tup O.sg e1), by rw [dva_len ha]; exact q _ H _ k (O.pu _ _ (.int _))⟩
  · obtain ⟨G, h1, O⟩ := S1.open1
    obtain ⟨p, ws, rfl, e1, ha⟩ := lst_in h1
    exact ⟨p, ws, rfl, .inl (.of (O.sg _ _ e1)), by rw [dva_len ha]; exact q _ H _ k (O.pu _ _ (.int _))⟩
theorem cl_tuple : CbL K (rTupS K) gTuple := by
  intro B G0 F0 cs as vs xs H R Q l n S h q
  obtain ⟨a, rfl, h⟩ := one_of h
  obtain ⟨ds, k, v, rfl, S1 | S1⟩ := cb_seq l S h
  · obtain ⟨G, h1, O⟩ := S1.open1
    obtain ⟨p, ws, rfl, e1, ha⟩ := tup_in h1
    exact ⟨p, ws, rfl, .inr ⟨Sx.Same.tup O.sg e1, q _ H _ k (O.pu _ _ h1)⟩⟩
  · obtain ⟨G, h1, O⟩ := S1.open1
    obtain ⟨p, ws, rfl, e1, ha⟩ := lst_in h1
    exact ⟨p, ws, rfl, .inl ⟨.of (O.sg _ _ e1), fun m nm => q _ _ _ k (O.nt _ _ _ nm ha)⟩⟩
theorem cl_list : CbL K (Sx.rListS K) gList := by
  intro B G0 F0 cs as vs xs H R Q l n S h q
  obtain ⟨a, rfl, h⟩ := one_of h
  obtain ⟨ds, k, v, rfl, S1 | S1⟩ := cb_seq l S h
  · obtain ⟨G, h1, O⟩ := S1.open1
    obtain ⟨p, ws, rfl, e1, ha⟩ := tup_in h1
    exact ⟨p, ws, rfl, .inr (Sx.Same.tup O.sg e1), fun m nm => q _ _ _ k (O.nl _ _ _ nm ha)⟩
  · obtain ⟨G, h1, O⟩ := S1.open1
    obtain ⟨p, ws, rfl, e1, ha⟩ := lst_in h1
    exact ⟨p, ws, rfl, .inl (.of (O.sg _ _ e1)), fun m nm => q _ _ _ k (O.nl _ _ _ nm ha)⟩
theorem cl_repr : CbL K (rShowD K) gRepr := by
  intro B G0 F0 cs as vs xs H R Q l n S h q
  match cs, vs, l, S, h with
  | [.d x], [v], _, S, h =>
    obtain ⟨G, h1, O⟩ := St.open1 S
    exact ⟨v, x, rfl, dv_dt _ _ (dv_same O.sg _ _ h1), h.1, q _ H _ h.2 (O.pu _ _ (.str _))⟩
def rInt1 : List V → Hp → VK → Prop := fun xs H Q => (∃ i, xs = [.int i] ∧ Q (.int i) H) ∨ ∃ k, xs = [.bl k] ∧ Q (.int (if k then 1 else 0)) H
theorem cl_int : CbL K rInt1 gInt := by
  intro B G0 F0 cs as vs xs H R Q l n S h q
  match cs, vs, l, S, h with
  | [.d (.int i)], [v], _, S, h =>
    obtain ⟨G, h1, O⟩ := St.open1 S
    cases h1
    exact .inl ⟨i, rfl, q _ H _ h (O.pu _ _ (.int _))⟩
  | [.d (.bool b)], [v], _, S, h =>
    obtain ⟨G, h1, O⟩ := St.open1 S
    cases h1
    exact .inr ⟨b, rfl, q _ H _ h (O.pu _ _ (.int _))⟩
def rAbs : List V → Hp → VK → Prop := fun xs H Q => ∃ i, xs = [.int i] ∧ Q (.int (if i < 0 then -i else i)) H
theorem cl_abs : CbL K rAbs gAbs := by
  intro B G0 F0 cs as vs xs H R Q l n S h q
  match cs, vs, l, S, h with
  | [.d (.int i)], [v], _, S, h =>
    obtain ⟨G, h1, O⟩ := St.open1 S
    cases h1
    exact ⟨i, rfl, q _ H _ h (O.pu _ _ (.int _))⟩
theorem dva_bools {G : Hp} : ∀ {ws : List V} {ds : List PyData} {bs : List Bool}, DvAll K G ws ds → boolsD ds = some bs → ws = bs.map V.bl
  | _, [], bs, h, e => by
    cases h
    cases e
    rfl
  | _, .bool b :: ds, bs, h, e => by
    cases h with
    | cons r t =>
      cases r
      obtain ⟨cs, e1, rfl⟩ := Option.map_eq_some_iff.mp (show (boolsD ds).map (b :: ·) = some bs from e)
      rw [dva_bools t e1] <;> rfl
  | _, .none :: _, _, _, e => nomatch e
  | _, .int _ :: _, _, _, e => nomatch e
  | _, .str _ :: _, _, _, e => nomatch e
  | _, .list _ :: _, _, _, e => nomatch e
  | _, .tuple _ :: _, _, _, e => nomatch e
  | _, .dict _ :: _, _, _, e => nomatch e
theorem dva_ints {G : Hp} : ∀ {ws : List V} {ds : List PyData} {bs : List Int}, DvAll K G ws ds → intsD ds = some bs → ws = bs.map V.int
  | _, [], bs, h, e => by
    cases h
    cases e
    rfl
  | _, .int b :: ds, bs, h, e => by
    cases h with
    | cons r t =>
      cases r
      obtain ⟨cs, e1, rfl⟩ := Option.map_eq_some_iff.mp (show (intsD ds).map (b :: ·) = some bs from e)
      rw [dva_ints t e1] <;> rfl
  | _, .none :: _, _, _, e => nomatch e
  | _, .bool _ :: _, _, _, e => nomatch e
  | _, .str _ :: _, _, _, e => nomatch e
  | _, .list _ :: _, _, _, e => nomatch e
  | _, .tuple _ :: _, _, _, e => nomatch e
  | _, .dict _ :: _, _, _, e => nomatch e
theorem dva_of_ints {G : Hp} : ∀ ns : List Int, DvAll K G (ns.map V.int) (ns.map PyData.int)
  | [] => .nil
  | _ :: ns => .cons (.int _) (dva_of_ints ns)
theorem cl_all : CbL K (rAll K) gAll := by
  intro B G0 F0 cs as vs xs H R Q l n S h q
  match cs, vs, l, S, h with
  | [.d (.list ds)], [v], _, S, ⟨bs, e, r⟩ =>
    obtain ⟨G, h1, O⟩ := St.open1 S
    obtain ⟨p, ws, rfl, e1, ha⟩ := lst_in h1
    have := dva_bools ha e
    subst this
    exact ⟨p, bs, rfl, .of (O.sg _ _ e1), q _ H _ r (O.pu _ _ (.bl _))⟩
theorem cl_any : CbL K (rAny K) gAny := by
  intro B G0 F0 cs as vs xs H R Q l n S h q
  match cs, vs, l, S, h with
  | [.d (.list ds)], [v], _, S, ⟨bs, e, r⟩ =>
    obtain ⟨G, h1, O⟩ := St.open1 S
    obtain ⟨p, ws, rfl, e1, ha⟩ := lst_in h1
    have := dva_bools ha e
    subst this
    exact ⟨p, bs, rfl, .of (O.sg _ _ e1), q _ H _ r (O.pu _ _ (.bl _))⟩
theorem cl_sum : CbL K (rSum K) gSum := by
  intro B G0 F0 cs as vs xs H R Q l n S h q
  match cs, vs, l, S, h with
  | [.d (.list ds)], [v], _, S, ⟨bs, e, r⟩ =>
    obtain ⟨G, h1, O⟩ := St.open1 S
    obtain ⟨p, ws, rfl, e1, ha⟩ := lst_in h1
    have := dva_ints ha e
    subst this
    exact ⟨p, bs, rfl, .of (O.sg _ _ e1), q _ H _ r (O.pu _ _ (.int _))⟩
theorem cl_sorted : CbL K (rSortedI K) gSorted := by
  intro B G0 F0 cs as vs xs H R Q l n S h q
  match cs, vs, l, S, h with
  | [.d (.list ds)], [v], _, S, ⟨bs, e, r⟩ =>
    obtain ⟨G, h1, O⟩ := St.open1 S
    obtain ⟨p, ws, rfl, e1, ha⟩ := lst_in h1
    have := dva_ints ha e
    subst this
    exact ⟨p, bs, rfl, .of (O.sg _ _ e1), fun ns' m h1 h2 nm => q _ _ _ (r ns' h1 h2) (O.nl _ _ _ nm (dva_of_ints ns'))⟩
theorem cl_gcd : CbL K rGcd gGcd := by
  intro B G0 F0 cs as vs xs H R Q l n S h q
  match cs, vs, l, S, h with
  | [.d (.int i), .d (.int j)], [v, w], _, S, h =>
    obtain ⟨G, h1, O⟩ := St.opens (cs := [.int i, .int j]) (vs := [v, w]) rfl S
    cases h1 with
    | cons r t =>
      cases r
      cases t with
      | cons r t =>
        cases r
        exact ⟨i, j, rfl, q _ H _ h (O.pu _ _ (.int _))⟩
/-- isinstance(e, a type of Python's own) -/
theorem le_isi {ta : TE} {fa : AEx} {n : String} {p : PyData → Bool} (hk : ∀ d, kitB (clsOf d) n = some (p d)) (la : LE B K W ta fa) : LE B K W (tCB (rIsi K) (tCons ta (tCons (tC (.ty n)) tNil))) (aUn (gP p) fa) := by
  intro G0 F0 θ τ ρ σ H R Z Q hl S h q w
  refine la G0 F0 θ τ ρ σ H _ Z _ hl S h (fun v H1 x ρ1 h1 S1 => ?_) w
  obtain ⟨d, k, S2⟩ := S1.on h1
  exact ⟨v, .ty n, _, _, p d, rfl, .ty n, tyx_of (dv_dt _ _ S2.get), kit_ty (hk d), q _ H1 _ ρ1 k (S2.pop.push fun _ => .bl _)⟩
theorem kit_lst (d : PyData) : kitB (clsOf d) "list" = some (match d with | .list _ => true | _ => false) := by
  cases d
  · exact (by decide +kernel : kitB "NoneType" "list" = some false)
  · exact (by decide +kernel : kitB "bool" "list" = some false)
  · exact (by decide +kernel : kitB "int" "list" = some false)
  · exact (by decide +kernel : kitB "str" "list" = some false)
  · exact (by decide +kernel : kitB "list" "list" = some true)
  · exact (by decide +kernel : kitB "tuple" "list" = some false)
  · exact (by decide +kernel : kitB "dict" "list" = some false)
theorem hk_int (d : PyData) : kitB (clsOf d) "int" = some (intD d) := by rw [kit_int]; cases d <;> rfl
theorem hk_bool (d : PyData) : kitB (clsOf d) "bool" = some (boolD d) := by rw [kit_bool]; cases d <;> rfl
theorem hk_str (d : PyData) : kitB (clsOf d) "str" = some (strD d) := by rw [kit_str]; cases d <;> rfl
end
end Lf
namespace Lf
open PySem PySem.Spec PyProof.Rows L2 Sx

/-! ### lists of its own that stand in slots -/
def A.ow : A → (List PyData → Prop) → Prop
  | .own ds, k => k ds
  | _, _ => False
def aApp (i : Nat) (fa : AEx) : AEx := fun ρ R Z => (sl ρ i).isOwn = true ∧ fa ρ (fun a ρ1 => a.on fun y => (sl ρ1 i).ow fun ds => ds.length < 4000000 ∧ R (.d .none) (ρ1.set i (.own (ds ++ [y])))) Z
def aPopAt (i : Nat) (fa : AEx) : AEx := fun ρ R Z => (sl ρ i).isOwn = true ∧ fa ρ (fun a ρ1 => a.it fun k => (sl ρ1 i).ow fun ds => 0 ≤ k ∧ k < (ds.length : Int) ∧ k < 2 ^ 63 ∧ R (.d (ds.getD k.toNat .none)) (ρ1.set i (.own (ds.eraseIdx k.toNat)))) Z
def aPop (i : Nat) : AEx := fun ρ R _ => (sl ρ i).ow fun ds => ds ≠ [] ∧ R (.d (ds.getD (ds.length - 1) .none)) (ρ.set i (.own ds.dropLast))
def aLenV (i : Nat) : AEx := fun ρ R _ => (sl ρ i).ow fun ds => R (.d (.int (ds.length : Nat))) ρ
def aIxV (i : Nat) (fk : AEx) : AEx := fun ρ R Z => (sl ρ i).isOwn = true ∧ fk ρ (fun k ρ1 => k.it fun j => (sl ρ1 i).ow fun ds => ∃ d, atI ds j = some d ∧ R (.d d) ρ1) Z
def aEqNilV (neg : Bool) (i : Nat) : AEx := fun ρ R _ => (sl ρ i).ow fun ds => PyData.plainAll ds = true ∧ R (.d (.bool (if neg then !ds.isEmpty else ds.isEmpty))) ρ
def aTupV (i : Nat) : AEx := fun ρ R _ => (sl ρ i).ow fun ds => R (.d (.tuple ds)) ρ
def gSetV (i : Nat) (fk : AEx) : AGx := fun a ρ R Z => (sl ρ i).isOwn = true ∧ fk ρ (fun k ρ1 => k.it fun j => a.on fun y => (sl ρ1 i).ow fun ds => ∃ n, ixN ds.length j = some n ∧ R (ρ1.set i (.own (ds.set n y)))) Z

section
variable {K : PySem.W.Frag} {B : Bx} {W : Wx} {G0 F0 H : Hp} {θ ρ as bs : List A} {τ xs ys : List (Option V)} {σ : L2.St} {a b : A} {x : Option V} {v w : V} {ta : TE} {fa : AEx}
theorem A.is_ow {k : List PyData → Prop} (h : a.ow k) : ∃ ds, a = .own ds ∧ k ds := by
  cases a with
  | own ds => exact ⟨ds, rfl, h⟩
  | un => exact h.elim
  | raw _ => exact h.elim
  | d _ => exact h.elim
theorem A.own_is (h : a.isOwn = true) : ∃ ds, a = .own ds := by
  cases a with
  | own ds => exact ⟨ds, rfl⟩
  | un => exact nomatch h
  | raw _ => exact nomatch h
  | d _ => exact nomatch h
theorem sl_own {i : Nat} {ds : List PyData} (e : sl ρ i = .own ds) : ρ[i]? = some (.own ds) := by
  have := sl_get (l := ρ) (i := i) (by rw [e]; exact fun z => nomatch z)
  rw [e] at this
  exact this
/-- a list of its own in a slot: where it stands, and how it changes -/
theorem St.own {i : Nat} {ds : List PyData} (hl : θ.length = τ.length) (S : St B K G0 F0 (θ ++ ρ) (τ ++ σ) H) (e : ρ[i]? = some (.own ds)) : ∃ p ws, σ[i]? = some (some (.ref p)) ∧ H p = some (.lst ws) ∧ ws.length = ds.length ∧ (∃ G, DvAll K G ws ds ∧ Same G H ∧ (∀ u d, Dv K G u d → St B K G0 F0 (.d d :: (θ ++ ρ)) (some u :: (τ ++ σ)) H) ∧
      ∀ n us es, H n = none → DvAll K G us es → St B K G0 F0 (.d (.tuple es) :: (θ ++ ρ)) (some (.ref n) :: (τ ++ σ)) (upd H n (.tup us))) ∧
    ∀ us es, (∀ G F, Same G F → Same F H → Sl K G F0 F (.own ds :: (θ ++ ρ.set i .un)) (some (.ref p) :: (τ ++ σ)) → DvAll K G ws ds → DvAll K G us es) → St B K G0 F0 (θ ++ ρ.set i (.own es)) (τ ++ σ) (upd H p (.lst us)) := by
  obtain ⟨x, hx, S1⟩ := S.takeOwn hl e
  have alt := fun es => S1.alter (es := es)
  obtain ⟨p, ws, rfl, eH, lw, _, _⟩ := alt []
  obtain ⟨G, F, k, s⟩ := S.ex
  obtain ⟨x', e1, p', ws', e2, e3, e4, e5, e6⟩ := s.ok (θ.length + i) _ (by rw [app_at]; exact e)
  rw [hl, app_at, hx] at e1
  cases e1
  cases e2
  have := k.sub _ _ e3
  rw [eH] at this
  cases this
  refine ⟨p, ws, hx, eH, lw, ⟨G, e6, k.gh, (opn k s).pu, (opn k s).nt⟩, fun us es hus => ?_⟩
  obtain ⟨p', ws', e7, e8, _, _, al⟩ := alt es
  cases e7
  rw [eH] at e8
  cases e8
  have S2 := (al us hus).set (i := i) hl
  rw [List.set_set] at S2
  have e9 : σ.set i (some (.ref p)) = σ := by
    obtain ⟨hi, e⟩ := List.getElem?_eq_some_iff.mp hx
    rw [← e, List.set_getElem_self]
  rw [e9] at S2
  exact S2
theorem le_app {i : Nat} (la : LE B K W ta fa) : LE B K W (tBM K "list" rAppend (tVar i) (tCons ta tNil)) (aApp i fa) := by
  intro G0 F0 θ τ ρ σ H R Z Q hl S h q w
  obtain ⟨h0, h⟩ := h
  obtain ⟨ds0, e0⟩ := A.own_is h0
  obtain ⟨p, ws, hx, eH, _⟩ := S.own hl (sl_own e0)
  refine ⟨.ref p, hx, .inl ⟨rfl, _, .of eH⟩, ?_⟩
  refine la G0 F0 θ τ ρ σ H _ Z _ hl S h (fun v H1 x ρ1 h1 S1 => ?_) w
  obtain ⟨d, k, S2⟩ := S1.on h1
  obtain ⟨ds, e1, hz, r⟩ := A.is_ow k
  obtain ⟨p', ws', hx', eH', lw, _, al⟩ := St.own (θ := .d d :: θ) (τ := some v :: τ) (congrArg (· + 1) hl) S2 (sl_own e1)
  rw [hx] at hx'
  cases hx'
  refine ⟨p, ws', v, rfl, rfl, eH', big_size (by omega), q .non _ _ _ r ?_⟩
  have S3 := al (ws' ++ [v]) (ds ++ [d]) fun G F s1 s2 s3 hd => by
    obtain ⟨z, ez, u, e3, hd2⟩ := s3.ok 1 _ rfl
    cases ez
    cases e3
    exact dva_app hd (.cons hd2 .nil)
  exact (St.pop S3).push fun _ => .non
theorem seqIx_nat {k : Int} {n : Nat} (h0 : 0 ≤ k) (h1 : k < (n : Int)) : seqIndex? k n = some k.toNat := PySem.StrLaws.seqIndex_nonneg h0 h1
theorem le_popAt {i : Nat} (la : LE B K W ta fa) : LE B K W (tBM K "list" rPopAt (tVar i) (tCons ta tNil)) (aPopAt i fa) := by
  intro G0 F0 θ τ ρ σ H R Z Q hl S h q w
  obtain ⟨h0, h⟩ := h
  obtain ⟨ds0, e0⟩ := A.own_is h0
  obtain ⟨p, ws, hx, eH, _⟩ := S.own hl (sl_own e0)
  refine ⟨.ref p, hx, .inl ⟨rfl, _, .of eH⟩, ?_⟩
  refine la G0 F0 θ τ ρ σ H _ Z _ hl S h (fun v H1 x ρ1 h1 S1 => ?_) w
  obtain ⟨j, rfl, k⟩ := A.is_it h1
  obtain ⟨ds, e1, j0, j1, j2, r⟩ := A.is_ow k
  have := S1.get
  cases this
  obtain ⟨p', ws', hx', eH', lw, ⟨G, hd, sg, pu, _⟩, al⟩ := St.own hl S1.pop (sl_own e1)
  rw [hx] at hx'
  cases hx'
  have hj : j.toNat < ws'.length := by omega
  obtain ⟨_, hy⟩ := dva_val hd (List.getElem?_eq_getElem hj)
  refine ⟨p, ws', j, j.toNat, ws'[j.toNat], rfl, rfl, eH', by omega, j2, seqIx_nat j0 (by omega), List.getElem?_eq_getElem hj, q _ _ _ _ r ?_⟩
  have S2 := pu _ _ hy
  obtain ⟨p', ws2, hx', eH2, lw, _, al⟩ := St.own (θ := .d (ds.getD j.toNat .none) :: θ) (τ := some ws'[j.toNat] :: τ) (congrArg (· + 1) hl) S2 (sl_own e1)
  rw [hx] at hx'
  cases hx'
  rw [eH'] at eH2
  cases eH2
  exact al _ _ fun G F s1 s2 s3 hd => dva_erase _ hd
theorem le_pop {i : Nat} : LE B K W (tBM0 K "list" rPop (tVar i)) (aPop i) := by
  intro G0 F0 θ τ ρ σ H R Z Q hl S h q w
  obtain ⟨ds, e0, hne, r⟩ := A.is_ow h
  obtain ⟨p, ws, hx, eH, lw, ⟨G, hd, sg, pu, _⟩, _⟩ := S.own hl (sl_own e0)
  have h1 : 0 < ds.length := List.length_pos_iff.mpr hne
  have hj : ws.length - 1 < ws.length := by omega
  obtain ⟨_, hy⟩ := dva_val hd (List.getElem?_eq_getElem hj)
  refine ⟨.ref p, hx, .inl ⟨rfl, _, .of eH⟩, p, ws, ws[ws.length - 1], rfl, rfl, eH, List.getElem?_eq_getElem hj, q _ _ _ _ (by rw [← lw] at r; exact r) ?_⟩
  have S2 := pu _ _ hy
  obtain ⟨p', ws2, hx', eH2, lw, _, al⟩ := St.own (θ := .d (ds.getD (ws.length - 1) .none) :: θ) (τ := some ws[ws.length - 1] :: τ) (congrArg (· + 1) hl) S2 (sl_own e0)
  rw [hx] at hx'
  cases hx'
  rw [eH] at eH2
  cases eH2
  exact al _ _ fun G F s1 s2 s3 hd => by
    rw [List.dropLast_eq_take, List.dropLast_eq_take, dva_len hd]
    exact dva_take _ hd
theorem le_lenV {i : Nat} : LE B K W (tCB (Sx.rLenS K) (tCons (tVar i) tNil)) (aLenV i) := by
  intro G0 F0 θ τ ρ σ H R Z Q hl S h q w
  obtain ⟨ds, e0, r⟩ := A.is_ow h
  obtain ⟨p, ws, hx, eH, lw, ⟨G, hd, sg, pu, _⟩, _⟩ := S.own hl (sl_own e0)
  exact ⟨.ref p, hx, p, ws, rfl, .inl (.of eH), by rw [lw]; exact q _ _ _ _ r (pu _ _ (.int _))⟩
theorem le_ixV {i : Nat} (la : LE B K W ta fa) : LE B K W (tOp (rIx K) (tVar i) ta) (aIxV i fa) := by
  intro G0 F0 θ τ ρ σ H R Z Q hl S h q w
  obtain ⟨h0, h⟩ := h
  obtain ⟨ds0, e0⟩ := A.own_is h0
  obtain ⟨p, ws, hx, eH, _⟩ := S.own hl (sl_own e0)
  refine ⟨.ref p, hx, ?_⟩
  refine la G0 F0 θ τ ρ σ H _ Z _ hl S h (fun v H1 x ρ1 h1 S1 => ?_) w
  obtain ⟨j, rfl, k⟩ := A.is_it h1
  obtain ⟨ds, e1, d, e2, r⟩ := A.is_ow k
  have := S1.get
  cases this
  obtain ⟨p', ws', hx', eH', lw, ⟨G, hd, sg, pu, _⟩, al⟩ := St.own hl S1.pop (sl_own e1)
  rw [hx] at hx'
  cases hx'
  obtain ⟨u, e3, hu⟩ := atI_dv hd e2
  exact .inl ⟨p, ws', _, u, rfl, rfl, .of eH', e3, q _ _ _ _ r (pu _ _ hu)⟩
theorem eqv_nil (ds : List PyData) : PyData.eqv (.list ds) (.list []) = ds.isEmpty := by
  cases ds <;> simp [PyData.eqv, PyData.eqvAll]
theorem le_neNilV {i : Nat} : LE B K W (tOp (rNeP K) (tVar i) (tLst tNil)) (aEqNilV true i) := by
  intro G0 F0 θ τ ρ σ H R Z Q hl S h q w
  obtain ⟨ds, e0, hp, r⟩ := A.is_ow h
  obtain ⟨p, ws, hx, eH, lw, ⟨G, hd, sg, pu, _⟩, _⟩ := S.own hl (sl_own e0)
  refine ⟨.ref p, hx, Nat.zero_le _, fun n nn => ?_⟩
  have s1 : Same H (upd H n (.lst [])) := same_new nn
  have e2 := s1 _ _ eH
  refine ⟨.list ds, .list [], .lst e2 (dva_same (sg.trans s1) _ _ hd), .lst upd_same .nil, by rw [PyData.plain]; exact hp, rfl, ?_, ?_⟩
  · exact Nat.le_trans (Nat.min_le_right _ _) (by decide)
  · rw [eqv_nil]
    exact q _ _ _ _ r ((pu (.bl (!ds.isEmpty)) (.bool _) (.bl _)).more s1)
theorem le_eqNilV {i : Nat} : LE B K W (tOp (rEqP K) (tVar i) (tLst tNil)) (aEqNilV false i) := by
  intro G0 F0 θ τ ρ σ H R Z Q hl S h q w
  obtain ⟨ds, e0, hp, r⟩ := A.is_ow h
  obtain ⟨p, ws, hx, eH, lw, ⟨G, hd, sg, pu, _⟩, _⟩ := S.own hl (sl_own e0)
  refine ⟨.ref p, hx, Nat.zero_le _, fun n nn => ?_⟩
  have s1 : Same H (upd H n (.lst [])) := same_new nn
  have e2 := s1 _ _ eH
  refine ⟨.list ds, .list [], .lst e2 (dva_same (sg.trans s1) _ _ hd), .lst upd_same .nil, by rw [PyData.plain]; exact hp, rfl, ?_, ?_⟩
  · exact Nat.le_trans (Nat.min_le_right _ _) (by decide)
  · rw [eqv_nil]
    exact q _ _ _ _ r ((pu (.bl ds.isEmpty) (.bool _) (.bl _)).more s1)
theorem le_tupV {i : Nat} : LE B K W (tCB (rTupS K) (tCons (tVar i) tNil)) (aTupV i) := by
  intro G0 F0 θ τ ρ σ H R Z Q hl S h q w
  obtain ⟨ds, e0, r⟩ := A.is_ow h
  obtain ⟨p, ws, hx, eH, lw, ⟨G, hd, sg, _, nt⟩, _⟩ := S.own hl (sl_own e0)
  exact ⟨.ref p, hx, p, ws, rfl, .inl ⟨.of eH, fun n nn => q _ _ _ _ r (nt _ _ _ nn hd)⟩⟩
theorem lg_setV {i : Nat} (la : LE B K W ta fa) : LG B K W (gSub (tVar i) ta rSetL) (gSetV i fa) := by
  intro G0 F0 θ τ ρ σ H a v R Z Q hl S h q w
  obtain ⟨h0, h⟩ := h
  obtain ⟨ds0, e0⟩ := A.own_is h0
  obtain ⟨p, ws, hx, eH, _⟩ := St.own (θ := a :: θ) (τ := some v :: τ) (congrArg (· + 1) hl) S (sl_own e0)
  refine ⟨.ref p, hx, ?_⟩
  refine la G0 F0 (a :: θ) (some v :: τ) ρ σ H _ Z _ (congrArg (· + 1) hl) S h (fun u H1 x ρ1 h1 S1 => ?_) w.push
  obtain ⟨j, e2, k⟩ := A.is_it h1
  subst e2
  have := S1.get
  cases this
  obtain ⟨y, k2, S2⟩ := S1.pop.on k
  obtain ⟨ds, e1, n, hn, r⟩ := A.is_ow k2
  obtain ⟨p', ws', hx', eH', lw, _, al⟩ := St.own (θ := .d y :: θ) (τ := some v :: τ) (congrArg (· + 1) hl) S2 (sl_own e1)
  rw [hx] at hx'
  cases hx'
  refine ⟨p, ws', j, n, rfl, rfl, eH', by rw [lw]; exact hn, q _ _ _ r (St.pop (al _ _ fun G F s1 s2 s3 hd => ?_))⟩
  obtain ⟨z, ez, u, e3, hd2⟩ := s3.ok 1 _ rfl
  cases ez
  cases e3
  exact dva_set hd2 _ hd
end

/-! ### from one promise to another one -/
theorem fn_mono {P : Program} {w : World} {K : PySem.W.Frag} {mg : Str → Option Value} {base : Heap} {CX : CXT} {k : Nat} {f : Addr} {fd : FuncData} {ps : List Str} {sp sp' : Sp} (F : FnOk P w K mg base CX k f fd ps sp) (h : ∀ vs H Q E, sp' vs H Q E → sp vs H Q E) : FnOk P w K mg base CX k f fd ps sp' :=
  ⟨fun vs H Q E z => F.len vs H Q E (h vs H Q E z), fun A out s H as us vs Q E hr e0 hb r z => F.run A out s H as us vs Q E hr e0 hb r (h vs H Q E z)⟩

/-! ### decks -/
def boxB (b g : Addr) : Bx := ⟨fun F H => Bs F H b g, Bs.sub, Bs.more, fun o => Bs.new, fun o => Bs.put, Bs.less⟩
def boxD (b g : Addr) : Bx := ⟨fun F H => Ds F H b g, Ds.sub, Ds.more, fun o => Ds.new, fun o => Ds.put, Ds.less⟩
def boxV (b g : Addr) : Bx := ⟨fun F H => Vs F H b g, Vs.sub, Vs.more, fun o => Vs.new, fun o => Vs.put, Vs.less⟩
def deckOf (box : Addr → Addr → Bx) : V → Bx → Prop := fun dk B => ∃ b g, dk = .ref b ∧ B = box b g
def cDraw : V → Ct := fun dk as R _ => match as with
  | [.raw v, .d (.int m)] => v = dk ∧ Small m ∧ ∀ r : Int, 0 ≤ r → r < m → R (.d (.int r))
  | _ => False
/-- draws: the deck alone changes -/
theorem draw_of {K : PySem.W.Frag} {Pb : Hp → Hp → Addr → Addr → Prop} {box : Addr → Addr → Bx} (hb : ∀ b g F H, (box b g).P F H ↔ Pb F H b g) {vs : List V} {H : Hp} {Q : VK} {E : XK} (h : SpL K (deckOf box) cDraw vs H Q E) :
    ∃ (H0 : Hp) (b g : Addr) (m : Int), vs = [.ref b, .int m] ∧ Pb H0 H b g ∧ Small m ∧ ∀ (r : Int) (H' : Hp), 0 ≤ r → r < m → Pb H0 H' b g → Q (.int r) H' := by
  obtain ⟨dk, B, G0, F0, as, bs, xs, R, Z, ⟨b, g, rfl, rfl⟩, l, n, S, hc, hR, hZ⟩ := h
  match as, vs, l, S, hc with
  | [.raw v, .d (.int m)], [u, w], _, S, hc =>
    obtain ⟨rfl, hm, hr⟩ := hc
    obtain ⟨G, F, k, s⟩ := S.ex
    obtain ⟨x, e, h0⟩ := s.ok 0 _ rfl
    cases e
    cases h0
    obtain ⟨x, e, w', e2, hd⟩ := s.ok 1 _ rfl
    cases e
    cases e2
    cases hd
    exact ⟨F, b, g, m, rfl, (hb b g F H).mp k.B, hm, fun r H' r0 r1 hP => hR _ _ H' (hr r r0 r1) ⟨G, F, ⟨(hb b g F H').mpr hP, k.sG, k.sF, k.s, k.ap⟩, s.pop.pop.push ⟨_, rfl, .int _⟩ fun ds z => nomatch z⟩⟩
end Lf
namespace Lf
open PySem PySem.Spec PyProof.Rows L2 Sx

/-! ### more rules -/
def aDnew : AEx := fun ρ R _ => R (.d (.dict [])) ρ
def gEqS : G2 := fun x y R => match y with
  | .str t => R (.d (.bool (isStr x t)))
  | _ => False
def gMax2 : GB := fun as R => match as with
  | [.d (.int i), .d (.int j)] => R (.d (.int (if j > i then j else i)))
  | _ => False
def gMin2 : GB := fun as R => match as with
  | [.d (.int i), .d (.int j)] => R (.d (.int (if j < i then j else i)))
  | _ => False
def aListRg (fa : AEx) : AEx := fun ρ R Z => fa ρ (fun a ρ1 => a.it fun n => -(2 ^ 62) ≤ n ∧ n ≤ 2 ^ 24 ∧ R (.own (rangeD 0 n.toNat)) ρ1) Z
section
variable {K : PySem.W.Frag} {B : Bx} {W : Wx} {G0 F0 H : Hp} {θ ρ as bs : List A} {τ xs ys : List (Option V)} {σ : L2.St} {a b : A} {x : Option V} {v w : V} {ta : TE} {fa : AEx}
theorem le_dnew : LE B K W L2.tDNewK aDnew := by
  intro G0 F0 θ τ ρ σ H R Z Q hl S h q w
  refine fun p np => ?_
  exact q _ _ _ _ h (S.newD np fun G F s1 s2 s3 G' sg e => .dct e)
theorem ol_eqS : OpL K (Sx.rEqS K) gEqS := by
  intro B G0 F0 as xs H v w x y R Q S h q
  obtain ⟨G, h1, h2, O⟩ := S.open2
  cases y <;> try exact h.elim
  cases h2
  exact ⟨x, _, dv_dt _ _ (dv_same O.sg _ _ h1), rfl, q _ H _ h (O.pu _ _ (.bl _))⟩
def rMax2 : List V → Hp → VK → Prop := fun xs H Q => ∃ i j : Int, xs = [.int i, .int j] ∧ Q (.int (if j > i then j else i)) H
def rMin2 : List V → Hp → VK → Prop := fun xs H Q => ∃ i j : Int, xs = [.int i, .int j] ∧ Q (.int (if j < i then j else i)) H
theorem cl_max2 : CbL K rMax2 gMax2 := by
  intro B G0 F0 cs as vs xs H R Q l n S h q
  match cs, vs, l, S, h with
  | [.d (.int i), .d (.int j)], [v, w], _, S, h =>
    obtain ⟨G, h1, O⟩ := St.opens (cs := [.int i, .int j]) (vs := [v, w]) rfl S
    cases h1 with
    | cons r t =>
      cases r
      cases t with
      | cons r t =>
        cases r
        exact ⟨i, j, rfl, q _ H _ h (O.pu _ _ (.int _))⟩
theorem cl_min2 : CbL K rMin2 gMin2 := by
  intro B G0 F0 cs as vs xs H R Q l n S h q
  match cs, vs, l, S, h with
  | [.d (.int i), .d (.int j)], [v, w], _, S, h =>
    obtain ⟨G, h1, O⟩ := St.opens (cs := [.int i, .int j]) (vs := [v, w]) rfl S
    cases h1 with
    | cons r t =>
      cases r
      cases t with
      | cons r t =>
        cases r
        exact ⟨i, j, rfl, q _ H _ h (O.pu _ _ (.int _))⟩
theorem dva_range {G : Hp} (lo : Int) (n : Nat) : DvAll K G ((List.range n).map fun i => V.int (lo + (i : Nat))) (rangeD lo n) := by
  unfold rangeD
  generalize List.range n = l
  induction l with
  | nil => exact .nil
  | cons i l ih => exact .cons (.int _) ih
theorem le_listRg (la : LE B K W ta fa) : LE B K W (tLstRg (tRg1 ta)) (aListRg fa) := by
  intro G0 F0 θ τ ρ σ H R Z Q hl S h q w
  refine la G0 F0 θ τ ρ σ H _ Z _ hl S h (fun v H1 x ρ1 h1 S1 => ?_) w
  obtain ⟨n, rfl, k1, k2, k⟩ := A.is_it h1
  have := S1.get
  cases this
  refine ⟨n, rfl, ⟨by omega, by omega, k1, by omega, by omega⟩, fun p np => ?_⟩
  obtain ⟨G, h1, O⟩ := St.open1 S1
  have := O.nl p _ _ np (dva_range (K := K) (G := G) 0 n.toNat)
  refine q _ _ _ _ k ?_
  have e : rgV 0 n = (List.range n.toNat).map fun i => V.int (0 + (i : Nat)) := by
    unfold rgV
    rw [Int.sub_zero]
  rw [e]
  exact this
def Cl (g : AGx) : Prop := ∀ a ρ k Z, g a ρ k Z → ∃ ρ', k ρ'
def Cls (gs : List A → List A → (List A → Prop) → Zo → Prop) : Prop := ∀ as ρ k Z, gs as ρ k Z → ∃ ρ', k ρ'
theorem cl_gN {i : Nat} : Cl (gN i) := fun a ρ k Z h => ⟨_, h⟩
theorem cls_nil : Cls gNil := fun as ρ k Z h => by
  cases as with
  | nil => exact ⟨_, h⟩
  | cons _ _ => exact h.elim
theorem cls_cons {g : AGx} {gs : List A → List A → (List A → Prop) → Zo → Prop} (h1 : Cl g) (h2 : Cls gs) : Cls (gCons g gs) := fun as ρ k Z h => by
  cases as with
  | nil => exact h.elim
  | cons a as =>
    obtain ⟨ρ1, h⟩ := h1 _ _ _ _ h
    exact h2 _ _ _ _ h
theorem cl_gT {gs : List A → List A → (List A → Prop) → Zo → Prop} (h2 : Cls gs) : Cl (gT gs) := fun a ρ k Z h => by
  cases a with
  | d y =>
    cases y with
    | tuple ds => exact h2 _ _ _ _ h
    | none => exact h.elim
    | bool _ => exact h.elim
    | int _ => exact h.elim
    | str _ => exact h.elim
    | list _ => exact h.elim
    | dict _ => exact h.elim
  | un => exact h.elim
  | raw _ => exact h.elim
  | own _ => exact h.elim
theorem two_tup {ds es : List PyData} {u u2 : V} (S : St B K G0 F0 (.d (.tuple es) :: .d (.tuple ds) :: as) (some u2 :: some u :: xs) H) : ∃ G p q ws zs, u = .ref p ∧ u2 = .ref q ∧ SqT K G p ws ∧ SqT K G q zs ∧ DvAll K G ws ds ∧ DvAll K G zs es ∧ Opn B K G0 F0 (.d (.tuple es) :: .d (.tuple ds) :: as) (some u2 :: some u :: xs) H G := by
  obtain ⟨G, F, k, s⟩ := S.ex
  obtain ⟨z, ez, v', e3, hd⟩ := s.ok 1 _ rfl
  cases ez
  cases e3
  obtain ⟨z, ez, w', e3, hd2⟩ := s.ok 0 _ rfl
  cases ez
  cases e3
  obtain ⟨p, ws, rfl, e1, h1⟩ := tup_in hd
  obtain ⟨q, zs, rfl, e2, h2⟩ := tup_in hd2
  exact ⟨G, p, q, ws, zs, rfl, rfl, e1, e2, h1, h2, opn k s⟩
theorem two_lst {ds es : List PyData} {u u2 : V} (S : St B K G0 F0 (.d (.list es) :: .d (.list ds) :: as) (some u2 :: some u :: xs) H) : ∃ G p q ws zs, u = .ref p ∧ u2 = .ref q ∧ SqL K G p ws ∧ SqL K G q zs ∧ DvAll K G ws ds ∧ DvAll K G zs es ∧ Opn B K G0 F0 (.d (.list es) :: .d (.list ds) :: as) (some u2 :: some u :: xs) H G := by
  obtain ⟨G, F, k, s⟩ := S.ex
  obtain ⟨z, ez, v', e3, hd⟩ := s.ok 1 _ rfl
  cases ez
  cases e3
  obtain ⟨z, ez, w', e3, hd2⟩ := s.ok 0 _ rfl
  cases ez
  cases e3
  obtain ⟨p, ws, rfl, e1, h1⟩ := lst_in hd
  obtain ⟨q, zs, rfl, e2, h2⟩ := lst_in hd2
  exact ⟨G, p, q, ws, zs, rfl, rfl, .of e1, .of e2, h1, h2, opn k s⟩
theorem ito_zipT {ds es : List PyData} {p q : Addr} : ItOk B K G0 F0 [.d (.tuple es), .d (.tuple ds)] [some (.ref q), some (.ref p)] (RZ.ItzT K p q) (zipD ds es) := by
  intro as xs H i S
  rw [zipD_len]
  obtain ⟨G, p', q', ws, zs, e1, e2, hp, hq, h1, h2, O⟩ := two_tup S
  cases e1
  cases e2
  have l1 := dva_len h1
  have l2 := dva_len h2
  have hp := Sx.Same.tup O.sg hp
  have hq := Sx.Same.tup O.sg hq
  refine ⟨fun hi => ⟨⟨ws, zs, _, _, hp, hq, List.getElem?_eq_getElem (by omega), List.getElem?_eq_getElem (by omega)⟩, ?_⟩, fun hi => ⟨ws, zs, hp, hq, by omega⟩⟩
  rintro x H' ⟨T, y, z, rfl, nT, rfl, f1, f2⟩
  rw [zipD_at hi]
  obtain ⟨_, hx⟩ := dva_val h1 (f1 ws hp)
  obtain ⟨_, hy⟩ := dva_val h2 (f2 zs hq)
  exact O.nt T _ _ nT (.cons hx (.cons hy .nil))
theorem ito_zipL {ds es : List PyData} {p q : Addr} : ItOk B K G0 F0 [.d (.list es), .d (.list ds)] [some (.ref q), some (.ref p)] (Itz K p q) (zipD ds es) := by
  intro as xs H i S
  rw [zipD_len]
  obtain ⟨G, p', q', ws, zs, e1, e2, hp, hq, h1, h2, O⟩ := two_lst S
  cases e1
  cases e2
  have l1 := dva_len h1
  have l2 := dva_len h2
  have hp := L2.Same.seq O.sg hp
  have hq := L2.Same.seq O.sg hq
  refine ⟨fun hi => ⟨⟨ws, zs, _, _, hp, hq, List.getElem?_eq_getElem (by omega), List.getElem?_eq_getElem (by omega)⟩, ?_⟩, fun hi => ⟨ws, zs, hp, hq, by omega⟩⟩
  rintro x H' ⟨T, y, z, rfl, nT, rfl, f1, f2⟩
  rw [zipD_at hi]
  obtain ⟨_, hx⟩ := dva_val h1 (f1 ws hp)
  obtain ⟨_, hy⟩ := dva_val h2 (f2 zs hq)
  exact O.nt T _ _ nT (.cons hx (.cons hy .nil))
theorem A.is_same2 {a b : A} {k : List PyData → List PyData → Prop} (h : A.same2 a.fz b.fz k) : (∃ ds es, a = .d (.tuple ds) ∧ b = .d (.tuple es) ∧ k ds es) ∨ (∃ ds es, a.fz = .d (.list ds) ∧ b.fz = .d (.list es) ∧ k ds es) := by
  have key : ∀ a b : A, (a.lst fun ds => b.lst fun es => k ds es) → ∃ ds es, a.fz = .d (.list ds) ∧ b.fz = .d (.list es) ∧ k ds es := by
    intro a b h
    have one : ∀ (a : A) (q : List PyData → Prop), a.lst q → ∃ ds, a.fz = .d (.list ds) ∧ q ds := by
      intro a q h
      cases a with
      | d y => cases y <;> first | exact ⟨_, rfl, h⟩ | exact h.elim
      | own ds => exact ⟨_, rfl, h⟩
      | un => exact h.elim
      | raw _ => exact h.elim
    obtain ⟨ds, e1, h⟩ := one a _ h
    obtain ⟨es, e2, h⟩ := one b _ h
    exact ⟨ds, es, e1, e2, h⟩
  have fz2 : ∀ a : A, a.fz.fz = a.fz := fun a => by cases a <;> rfl
  by_cases hT : ∃ ds es, a = .d (.tuple ds) ∧ b = .d (.tuple es)
  · obtain ⟨ds, es, rfl, rfl⟩ := hT
    exact .inl ⟨ds, es, rfl, rfl, h⟩
  · refine .inr ?_
    have h' : a.fz.lst fun ds => b.fz.lst fun es => k ds es := by
      unfold A.same2 at h
      split at h
      · rename_i e1 e2
        refine absurd ?_ hT
        rename_i ds es
        refine ⟨ds, es, ?_, ?_⟩
        · cases a with
          | d y => exact e1
          | own _ => cases e1
          | un => cases e1
          | raw _ => cases e1
        · cases b with
          | d y => exact e2
          | own _ => cases e2
          | un => cases e2
          | raw _ => cases e2
      · exact h
    have := key _ _ h'
    rw [fz2, fz2] at this
    exact this
theorem li_zip {tr : TA} {fr : AAx} (la : LAn 2 B K W tr fr) : LI B K W (RZ.iZipA K tr) (aZip fr) := by
  intro G0 F0 θ τ ρ σ H R Z Q hl S h q w
  refine la G0 F0 θ τ ρ σ H _ Z _ hl S h (fun vs H1 as ρ1 h1 l1 l2 S1 => ?_) w
  match as, vs, l1, l2, h1, S1 with
  | [a, b], [v, u], _, _, h1, S1 =>
    have S2 : St B K G0 F0 (b :: a :: (θ ++ ρ1)) (some u :: some v :: (τ ++ σ)) H1 := S1.swap2
    rcases A.is_same2 h1 with ⟨ds, es, rfl, rfl, k⟩ | ⟨ds, es, e1, e2, k⟩
    · obtain ⟨G, p, q', ws, zs, rfl, rfl, hp, hq, _, _, O⟩ := two_tup S2
      exact ⟨p, q', ws, zs, rfl, .inr ⟨Sx.Same.tup O.sg hp, Sx.Same.tup O.sg hq, q _ H1 [_, _] [_, _] _ ρ1 k rfl S2 ito_zipT⟩⟩
    · have S3 : St B K G0 F0 (.d (.list es) :: .d (.list ds) :: (θ ++ ρ1)) (some u :: some v :: (τ ++ σ)) H1 := by
        have := ((S2.fz).swap2.fz).swap2
        rw [e1, e2] at this
        exact this
      obtain ⟨G, p, q', ws, zs, rfl, rfl, hp, hq, _, _, O⟩ := two_lst S3
      exact ⟨p, q', ws, zs, rfl, .inl ⟨L2.Same.seq O.sg hp, L2.Same.seq O.sg hq, q _ H1 [_, _] [_, _] _ ρ1 k rfl S3 ito_zipL⟩⟩
theorem gCT_len {n : Nat} {g : AGx} {gs : List A → List A → (List A → Prop) → Zo → Prop} (hc : Cl g) (h : ∀ as ρ R Z, gs as ρ R Z → as.length = n) : ∀ as ρ R Z, gCons g gs as ρ R Z → as.length = n + 1 := fun as ρ R Z z => by
  cases as with
  | nil => exact z.elim
  | cons a as =>
    obtain ⟨ρ1, z⟩ := hc _ _ _ _ z
    exact congrArg (· + 1) (h as _ _ _ z)
end
end Lf
namespace Lf
open PySem PySem.Spec PyProof.Rows L2 Sx
/-! ### comprehensions whose turns leave the slots as they were -/
theorem comp_opt {ds : List PyData} {g : AGx} {ft : ATx} {fe : AEx} {vs : List Nat} {ρ : List A} {R : Po} (P : Nat → Option PyData → Prop) (hz : ds.length ≤ 4000000)
    (step : ∀ i, i < ds.length → ∀ J : Option PyData → List A → Prop, (∀ o, P i o → J o ρ) → g (.d (ds.getD i .none)) ρ (fun ρ2 => ft ρ2 (fun b ρ3 => if b = true then fe ρ3 (fun a ρ4 => a.on fun y => J (some y) (wipeA ρ4 vs)) (fun _ _ => False) else J none (wipeA ρ3 vs)) fun _ _ => False) fun _ _ => False)
    (last : ∀ os : List (Option PyData), os.length = ds.length → (∀ i, i < ds.length → P i (os.getD i none)) → R (.own (os.filterMap id)) (wipeA ρ vs)) : compRun ds g ft fe vs ρ R := by
  refine ⟨fun i acc ρ' => ρ' = ρ ∧ ∃ os : List (Option PyData), os.length = i ∧ acc = os.filterMap id ∧ ∀ j, j < i → P j (os.getD j none), ⟨rfl, [], rfl, rfl, fun j z => absurd z (Nat.not_lt_zero _)⟩, ?_, ?_⟩
  · rintro i acc ρ' hi ⟨rfl, os, hl, rfl, hp⟩
    have hn : (os.filterMap id).length < 4000000 := by
      have := List.length_filterMap_le id os
      omega
    have key := step i hi (fun o ρ'' => match o with
      | some y => (os.filterMap id).length < 4000000 ∧ (ρ'' = ρ' ∧ ∃ os' : List (Option PyData), os'.length = i + 1 ∧ os.filterMap id ++ [y] = os'.filterMap id ∧ ∀ j, j < i + 1 → P j (os'.getD j none))
      | none => ρ'' = ρ' ∧ ∃ os' : List (Option PyData), os'.length = i + 1 ∧ os.filterMap id = os'.filterMap id ∧ ∀ j, j < i + 1 → P j (os'.getD j none)) (fun o ho => ?_)
    · exact key
    · have hq : ∀ j, j < i + 1 → P j ((os ++ [o]).getD j none) := by
        intro j hj
        by_cases h : j < i
        · rw [List.getD_eq_getElem?_getD, List.getElem?_append_left (by omega), ← List.getD_eq_getElem?_getD]
          exact hp j h
        · obtain rfl : j = i := by omega
          rw [List.getD_eq_getElem?_getD, List.getElem?_append_right (by omega), hl, Nat.sub_self]
          exact ho
      cases o with
      | some y => exact ⟨hn, rfl, os ++ [some y], by rw [List.length_append, hl] <;> rfl, by rw [List.filterMap_append] <;> rfl, hq⟩
      | none => exact ⟨rfl, os ++ [none], by rw [List.length_append, hl] <;> rfl, by rw [List.filterMap_append]; exact (List.append_nil _).symm, hq⟩
  · rintro acc ρ' ⟨rfl, os, hl, rfl, hp⟩
    exact last os hl hp
theorem comp_det {ds : List PyData} {g : AGx} {ft : ATx} {fe : AEx} {vs : List Nat} {ρ : List A} {R : Po} (f : PyData → Option PyData) (hz : ds.length ≤ 4000000)
    (step : ∀ d, d ∈ ds → ∀ J : Option PyData → List A → Prop, J (f d) ρ → g (.d d) ρ (fun ρ2 => ft ρ2 (fun b ρ3 => if b = true then fe ρ3 (fun a ρ4 => a.on fun y => J (some y) (wipeA ρ4 vs)) (fun _ _ => False) else J none (wipeA ρ3 vs)) fun _ _ => False) fun _ _ => False)
    (last : R (.own (ds.filterMap f)) (wipeA ρ vs)) : compRun ds g ft fe vs ρ R := by
  refine comp_opt (fun i o => o = f (ds.getD i .none)) hz (fun i hi J h => step _ (List.mem_of_getElem? (getD_some _ hi)) J (h _ rfl)) fun os hl hp => ?_
  have e : os = ds.map f := by
    refine List.ext_getElem? fun i => ?_
    by_cases h : i < ds.length
    · rw [getD_some none (by omega), hp i h, List.getElem?_map, getD_some PyData.none h] <;> rfl
    · rw [List.getElem?_eq_none (by omega), List.getElem?_eq_none (by rw [List.length_map]; omega)]
  rw [e, List.filterMap_map]
  exact last
theorem comp_map {ds : List PyData} {g : AGx} {fe : AEx} {vs : List Nat} {ρ : List A} {R : Po} (f : PyData → PyData) (hz : ds.length ≤ 4000000)
    (step : ∀ d, d ∈ ds → ∀ J : PyData → List A → Prop, J (f d) ρ → g (.d d) ρ (fun ρ2 => fe ρ2 (fun a ρ4 => a.on fun y => J y (wipeA ρ4 vs)) (fun _ _ => False)) fun _ _ => False)
    (last : R (.own (ds.map f)) (wipeA ρ vs)) : compRun ds g aYes fe vs ρ R := by
  refine comp_det (fun d => some (f d)) hz (fun d hd J h => ?_) ?_
  · simp only [aYes, if_true]
    exact step d hd (fun y ρ' => J (some y) ρ') h
  · rw [show (fun d => some (f d)) = some ∘ f from rfl, List.filterMap_eq_map]
    exact last
theorem comp_each {ds : List PyData} {g : AGx} {fe : AEx} {vs : List Nat} {ρ : List A} {R : Po} (P : PyData → PyData → Prop) (hz : ds.length ≤ 4000000)
    (step : ∀ d, d ∈ ds → ∀ J : PyData → List A → Prop, (∀ y, P d y → J y ρ) → g (.d d) ρ (fun ρ2 => fe ρ2 (fun a ρ4 => a.on fun y => J y (wipeA ρ4 vs)) (fun _ _ => False)) fun _ _ => False)
    (last : ∀ ys : List PyData, ys.length = ds.length → (∀ i, i < ds.length → P (ds.getD i .none) (ys.getD i .none)) → R (.own ys) (wipeA ρ vs)) : compRun ds g aYes fe vs ρ R := by
  refine comp_opt (fun i o => ∃ y, o = some y ∧ P (ds.getD i .none) y) hz (fun i hi J h => ?_) fun os hl hp => ?_
  · simp only [aYes, if_true]
    exact step _ (List.mem_of_getElem? (getD_some _ hi)) (fun y ρ' => J (some y) ρ') fun y hy => h _ ⟨y, rfl, hy⟩
  · have e : os = (os.map fun o => o.getD .none).map some := by
      refine List.ext_getElem? fun i => ?_
      by_cases h : i < ds.length
      · obtain ⟨y, e, _⟩ := hp i h
        rw [List.getElem?_map, List.getElem?_map, getD_some none (by omega), e] <;> rfl
      · rw [List.getElem?_eq_none (by omega), List.getElem?_eq_none (by simp; omega)]
    have key := last (os.map fun o => o.getD .none) (by rw [List.length_map, hl]) fun i hi => by
      obtain ⟨y, e1, h⟩ := hp i hi
      have e2 : (os.map fun o => o.getD .none).getD i .none = y := by
        rw [List.getD_eq_getElem?_getD, List.getElem?_map, getD_some none (by omega), e1] <;> rfl
      rw [e2]
      exact h
    rw [e, List.filterMap_map, show (id ∘ some : PyData → Option PyData) = some from rfl]
    rw [List.filterMap_some]
    exact key
/-! ### a law: behind its first row, that makes the deck -/
theorem sl_start {K : PySem.W.Frag} {G F0 F : Hp} {v : V} {x : Option V} (n : Nat) : Sl K G F0 F (.un :: .raw v :: unA n) (x :: some v :: List.replicate n none) := by
  have h : Sl K G F0 F (unA n) (List.replicate n none) := by
    induction n with
    | zero => exact Sl.nil
    | succ n ih => exact Sl.push (a := .un) (x := none) ih trivial fun ds z => nomatch z
  exact Sl.push (a := .un) (Sl.push (a := .raw v) h rfl fun ds z => nomatch z) trivial fun ds z => nomatch z
theorem law_go {B : Bx} {K : PySem.W.Frag} {F H : Hp} {t : TS} {f : ASx} {n : Nat} {v : V} {x : Option V} {Q : VK} (b : B.P F H) (l : LS B K Wno t f) (h : f (ends0 fun a => a = .d (.bool true)) (fun _ => False) (.un :: .raw v :: unA n)) (q : ∀ H', Q (.bl true) H') :
    t { nx := fun _ H1 => Q .non H1, rt := Q } (x :: some v :: List.replicate n none) H := by
  refine l F F [] [] _ _ H _ _ _ rfl ⟨F, F, Kn.start b (Same.refl _), sl_start n⟩ h ⟨fun ρ' σ' H' r S' => r.elim, fun v a H' r S' => ?_, fun ρ' σ' H' r S' => r.elim, fun ρ' σ' H' r S' => r.elim, fun e ρ' σ' H' cv dd z _ => z.elim⟩
  have r : a = .d (.bool true) := r
  subst r
  have := S'.get
  cases this
  exact q H'
/-! ### what may be shown, by its parts -/
section
variable {x : PyData} {xs : List PyData} {i : Int} {b : Bool}
theorem fine_t : fine (.tuple xs) = fineAll xs := rfl
theorem fine_l : fine (.list xs) = fineAll xs := rfl
theorem fine_b : fine (.bool b) = true := rfl
theorem fine_n : fine .none = true := rfl
theorem fine_d : fine (.dict []) = true := rfl
theorem fine_i : fine (.int i) = decide (i.natAbs < big) := rfl
theorem fineAll_c : fineAll (x :: xs) = (fine x && fineAll xs) := rfl
theorem fineAll_n : fineAll [] = true := rfl
theorem big_of {i : Int} (h : i.natAbs ≤ 10 ^ 240) : i.natAbs < big := Nat.lt_of_le_of_lt h (by decide +kernel)
theorem le_ble {n m : Nat} (h : n.ble m = true) : n ≤ m := Nat.le_of_ble_eq_true h
end
theorem okAll_all {n k : Nat} : ∀ {ds : List PyData}, (∀ d ∈ ds, Ok n k d) → OkAll (ds.length * n) k ds
  | [], _ => ⟨rfl, Nat.zero_le _, Nat.zero_le _⟩
  | d :: ds, h => (OkAll.cons (h d List.mem_cons_self) (okAll_all fun x hx => h x (List.mem_cons_of_mem _ hx))).ge (by rw [List.length_cons, Nat.add_mul]; omega) (Nat.le_refl _)
theorem mem_at {ds : List PyData} {P : PyData → Prop} (h : ∀ i, i < ds.length → P (ds.getD i .none)) : ∀ d ∈ ds, P d := by
  intro d hd
  obtain ⟨i, hi, e⟩ := List.mem_iff_getElem.mp hd
  have := h i hi
  rw [List.getD_eq_getElem?_getD, List.getElem?_eq_getElem hi, e] at this
  exact this
theorem mem_cut {ds : List PyData} {lo hi : Option Int} {d : PyData} (h : d ∈ Sx.cutD ds lo hi) : d ∈ ds := List.mem_of_mem_drop (List.mem_of_mem_take h)
theorem cutD_len {ds : List PyData} {lo hi : Option Int} : (Sx.cutD ds lo hi).length ≤ ds.length := by
  unfold Sx.cutD
  rw [List.length_take, List.length_drop]
  omega
theorem rep_len {ds : List PyData} {n : Nat} : (List.replicate n ds).flatten.length = n * ds.length := by
  simp
theorem mem_rep {ds : List PyData} {n : Nat} {d : PyData} (h : d ∈ (List.replicate n ds).flatten) : d ∈ ds := by
  obtain ⟨l, h1, h2⟩ := List.mem_flatten.mp h
  rw [List.eq_of_mem_replicate h1] at h2
  exact h2
theorem erase_perm {α : Type} : ∀ (l : List α) (i : Nat) (h : i < l.length), (l[i] :: l.eraseIdx i).Perm l
  | [], i, h => absurd h (Nat.not_lt_zero _)
  | x :: l, 0, h => List.Perm.refl _
  | x :: l, i + 1, h => (List.Perm.swap x (l[i]'(Nat.lt_of_succ_lt_succ h)) (l.eraseIdx i)).trans ((erase_perm l i (Nat.lt_of_succ_lt_succ h)).cons x)
theorem plain_erase {ds : List PyData} (h : PyData.plainAll ds = true) (i : Nat) : PyData.plainAll (ds.eraseIdx i) = true := by
  induction ds generalizing i with
  | nil => exact h
  | cons d ds ih =>
    have h' : d.plain = true ∧ PyData.plainAll ds = true := by simpa [PyData.plainAll] using h
    cases i with
    | zero => exact h'.2
    | succ i =>
      show PyData.plainAll (d :: ds.eraseIdx i) = true
      simp [PyData.plainAll, h'.1, ih h'.2]
theorem plain_ints {ds : List PyData} (h : ∀ d ∈ ds, ∃ i : Int, d = .int i) : PyData.plainAll ds = true := by
  induction ds with
  | nil => rfl
  | cons d ds ih =>
    obtain ⟨i, rfl⟩ := h d List.mem_cons_self
    simp [PyData.plainAll, PyData.plain, ih fun x hx => h x (List.mem_cons_of_mem _ hx)]
theorem ints_of {P : Int → Prop} {ds : List PyData} (h : ∀ d ∈ ds, ∃ i : Int, d = .int i ∧ P i) : ∃ ns : List Int, ds = ns.map PyData.int ∧ ∀ n ∈ ns, P n := by
  induction ds with
  | nil => exact ⟨[], rfl, fun _ z => nomatch z⟩
  | cons d ds ih =>
    obtain ⟨i, rfl, hi⟩ := h d List.mem_cons_self
    obtain ⟨ns, rfl, hn⟩ := ih fun x hx => h x (List.mem_cons_of_mem _ hx)
    exact ⟨i :: ns, rfl, fun n hn' => by
      rcases List.mem_cons.mp hn' with h | h
      · rw [h]; exact hi
      · exact hn n h⟩
/-! ### picks -/
def cPick : V → Ct := fun dk as R _ => match as with
  | [.raw v, a] => v = dk ∧ a.seq fun xs => xs ≠ [] ∧ xs.length ≤ 100000 ∧ ∀ x ∈ xs, R (.d x)
  | _ => False
theorem len_pick (dk : V) (as : List A) (R : A → Prop) (Z : Ex → Prop) (h : cPick dk as R Z) : as.length = 2 := by
  unfold cPick at h
  split at h
  · rfl
  · exact h.elim
theorem len_draw (dk : V) (as : List A) (R : A → Prop) (Z : Ex → Prop) (h : cDraw dk as R Z) : as.length = 2 := by
  unfold cDraw at h
  split at h
  · rfl
  · exact h.elim
theorem small_lit {m : Int} (h0 : 0 < m) (h1 : m < 2 ^ 60) : Small m := small_of h0 h1
theorem atI_ok {α : Type} {xs : List α} {i : Int} (h0 : 0 ≤ i) (h1 : i < (xs.length : Int)) : ∃ x, atI xs i = some x ∧ x ∈ xs := by
  have hj : i.toNat < xs.length := by omega
  refine ⟨xs[i.toNat], ?_, List.getElem_mem hj⟩
  have e := atI_nat (List.getElem?_eq_getElem hj)
  have : ((i.toNat : Nat) : Int) = i := by omega
  rw [this] at e
  exact e
theorem pick_run {dk v : V} {as : List A} {R : A → Prop} {N : List A → Prop} {Z : Ex → Prop} (h : cPick dk as R Z) : aRet (aOp gIx (aVar 1) (aCall0 (cDraw dk) (aCons (aVar 0) (aCons (aCB gLen (aCons (aVar 1) aNil)) aNil)))) (ends0 R) N as := by
  unfold cPick at h
  split at h
  · rename_i u a
    obtain ⟨rfl, h⟩ := h
    have key : ∀ xs : List PyData, xs ≠ [] → xs.length ≤ 100000 → Small (xs.length : Nat) := fun xs h1 h2 => small_of (by have := List.length_pos_iff.mpr h1; omega) (by omega)
    cases a with
    | d y =>
      cases y with
      | tuple ds =>
        obtain ⟨h1, h2, h3⟩ := h
        refine ⟨rfl, key _ h1 h2, fun r r0 r1 => ?_⟩
        obtain ⟨x, e, hx⟩ := atI_ok r0 r1
        exact ⟨x, e, h3 x hx⟩
      | list ds =>
        obtain ⟨h1, h2, h3⟩ := h
        refine ⟨rfl, key _ h1 h2, fun r r0 r1 => ?_⟩
        obtain ⟨x, e, hx⟩ := atI_ok r0 r1
        exact ⟨x, e, h3 x hx⟩
      | none => exact h.elim
      | bool _ => exact h.elim
      | int _ => exact h.elim
      | str _ => exact h.elim
      | dict _ => exact h.elim
    | un => exact h.elim
    | raw _ => exact h.elim
    | own ds =>
      obtain ⟨h1, h2, h3⟩ := h
      refine ⟨rfl, key _ h1 h2, fun r r0 r1 => ?_⟩
      obtain ⟨x, e, hx⟩ := atI_ok r0 r1
      exact ⟨x, e, h3 x hx⟩
  · exact h.elim
/-! ### the words by their cases -/
section
theorem aVar_e (i : Nat) (ρ : List A) (R : Po) (Z' : Zo) : aVar i ρ R Z' = ((sl ρ i).look i ρ R) := propext ⟨fun h => h, fun h => h⟩
theorem aC_e (y : PyData) (ρ : List A) (R : Po) (Z' : Zo) : aC y ρ R Z' = (R (.d y) ρ) := propext ⟨fun h => h, fun h => h⟩
theorem aRaw_e (v : V) (ρ : List A) (R : Po) (Z' : Zo) : aRaw v ρ R Z' = (R (.raw v) ρ) := propext ⟨fun h => h, fun h => h⟩
theorem aOp_e (g : G2) (fa fb : AEx) (ρ : List A) (R : Po) (Z : Zo) : aOp g fa fb ρ R Z = (fa ρ (fun x ρ1 => fb ρ1 (fun y ρ2 => x.on fun dx => y.on fun dy => g dx dy fun a => R a ρ2) Z) Z) := propext ⟨fun h => h, fun h => h⟩
theorem aUn_e (g : G1) (fa : AEx) (ρ : List A) (R : Po) (Z : Zo) : aUn g fa ρ R Z = (fa ρ (fun x ρ1 => x.on fun dx => g dx fun a => R a ρ1) Z) := propext ⟨fun h => h, fun h => h⟩
theorem aNot_e (fa : AEx) (ρ : List A) (R : Po) (Z : Zo) : aNot fa ρ R Z = (fa ρ (fun x ρ1 => x.bl fun b => R (.d (.bool (!b))) ρ1) Z) := propext ⟨fun h => h, fun h => h⟩
theorem aAnd_e (fa fb : AEx) (ρ : List A) (R : Po) (Z : Zo) : aAnd fa fb ρ R Z = (fa ρ (fun x ρ1 => x.bl fun b => if b = true then fb ρ1 R Z else R (.d (.bool false)) ρ1) Z) := propext ⟨fun h => h, fun h => h⟩
theorem aOr_e (fa fb : AEx) (ρ : List A) (R : Po) (Z : Zo) : aOr fa fb ρ R Z = (fa ρ (fun x ρ1 => x.bl fun b => if b = true then R (.d (.bool true)) ρ1 else fb ρ1 R Z) Z) := propext ⟨fun h => h, fun h => h⟩
theorem aChain_e (g g' : G2) (fa fb fc : AEx) (ρ : List A) (R : Po) (Z : Zo) : aChain g g' fa fb fc ρ R Z = (fa ρ (fun x ρ1 => fb ρ1 (fun y ρ2 => x.on fun dx => y.on fun dy => g dx dy fun a => a.bl fun b => if b = true then fc ρ2 (fun z ρ3 => z.on fun dz => g' dy dz fun a => R a ρ3) Z else R (.d (.bool false)) ρ2) Z) Z) := propext ⟨fun h => h, fun h => h⟩
theorem aTern_e (ft : ATx) (fa fb : AEx) (ρ : List A) (R : Po) (Z : Zo) : aTern ft fa fb ρ R Z = (ft ρ (fun b ρ1 => if b = true then fa ρ1 R Z else fb ρ1 R Z) Z) := propext ⟨fun h => h, fun h => h⟩
theorem aNil_e (ρ : List A) (R : List A → List A → Prop) (Z' : Zo) : aNil  ρ R Z' = (R [] ρ) := propext ⟨fun h => h, fun h => h⟩
theorem aCons_e (fa : AEx) (fr : AAx) (ρ : List A) (R : List A → List A → Prop) (Z : Zo) : aCons fa fr ρ R Z = (fa ρ (fun a ρ1 => fr ρ1 (fun as ρ2 => R (a :: as) ρ2) Z) Z) := propext ⟨fun h => h, fun h => h⟩
theorem aTup_e (fa : AAx) (ρ : List A) (R : Po) (Z : Zo) : aTup fa ρ R Z = (fa ρ (fun as ρ1 => A.ons as fun ds => R (.d (.tuple ds)) ρ1) Z) := propext ⟨fun h => h, fun h => h⟩
theorem aLst_e (fa : AAx) (ρ : List A) (R : Po) (Z : Zo) : aLst fa ρ R Z = (fa ρ (fun as ρ1 => A.ons as fun ds => R (.own ds) ρ1) Z) := propext ⟨fun h => h, fun h => h⟩
theorem aB_e (fa : AEx) (ρ : List A) (R : Bool → List A → Prop) (Z : Zo) : aB fa ρ R Z = (fa ρ (fun x ρ1 => x.bl fun b => R b ρ1) Z) := propext ⟨fun h => h, fun h => h⟩
theorem tAndA_e (fa fb : ATx) (ρ : List A) (R : Bool → List A → Prop) (Z : Zo) : tAndA fa fb ρ R Z = (fa ρ (fun b ρ1 => if b = true then fb ρ1 R Z else R false ρ1) Z) := propext ⟨fun h => h, fun h => h⟩
theorem tOrA_e (fa fb : ATx) (ρ : List A) (R : Bool → List A → Prop) (Z : Zo) : tOrA fa fb ρ R Z = (fa ρ (fun b ρ1 => if b = true then R true ρ1 else fb ρ1 R Z) Z) := propext ⟨fun h => h, fun h => h⟩
theorem tNotA_e (fa : ATx) (ρ : List A) (R : Bool → List A → Prop) (Z : Zo) : tNotA fa ρ R Z = (fa ρ (fun b ρ1 => R (!b) ρ1) Z) := propext ⟨fun h => h, fun h => h⟩
theorem aCB_e (g : GB) (fa : AAx) (ρ : List A) (R : Po) (Z : Zo) : aCB g fa ρ R Z = (fa ρ (fun as ρ1 => g (as.map A.fz) fun a => R a ρ1) Z) := propext ⟨fun h => h, fun h => h⟩
theorem aCall_e (c : Ct) (fa : AAx) (ρ : List A) (R : Po) (Z : Zo) : aCall c fa ρ R Z = (fa ρ (fun as ρ1 => c (as.map A.fz) (fun a => R a ρ1) fun e => Z e ρ1) Z) := propext ⟨fun h => h, fun h => h⟩
theorem aCallK_e (c : Ct) (gA : List A → List A → List A) (fa fk : AAx) (ρ : List A) (R : Po) (Z : Zo) : aCallK c gA fa fk ρ R Z = (fa ρ (fun as ρ1 => fk ρ1 (fun zs ρ2 => c (gA (as.map A.fz) (zs.map A.fz)) (fun a => R a ρ2) fun e => Z e ρ2) Z) Z) := propext ⟨fun h => h, fun h => h⟩
theorem aSl_e (g : PyData → Option Int → Option Int → (A → Prop) → Prop) (fe : AEx) (fl fh : AOx) (ρ : List A) (R : Po) (Z : Zo) : aSl g fe fl fh ρ R Z = (fe ρ (fun x ρ1 => fl ρ1 (fun l ρ2 => fh ρ2 (fun h ρ3 => x.on fun dx => g dx l h fun a => R a ρ3) Z) Z) Z) := propext ⟨fun h => h, fun h => h⟩
theorem aNoP_e (ρ : List A) (R : Option Int → List A → Prop) (Z' : Zo) : aNoP  ρ R Z' = (R none ρ) := propext ⟨fun h => h, fun h => h⟩
theorem aCall0_e (c : Ct) (fa : AAx) (ρ : List A) (R : Po) (Z : Zo) : aCall0 c fa ρ R Z = (fa ρ (fun as ρ1 => c (as.map A.fz) (fun a => R a ρ1) fun _ => False) Z) := propext ⟨fun h => h, fun h => h⟩
theorem gN_e (i : Nat) (a : A) (ρ : List A) (R : List A → Prop) (Z' : Zo) : gN i a ρ R Z' = (R (ρ.set i a)) := propext ⟨fun h => h, fun h => h⟩
theorem aNext_e (E' : AE) (N : List A → Prop) (ρ : List A) : aNext  E' N ρ = (N ρ) := propext ⟨fun h => h, fun h => h⟩
theorem aSeq_e (f g : ASx) (E : AE) (N : List A → Prop) (ρ : List A) : aSeq f g E N ρ = (f E (fun ρ' => g E N ρ') ρ) := propext ⟨fun h => h, fun h => h⟩
theorem aBrk_e (E : AE) (N' : List A → Prop) (ρ : List A) : aBrk  E N' ρ = (E.bk ρ) := propext ⟨fun h => h, fun h => h⟩
theorem aCnt_e (E : AE) (N' : List A → Prop) (ρ : List A) : aCnt  E N' ρ = (E.ct ρ) := propext ⟨fun h => h, fun h => h⟩
theorem aDrop_e (fe : AEx) (E : AE) (N : List A → Prop) (ρ : List A) : aDrop fe E N ρ = (fe ρ (fun _ ρ1 => N ρ1) E.ex) := propext ⟨fun h => h, fun h => h⟩
theorem aRet_e (fe : AEx) (E : AE) (N' : List A → Prop) (ρ : List A) : aRet fe E N' ρ = (fe ρ (fun a _ => E.rt a) E.ex) := propext ⟨fun h => h, fun h => h⟩
theorem aRetN_e (E : AE) (N' : List A → Prop) (ρ' : List A) : aRetN  E N' ρ' = (E.rt (.d .none)) := propext ⟨fun h => h, fun h => h⟩
theorem aIfS_e (ft : ATx) (f g : ASx) (E : AE) (N : List A → Prop) (ρ : List A) : aIfS ft f g E N ρ = (ft ρ (fun b ρ1 => if b = true then f E N ρ1 else g E N ρ1) E.ex) := propext ⟨fun h => h, fun h => h⟩
theorem aAsg_e (fe : AEx) (g : AGx) (E : AE) (N : List A → Prop) (ρ : List A) : aAsg fe g E N ρ = (fe ρ (fun a ρ1 => g a ρ1 N E.ex) E.ex) := propext ⟨fun h => h, fun h => h⟩
theorem aAug_e (i : Nat) (k : Int → Int → Int) (fe : AEx) (E : AE) (N : List A → Prop) (ρ : List A) : aAug i k fe E N ρ = ((sl ρ i).it fun m => fe ρ (fun a ρ1 => a.it fun n => N (ρ1.set i (.d (.int (k m n))))) E.ex) := propext ⟨fun h => h, fun h => h⟩
theorem aPar_e (i j : Nat) (fa : AAx) (E : AE) (N : List A → Prop) (ρ : List A) : aPar i j fa E N ρ = (fa ρ (fun as ρ1 => A.two as fun a b => N ((ρ1.set i a).set j b)) E.ex) := propext ⟨fun h => h, fun h => h⟩
theorem aFor_e (fi : AIx) (g : AGx) (fb : ASx) (E : AE) (N : List A → Prop) (ρ : List A) : aFor fi g fb E N ρ = (fi ρ (fun ds ρ1 => forRun ds g fb E N ρ1) E.ex) := propext ⟨fun h => h, fun h => h⟩
theorem aWhile_e (ft : ATx) (fb : ASx) (E : AE) (N : List A → Prop) (ρ : List A) : aWhile ft fb E N ρ = (whileRun ft fb E N ρ) := propext ⟨fun h => h, fun h => h⟩
theorem aYes_e (ρ : List A) (R : Bool → List A → Prop) (Z' : Zo) : aYes  ρ R Z' = (R true ρ) := propext ⟨fun h => h, fun h => h⟩
theorem aIter_e (fe : AEx) (ρ : List A) (R : List PyData → List A → Prop) (Z : Zo) : aIter fe ρ R Z = (fe ρ (fun a ρ1 => a.seq fun ds => R ds ρ1) Z) := propext ⟨fun h => h, fun h => h⟩
theorem aEnum_e (fe : AAx) (ρ : List A) (R : List PyData → List A → Prop) (Z : Zo) : aEnum fe ρ R Z = (fe ρ (fun as ρ1 => A.one as fun a => a.seq fun ds => R (enumD ds) ρ1) Z) := propext ⟨fun h => h, fun h => h⟩
theorem aRange1_e (fe : AAx) (ρ : List A) (R : List PyData → List A → Prop) (Z : Zo) : aRange1 fe ρ R Z = (fe ρ (fun as ρ1 => A.one as fun a => a.it fun j => -(2 ^ 62) ≤ j ∧ j < 2 ^ 62 ∧ R (rangeD 0 j.toNat) ρ1) Z) := propext ⟨fun h => h, fun h => h⟩
theorem aRange2_e (fe : AAx) (ρ : List A) (R : List PyData → List A → Prop) (Z : Zo) : aRange2 fe ρ R Z = (fe ρ (fun as ρ1 => A.two as fun a b => a.it fun i => b.it fun j => (-(2 ^ 62) ≤ i ∧ i < 2 ^ 62 ∧ -(2 ^ 62) ≤ j ∧ j < 2 ^ 62) ∧ R (rangeD i (j - i).toNat) ρ1) Z) := propext ⟨fun h => h, fun h => h⟩
theorem aZip_e (fe : AAx) (ρ : List A) (R : List PyData → List A → Prop) (Z : Zo) : aZip fe ρ R Z = (fe ρ (fun as ρ1 => A.two as fun a b => A.same2 a.fz b.fz fun xs ys => R (zipD xs ys) ρ1) Z) := propext ⟨fun h => h, fun h => h⟩
theorem aZipTL_e (fe : AAx) (ρ : List A) (R : List PyData → List A → Prop) (Z : Zo) : aZipTL fe ρ R Z = (fe ρ (fun as ρ1 => A.two as fun a b => a.fz.tup fun xs => b.fz.lst fun ys => xs.length = ys.length ∧ R (zipD xs ys) ρ1) Z) := propext ⟨fun h => h, fun h => h⟩
theorem aApp_e (i : Nat) (fa : AEx) (ρ : List A) (R : Po) (Z : Zo) : aApp i fa ρ R Z = ((sl ρ i).isOwn = true ∧ fa ρ (fun a ρ1 => a.on fun y => (sl ρ1 i).ow fun ds => ds.length < 4000000 ∧ R (.d .none) (ρ1.set i (.own (ds ++ [y])))) Z) := propext ⟨fun h => h, fun h => h⟩
theorem aPopAt_e (i : Nat) (fa : AEx) (ρ : List A) (R : Po) (Z : Zo) : aPopAt i fa ρ R Z = ((sl ρ i).isOwn = true ∧ fa ρ (fun a ρ1 => a.it fun k => (sl ρ1 i).ow fun ds => 0 ≤ k ∧ k < (ds.length : Int) ∧ k < 2 ^ 63 ∧ R (.d (ds.getD k.toNat .none)) (ρ1.set i (.own (ds.eraseIdx k.toNat)))) Z) := propext ⟨fun h => h, fun h => h⟩
theorem aPop_e (i : Nat) (ρ : List A) (R : Po) (Z' : Zo) : aPop i ρ R Z' = ((sl ρ i).ow fun ds => ds ≠ [] ∧ R (.d (ds.getD (ds.length - 1) .none)) (ρ.set i (.own ds.dropLast))) := propext ⟨fun h => h, fun h => h⟩
theorem aLenV_e (i : Nat) (ρ : List A) (R : Po) (Z' : Zo) : aLenV i ρ R Z' = ((sl ρ i).ow fun ds => R (.d (.int (ds.length : Nat))) ρ) := propext ⟨fun h => h, fun h => h⟩
theorem aIxV_e (i : Nat) (fk : AEx) (ρ : List A) (R : Po) (Z : Zo) : aIxV i fk ρ R Z = ((sl ρ i).isOwn = true ∧ fk ρ (fun k ρ1 => k.it fun j => (sl ρ1 i).ow fun ds => ∃ d, atI ds j = some d ∧ R (.d d) ρ1) Z) := propext ⟨fun h => h, fun h => h⟩
theorem aEqNilV_e (neg : Bool) (i : Nat) (ρ : List A) (R : Po) (Z' : Zo) : aEqNilV neg i ρ R Z' = ((sl ρ i).ow fun ds => PyData.plainAll ds = true ∧ R (.d (.bool (if neg then !ds.isEmpty else ds.isEmpty))) ρ) := propext ⟨fun h => h, fun h => h⟩
theorem aTupV_e (i : Nat) (ρ : List A) (R : Po) (Z' : Zo) : aTupV i ρ R Z' = ((sl ρ i).ow fun ds => R (.d (.tuple ds)) ρ) := propext ⟨fun h => h, fun h => h⟩
theorem aDnew_e (ρ : List A) (R : Po) (Z' : Zo) : aDnew  ρ R Z' = (R (.d (.dict [])) ρ) := propext ⟨fun h => h, fun h => h⟩
theorem aListRg_e (fa : AEx) (ρ : List A) (R : Po) (Z : Zo) : aListRg fa ρ R Z = (fa ρ (fun a ρ1 => a.it fun n => -(2 ^ 62) ≤ n ∧ n ≤ 2 ^ 24 ∧ R (.own (rangeD 0 n.toNat)) ρ1) Z) := propext ⟨fun h => h, fun h => h⟩
theorem aComp_e (fi : AIx) (g : AGx) (ft : ATx) (fe : AEx) (vs : List Nat) (ρ : List A) (R : Po) (Z : Zo) : aComp fi g ft fe vs ρ R Z = (fi ρ (fun ds ρ1 => compRun ds g ft fe vs (wipeA ρ1 vs) R) Z) := propext ⟨fun h => h, fun h => h⟩
theorem aZip3T_e (fe : AAx) (ρ : List A) (R : List PyData → List A → Prop) (Z : Zo) : aZip3T fe ρ R Z = (fe ρ (fun as ρ1 => A.three as fun a b c => a.fz.tup fun xs => b.fz.tup fun ys => c.fz.tup fun zs => xs.length = ys.length ∧ xs.length = zs.length ∧ R (zip3D xs ys zs) ρ1) Z) := propext ⟨fun h => h, fun h => h⟩
theorem aCallK0_e (c : Ct) (gA : List A → List A → List A) (fa fk : AAx) (ρ : List A) (R : Po) (Z : Zo) : aCallK0 c gA fa fk ρ R Z = (fa ρ (fun as ρ1 => fk ρ1 (fun zs ρ2 => c (gA (as.map A.fz) (zs.map A.fz)) (fun a => R a ρ2) fun _ => False) Z) Z) := propext ⟨fun h => h, fun h => h⟩
theorem gSetV_e (i : Nat) (fk : AEx) (a : A) (ρ : List A) (R : List A → Prop) (Z : Zo) : gSetV i fk a ρ R Z = ((sl ρ i).isOwn = true ∧ fk ρ (fun k ρ1 => k.it fun j => a.on fun y => (sl ρ1 i).ow fun ds => ∃ n, ixN ds.length j = some n ∧ R (ρ1.set i (.own (ds.set n y)))) Z) := propext ⟨fun h => h, fun h => h⟩
end
section
variable {k : PyData → Prop} {kb : Bool → Prop} {ki : Int → Prop} {kl : List PyData → Prop} {kll : List PyData → List PyData → Prop} {ka : A → Prop} {x y : PyData} {v : V} {ds es : List PyData} {b c : Bool} {i j : Int} {a : A} {as : List A} {R : A → Prop} {Rp : Po} {ρ : List A} {n : Nat} {t : Str} {lo hi : Option Int}
theorem on_d : (A.d x).on k = k x := propext ⟨fun h => h, fun h => h⟩
theorem on_own : (A.own ds).on k = k (.list ds) := propext ⟨fun h => h, fun h => h⟩
theorem bl_b : (A.d (.bool b)).bl kb = kb b := propext ⟨fun h => h, fun h => h⟩
theorem it_i : (A.d (.int i)).it ki = ki i := propext ⟨fun h => h, fun h => h⟩
theorem ow_o : (A.own ds).ow kl = kl ds := propext ⟨fun h => h, fun h => h⟩
theorem isOwn_o : (A.own ds).isOwn = true := rfl
theorem seq_t : (A.d (.tuple ds)).seq kl = kl ds := propext ⟨fun h => h, fun h => h⟩
theorem seq_l : (A.d (.list ds)).seq kl = kl ds := propext ⟨fun h => h, fun h => h⟩
theorem seq_o : (A.own ds).seq kl = kl ds := propext ⟨fun h => h, fun h => h⟩
theorem lst_l : (A.d (.list ds)).lst kl = kl ds := propext ⟨fun h => h, fun h => h⟩
theorem lst_o : (A.own ds).lst kl = kl ds := propext ⟨fun h => h, fun h => h⟩
theorem tup_t : (A.d (.tuple ds)).tup kl = kl ds := propext ⟨fun h => h, fun h => h⟩
theorem same_t : A.same2 (.d (.tuple ds)) (.d (.tuple es)) kll = kll ds es := propext ⟨fun h => h, fun h => h⟩
theorem same_l : A.same2 (.d (.list ds)) (.d (.list es)) kll = kll ds es := propext ⟨fun h => h, fun h => h⟩
theorem one_1 : A.one [a] ka = ka a := propext ⟨fun h => h, fun h => h⟩
theorem fz_d : (A.d x).fz = .d x := rfl
theorem fz_r : (A.raw v).fz = .raw v := rfl
theorem fz_o : (A.own ds).fz = .d (.list ds) := rfl
theorem look_d : (A.d x).look n ρ Rp = Rp (.d x) ρ := propext ⟨fun h => h, fun h => h⟩
theorem look_r : (A.raw v).look n ρ Rp = Rp (.raw v) ρ := propext ⟨fun h => h, fun h => h⟩
theorem look_o : (A.own ds).look n ρ Rp = Rp (.d (.list ds)) (ρ.set n (.d (.list ds))) := propext ⟨fun h => h, fun h => h⟩
theorem unA_0 : unA 0 = [] := rfl
theorem unA_s : unA (n + 1) = .un :: unA n := rfl
theorem sl_0 : sl (a :: as) 0 = a := rfl
theorem sl_s : sl (a :: as) (n + 1) = sl as n := rfl
theorem ons_n : A.ons [] kl = kl [] := propext ⟨fun h => h, fun h => h⟩
theorem ons_c : A.ons (a :: as) kl = a.on fun d => A.ons as fun ds => kl (d :: ds) := propext ⟨fun h => h, fun h => h⟩
theorem gI0_i {f : Int → Int → PyData} : gI0 f (.int i) (.int j) R = R (.d (f i j)) := propext ⟨fun h => h, fun h => h⟩
theorem gI_i {f : Int → Int → PyData} {C : Int → Int → Prop} : gI C f (.int i) (.int j) R = (C i j ∧ R (.d (f i j))) := propext ⟨fun h => h, fun h => h⟩
theorem gU_i {f : Int → PyData} : gU f (.int i) R = R (.d (f i)) := propext ⟨fun h => h, fun h => h⟩
theorem gIsN_n : gIsN x .none R = R (.d (.bool (isNone x))) := propext ⟨fun h => h, fun h => h⟩
theorem gNotN_n : gNotN x .none R = R (.d (.bool (!isNone x))) := propext ⟨fun h => h, fun h => h⟩
theorem isNone_n : isNone .none = true := rfl
theorem isNone_i : isNone (.int i) = false := rfl
theorem isNone_b : isNone (.bool b) = false := rfl
theorem isNone_s : isNone (.str t) = false := rfl
theorem isNone_t : isNone (.tuple ds) = false := rfl
theorem isNone_l : isNone (.list ds) = false := rfl
theorem gEq_i : gEq (.int i) (.int j) R = R (.d (.bool (i == j))) := by
  unfold gEq
  simp [PyData.plain, PyData.depth, PyData.eqv]
theorem gNe_i : gNe (.int i) (.int j) R = R (.d (.bool (!(i == j)))) := by
  unfold gNe
  simp [PyData.plain, PyData.depth, PyData.eqv]
theorem gEq_s {u : Str} : gEq (.str t) (.str u) R = R (.d (.bool (t == u))) := by
  unfold gEq
  simp [PyData.plain, PyData.depth, PyData.eqv]
theorem gNe_s {u : Str} : gNe (.str t) (.str u) R = R (.d (.bool (!(t == u)))) := by
  unfold gNe
  simp [PyData.plain, PyData.depth, PyData.eqv]
theorem gIn_l : gIn x (.list ds) R = (PyData.plainAll ds = true ∧ x.plain = true ∧ min (PyData.depthAll ds) x.depth ≤ 60 ∧ R (.d (.bool (ds.any fun z => PyData.eqv z x)))) := propext ⟨fun h => h, fun h => h⟩
theorem gIn_t : gIn x (.tuple ds) R = (PyData.plainAll ds = true ∧ x.plain = true ∧ min (PyData.depthAll ds) x.depth ≤ 60 ∧ R (.d (.bool (ds.any fun z => PyData.eqv z x)))) := propext ⟨fun h => h, fun h => h⟩
theorem gNotIn_l : gNotIn x (.list ds) R = (PyData.plainAll ds = true ∧ x.plain = true ∧ min (PyData.depthAll ds) x.depth ≤ 60 ∧ R (.d (.bool (!ds.any fun z => PyData.eqv z x)))) := propext ⟨fun h => h, fun h => h⟩
theorem gNotIn_t : gNotIn x (.tuple ds) R = (PyData.plainAll ds = true ∧ x.plain = true ∧ min (PyData.depthAll ds) x.depth ≤ 60 ∧ R (.d (.bool (!ds.any fun z => PyData.eqv z x)))) := propext ⟨fun h => h, fun h => h⟩
theorem gIx_t : gIx (.tuple ds) (.int i) R = ∃ d, atI ds i = some d ∧ R (.d d) := propext ⟨fun h => h, fun h => h⟩
theorem gIx_l : gIx (.list ds) (.int i) R = ∃ d, atI ds i = some d ∧ R (.d d) := propext ⟨fun h => h, fun h => h⟩
theorem gCat_i : gCat (.int i) (.int j) R = R (.d (.int (i + j))) := propext ⟨fun h => h, fun h => h⟩
theorem gCat_t : gCat (.tuple ds) (.tuple es) R = (ds.length + es.length ≤ 4000000 ∧ R (.d (.tuple (ds ++ es)))) := propext ⟨fun h => h, fun h => h⟩
theorem gCat_l : gCat (.list ds) (.list es) R = (ds.length + es.length ≤ 4000000 ∧ R (.own (ds ++ es))) := propext ⟨fun h => h, fun h => h⟩
theorem gMul_i : gMul (.int i) (.int j) R = (CMulW i j ∧ R (.d (.int (i * j)))) := propext ⟨fun h => h, fun h => h⟩
theorem gMul_t : gMul (.tuple ds) (.int i) R = (ds ≠ [] ∧ 0 ≤ i ∧ i ≤ 1000 ∧ ds.length ≤ 1000 ∧ R (.d (.tuple (List.replicate i.toNat ds).flatten))) := propext ⟨fun h => h, fun h => h⟩
theorem gMul_l : gMul (.list ds) (.int i) R = (0 ≤ i ∧ ds.length * i.toNat ≤ 4000000 ∧ i < 2 ^ 63 ∧ R (.own (List.replicate i.toNat ds).flatten)) := propext ⟨fun h => h, fun h => h⟩
theorem gCut_t : gCut (.tuple ds) lo hi R = R (.d (.tuple (Sx.cutD ds lo hi))) := propext ⟨fun h => h, fun h => h⟩
theorem gCut_l : gCut (.list ds) lo hi R = R (.own (Sx.cutD ds lo hi)) := propext ⟨fun h => h, fun h => h⟩
theorem gP_x {p : PyData → Bool} : gP p x R = R (.d (.bool (p x))) := propext ⟨fun h => h, fun h => h⟩
theorem intD_n : Lf.intD .none = false := rfl
theorem intD_b : Lf.intD (.bool b) = true := rfl
theorem intD_i : Lf.intD (.int i) = true := rfl
theorem intD_s : Lf.intD (.str t) = false := rfl
theorem intD_l : Lf.intD (.list ds) = false := rfl
theorem intD_t : Lf.intD (.tuple ds) = false := rfl
theorem intD_d {m : List (PyData × PyData)} : Lf.intD (.dict m) = false := rfl
theorem boolD_n : boolD .none = false := rfl
theorem boolD_b : boolD (.bool b) = true := rfl
theorem boolD_i : boolD (.int i) = false := rfl
theorem boolD_s : boolD (.str t) = false := rfl
theorem boolD_l : boolD (.list ds) = false := rfl
theorem boolD_t : boolD (.tuple ds) = false := rfl
theorem boolD_d {m : List (PyData × PyData)} : boolD (.dict m) = false := rfl
theorem strD_n : strD .none = false := rfl
theorem strD_b : strD (.bool b) = false := rfl
theorem strD_i : strD (.int i) = false := rfl
theorem strD_s : strD (.str t) = true := rfl
theorem strD_l : strD (.list ds) = false := rfl
theorem strD_t : strD (.tuple ds) = false := rfl
theorem strD_d {m : List (PyData × PyData)} : strD (.dict m) = false := rfl
theorem tupD_n : tupD .none = false := rfl
theorem tupD_b : tupD (.bool b) = false := rfl
theorem tupD_i : tupD (.int i) = false := rfl
theorem tupD_s : tupD (.str t) = false := rfl
theorem tupD_l : tupD (.list ds) = false := rfl
theorem tupD_t : tupD (.tuple ds) = true := rfl
theorem tupD_d {m : List (PyData × PyData)} : tupD (.dict m) = false := rfl
theorem wholeD_n : wholeD .none = false := rfl
theorem wholeD_b : wholeD (.bool b) = false := rfl
theorem wholeD_i : wholeD (.int i) = true := rfl
theorem wholeD_s : wholeD (.str t) = false := rfl
theorem wholeD_l : wholeD (.list ds) = false := rfl
theorem wholeD_t : wholeD (.tuple ds) = false := rfl
theorem wholeD_d {m : List (PyData × PyData)} : wholeD (.dict m) = false := rfl
theorem gLen_1 : gLen [a] R = a.seq fun ds => R (.d (.int (ds.length : Nat))) := propext ⟨fun h => h, fun h => h⟩
theorem gTuple_1 : gTuple [a] R = a.seq fun ds => R (.d (.tuple ds)) := propext ⟨fun h => h, fun h => h⟩
theorem gList_1 : gList [a] R = a.seq fun ds => R (.own ds) := propext ⟨fun h => h, fun h => h⟩
theorem gInt_i : gInt [.d (.int i)] R = R (.d (.int i)) := propext ⟨fun h => h, fun h => h⟩
theorem gInt_b : gInt [.d (.bool b)] R = R (.d (.int (if b then 1 else 0))) := propext ⟨fun h => h, fun h => h⟩
theorem gAbs_i : gAbs [.d (.int i)] R = R (.d (.int (if i < 0 then -i else i))) := propext ⟨fun h => h, fun h => h⟩
theorem gRepr_x : gRepr [.d x] R = (Shows x ∧ R (.d (.str x.shown))) := propext ⟨fun h => h, fun h => h⟩
theorem gAll_l : gAll [.d (.list ds)] R = ∃ bs, boolsD ds = some bs ∧ R (.d (.bool (bs.all id))) := propext ⟨fun h => h, fun h => h⟩
theorem gAny_l : gAny [.d (.list ds)] R = ∃ bs, boolsD ds = some bs ∧ R (.d (.bool (bs.any id))) := propext ⟨fun h => h, fun h => h⟩
theorem gSum_l : gSum [.d (.list ds)] R = ∃ ns, intsD ds = some ns ∧ R (.d (.int ns.sum)) := propext ⟨fun h => h, fun h => h⟩
theorem gGcd_i : gGcd [.d (.int i), .d (.int j)] R = R (.d (.int ((Nat.gcd i.natAbs j.natAbs : Nat) : Int))) := propext ⟨fun h => h, fun h => h⟩
theorem gSorted_l : gSorted [.d (.list ds)] R = ∃ ns, intsD ds = some ns ∧ ∀ ns' : List Int, ns'.Perm ns → ns'.Pairwise (· ≤ ·) → R (.own (ns'.map PyData.int)) := propext ⟨fun h => h, fun h => h⟩
theorem cDraw_1 {dk : V} {m : Int} {Zx : Ex → Prop} : cDraw dk [.raw v, .d (.int m)] R Zx = (v = dk ∧ Small m ∧ ∀ r : Int, 0 ≤ r → r < m → R (.d (.int r))) := propext ⟨fun h => h, fun h => h⟩
theorem two_1 {k : A → A → Prop} {b : A} : A.two [a, b] k = k a b := propext ⟨fun h => h, fun h => h⟩
theorem three_1 {k : A → A → A → Prop} {b c : A} : A.three [a, b, c] k = k a b c := propext ⟨fun h => h, fun h => h⟩
theorem cPick_1 {dk : V} {Zx : Ex → Prop} : cPick dk [.raw v, a] R Zx = (v = dk ∧ a.seq fun xs => xs ≠ [] ∧ xs.length ≤ 100000 ∧ ∀ x ∈ xs, R (.d x)) := propext ⟨fun h => h, fun h => h⟩
theorem gMax2_i : gMax2 [.d (.int i), .d (.int j)] R = R (.d (.int (if j > i then j else i))) := propext ⟨fun h => h, fun h => h⟩
theorem gMin2_i : gMin2 [.d (.int i), .d (.int j)] R = R (.d (.int (if j < i then j else i))) := propext ⟨fun h => h, fun h => h⟩
theorem gEqS_s : gEqS x (.str t) R = R (.d (.bool (isStr x t))) := propext ⟨fun h => h, fun h => h⟩
theorem isStr_s {u : Str} : isStr (.str t) u = (t == u) := rfl
theorem gNil_n {Rl : List A → Prop} {Z : Zo} : Lf.gNil [] ρ Rl Z = Rl ρ := propext ⟨fun h => h, fun h => h⟩
theorem gCons_c {g : AGx} {gs : List A → List A → (List A → Prop) → Zo → Prop} {Rl : List A → Prop} {Z : Zo} : Lf.gCons g gs (a :: as) ρ Rl Z = g a ρ (fun ρ' => gs as ρ' Rl Z) Z := propext ⟨fun h => h, fun h => h⟩
theorem gT_t {gs : List A → List A → (List A → Prop) → Zo → Prop} {Rl : List A → Prop} {Z : Zo} : gT gs (.d (.tuple ds)) ρ Rl Z = gs (ds.map A.d) ρ Rl Z := propext ⟨fun h => h, fun h => h⟩
theorem gL_o {gs : List A → List A → (List A → Prop) → Zo → Prop} {Rl : List A → Prop} {Z : Zo} : gL gs (.own ds) ρ Rl Z = gs (ds.map A.d) ρ Rl Z := propext ⟨fun h => h, fun h => h⟩
theorem gL_l {gs : List A → List A → (List A → Prop) → Zo → Prop} {Rl : List A → Prop} {Z : Zo} : gL gs (.d (.list ds)) ρ Rl Z = gs (ds.map A.d) ρ Rl Z := propext ⟨fun h => h, fun h => h⟩
theorem at1_0 : atI [x] 0 = some x := atI_nat (j := 0) rfl
theorem at2_0 : atI [x, y] 0 = some x := atI_nat (j := 0) rfl
theorem at2_1 : atI [x, y] 1 = some y := atI_nat (j := 1) rfl
theorem at3_0 {z : PyData} : atI [x, y, z] 0 = some x := atI_nat (j := 0) rfl
theorem at3_1 {z : PyData} : atI [x, y, z] 1 = some y := atI_nat (j := 1) rfl
theorem at3_2 {z : PyData} : atI [x, y, z] 2 = some z := atI_nat (j := 2) rfl
theorem cpow_e {C : Prop} : (CPow i j ∧ C) = ((0 ≤ j ∧ j ≤ 1000000 ∧ i.natAbs < 2 ^ 64) ∧ C) := propext ⟨fun h => h, fun h => h⟩
theorem cast_lit {m : Nat} : ((no_index (OfNat.ofNat m) : Nat) : Int) = (OfNat.ofNat m : Int) := rfl
theorem abs_lit {m : Nat} : (no_index (OfNat.ofNat m) : Int).natAbs = OfNat.ofNat m := rfl
theorem aPart_e {fe : AEx} {Ro : Option Int → List A → Prop} {Z : Zo} : aPart fe ρ Ro Z = fe ρ (fun x ρ1 => x.it fun i => Ro (some i) ρ1) Z := by
  unfold aPart
  congr 1
  funext x ρ1
  cases x with
  | d y => cases y <;> rfl
  | un => rfl
  | raw _ => rfl
  | own _ => rfl
end
end Lf
namespace K46
open PySem PySem.Spec PyProof.Rows L2 Sx Lf
def topS (i : Nat) : Stmt := PySem.Challenge.pw_straylanes_k46_what_is_a_ledger.main.body.getD i (.Pass ⟨0, 0, 0, 0⟩)
def v_MAX_NUMBER : V := .int (10 ^ 60)
def v_MAX_RUNS : V := .int 8
abbrev s_is_whole : Stmt := topS 3
theorem sc_is_whole : FnScope ["value"] ["value"] (defScope s_is_whole) := ⟨rfl, rfl, rfl, by decide +kernel, rfl, by decide +kernel, by decide +kernel⟩
abbrev s_is_within : Stmt := topS 4
theorem sc_is_within : FnScope ["value", "low", "high"] ["value", "low", "high"] (defScope s_is_within) := ⟨rfl, rfl, rfl, by decide +kernel, rfl, by decide +kernel, by decide +kernel⟩
abbrev s_is_number : Stmt := topS 5
theorem sc_is_number : FnScope ["value"] ["value"] (defScope s_is_number) := ⟨rfl, rfl, rfl, by decide +kernel, rfl, by decide +kernel, by decide +kernel⟩
abbrev s_word_error : Stmt := topS 7
theorem sc_word_error : FnScope ["machine", "value", "lane", "item"] ["machine", "value"] (defScope s_word_error) := ⟨rfl, rfl, rfl, by decide +kernel, rfl, by decide +kernel, by decide +kernel⟩
abbrev s_stretch_error : Stmt := topS 8
theorem sc_stretch_error : FnScope ["value", "low", "high"] ["value"] (defScope s_stretch_error) := ⟨rfl, rfl, rfl, by decide +kernel, rfl, by decide +kernel, by decide +kernel⟩
abbrev s_ledger_error : Stmt := topS 10
theorem sc_ledger_error : FnScope ["machine", "value", "place", "item"] ["machine", "value"] (defScope s_ledger_error) := ⟨rfl, rfl, rfl, by decide +kernel, rfl, by decide +kernel, by decide +kernel⟩
abbrev s_is_ledger_run : Stmt := topS 11
theorem sc_is_ledger_run : FnScope ["machine", "value", "word", "stretch"] ["machine", "value"] (defScope s_is_ledger_run) := ⟨rfl, rfl, rfl, by decide +kernel, rfl, by decide +kernel, by decide +kernel⟩
abbrev s__law_deck : Stmt := topS 13
theorem sc__law_deck : FnScope ["script", "cell", "cells", "stirred"] ["script"] (defScope s__law_deck) := ⟨rfl, rfl, rfl, by decide +kernel, rfl, by decide +kernel, by decide +kernel⟩
abbrev s__law_draw : Stmt := topS 14
theorem sc__law_draw : FnScope ["deck", "many", "mixed", "cell"] ["deck", "many"] (defScope s__law_draw) := ⟨rfl, rfl, rfl, by decide +kernel, rfl, by decide +kernel, by decide +kernel⟩
abbrev s__law_pick : Stmt := topS 15
theorem sc__law_pick : FnScope ["deck", "items"] ["deck", "items"] (defScope s__law_pick) := ⟨rfl, rfl, rfl, by decide +kernel, rfl, by decide +kernel, by decide +kernel⟩
abbrev s__law_mixed : Stmt := topS 16
theorem sc__law_mixed : FnScope ["deck", "items", "rest", "found"] ["deck", "items"] (defScope s__law_mixed) := ⟨rfl, rfl, rfl, by decide +kernel, rfl, by decide +kernel, by decide +kernel⟩
abbrev s__law_machine : Stmt := topS 17
theorem sc__law_machine : FnScope ["deck", "n", "most", "way", "base", "found", "own", "turn"] ["deck", "n", "most"] (defScope s__law_machine) := ⟨rfl, rfl, rfl, by decide +kernel, rfl, by decide +kernel, by decide +kernel⟩
abbrev s__law_is_integer : Stmt := topS 18
theorem sc__law_is_integer : FnScope ["value"] ["value"] (defScope s__law_is_integer) := ⟨rfl, rfl, rfl, by decide +kernel, rfl, by decide +kernel, by decide +kernel⟩
abbrev s__law_is_run : Stmt := topS 19
theorem sc__law_is_run : FnScope ["machine", "value", "word", "stretch", "modulus", "rest", "own"] ["machine", "value"] (defScope s__law_is_run) := ⟨rfl, rfl, rfl, by decide +kernel, rfl, by decide +kernel, by decide +kernel⟩
abbrev s__law_due : Stmt := topS 20
theorem sc__law_due : FnScope ["machine", "value", "place", "single"] ["machine", "value"] (defScope s__law_due) := ⟨rfl, rfl, rfl, by decide +kernel, rfl, by decide +kernel, by decide +kernel⟩
abbrev s__law_run : Stmt := topS 21
theorem sc__law_run : FnScope ["deck", "machine", "word", "low", "modulus"] ["deck", "machine"] (defScope s__law_run) := ⟨rfl, rfl, rfl, by decide +kernel, rfl, by decide +kernel, by decide +kernel⟩
abbrev s__law_odd : Stmt := topS 22
theorem sc__law_odd : FnScope ["deck", "machine", "single", "lane", "rests", "words", "ends", "far", "found", "word", "stretch", "low", "high", "rest", "own"] ["deck", "machine", "single"] (defScope s__law_odd) := ⟨rfl, rfl, rfl, by decide +kernel, rfl, by decide +kernel, by decide +kernel⟩
abbrev s_law : Stmt := topS 23
theorem sc_law : FnScope ["script", "deck", "turn", "machine", "many", "ledger", "more", "things", "nth", "once", "thing", "heard", "at", "to", "known", "due", "single"] ["script"] (defScope s_law) := ⟨rfl, rfl, rfl, by decide +kernel, rfl, by decide +kernel, by decide +kernel⟩
structure Adr where
  f_is_whole : Addr
  d_is_whole : FuncData
  f_is_within : Addr
  d_is_within : FuncData
  f_is_number : Addr
  d_is_number : FuncData
  f_word_error : Addr
  d_word_error : FuncData
  f_stretch_error : Addr
  d_stretch_error : FuncData
  f_ledger_error : Addr
  d_ledger_error : FuncData
  f_is_ledger_run : Addr
  d_is_ledger_run : FuncData
  f__law_deck : Addr
  d__law_deck : FuncData
  f__law_draw : Addr
  d__law_draw : FuncData
  f__law_pick : Addr
  d__law_pick : FuncData
  f__law_mixed : Addr
  d__law_mixed : FuncData
  f__law_machine : Addr
  d__law_machine : FuncData
  f__law_is_integer : Addr
  d__law_is_integer : FuncData
  f__law_is_run : Addr
  d__law_is_run : FuncData
  f__law_due : Addr
  d__law_due : FuncData
  f__law_run : Addr
  d__law_run : FuncData
  f__law_odd : Addr
  d__law_odd : FuncData
  f_law : Addr
  d_law : FuncData
structure Txt (K : PySem.W.Frag) (mg : Str → Option Value) (a : Adr) : Prop where
  is_whole : At K mg "is_whole" s_is_whole ["value"] a.f_is_whole a.d_is_whole
  is_within : At K mg "is_within" s_is_within ["value", "low", "high"] a.f_is_within a.d_is_within
  is_number : At K mg "is_number" s_is_number ["value"] a.f_is_number a.d_is_number
  word_error : At K mg "word_error" s_word_error ["machine", "value"] a.f_word_error a.d_word_error
  stretch_error : At K mg "stretch_error" s_stretch_error ["value"] a.f_stretch_error a.d_stretch_error
  ledger_error : At K mg "ledger_error" s_ledger_error ["machine", "value"] a.f_ledger_error a.d_ledger_error
  is_ledger_run : At K mg "is_ledger_run" s_is_ledger_run ["machine", "value"] a.f_is_ledger_run a.d_is_ledger_run
  _law_deck : At K mg "_law_deck" s__law_deck ["script"] a.f__law_deck a.d__law_deck
  _law_draw : At K mg "_law_draw" s__law_draw ["deck", "many"] a.f__law_draw a.d__law_draw
  _law_pick : At K mg "_law_pick" s__law_pick ["deck", "items"] a.f__law_pick a.d__law_pick
  _law_mixed : At K mg "_law_mixed" s__law_mixed ["deck", "items"] a.f__law_mixed a.d__law_mixed
  _law_machine : At K mg "_law_machine" s__law_machine ["deck", "n", "most"] a.f__law_machine a.d__law_machine
  _law_is_integer : At K mg "_law_is_integer" s__law_is_integer ["value"] a.f__law_is_integer a.d__law_is_integer
  _law_is_run : At K mg "_law_is_run" s__law_is_run ["machine", "value"] a.f__law_is_run a.d__law_is_run
  _law_due : At K mg "_law_due" s__law_due ["machine", "value"] a.f__law_due a.d__law_due
  _law_run : At K mg "_law_run" s__law_run ["deck", "machine"] a.f__law_run a.d__law_run
  _law_odd : At K mg "_law_odd" s__law_odd ["deck", "machine", "single"] a.f__law_odd a.d__law_odd
  law : At K mg "law" s_law ["script"] a.f_law a.d_law
  b_bool : mg "bool" = none
  b_enumerate : mg "enumerate" = none
  b_int : mg "int" = none
  b_isinstance : mg "isinstance" = none
  b_len : mg "len" = none
  b_list : mg "list" = none
  b_max : mg "max" = none
  b_range : mg "range" = none
  b_repr : mg "repr" = none
  b_tuple : mg "tuple" = none
  b_zip : mg "zip" = none
  c_MAX_NUMBER : Cst mg "MAX_NUMBER" v_MAX_NUMBER
  c_MAX_RUNS : Cst mg "MAX_RUNS" v_MAX_RUNS
section
variable {P : Program} {w : World} {K : PySem.W.Frag} {mg : Str → Option Value} {base : Heap} {a : Adr}
def g_ledger_error_value_machine {α : Type} (us ws : List α) : List α := match us, ws with
  | [], [z0, z1] => [z1, z0]
  | _, _ => []
theorem kb_ledger_error_value_machine (T : Txt K mg a) : KBinds K a.d_ledger_error ["machine", "value"] ["value", "machine"] (g_ledger_error_value_machine (α := Value)) (g_ledger_error_value_machine (α := V)) := by
  refine Sx.Fun.kb T.ledger_error.F (fun _ _ _ _ _ _ us ws hl => ?_) (fun r1 r2 => ?_)
  · unfold g_ledger_error_value_machine at hl ⊢
    split at hl
    · rfl
    · exact absurd hl (by decide)
  · unfold g_ledger_error_value_machine
    cases r1 with
    | nil =>
      cases r2 with
      | nil => exact .nil
      | cons q0 r2 =>
        cases r2 with
        | nil => exact .nil
        | cons q1 r2 =>
          cases r2 with
          | nil =>
            exact (.cons q1 (.cons q0 .nil))
          | cons _ _ => exact .nil
    | cons _ _ => exact .nil
theorem kw_ledger_error_value_machine : KwOk 0 2 (g_ledger_error_value_machine (α := A)) (g_ledger_error_value_machine (α := V)) := by
  intro as zs vs ws h1 h2 h3 h4
  match as, zs, vs, ws, h1, h2, h3, h4 with
  | [], [z0, z1], [], [w0, w1], _, _, _, _ =>
  refine ⟨rfl, by
    intro a ha
    simp only [g_ledger_error_value_machine, List.mem_cons, List.mem_nil_iff, or_false] at ha ⊢
    rcases ha with rfl | rfl <;> simp, fun i hi => ?_⟩
  · match i, hi with
    | 0, _ => exact ⟨1, rfl, rfl⟩
    | 1, _ => exact ⟨0, rfl, rfl⟩
    | i + 2, hi => exact absurd (show i + 2 < 2 from hi) (by omega)
end
-- opt decks _law_draw _law_pick _law_mixed _law_machine _law_run _law_odd
-- opt box (deckOf boxV)
-- opt use common46
-- opt hint ('cutall', 'law') := True
/-! what is a ledger -/
def runD (ns : List Int) : PyData → Bool
  | .tuple [w, s] => isNone (wordD ns w) && isNone (stretchD s)
  | _ => false
theorem run_not2 {ns : List Int} {ds : List PyData} (h : ds.length ≠ 2) : runD ns (.tuple ds) = false := by
  match ds, h with
  | [], _ => rfl
  | [_], _ => rfl
  | [_, _], h => exact absurd rfl h
  | _ :: _ :: _ :: _, _ => rfl
def ledgerD (ns : List Int) : PyData → PyData
  | .tuple ds => if 1 ≤ ds.length ∧ ds.length ≤ 8 then firstD "run" ds.length (fun i => !runD ns (ds.getD i .none)) else .str "form"
  | _ => .str "form"
def wOk (d : PyData) : Prop := d = .none ∨ ∃ i : Int, d = .int i ∧ 0 ≤ i ∧ i < 1000000
def runOk (ns : List Int) (d : PyData) : Prop := ∃ (ws : List PyData) (lo hi : Int), d = .tuple [.tuple ws, .tuple [.int lo, .int hi]] ∧ ws.length = ns.length ∧ (∀ w ∈ ws, wOk w) ∧ lo.natAbs ≤ 10 ^ 60 ∧ hi.natAbs ≤ 10 ^ 61
theorem wOk_ok {d : PyData} (h : wOk d) : Ok 1 2 d := by
  rcases h with rfl | ⟨i, rfl, h1, h2⟩
  · first | exact ⟨by decide +kernel, by decide +kernel, by decide +kernel⟩ | exact ⟨by (simp only [fine_t, fine_l, fine_b, fine_n, fine_d, fine_i, fineAll_c, fineAll_n, decide_true, Bool.and_self, Bool.and_true, Bool.true_and, True.intro] <;> decide +kernel), le_ble rfl, le_ble rfl⟩
  · exact ⟨decide_eq_true (big_of (by omega)), le_ble rfl, le_ble rfl⟩
theorem ws_ok {ws : List PyData} {n : Nat} (h : ∀ w ∈ ws, wOk w) (l : ws.length ≤ n) : OkAll n 2 ws := (okAll_all fun d hd => wOk_ok (h d hd)).ge (by omega) (Nat.le_refl _)
theorem run_ok {ns : List Int} {d : PyData} (h : runOk ns d) (l : ns.length ≤ 10) : Ok 60 5 d := by
  obtain ⟨ws, lo, hi, rfl, h1, h2, h3, h4⟩ := h
  have a1 := (ws_ok (n := 10) h2 (by omega)).tup
  have a2 : Ok 10 3 (.tuple [.int lo, .int hi]) := by
    have hl := big_of (i := lo) (Nat.le_trans h3 (by decide +kernel))
    have hh := big_of (i := hi) (Nat.le_trans h4 (by decide +kernel))
    first | exact ⟨by decide +kernel, by decide +kernel, by decide +kernel⟩ | exact ⟨by (simp only [fine_t, fine_l, fine_b, fine_n, fine_d, fine_i, fineAll_c, fineAll_n, decide_true, Bool.and_self, Bool.and_true, Bool.true_and, hl, hh] <;> decide +kernel), le_ble rfl, le_ble rfl⟩
  exact ((OkAll.cons a1 (OkAll.one a2)).tup).ge (by decide) (by decide)
theorem ledger_ok (ns : List Int) (d : PyData) : Ok 20 3 (ledgerD ns d) := by
  cases d with
  | tuple ds =>
    show Ok 20 3 (if 1 ≤ ds.length ∧ ds.length ≤ 8 then firstD "run" ds.length (fun i => !runD ns (ds.getD i .none)) else .str "form")
    split
    · rename_i h
      exact first_ok (by omega) ⟨by decide +kernel, by decide +kernel, Nat.zero_le _⟩
    · exact form_ok
  | none => exact form_ok
  | bool x => exact form_ok
  | int x => exact form_ok
  | str x => exact form_ok
  | list x => exact form_ok
  | dict x => exact form_ok
def c_is_whole : V → Ct := fun _ as R _ => match as with
  | [.d v] => R (.d (.bool (wholeD v)))
  | _ => False
def b_is_whole (dk : V) : ASx :=
  (aRet (aAnd (aUn (gP intD) (aVar 0)) (aNot (aUn (gP boolD) (aVar 0)))))
theorem l_is_whole : ∀ (dk : V) (as : List A) (R : A → Prop) (Z : Ex → Prop), c_is_whole dk as R Z → as.length = 1 := by
  intro dk as R Z h
  unfold c_is_whole at h
  split at h
  · rfl
  · exact h.elim
theorem h_is_whole : ∀ (dk : V) (as : List A) (R : A → Prop) (Z : Ex → Prop), as.length = 1 → c_is_whole dk as R Z → b_is_whole dk (ends0 R) (fun _ => R (.d .none)) (as ++ unA ((["value"] : List Str).length - 1)) := by
  intro dk as R Z hl h
  unfold c_is_whole at h
  split at h
  · rename_i v
    cases v <;> exact h
  · exact h.elim
abbrev sp_is_whole (K : PySem.W.Frag) : Sp := SpL K noBox c_is_whole
section
variable {P : Program} {w : World} {K : PySem.W.Frag} {mg : Str → Option Value} {base : Heap} {a : Adr}
theorem ok_is_whole (T : Txt K mg a) : FnOk P w K mg base CX0 1 a.f_is_whole a.d_is_whole ["value"] (sp_is_whole K) := by
  refine T.is_whole.F.ok sc_is_whole (fun vs H Q E h => sp_len l_is_whole h) (fun cdv A outer s H vs Q E hr h => ?_)
  have hu := hu_of hr
  exact ⟨_, (pss_one (ps_ret (pe_and (pe_callB (show CallR _ _ (rIsi K) from call_isi) (by rfl) T.b_isinstance (by decide +kernel) (pa_cons (pv 0) (pa_cons (pe_bltn (v := .ty "int") rfl T.b_int (by decide +kernel) rfl) pa_nil))) (pe_one (pe_not (pe_callB (show CallR _ _ (rIsi K) from call_isi) (by rfl) T.b_isinstance (by decide +kernel) (pa_cons (pv 0) (pa_cons (pe_bltn (v := .ty "bool") rfl T.b_bool (by decide +kernel) rfl) pa_nil)))))))),
    run0 (N := ["value"]) (np := 1) (f := b_is_whole) h (sp_len l_is_whole h) (fun dk B hb => (show LS B K Wno _ (b_is_whole dk) from
      (ls_ret (le_and (le_isi (p := intD) hk_int (le_var (i := 0))) (le_not (le_isi (p := boolD) hk_bool (le_var (i := 0)))))))) h_is_whole⟩
end
abbrev sp__law_deck := Vat.sp__law_vat
section
variable {P : Program} {w : World} {K : PySem.W.Frag} {mg : Str → Option Value} {base : Heap} {a : Adr}
theorem ok__law_deck (T : Txt K mg a) : FnOk P w K mg base CX0 1 a.f__law_deck a.d__law_deck ["script"] (sp__law_deck K) := by
  refine T._law_deck.F.ok sc__law_deck (fun vs H Q E h => ?_) (fun cdv A outer s H vs Q E hr h => ?_)
  · obtain ⟨_, _, rfl, _⟩ := h
    rfl
  · have hu := hu_of hr
    obtain ⟨s0, ns, rfl, hS, hlen, q⟩ := h
    have ecut : cutV (ns.map V.int) none (some 63) = ns.map V.int := by
      have h1 : (ns.map V.int).length ≤ 63 := by rw [List.length_map]; exact hlen
      unfold cutV
      rw [HT.sIx_none, show HT.sIx (ns.map V.int).length (ns.map V.int).length (some 63) = min 63 (ns.map V.int).length from HT.sIx_nat _ _ 63, Nat.min_eq_right h1]
      show List.take ((ns.map V.int).length - 0) (List.drop 0 (ns.map V.int)) = ns.map V.int
      rw [List.drop_zero, Nat.sub_zero, List.take_length]
    refine ⟨_, (pss_cons (ps_par (i := 2) (j := 3) (by rfl) sc__law_deck.nd rfl rfl (by decide) rfl rfl (pa_cons (pe_lc (own := [("cell", 1)]) rfl sc__law_deck.nd (show PI _ _ _ (iSeq K _) from pi_seq (pe_slice (show SlR _ (rSlL K) from sl_list) (pv 0) po_none (po_some pe_int))) (blkOk_by (N := ["script", "cell", "cells", "stirred"]) (sc := defScope s__law_deck) (by decide +kernel)) (fun _ _ _ _ _ => (pg_name (i := 1) sc__law_deck.nd rfl (by first | exact Or.inl rfl | exact Or.inr rfl))) (fun _ _ _ _ _ => pts_nil) (fun _ _ _ _ _ => (pe_cut (pe_ifExp (pt_cmpR op_ge (pv 1) pe_int (nomark _)) (pe_op op_mul pe_int (pv 1)) (pe_op op_sub (pe_op op_mul (pe_un un_neg pe_int) (pv 1)) pe_int))))) (pa_cons (pe_op op_add pe_int (pe_callB (show CallR _ _ (rLenS K) from call_len_seq) (by rfl) T.b_len (by decide +kernel) (pa_cons (pv 0) pa_nil))) pa_nil)) (by rfl))
      (pss_cons (ps_for PassesOwn.never rfl (show PI _ _ _ (iSeq K _) from pi_seq (pv 2)) (pg_name (i := 1) sc__law_deck.nd rfl (by first | exact Or.inl rfl | exact Or.inr rfl)) (pss_one (ps_set (i := 3) sc__law_deck.nd rfl (by first | exact Or.inl rfl | exact Or.inr rfl) (pe_op op_modN (pe_callTy call_int1 (by rfl) T.b_int (by decide +kernel) (pa_cons (pe_op op_add (pe_op op_mul (pv 3) pe_int) (pv 1)) pa_nil)) pe_int))))
      (pss_one (ps_ret (pe_lst (pa_cons (pe_lc (own := [("cell", 1)]) rfl sc__law_deck.nd (show PI _ _ _ (iSeq K _) from pi_seq (pv 2)) (blkOk_by (N := ["script", "cell", "cells", "stirred"]) (sc := defScope s__law_deck) (by decide +kernel)) (fun _ _ _ _ _ => (pg_name (i := 1) sc__law_deck.nd rfl (by first | exact Or.inl rfl | exact Or.inr rfl))) (fun _ _ _ _ _ => (pts_one (pt_cmpR op_ge (pv 1) (pe_op op_pow pe_int pe_int) (nomark _)))) (fun _ _ _ _ _ => (pv 1))) (pa_cons (pv 3) (pa_cons pe_int pa_nil)))))))), ?_⟩
    -- marks, stirred
    refine .inl ⟨_, rfl, 63, rfl, s0, ns.map V.int, rfl, hS, fun p np => ⟨p, rfl, ⟨_, .of upd_same⟩, fun D hD => ?_⟩⟩
    rw [ecut] at hD ⊢
    have s1 : Same H (upd H p (.lst (ns.map V.int))) := same_new np
    refine lc_reckon (walk_list (xs := ns.map V.int)) (zs := ns) (List.length_map _).symm (fun _ => true) (fun m => .int (if 0 ≤ m then 2 * m else -2 * m - 1)) (by omega) hD (fun H1 s => .of (s _ _ upd_same)) ?_ ?_
    · rintro i m x H1 H2 hz s2 ⟨rfl, hx⟩
      rw [List.getElem?_map, hz] at hx
      obtain rfl : V.int m = x := Option.some.inj hx
      refine ⟨Same.refl _, _, fun Q q => q, rfl, fun Q q => q _ (Same.refl _), fun _ H3 Q s3 _ q => ?_⟩
      refine ⟨fun v H' => v = .int (if 0 ≤ m then 2 * m else -2 * m - 1) ∧ Same H3 H', ?_, fun v H' ⟨e, s⟩ => by rw [e]; exact q _ s⟩
      refine ⟨_, rfl, m, 0, rfl, rfl, _, rfl, ?_⟩
      by_cases h0 : 0 ≤ m
      · rw [decide_eq_true h0]
        exact iteT ⟨_, rfl, 2, m, rfl, rfl, .inl ⟨by decide, by decide⟩, by rw [if_pos h0], Same.refl _⟩
      · rw [decide_eq_false h0]
        exact iteF ⟨2, rfl, _, rfl, -2, m, rfl, rfl, .inl ⟨by decide, by decide⟩, _, 1, rfl, rfl, by rw [if_neg h0], Same.refl _⟩
    intro H1 t1 e1
    rw [List.filter_eq_self.mpr (fun _ _ => rfl)] at e1
    generalize hms : (ns.map fun m : Int => if 0 ≤ m then 2 * m else -2 * m - 1) = ms
    have hml : ms.length = ns.length := by rw [← hms, List.length_map]
    have e2 : H1 D = some (.lst (ms.map V.int)) := by
      rw [e1, ← hms, List.map_map] <;> rfl
    have s3 : Same H H1 := s1.trans t1
    refine ⟨_, rfl, s0, ns.map V.int, rfl, .inl (L2.Same.seq s3 hS), _, _, rfl, rfl, _, _, rfl, ?_⟩
    -- stirred
    refine .inl ⟨_, rfl, D, rfl, ⟨_, .of e2⟩, for_list (K := K) (a := D) (xs := ms.map V.int) (fun i σ H' => ∃ (st : Int) (v : Option V), σ = [some (.ref s0), v, some (.ref D), some (.int st)] ∧ H' = H1)
      ⟨_, none, rfl, rfl⟩ (fun i σ H' _ ⟨_, _, _, e⟩ => by rw [e]; exact .of e2) ?_ ?_⟩
    · rintro i x σ H' hx ⟨st, v, rfl, rfl⟩
      rw [List.getElem?_map] at hx
      obtain ⟨m, hm, rfl⟩ := Option.map_eq_some_iff.mp hx
      refine ⟨_, rfl, st, 48271, rfl, rfl, .inr ⟨by decide, by decide⟩, _, rfl, _, m, rfl, rfl, .inl ⟨_, rfl, _, 4294967291, rfl, rfl, (show (4294967291 : Int) ≠ 0 by decide), ?_⟩⟩
      exact ⟨_, _, rfl, rfl⟩
    rintro σ H' ⟨st, v, rfl, rfl⟩
    refine .inl ⟨_, rfl, D, rfl, ⟨_, .of e2⟩, fun g ng => ?_⟩
    refine lc_reckon (walk_list (xs := ms.map V.int)) (zs := ms) (List.length_map _).symm (fun m => decide (10 ^ 15 ≤ m)) V.int (by omega) ng (fun H2 s => .of (s _ _ e2)) ?_ ?_
    · rintro i m x H2 H3 hz s2 ⟨rfl, hx⟩
      rw [List.getElem?_map, hz] at hx
      obtain rfl : V.int m = x := Option.some.inj hx
      refine ⟨Same.refl _, _, fun Q q => q, rfl, fun Q q => ?_, fun _ H3 Q s3 _ q => ⟨_, rfl, q _ (Same.refl _)⟩⟩
      exact ⟨_, rfl, 10, 15, rfl, rfl, ⟨by decide, by decide, by decide⟩, m, _, rfl, rfl, _, rfl, q _ (Same.refl _)⟩
    intro H2 t2 e3
    refine ⟨_, rfl, by show 3 ≤ sizeLine; decide, fun b nb => ?_⟩
    have s4 := same_new (o := .lst [.ref g, .int st, .int 0]) nb
    have ng1 : H g = none := s3.free ng
    refine q b g _ ⟨s3.trans (t2.trans s4), (s3.trans t2).free nb, ng1, ⟨ms.filter fun m => decide (10 ^ 15 ≤ m), s4 _ _ e3, ?_⟩, ⟨st, 0, upd_same⟩⟩
    have := List.length_filter_le (fun m => decide ((10 : Int) ^ 15 ≤ m)) ms
    omega
end
abbrev c__law_draw := cDraw
abbrev sp__law_draw (K : PySem.W.Frag) : Sp := SpL K (deckOf boxV) c__law_draw
section
variable {P : Program} {w : World} {K : PySem.W.Frag} {mg : Str → Option Value} {base : Heap} {a : Adr}
theorem ok__law_draw (T : Txt K mg a) : FnOk P w K mg base CX0 1 a.f__law_draw a.d__law_draw ["deck", "many"] (sp__law_draw K) := by
  refine fn_mono (sp := Vat.sp__law_draw K) ?_ fun vs H Q E h => draw_of (Pb := fun F H b g => Vs F H b g) (fun _ _ _ _ => Iff.rfl) h
  refine T._law_draw.F.ok sc__law_draw (fun vs H Q E h => ?_) (fun cdv A outer s H vs Q E hr h => ?_)
  · obtain ⟨_, _, _, _, rfl, _⟩ := h
    rfl
  · have hu := hu_of hr
    obtain ⟨H0, b, g, m, rfl, B, hm, q⟩ := h
    obtain ⟨ms, hl, hz⟩ := B.ls
    obtain ⟨st, ct, hd⟩ := B.dc
    have hm0 := hm.1
    refine ⟨_, (pss_cons (ps_if (pt_cmpR (show OpR _ _ (rNeD K) from op_neD hr.units) (pe_ix (show IxR _ (rIx K) from ix_seq) (pv 0) pe_int (fun _ _ => rfl)) (pe_lst pa_nil) (nomark _)) (pss_cons (ps_set (i := 3) sc__law_draw.nd rfl (by first | exact Or.inl rfl | exact Or.inr rfl) (pe_ix (show IxR _ (rIx K) from ix_seq) (pe_ix (show IxR _ (rIx K) from ix_seq) (pv 0) pe_int (fun _ _ => rfl)) pe_int (fun _ _ => rfl)))
        (pss_cons (ps_asg (pe_op op_fdivW (pv 3) (pv 1)) (pg_sub (pe_ix (show IxR _ (rIx K) from ix_seq) (pv 0) pe_int (fun _ _ => rfl)) pe_int set_list))
        (Evl.pss_cut (ps_if (pt_cmpR op_lt (pv 3) (pv 1) (nomark _)) (pss_one (ps_expr (show PE _ _ (tBM K "list" _ _ _) from pe_bm PySem.F.plainAttrs_list PySem.F.slot_list_pop PySem.F.type_list_pop mt_popAt (pe_ix (show IxR _ (rIx K) from ix_seq) (pv 0) pe_int (fun _ _ => rfl)) (pa_cons pe_int pa_nil)))) pss_nil)
        (pss_one (ps_ret (pe_op op_modN (pe_callTy call_int1 (by rfl) T.b_int (by decide +kernel) (pa_cons (pv 3) pa_nil)) (pv 1))))))) pss_nil)
      (pss_cons (ps_asg (pe_op op_add (pe_ix (show IxR _ (rIx K) from ix_seq) (pv 0) pe_int (fun _ _ => rfl)) pe_int) (pg_sub (pv 0) pe_int set_list))
      (pss_cons (ps_set (i := 2) sc__law_draw.nd rfl (by first | exact Or.inl rfl | exact Or.inr rfl) (pe_op op_modN (pe_callTy call_int1 (by rfl) T.b_int (by decide +kernel) (pa_cons (pe_op op_add (pe_ix (show IxR _ (rIx K) from ix_seq) (pv 0) pe_int (fun _ _ => rfl)) (pe_op op_mul pe_int (pe_ix (show IxR _ (rIx K) from ix_seq) (pv 0) pe_int (fun _ _ => rfl)))) pa_nil)) pe_int))
      (pss_cons (ps_set (i := 2) sc__law_draw.nd rfl (by first | exact Or.inl rfl | exact Or.inr rfl) (pe_op op_modN (pe_callTy call_int1 (by rfl) T.b_int (by decide +kernel) (pa_cons (pe_op op_add (pe_op op_add (pe_op op_mul (pv 2) (pv 2)) (pe_op op_mul pe_int (pe_ix (show IxR _ (rIx K) from ix_seq) (pv 0) pe_int (fun _ _ => rfl)))) pe_int) pa_nil)) pe_int))
      (pss_cons (ps_set (i := 2) sc__law_draw.nd rfl (by first | exact Or.inl rfl | exact Or.inr rfl) (pe_op op_modN (pe_callTy call_int1 (by rfl) T.b_int (by decide +kernel) (pa_cons (pe_op op_add (pe_op op_mul (pv 2) (pv 2)) (pe_ix (show IxR _ (rIx K) from ix_seq) (pv 0) pe_int (fun _ _ => rfl))) pa_nil)) pe_int))
      (pss_one (ps_ret (pe_op op_modN (pe_callTy call_int1 (by rfl) T.b_int (by decide +kernel) (pa_cons (pe_op op_fdivW (pv 2) pe_int) pa_nil)) (pv 1))))))))), ?_⟩
    have a0 : ∀ st ct, atI (vatL g st ct) 0 = some (.ref g) := fun _ _ => atI_nat (j := 0) rfl
    have a1 : ∀ st ct, atI (vatL g st ct) 1 = some (.int st) := fun st _ => atI_nat (j := 1) rfl
    have a2 : ∀ st ct, atI (vatL g st ct) 2 = some (.int ct) := fun _ ct => atI_nat (j := 2) rfl
    refine ⟨_, rfl, .inl ⟨b, _, _, _, rfl, rfl, .of hd, a0 _ _, ?_⟩⟩
    refine ⟨Nat.zero_le _, fun p np => ?_⟩
    have B1 := B.more (same_new (o := .lst []) np)
    have hl1 : (upd H p (.lst [])) g = some (.lst (ms.map V.int)) := same_new np _ _ hl
    have hd1 : (upd H p (.lst [])) b = some (.lst (vatL g st ct)) := same_new np _ _ hd
    refine ⟨_, _, .lst (.of hl1) (dpa_ints ms), .lst (.of upd_same) .nil, shaped_ints ms, shaped_ints [], _, rfl, ?_⟩
    rw [eqv_nil_ints]
    have md : ∀ x d : Int, 0 < d → x.fmod d = x % d := fun x d hx => Int.fmod_eq_emod_of_nonneg x (by omega)
    have lo : ∀ x d : Int, 0 < d → 0 ≤ x % d ∧ x % d < d := fun x d hx => ⟨Int.emod_nonneg x (by omega), Int.emod_lt_of_pos x hx⟩
    cases ms with
    | cons k ms =>
      refine iteT ?_
      refine ⟨_, rfl, .inl ⟨b, _, _, _, rfl, rfl, .of hd1, a0 _ _, .inl ⟨g, _, 0, .int k, rfl, rfl, .of hl1, atI_nat (j := 0) rfl, ?_⟩⟩⟩
      refine ⟨_, rfl, _, rfl, k, m, rfl, rfl, hm, _, rfl, .inl ⟨b, _, _, _, rfl, rfl, .of hd1, a0 _ _, g, _, 0, 0, rfl, rfl, hl1, (by rw [List.map_cons, List.length_cons]; exact ixN_zero _), ?_⟩⟩
      have B2 : Vs H0 (upd (upd H p (.lst [])) g (.lst (V.int (k / m) :: ms.map V.int))) b g := by
        refine ⟨fun c x e => ?_, B.nb, B.ng, ⟨(k / m) :: ms, upd_same, hz⟩, ⟨st, ct, ?_⟩⟩
        · rw [upd_ne (ne_of_none e B.ng)]
          exact B1.sub c x e
        · rw [upd_ne B.bg]
          exact hd1
      have fin : ∀ H', Vs H0 H' b g → Q (.int (k.fmod m)) H' := fun H' B' => by
        rw [Int.fmod_eq_emod_of_nonneg k (by omega)]
        exact q _ H' (Int.emod_nonneg k (by omega)) (Int.emod_lt_of_pos k hm0) B'
      have hd2 : (upd (upd H p (.lst [])) g (.lst (V.int (k / m) :: ms.map V.int))) b = some (.lst (vatL g st ct)) := by
        rw [upd_ne B.bg]
        exact hd1
      refine ⟨fun σ H' => σ[1]? = some (some (.int m)) ∧ σ[3]? = some (some (.int k)) ∧ Vs H0 H' b g, ?_, ?_⟩
      · refine ⟨_, rfl, _, rfl, k, m, rfl, rfl, _, rfl, ?_⟩
        refine ite2 (fun _ => ?_) (fun _ => ?_)
        · refine ⟨_, rfl, .inl ⟨b, _, _, _, rfl, rfl, .of hd2, a0 _ _, .inl ⟨rfl, _, .of upd_same⟩, g, _, 0, 0, .int (k / m), rfl, rfl, upd_same, by decide, by decide, seqIx_zero _, rfl, rfl, rfl, ?_⟩⟩
          refine ⟨fun c x e => ?_, B.nb, B.ng, ⟨ms, upd_same, ?_⟩, ⟨st, ct, ?_⟩⟩
          · rw [upd_ne (ne_of_none e B.ng)]
            exact B2.sub c x e
          · rw [List.length_cons] at hz
            omega
          · rw [upd_ne B.bg]
            exact hd2
        · exact ⟨rfl, rfl, B2⟩
      · rintro σ H' ⟨e1, e5, B3⟩
        refine ⟨_, e5, .inl ⟨k, rfl, _, e1, k, m, rfl, rfl, by omega, ?_⟩⟩
        exact fin _ B3
    | nil =>
      refine iteF ?_
      refine ⟨_, rfl, .inl ⟨b, _, _, _, rfl, rfl, .of hd1, a2 _ _, ct, 1, rfl, rfl, _, rfl, b, _, 2, 2, rfl, rfl, hd1, rfl, ?_⟩⟩
      have B2 : Vs H0 (upd (upd H p (.lst [])) b (.lst (vatL g st (ct + 1)))) b g := by
        refine ⟨fun c x e => ?_, B.nb, B.ng, ⟨[], ?_, hz⟩, ⟨st, ct + 1, upd_same⟩⟩
        · rw [upd_ne (ne_of_none e B.nb)]
          exact B1.sub c x e
        · rw [upd_ne B.bg.symm]
          exact hl1
      have hd2 : (upd (upd H p (.lst [])) b (.lst (vatL g st (ct + 1)))) b = some (.lst (vatL g st (ct + 1))) := upd_same
      refine ⟨_, rfl, .inl ⟨b, _, _, _, rfl, rfl, .of hd2, a1 _ _, _, rfl, .inl ⟨b, _, _, _, rfl, rfl, .of hd2, a2 _ _, 2654435761, _, rfl, rfl, .inl ⟨by decide, by decide⟩, st, _, rfl, rfl, .inl ⟨_, rfl, _, 4294967291, rfl, rfl, (show (4294967291 : Int) ≠ 0 by decide), ?_⟩⟩⟩⟩
      rw [show ∀ x : Int, (fun i j : Int => V.int (i.fmod j)) x 4294967291 = V.int (x % 4294967291) from fun x => congrArg V.int (md x _ (by decide))]
      obtain ⟨l1, u1⟩ := lo (st + 2654435761 * (ct + 1)) 4294967291 (by decide)
      generalize (st + 2654435761 * (ct + 1)) % 4294967291 = f1 at l1 u1 ⊢
      refine ⟨_, rfl, _, rfl, f1, f1, rfl, rfl, .inl ⟨by omega, by omega⟩, _, rfl, .inl ⟨b, _, _, _, rfl, rfl, .of hd2, a2 _ _, 40503, _, rfl, rfl, .inl ⟨by decide, by decide⟩, _, _, rfl, rfl, _, 11, rfl, rfl, .inl ⟨_, rfl, _, 4294967279, rfl, rfl, (show (4294967279 : Int) ≠ 0 by decide), ?_⟩⟩⟩
      rw [show ∀ x : Int, (fun i j : Int => V.int (i.fmod j)) x 4294967279 = V.int (x % 4294967279) from fun x => congrArg V.int (md x _ (by decide))]
      obtain ⟨l2, u2⟩ := lo (f1 * f1 + 40503 * (ct + 1) + 11) 4294967279 (by decide)
      generalize (f1 * f1 + 40503 * (ct + 1) + 11) % 4294967279 = f2 at l2 u2 ⊢
      refine ⟨_, rfl, _, rfl, f2, f2, rfl, rfl, .inl ⟨by omega, by omega⟩, _, rfl, .inl ⟨b, _, _, _, rfl, rfl, .of hd2, a1 _ _, _, _, rfl, rfl, .inl ⟨_, rfl, _, 4294967231, rfl, rfl, (show (4294967231 : Int) ≠ 0 by decide), ?_⟩⟩⟩
      rw [show ∀ x : Int, (fun i j : Int => V.int (i.fmod j)) x 4294967231 = V.int (x % 4294967231) from fun x => congrArg V.int (md x _ (by decide))]
      generalize (f2 * f2 + st) % 4294967231 = f3
      refine ⟨_, rfl, f3, 64, rfl, rfl, ⟨by decide, by decide⟩, .inl ⟨_, rfl, _, rfl, _, m, rfl, rfl, by omega, ?_⟩⟩
      show Q (V.int ((f3 / 64).fmod m)) _
      rw [md _ m hm0]
      exact q _ _ (lo _ m hm0).1 (lo _ m hm0).2 B2
end
def c__law_is_integer : V → Ct := fun _ as R _ => match as with
  | [.d v] => R (.d (.bool (wholeD v)))
  | _ => False
def b__law_is_integer (dk : V) : ASx :=
  (aRet (aAnd (aUn (gP intD) (aVar 0)) (aNot (aUn (gP boolD) (aVar 0)))))
theorem l__law_is_integer : ∀ (dk : V) (as : List A) (R : A → Prop) (Z : Ex → Prop), c__law_is_integer dk as R Z → as.length = 1 := by
  intro dk as R Z h
  unfold c__law_is_integer at h
  split at h
  · rfl
  · exact h.elim
theorem h__law_is_integer : ∀ (dk : V) (as : List A) (R : A → Prop) (Z : Ex → Prop), as.length = 1 → c__law_is_integer dk as R Z → b__law_is_integer dk (ends0 R) (fun _ => R (.d .none)) (as ++ unA ((["value"] : List Str).length - 1)) := by
  intro dk as R Z hl h
  unfold c__law_is_integer at h
  split at h
  · rename_i v
    cases v <;> exact h
  · exact h.elim
abbrev sp__law_is_integer (K : PySem.W.Frag) : Sp := SpL K noBox c__law_is_integer
section
variable {P : Program} {w : World} {K : PySem.W.Frag} {mg : Str → Option Value} {base : Heap} {a : Adr}
theorem ok__law_is_integer (T : Txt K mg a) : FnOk P w K mg base CX0 1 a.f__law_is_integer a.d__law_is_integer ["value"] (sp__law_is_integer K) := by
  refine T._law_is_integer.F.ok sc__law_is_integer (fun vs H Q E h => sp_len l__law_is_integer h) (fun cdv A outer s H vs Q E hr h => ?_)
  have hu := hu_of hr
  exact ⟨_, (pss_one (ps_ret (pe_and (pe_callB (show CallR _ _ (rIsi K) from call_isi) (by rfl) T.b_isinstance (by decide +kernel) (pa_cons (pv 0) (pa_cons (pe_bltn (v := .ty "int") rfl T.b_int (by decide +kernel) rfl) pa_nil))) (pe_one (pe_not (pe_callB (show CallR _ _ (rIsi K) from call_isi) (by rfl) T.b_isinstance (by decide +kernel) (pa_cons (pv 0) (pa_cons (pe_bltn (v := .ty "bool") rfl T.b_bool (by decide +kernel) rfl) pa_nil)))))))),
    run0 (N := ["value"]) (np := 1) (f := b__law_is_integer) h (sp_len l__law_is_integer h) (fun dk B hb => (show LS B K Wno _ (b__law_is_integer dk) from
      (ls_ret (le_and (le_isi (p := intD) hk_int (le_var (i := 0))) (le_not (le_isi (p := boolD) hk_bool (le_var (i := 0)))))))) h__law_is_integer⟩
end
def c_is_within : V → Ct := fun _ as R _ => match as with
  | [.d v, .d (.int lo), .d (.int hi)] => R (.d (.bool (withinD v lo hi)))
  | _ => False
def b_is_within (dk : V) : ASx :=
  (aRet (aAnd (aCall0 (c_is_whole dk) (aCons (aVar 0) aNil)) (aChain (gI0 fun i j => .bool (decide (i ≤ j))) (gI0 fun i j => .bool (decide (i ≤ j))) (aVar 1) (aVar 0) (aVar 2))))
theorem l_is_within : ∀ (dk : V) (as : List A) (R : A → Prop) (Z : Ex → Prop), c_is_within dk as R Z → as.length = 3 := by
  intro dk as R Z h
  unfold c_is_within at h
  split at h
  · rfl
  · exact h.elim
theorem h_is_within : ∀ (dk : V) (as : List A) (R : A → Prop) (Z : Ex → Prop), as.length = 3 → c_is_within dk as R Z → b_is_within dk (ends0 R) (fun _ => R (.d .none)) (as ++ unA ((["value", "low", "high"] : List Str).length - 3)) := by
  intro dk as R Z hl h
  unfold c_is_within at h
  split at h
  · rename_i v lo hi
    cases v <;> simp only [b_is_within, c_is_whole, ends0, wipeA, List.map, List.set, List.cons_append, List.nil_append, List.length_cons, List.length_nil, ite_true, ite_false, Bool.not_true, Bool.not_false, Bool.true_and, Bool.and_true, Bool.false_and, Bool.and_false, reduceIte, reduceCtorEq, Bool.false_eq_true, if_true, if_false, Nat.reduceAdd, Nat.reduceLeDiff, ne_eq, not_false_eq_true, eq_self, not_true_eq_false, Nat.reduceSub, Nat.reduceMul, Nat.reduceLT, Nat.reducePow, Int.reduceLE, Int.reduceLT, Int.reduceAdd, Int.reduceSub, Int.reduceMul, Int.reduceNeg, Int.reducePow, Int.reduceToNat, Int.reduceEq, Int.reduceBEq, Option.some.injEq, exists_eq_left', exists_eq_left, true_and, and_true, decide_true, decide_false, Nat.reduceBEq, Bool.or_true, Bool.true_or, Bool.or_false, Bool.false_or, aVar_e, aC_e, aRaw_e, aOp_e, aUn_e, aNot_e, aAnd_e, aOr_e, aChain_e, aTern_e, aNil_e, aCons_e, aTup_e, aLst_e, aB_e, tAndA_e, tOrA_e, tNotA_e, aCB_e, aCall_e, aCallK_e, aSl_e, aNoP_e, aCall0_e, gN_e, aNext_e, aSeq_e, aBrk_e, aCnt_e, aDrop_e, aRet_e, aRetN_e, aIfS_e, aAsg_e, aAug_e, aPar_e, aFor_e, aWhile_e, aYes_e, aIter_e, aEnum_e, aRange1_e, aRange2_e, aZip_e, aZipTL_e, aApp_e, aPopAt_e, aPop_e, aLenV_e, aIxV_e, aEqNilV_e, aTupV_e, aDnew_e, aListRg_e, aComp_e, aZip3T_e, aCallK0_e, gSetV_e, on_d, on_own, bl_b, it_i, ow_o, isOwn_o, seq_t, seq_l, seq_o, lst_l, lst_o, tup_t, same_t, same_l, one_1, fz_d, fz_r, fz_o, look_d, look_r, look_o, unA_0, unA_s, sl_0, sl_s, ons_n, ons_c, gI0_i, gI_i, gU_i, gIsN_n, gNotN_n, isNone_n, isNone_i, isNone_b, isNone_s, isNone_t, isNone_l, gEq_s, gNe_s, gIn_l, gIn_t, gNotIn_l, gNotIn_t, gIx_t, gIx_l, gCat_i, gCat_t, gCat_l, gMul_i, gMul_t, gMul_l, gCut_t, gCut_l, gP_x, intD_n, intD_b, intD_i, intD_s, intD_l, intD_t, intD_d, boolD_n, boolD_b, boolD_i, boolD_s, boolD_l, boolD_t, boolD_d, strD_n, strD_b, strD_i, strD_s, strD_l, strD_t, strD_d, tupD_n, tupD_b, tupD_i, tupD_s, tupD_l, tupD_t, tupD_d, wholeD_n, wholeD_b, wholeD_i, wholeD_s, wholeD_l, wholeD_t, wholeD_d, gLen_1, gTuple_1, gList_1, gInt_i, gInt_b, gAbs_i, gRepr_x, gAll_l, gAny_l, gSum_l, gGcd_i, gSorted_l, cDraw_1, two_1, three_1, cPick_1, gMax2_i, gMin2_i, gEqS_s, isStr_s, gNil_n, gCons_c, gT_t, gL_o, gL_l, at1_0, at2_0, at2_1, at3_0, at3_1, at3_2, cpow_e, cast_lit, abs_lit, aPart_e, gEq_i, gNe_i] <;> try exact h
    rename_i i
    have e : withinD (.int i) lo hi = (decide (lo ≤ i) && decide (i ≤ hi)) := rfl
    rw [e] at h
    by_cases h1 : lo ≤ i
    · simpa only [h1, decide_true, Bool.true_and, if_true] using h
    · simpa only [h1, decide_false, Bool.false_and, if_false, reduceIte, Bool.false_eq_true] using h
  · exact h.elim
abbrev sp_is_within (K : PySem.W.Frag) : Sp := SpL K noBox c_is_within
section
variable {P : Program} {w : World} {K : PySem.W.Frag} {mg : Str → Option Value} {base : Heap} {a : Adr}
theorem ok_is_within (T : Txt K mg a) : FnOk P w K mg base CX0 2 a.f_is_within a.d_is_within ["value", "low", "high"] (sp_is_within K) := by
  have G_is_whole : FnOk P w K mg base CX0 1 a.f_is_whole a.d_is_whole ["value"] (sp_is_whole K) := ok_is_whole T
  refine T.is_within.F.ok sc_is_within (fun vs H Q E h => sp_len l_is_within h) (fun cdv A outer s H vs Q E hr h => ?_)
  have hu := hu_of hr
  exact ⟨_, (pss_one (ps_ret (pe_and (pe_call G_is_whole hr (by rfl) T.is_whole.m T.is_whole.F.kp T.is_whole.b .nil pass0 (pa_cons (pv 0) pa_nil)) (pe_one (pe_chain op_le op_le (pv 1) (pv 0) (pv 2)))))),
    run0 (N := ["value", "low", "high"]) (np := 3) (f := b_is_within) h (sp_len l_is_within h) (fun dk B hb => (show LS B K Wno _ (b_is_within dk) from
      (ls_ret (le_and (le_call0 (dk := dk) (c := c_is_whole) trivial (la_cons (le_var (i := 0)) la_nil)) (le_chain (ol_I0 fun _ _ _ => .bl _) (ol_I0 fun _ _ _ => .bl _) (le_var (i := 1)) (le_var (i := 0)) (le_var (i := 2))))))) h_is_within⟩
end
abbrev c__law_pick := cPick
def b__law_pick (dk : V) : ASx :=
  (aRet (aOp gIx (aVar 1) (aCall0 (c__law_draw dk) (aCons (aVar 0) (aCons (aCB gLen (aCons (aVar 1) aNil)) aNil)))))
theorem l__law_pick : ∀ (dk : V) (as : List A) (R : A → Prop) (Z : Ex → Prop), c__law_pick dk as R Z → as.length = 2 := len_pick
theorem h__law_pick : ∀ (dk : V) (as : List A) (R : A → Prop) (Z : Ex → Prop), as.length = 2 → c__law_pick dk as R Z → b__law_pick dk (ends0 R) (fun _ => R (.d .none)) (as ++ unA ((["deck", "items"] : List Str).length - 2)) := by
  intro dk as R Z hl h
  unfold c__law_pick at h
  match as, hl with
  | [u, v], _ => exact pick_run (v := dk) h
abbrev sp__law_pick (K : PySem.W.Frag) : Sp := SpL K (deckOf boxV) c__law_pick
section
variable {P : Program} {w : World} {K : PySem.W.Frag} {mg : Str → Option Value} {base : Heap} {a : Adr}
theorem ok__law_pick (T : Txt K mg a) : FnOk P w K mg base CX0 2 a.f__law_pick a.d__law_pick ["deck", "items"] (sp__law_pick K) := by
  have G__law_draw : FnOk P w K mg base CX0 1 a.f__law_draw a.d__law_draw ["deck", "many"] (sp__law_draw K) := ok__law_draw T
  refine T._law_pick.F.ok sc__law_pick (fun vs H Q E h => sp_len l__law_pick h) (fun cdv A outer s H vs Q E hr h => ?_)
  have hu := hu_of hr
  exact ⟨_, (pss_one (ps_ret (pe_ix (show IxR _ (rIx K) from ix_seq) (pv 1) (pe_call G__law_draw hr (by rfl) T._law_draw.m T._law_draw.F.kp T._law_draw.b .nil pass0 (pa_cons (pv 0) (pa_cons (pe_callB (show CallR _ _ (Sx.rLenS K) from call_len_seq) (by rfl) T.b_len (by decide +kernel) (pa_cons (pv 1) pa_nil)) pa_nil))) (fun _ _ => rfl)))),
    run0 (N := ["deck", "items"]) (np := 2) (f := b__law_pick) h (sp_len l__law_pick h) (fun dk B hb => (show LS B K Wno _ (b__law_pick dk) from
      (ls_ret (le_op ol_ix (le_var (i := 1)) (le_call0 (dk := dk) (c := c__law_draw) hb (la_cons (le_var (i := 0)) (la_cons (le_cb cl_len (la_cons (le_var (i := 1)) la_nil)) la_nil))))))) h__law_pick⟩
end
def c__law_mixed : V → Ct := fun dk as R _ => match as with
  | [.raw v, a] => v = dk ∧ a.seq fun xs => PyData.plainAll xs = true ∧ xs.length ≤ 1000 ∧ ∀ ys : List PyData, ys.Perm xs → R (.d (.list ys))
  | _ => False
def b__law_mixed (dk : V) : ASx :=
  (aSeq (aPar 2 3 (aCons (aCB gList (aCons (aVar 1) aNil)) (aCons (aLst aNil) aNil)))
      (aCut (aWhile (aB (aEqNilV true 2)) (aDrop (aApp 3 (aPopAt 2 (aCall0 (c__law_draw dk) (aCons (aVar 0) (aCons (aLenV 2) aNil)))))))
      (aRet (aVar 3))))
theorem l__law_mixed : ∀ (dk : V) (as : List A) (R : A → Prop) (Z : Ex → Prop), c__law_mixed dk as R Z → as.length = 2 := by
  intro dk as R Z h
  unfold c__law_mixed at h
  split at h
  · rfl
  · exact h.elim
theorem h__law_mixed : ∀ (dk : V) (as : List A) (R : A → Prop) (Z : Ex → Prop), as.length = 2 → c__law_mixed dk as R Z → b__law_mixed dk (ends0 R) (fun _ => R (.d .none)) (as ++ unA ((["deck", "items", "rest", "found"] : List Str).length - 2)) := by
  intro dk as R Z hl h
  unfold c__law_mixed at h
  split at h
  · rename_i v a
    obtain ⟨rfl, h⟩ := h
    have key : ∀ (a' : A) (xs : List PyData), PyData.plainAll xs = true → xs.length ≤ 1000 → (∀ ys : List PyData, ys.Perm xs → R (.d (.list ys))) → ∀ b1 : A, aCut (aWhile (aB (aEqNilV true 2)) (aDrop (aApp 3 (aPopAt 2 (aCall0 (c__law_draw v) (aCons (aVar 0) (aCons (aLenV 2) aNil))))))) (aRet (aVar 3)) (ends0 R) (fun _ => R (.d .none)) [.raw v, b1, .own xs, .own []] := by
      intro a' xs hp hl h b1
      refine ⟨fun ρ => ∃ ys, ys.Perm xs ∧ ρ = [.raw v, b1, .own [], .own ys], ?_, ?_⟩
      · simp only [ends0, wipeA, List.map, List.set, List.cons_append, List.nil_append, List.length_cons, List.length_nil, ite_true, ite_false, Bool.not_true, Bool.not_false, Bool.true_and, Bool.and_true, Bool.false_and, Bool.and_false, reduceIte, reduceCtorEq, Bool.false_eq_true, if_true, if_false, Nat.reduceAdd, Nat.reduceLeDiff, ne_eq, not_false_eq_true, eq_self, not_true_eq_false, Nat.reduceSub, Nat.reduceMul, Nat.reduceLT, Nat.reducePow, Int.reduceLE, Int.reduceLT, Int.reduceAdd, Int.reduceSub, Int.reduceMul, Int.reduceNeg, Int.reducePow, Int.reduceToNat, Int.reduceEq, Int.reduceBEq, Option.some.injEq, exists_eq_left', exists_eq_left, true_and, and_true, decide_true, decide_false, Nat.reduceBEq, Bool.or_true, Bool.true_or, Bool.or_false, Bool.false_or, aVar_e, aC_e, aRaw_e, aOp_e, aUn_e, aNot_e, aAnd_e, aOr_e, aChain_e, aTern_e, aNil_e, aCons_e, aTup_e, aLst_e, aB_e, tAndA_e, tOrA_e, tNotA_e, aCB_e, aCall_e, aCallK_e, aSl_e, aNoP_e, aCall0_e, gN_e, aNext_e, aSeq_e, aBrk_e, aCnt_e, aDrop_e, aRet_e, aRetN_e, aIfS_e, aAsg_e, aAug_e, aPar_e, aFor_e, aWhile_e, aYes_e, aIter_e, aEnum_e, aRange1_e, aRange2_e, aZip_e, aZipTL_e, aApp_e, aPopAt_e, aPop_e, aLenV_e, aIxV_e, aEqNilV_e, aTupV_e, aDnew_e, aListRg_e, aComp_e, aZip3T_e, aCallK0_e, gSetV_e, on_d, on_own, bl_b, it_i, ow_o, isOwn_o, seq_t, seq_l, seq_o, lst_l, lst_o, tup_t, same_t, same_l, one_1, fz_d, fz_r, fz_o, look_d, look_r, look_o, unA_0, unA_s, sl_0, sl_s, ons_n, ons_c, gI0_i, gI_i, gU_i, gIsN_n, gNotN_n, isNone_n, isNone_i, isNone_b, isNone_s, isNone_t, isNone_l, gEq_s, gNe_s, gIn_l, gIn_t, gNotIn_l, gNotIn_t, gIx_t, gIx_l, gCat_i, gCat_t, gCat_l, gMul_i, gMul_t, gMul_l, gCut_t, gCut_l, gP_x, intD_n, intD_b, intD_i, intD_s, intD_l, intD_t, intD_d, boolD_n, boolD_b, boolD_i, boolD_s, boolD_l, boolD_t, boolD_d, strD_n, strD_b, strD_i, strD_s, strD_l, strD_t, strD_d, tupD_n, tupD_b, tupD_i, tupD_s, tupD_l, tupD_t, tupD_d, wholeD_n, wholeD_b, wholeD_i, wholeD_s, wholeD_l, wholeD_t, wholeD_d, gLen_1, gTuple_1, gList_1, gInt_i, gInt_b, gAbs_i, gRepr_x, gAll_l, gAny_l, gSum_l, gGcd_i, gSorted_l, cDraw_1, two_1, three_1, cPick_1, gMax2_i, gMin2_i, gEqS_s, isStr_s, gNil_n, gCons_c, gT_t, gL_o, gL_l, at1_0, at2_0, at2_1, at3_0, at3_1, at3_2, cpow_e, cast_lit, abs_lit, aPart_e, gEq_i, gNe_i]
        refine ⟨fun m ρ => ∃ rest found, ρ = [.raw v, b1, .own rest, .own found] ∧ (found ++ rest).Perm xs ∧ rest.length = m ∧ PyData.plainAll rest = true, ⟨xs.length, xs, [], rfl, List.Perm.refl _, rfl, hp⟩, ?_⟩
        rintro m ρ ⟨rest, found, rfl, pm, hm, pr⟩
        simp only [ends0, wipeA, List.map, List.set, List.cons_append, List.nil_append, List.length_cons, List.length_nil, ite_true, ite_false, Bool.not_true, Bool.not_false, Bool.true_and, Bool.and_true, Bool.false_and, Bool.and_false, reduceIte, reduceCtorEq, Bool.false_eq_true, if_true, if_false, Nat.reduceAdd, Nat.reduceLeDiff, ne_eq, not_false_eq_true, eq_self, not_true_eq_false, Nat.reduceSub, Nat.reduceMul, Nat.reduceLT, Nat.reducePow, Int.reduceLE, Int.reduceLT, Int.reduceAdd, Int.reduceSub, Int.reduceMul, Int.reduceNeg, Int.reducePow, Int.reduceToNat, Int.reduceEq, Int.reduceBEq, Option.some.injEq, exists_eq_left', exists_eq_left, true_and, and_true, decide_true, decide_false, Nat.reduceBEq, Bool.or_true, Bool.true_or, Bool.or_false, Bool.false_or, aVar_e, aC_e, aRaw_e, aOp_e, aUn_e, aNot_e, aAnd_e, aOr_e, aChain_e, aTern_e, aNil_e, aCons_e, aTup_e, aLst_e, aB_e, tAndA_e, tOrA_e, tNotA_e, aCB_e, aCall_e, aCallK_e, aSl_e, aNoP_e, aCall0_e, gN_e, aNext_e, aSeq_e, aBrk_e, aCnt_e, aDrop_e, aRet_e, aRetN_e, aIfS_e, aAsg_e, aAug_e, aPar_e, aFor_e, aWhile_e, aYes_e, aIter_e, aEnum_e, aRange1_e, aRange2_e, aZip_e, aZipTL_e, aApp_e, aPopAt_e, aPop_e, aLenV_e, aIxV_e, aEqNilV_e, aTupV_e, aDnew_e, aListRg_e, aComp_e, aZip3T_e, aCallK0_e, gSetV_e, on_d, on_own, bl_b, it_i, ow_o, isOwn_o, seq_t, seq_l, seq_o, lst_l, lst_o, tup_t, same_t, same_l, one_1, fz_d, fz_r, fz_o, look_d, look_r, look_o, unA_0, unA_s, sl_0, sl_s, ons_n, ons_c, gI0_i, gI_i, gU_i, gIsN_n, gNotN_n, isNone_n, isNone_i, isNone_b, isNone_s, isNone_t, isNone_l, gEq_s, gNe_s, gIn_l, gIn_t, gNotIn_l, gNotIn_t, gIx_t, gIx_l, gCat_i, gCat_t, gCat_l, gMul_i, gMul_t, gMul_l, gCut_t, gCut_l, gP_x, intD_n, intD_b, intD_i, intD_s, intD_l, intD_t, intD_d, boolD_n, boolD_b, boolD_i, boolD_s, boolD_l, boolD_t, boolD_d, strD_n, strD_b, strD_i, strD_s, strD_l, strD_t, strD_d, tupD_n, tupD_b, tupD_i, tupD_s, tupD_l, tupD_t, tupD_d, wholeD_n, wholeD_b, wholeD_i, wholeD_s, wholeD_l, wholeD_t, wholeD_d, gLen_1, gTuple_1, gList_1, gInt_i, gInt_b, gAbs_i, gRepr_x, gAll_l, gAny_l, gSum_l, gGcd_i, gSorted_l, cDraw_1, two_1, three_1, cPick_1, gMax2_i, gMin2_i, gEqS_s, isStr_s, gNil_n, gCons_c, gT_t, gL_o, gL_l, at1_0, at2_0, at2_1, at3_0, at3_1, at3_2, cpow_e, cast_lit, abs_lit, aPart_e, gEq_i, gNe_i]
        refine ⟨pr, ?_⟩
        cases rest with
        | nil =>
          simp only [List.isEmpty_nil, ends0, wipeA, List.map, List.set, List.cons_append, List.nil_append, List.length_cons, List.length_nil, ite_true, ite_false, Bool.not_true, Bool.not_false, Bool.true_and, Bool.and_true, Bool.false_and, Bool.and_false, reduceIte, reduceCtorEq, Bool.false_eq_true, if_true, if_false, Nat.reduceAdd, Nat.reduceLeDiff, ne_eq, not_false_eq_true, eq_self, not_true_eq_false, Nat.reduceSub, Nat.reduceMul, Nat.reduceLT, Nat.reducePow, Int.reduceLE, Int.reduceLT, Int.reduceAdd, Int.reduceSub, Int.reduceMul, Int.reduceNeg, Int.reducePow, Int.reduceToNat, Int.reduceEq, Int.reduceBEq, Option.some.injEq, exists_eq_left', exists_eq_left, true_and, and_true, decide_true, decide_false, Nat.reduceBEq, Bool.or_true, Bool.true_or, Bool.or_false, Bool.false_or, aVar_e, aC_e, aRaw_e, aOp_e, aUn_e, aNot_e, aAnd_e, aOr_e, aChain_e, aTern_e, aNil_e, aCons_e, aTup_e, aLst_e, aB_e, tAndA_e, tOrA_e, tNotA_e, aCB_e, aCall_e, aCallK_e, aSl_e, aNoP_e, aCall0_e, gN_e, aNext_e, aSeq_e, aBrk_e, aCnt_e, aDrop_e, aRet_e, aRetN_e, aIfS_e, aAsg_e, aAug_e, aPar_e, aFor_e, aWhile_e, aYes_e, aIter_e, aEnum_e, aRange1_e, aRange2_e, aZip_e, aZipTL_e, aApp_e, aPopAt_e, aPop_e, aLenV_e, aIxV_e, aEqNilV_e, aTupV_e, aDnew_e, aListRg_e, aComp_e, aZip3T_e, aCallK0_e, gSetV_e, on_d, on_own, bl_b, it_i, ow_o, isOwn_o, seq_t, seq_l, seq_o, lst_l, lst_o, tup_t, same_t, same_l, one_1, fz_d, fz_r, fz_o, look_d, look_r, look_o, unA_0, unA_s, sl_0, sl_s, ons_n, ons_c, gI0_i, gI_i, gU_i, gIsN_n, gNotN_n, isNone_n, isNone_i, isNone_b, isNone_s, isNone_t, isNone_l, gEq_s, gNe_s, gIn_l, gIn_t, gNotIn_l, gNotIn_t, gIx_t, gIx_l, gCat_i, gCat_t, gCat_l, gMul_i, gMul_t, gMul_l, gCut_t, gCut_l, gP_x, intD_n, intD_b, intD_i, intD_s, intD_l, intD_t, intD_d, boolD_n, boolD_b, boolD_i, boolD_s, boolD_l, boolD_t, boolD_d, strD_n, strD_b, strD_i, strD_s, strD_l, strD_t, strD_d, tupD_n, tupD_b, tupD_i, tupD_s, tupD_l, tupD_t, tupD_d, wholeD_n, wholeD_b, wholeD_i, wholeD_s, wholeD_l, wholeD_t, wholeD_d, gLen_1, gTuple_1, gList_1, gInt_i, gInt_b, gAbs_i, gRepr_x, gAll_l, gAny_l, gSum_l, gGcd_i, gSorted_l, cDraw_1, two_1, three_1, cPick_1, gMax2_i, gMin2_i, gEqS_s, isStr_s, gNil_n, gCons_c, gT_t, gL_o, gL_l, at1_0, at2_0, at2_1, at3_0, at3_1, at3_2, cpow_e, cast_lit, abs_lit, aPart_e, gEq_i, gNe_i]
          rw [List.append_nil] at pm
          exact ⟨found, pm, rfl⟩
        | cons z zs =>
          have hlen := pm.length_eq
          rw [List.length_append] at hlen
          generalize hr : z :: zs = rest at pm hm pr hlen
          have hpos : 0 < rest.length := by rw [← hr]; exact Nat.succ_pos _
          have he : rest.isEmpty = false := by rw [← hr] <;> rfl
          simp only [he, c__law_draw, ends0, wipeA, List.map, List.set, List.cons_append, List.nil_append, List.length_cons, List.length_nil, ite_true, ite_false, Bool.not_true, Bool.not_false, Bool.true_and, Bool.and_true, Bool.false_and, Bool.and_false, reduceIte, reduceCtorEq, Bool.false_eq_true, if_true, if_false, Nat.reduceAdd, Nat.reduceLeDiff, ne_eq, not_false_eq_true, eq_self, not_true_eq_false, Nat.reduceSub, Nat.reduceMul, Nat.reduceLT, Nat.reducePow, Int.reduceLE, Int.reduceLT, Int.reduceAdd, Int.reduceSub, Int.reduceMul, Int.reduceNeg, Int.reducePow, Int.reduceToNat, Int.reduceEq, Int.reduceBEq, Option.some.injEq, exists_eq_left', exists_eq_left, true_and, and_true, decide_true, decide_false, Nat.reduceBEq, Bool.or_true, Bool.true_or, Bool.or_false, Bool.false_or, aVar_e, aC_e, aRaw_e, aOp_e, aUn_e, aNot_e, aAnd_e, aOr_e, aChain_e, aTern_e, aNil_e, aCons_e, aTup_e, aLst_e, aB_e, tAndA_e, tOrA_e, tNotA_e, aCB_e, aCall_e, aCallK_e, aSl_e, aNoP_e, aCall0_e, gN_e, aNext_e, aSeq_e, aBrk_e, aCnt_e, aDrop_e, aRet_e, aRetN_e, aIfS_e, aAsg_e, aAug_e, aPar_e, aFor_e, aWhile_e, aYes_e, aIter_e, aEnum_e, aRange1_e, aRange2_e, aZip_e, aZipTL_e, aApp_e, aPopAt_e, aPop_e, aLenV_e, aIxV_e, aEqNilV_e, aTupV_e, aDnew_e, aListRg_e, aComp_e, aZip3T_e, aCallK0_e, gSetV_e, on_d, on_own, bl_b, it_i, ow_o, isOwn_o, seq_t, seq_l, seq_o, lst_l, lst_o, tup_t, same_t, same_l, one_1, fz_d, fz_r, fz_o, look_d, look_r, look_o, unA_0, unA_s, sl_0, sl_s, ons_n, ons_c, gI0_i, gI_i, gU_i, gIsN_n, gNotN_n, isNone_n, isNone_i, isNone_b, isNone_s, isNone_t, isNone_l, gEq_s, gNe_s, gIn_l, gIn_t, gNotIn_l, gNotIn_t, gIx_t, gIx_l, gCat_i, gCat_t, gCat_l, gMul_i, gMul_t, gMul_l, gCut_t, gCut_l, gP_x, intD_n, intD_b, intD_i, intD_s, intD_l, intD_t, intD_d, boolD_n, boolD_b, boolD_i, boolD_s, boolD_l, boolD_t, boolD_d, strD_n, strD_b, strD_i, strD_s, strD_l, strD_t, strD_d, tupD_n, tupD_b, tupD_i, tupD_s, tupD_l, tupD_t, tupD_d, wholeD_n, wholeD_b, wholeD_i, wholeD_s, wholeD_l, wholeD_t, wholeD_d, gLen_1, gTuple_1, gList_1, gInt_i, gInt_b, gAbs_i, gRepr_x, gAll_l, gAny_l, gSum_l, gGcd_i, gSorted_l, cDraw_1, two_1, three_1, cPick_1, gMax2_i, gMin2_i, gEqS_s, isStr_s, gNil_n, gCons_c, gT_t, gL_o, gL_l, at1_0, at2_0, at2_1, at3_0, at3_1, at3_2, cpow_e, cast_lit, abs_lit, aPart_e, gEq_i, gNe_i]
          refine ⟨small_of (by omega) (by omega), fun r r0 r1 => ⟨r0, r1, by omega, by omega, m - 1, by omega, rest.eraseIdx r.toNat, found ++ [rest.getD r.toNat .none], rfl, ?_, ?_, ?_⟩⟩
          · have hk : r.toNat < rest.length := by omega
            rw [List.append_assoc]
            refine List.Perm.trans (List.Perm.append_left found ?_) pm
            have e : rest.getD r.toNat .none = rest[r.toNat] := by rw [List.getD_eq_getElem?_getD, List.getElem?_eq_getElem hk] <;> rfl
            rw [e, List.singleton_append]
            exact erase_perm rest _ hk
          · rw [List.length_eraseIdx_of_lt (by omega)]
            omega
          · exact plain_erase pr _
      · rintro ρ ⟨ys, pm, rfl⟩
        simp only [ends0, wipeA, List.map, List.set, List.cons_append, List.nil_append, List.length_cons, List.length_nil, ite_true, ite_false, Bool.not_true, Bool.not_false, Bool.true_and, Bool.and_true, Bool.false_and, Bool.and_false, reduceIte, reduceCtorEq, Bool.false_eq_true, if_true, if_false, Nat.reduceAdd, Nat.reduceLeDiff, ne_eq, not_false_eq_true, eq_self, not_true_eq_false, Nat.reduceSub, Nat.reduceMul, Nat.reduceLT, Nat.reducePow, Int.reduceLE, Int.reduceLT, Int.reduceAdd, Int.reduceSub, Int.reduceMul, Int.reduceNeg, Int.reducePow, Int.reduceToNat, Int.reduceEq, Int.reduceBEq, Option.some.injEq, exists_eq_left', exists_eq_left, true_and, and_true, decide_true, decide_false, Nat.reduceBEq, Bool.or_true, Bool.true_or, Bool.or_false, Bool.false_or, aVar_e, aC_e, aRaw_e, aOp_e, aUn_e, aNot_e, aAnd_e, aOr_e, aChain_e, aTern_e, aNil_e, aCons_e, aTup_e, aLst_e, aB_e, tAndA_e, tOrA_e, tNotA_e, aCB_e, aCall_e, aCallK_e, aSl_e, aNoP_e, aCall0_e, gN_e, aNext_e, aSeq_e, aBrk_e, aCnt_e, aDrop_e, aRet_e, aRetN_e, aIfS_e, aAsg_e, aAug_e, aPar_e, aFor_e, aWhile_e, aYes_e, aIter_e, aEnum_e, aRange1_e, aRange2_e, aZip_e, aZipTL_e, aApp_e, aPopAt_e, aPop_e, aLenV_e, aIxV_e, aEqNilV_e, aTupV_e, aDnew_e, aListRg_e, aComp_e, aZip3T_e, aCallK0_e, gSetV_e, on_d, on_own, bl_b, it_i, ow_o, isOwn_o, seq_t, seq_l, seq_o, lst_l, lst_o, tup_t, same_t, same_l, one_1, fz_d, fz_r, fz_o, look_d, look_r, look_o, unA_0, unA_s, sl_0, sl_s, ons_n, ons_c, gI0_i, gI_i, gU_i, gIsN_n, gNotN_n, isNone_n, isNone_i, isNone_b, isNone_s, isNone_t, isNone_l, gEq_s, gNe_s, gIn_l, gIn_t, gNotIn_l, gNotIn_t, gIx_t, gIx_l, gCat_i, gCat_t, gCat_l, gMul_i, gMul_t, gMul_l, gCut_t, gCut_l, gP_x, intD_n, intD_b, intD_i, intD_s, intD_l, intD_t, intD_d, boolD_n, boolD_b, boolD_i, boolD_s, boolD_l, boolD_t, boolD_d, strD_n, strD_b, strD_i, strD_s, strD_l, strD_t, strD_d, tupD_n, tupD_b, tupD_i, tupD_s, tupD_l, tupD_t, tupD_d, wholeD_n, wholeD_b, wholeD_i, wholeD_s, wholeD_l, wholeD_t, wholeD_d, gLen_1, gTuple_1, gList_1, gInt_i, gInt_b, gAbs_i, gRepr_x, gAll_l, gAny_l, gSum_l, gGcd_i, gSorted_l, cDraw_1, two_1, three_1, cPick_1, gMax2_i, gMin2_i, gEqS_s, isStr_s, gNil_n, gCons_c, gT_t, gL_o, gL_l, at1_0, at2_0, at2_1, at3_0, at3_1, at3_2, cpow_e, cast_lit, abs_lit, aPart_e, gEq_i, gNe_i]
        exact h ys pm
    cases a with
    | d y =>
      cases y with
      | tuple ds =>
        obtain ⟨h1, h2, h3⟩ := h
        simp only [b__law_mixed, aSeq_e, ends0, wipeA, List.map, List.set, List.cons_append, List.nil_append, List.length_cons, List.length_nil, ite_true, ite_false, Bool.not_true, Bool.not_false, Bool.true_and, Bool.and_true, Bool.false_and, Bool.and_false, reduceIte, reduceCtorEq, Bool.false_eq_true, if_true, if_false, Nat.reduceAdd, Nat.reduceLeDiff, ne_eq, not_false_eq_true, eq_self, not_true_eq_false, Nat.reduceSub, Nat.reduceMul, Nat.reduceLT, Nat.reducePow, Int.reduceLE, Int.reduceLT, Int.reduceAdd, Int.reduceSub, Int.reduceMul, Int.reduceNeg, Int.reducePow, Int.reduceToNat, Int.reduceEq, Int.reduceBEq, Option.some.injEq, exists_eq_left', exists_eq_left, true_and, and_true, decide_true, decide_false, Nat.reduceBEq, Bool.or_true, Bool.true_or, Bool.or_false, Bool.false_or, aVar_e, aC_e, aRaw_e, aOp_e, aUn_e, aNot_e, aAnd_e, aOr_e, aChain_e, aTern_e, aNil_e, aCons_e, aTup_e, aLst_e, aB_e, tAndA_e, tOrA_e, tNotA_e, aCB_e, aCall_e, aCallK_e, aSl_e, aNoP_e, aCall0_e, gN_e, aNext_e, aSeq_e, aBrk_e, aCnt_e, aDrop_e, aRet_e, aRetN_e, aIfS_e, aAsg_e, aAug_e, aPar_e, aFor_e, aWhile_e, aYes_e, aIter_e, aEnum_e, aRange1_e, aRange2_e, aZip_e, aZipTL_e, aApp_e, aPopAt_e, aPop_e, aLenV_e, aIxV_e, aEqNilV_e, aTupV_e, aDnew_e, aListRg_e, aComp_e, aZip3T_e, aCallK0_e, gSetV_e, on_d, on_own, bl_b, it_i, ow_o, isOwn_o, seq_t, seq_l, seq_o, lst_l, lst_o, tup_t, same_t, same_l, one_1, fz_d, fz_r, fz_o, look_d, look_r, look_o, unA_0, unA_s, sl_0, sl_s, ons_n, ons_c, gI0_i, gI_i, gU_i, gIsN_n, gNotN_n, isNone_n, isNone_i, isNone_b, isNone_s, isNone_t, isNone_l, gEq_s, gNe_s, gIn_l, gIn_t, gNotIn_l, gNotIn_t, gIx_t, gIx_l, gCat_i, gCat_t, gCat_l, gMul_i, gMul_t, gMul_l, gCut_t, gCut_l, gP_x, intD_n, intD_b, intD_i, intD_s, intD_l, intD_t, intD_d, boolD_n, boolD_b, boolD_i, boolD_s, boolD_l, boolD_t, boolD_d, strD_n, strD_b, strD_i, strD_s, strD_l, strD_t, strD_d, tupD_n, tupD_b, tupD_i, tupD_s, tupD_l, tupD_t, tupD_d, wholeD_n, wholeD_b, wholeD_i, wholeD_s, wholeD_l, wholeD_t, wholeD_d, gLen_1, gTuple_1, gList_1, gInt_i, gInt_b, gAbs_i, gRepr_x, gAll_l, gAny_l, gSum_l, gGcd_i, gSorted_l, cDraw_1, two_1, three_1, cPick_1, gMax2_i, gMin2_i, gEqS_s, isStr_s, gNil_n, gCons_c, gT_t, gL_o, gL_l, at1_0, at2_0, at2_1, at3_0, at3_1, at3_2, cpow_e, cast_lit, abs_lit, aPart_e, gEq_i, gNe_i]
        exact key (.d (.tuple ds)) ds h1 h2 h3 _
      | list ds =>
        obtain ⟨h1, h2, h3⟩ := h
        simp only [b__law_mixed, aSeq_e, ends0, wipeA, List.map, List.set, List.cons_append, List.nil_append, List.length_cons, List.length_nil, ite_true, ite_false, Bool.not_true, Bool.not_false, Bool.true_and, Bool.and_true, Bool.false_and, Bool.and_false, reduceIte, reduceCtorEq, Bool.false_eq_true, if_true, if_false, Nat.reduceAdd, Nat.reduceLeDiff, ne_eq, not_false_eq_true, eq_self, not_true_eq_false, Nat.reduceSub, Nat.reduceMul, Nat.reduceLT, Nat.reducePow, Int.reduceLE, Int.reduceLT, Int.reduceAdd, Int.reduceSub, Int.reduceMul, Int.reduceNeg, Int.reducePow, Int.reduceToNat, Int.reduceEq, Int.reduceBEq, Option.some.injEq, exists_eq_left', exists_eq_left, true_and, and_true, decide_true, decide_false, Nat.reduceBEq, Bool.or_true, Bool.true_or, Bool.or_false, Bool.false_or, aVar_e, aC_e, aRaw_e, aOp_e, aUn_e, aNot_e, aAnd_e, aOr_e, aChain_e, aTern_e, aNil_e, aCons_e, aTup_e, aLst_e, aB_e, tAndA_e, tOrA_e, tNotA_e, aCB_e, aCall_e, aCallK_e, aSl_e, aNoP_e, aCall0_e, gN_e, aNext_e, aSeq_e, aBrk_e, aCnt_e, aDrop_e, aRet_e, aRetN_e, aIfS_e, aAsg_e, aAug_e, aPar_e, aFor_e, aWhile_e, aYes_e, aIter_e, aEnum_e, aRange1_e, aRange2_e, aZip_e, aZipTL_e, aApp_e, aPopAt_e, aPop_e, aLenV_e, aIxV_e, aEqNilV_e, aTupV_e, aDnew_e, aListRg_e, aComp_e, aZip3T_e, aCallK0_e, gSetV_e, on_d, on_own, bl_b, it_i, ow_o, isOwn_o, seq_t, seq_l, seq_o, lst_l, lst_o, tup_t, same_t, same_l, one_1, fz_d, fz_r, fz_o, look_d, look_r, look_o, unA_0, unA_s, sl_0, sl_s, ons_n, ons_c, gI0_i, gI_i, gU_i, gIsN_n, gNotN_n, isNone_n, isNone_i, isNone_b, isNone_s, isNone_t, isNone_l, gEq_s, gNe_s, gIn_l, gIn_t, gNotIn_l, gNotIn_t, gIx_t, gIx_l, gCat_i, gCat_t, gCat_l, gMul_i, gMul_t, gMul_l, gCut_t, gCut_l, gP_x, intD_n, intD_b, intD_i, intD_s, intD_l, intD_t, intD_d, boolD_n, boolD_b, boolD_i, boolD_s, boolD_l, boolD_t, boolD_d, strD_n, strD_b, strD_i, strD_s, strD_l, strD_t, strD_d, tupD_n, tupD_b, tupD_i, tupD_s, tupD_l, tupD_t, tupD_d, wholeD_n, wholeD_b, wholeD_i, wholeD_s, wholeD_l, wholeD_t, wholeD_d, gLen_1, gTuple_1, gList_1, gInt_i, gInt_b, gAbs_i, gRepr_x, gAll_l, gAny_l, gSum_l, gGcd_i, gSorted_l, cDraw_1, two_1, three_1, cPick_1, gMax2_i, gMin2_i, gEqS_s, isStr_s, gNil_n, gCons_c, gT_t, gL_o, gL_l, at1_0, at2_0, at2_1, at3_0, at3_1, at3_2, cpow_e, cast_lit, abs_lit, aPart_e, gEq_i, gNe_i]
        exact key (.d (.list ds)) ds h1 h2 h3 _
      | none => exact h.elim
      | bool _ => exact h.elim
      | int _ => exact h.elim
      | str _ => exact h.elim
      | dict _ => exact h.elim
    | un => exact h.elim
    | raw _ => exact h.elim
    | own ds =>
      obtain ⟨h1, h2, h3⟩ := h
      simp only [b__law_mixed, aSeq_e, ends0, wipeA, List.map, List.set, List.cons_append, List.nil_append, List.length_cons, List.length_nil, ite_true, ite_false, Bool.not_true, Bool.not_false, Bool.true_and, Bool.and_true, Bool.false_and, Bool.and_false, reduceIte, reduceCtorEq, Bool.false_eq_true, if_true, if_false, Nat.reduceAdd, Nat.reduceLeDiff, ne_eq, not_false_eq_true, eq_self, not_true_eq_false, Nat.reduceSub, Nat.reduceMul, Nat.reduceLT, Nat.reducePow, Int.reduceLE, Int.reduceLT, Int.reduceAdd, Int.reduceSub, Int.reduceMul, Int.reduceNeg, Int.reducePow, Int.reduceToNat, Int.reduceEq, Int.reduceBEq, Option.some.injEq, exists_eq_left', exists_eq_left, true_and, and_true, decide_true, decide_false, Nat.reduceBEq, Bool.or_true, Bool.true_or, Bool.or_false, Bool.false_or, aVar_e, aC_e, aRaw_e, aOp_e, aUn_e, aNot_e, aAnd_e, aOr_e, aChain_e, aTern_e, aNil_e, aCons_e, aTup_e, aLst_e, aB_e, tAndA_e, tOrA_e, tNotA_e, aCB_e, aCall_e, aCallK_e, aSl_e, aNoP_e, aCall0_e, gN_e, aNext_e, aSeq_e, aBrk_e, aCnt_e, aDrop_e, aRet_e, aRetN_e, aIfS_e, aAsg_e, aAug_e, aPar_e, aFor_e, aWhile_e, aYes_e, aIter_e, aEnum_e, aRange1_e, aRange2_e, aZip_e, aZipTL_e, aApp_e, aPopAt_e, aPop_e, aLenV_e, aIxV_e, aEqNilV_e, aTupV_e, aDnew_e, aListRg_e, aComp_e, aZip3T_e, aCallK0_e, gSetV_e, on_d, on_own, bl_b, it_i, ow_o, isOwn_o, seq_t, seq_l, seq_o, lst_l, lst_o, tup_t, same_t, same_l, one_1, fz_d, fz_r, fz_o, look_d, look_r, look_o, unA_0, unA_s, sl_0, sl_s, ons_n, ons_c, gI0_i, gI_i, gU_i, gIsN_n, gNotN_n, isNone_n, isNone_i, isNone_b, isNone_s, isNone_t, isNone_l, gEq_s, gNe_s, gIn_l, gIn_t, gNotIn_l, gNotIn_t, gIx_t, gIx_l, gCat_i, gCat_t, gCat_l, gMul_i, gMul_t, gMul_l, gCut_t, gCut_l, gP_x, intD_n, intD_b, intD_i, intD_s, intD_l, intD_t, intD_d, boolD_n, boolD_b, boolD_i, boolD_s, boolD_l, boolD_t, boolD_d, strD_n, strD_b, strD_i, strD_s, strD_l, strD_t, strD_d, tupD_n, tupD_b, tupD_i, tupD_s, tupD_l, tupD_t, tupD_d, wholeD_n, wholeD_b, wholeD_i, wholeD_s, wholeD_l, wholeD_t, wholeD_d, gLen_1, gTuple_1, gList_1, gInt_i, gInt_b, gAbs_i, gRepr_x, gAll_l, gAny_l, gSum_l, gGcd_i, gSorted_l, cDraw_1, two_1, three_1, cPick_1, gMax2_i, gMin2_i, gEqS_s, isStr_s, gNil_n, gCons_c, gT_t, gL_o, gL_l, at1_0, at2_0, at2_1, at3_0, at3_1, at3_2, cpow_e, cast_lit, abs_lit, aPart_e, gEq_i, gNe_i]
      exact key (.own ds) ds h1 h2 h3 _
  · exact h.elim
abbrev sp__law_mixed (K : PySem.W.Frag) : Sp := SpL K (deckOf boxV) c__law_mixed
section
variable {P : Program} {w : World} {K : PySem.W.Frag} {mg : Str → Option Value} {base : Heap} {a : Adr}
theorem ok__law_mixed (T : Txt K mg a) : FnOk P w K mg base CX0 2 a.f__law_mixed a.d__law_mixed ["deck", "items"] (sp__law_mixed K) := by
  have G__law_draw : FnOk P w K mg base CX0 1 a.f__law_draw a.d__law_draw ["deck", "many"] (sp__law_draw K) := ok__law_draw T
  refine T._law_mixed.F.ok sc__law_mixed (fun vs H Q E h => sp_len l__law_mixed h) (fun cdv A outer s H vs Q E hr h => ?_)
  have hu := hu_of hr
  exact ⟨_, (pss_cons (ps_par (i := 2) (j := 3) (by rfl) sc__law_mixed.nd rfl rfl (by decide) rfl rfl (pa_cons (pe_callTy (show CallR _ _ (Sx.rListS K) from call_list_of) (by rfl) T.b_list (by decide +kernel) (pa_cons (pv 1) pa_nil)) (pa_cons (pe_lst pa_nil) pa_nil)) (by rfl))
      (pss_cons (ps_while PassesOwn.never (pt_cmpR (show OpR _ _ (rNeP K) from op_neP hr.units) (pv 2) (pe_lst pa_nil) (nomark _)) (pss_one (ps_expr (show PE _ _ (tBM K "list" _ _ _) from pe_bm PySem.F.plainAttrs_list PySem.F.slot_list_append PySem.F.type_list_append mt_append (pv 3) (pa_cons (show PE _ _ (tBM K "list" _ _ _) from pe_bm PySem.F.plainAttrs_list PySem.F.slot_list_pop PySem.F.type_list_pop mt_popAt (pv 2) (pa_cons (pe_call G__law_draw hr (by rfl) T._law_draw.m T._law_draw.F.kp T._law_draw.b .nil pass0 (pa_cons (pv 0) (pa_cons (pe_callB (show CallR _ _ (Sx.rLenS K) from call_len_seq) (by rfl) T.b_len (by decide +kernel) (pa_cons (pv 2) pa_nil)) pa_nil))) pa_nil)) pa_nil)))))
      (pss_one (ps_ret (pv 3))))),
    run0 (N := ["deck", "items", "rest", "found"]) (np := 2) (f := b__law_mixed) h (sp_len l__law_mixed h) (fun dk B hb => (show LS B K Wno _ (b__law_mixed dk) from
      (ls_seq (ls_par (la_cons (le_cb cl_list (la_cons (le_var (i := 1)) la_nil)) (la_cons (le_lst la_nil (by decide)) la_nil)) (by decide))
      (ls_cut (ls_while (lt_test (le_neNilV (i := 2))) (ls_drop (le_app (i := 3) (le_popAt (i := 2) (le_call0 (dk := dk) (c := c__law_draw) hb (la_cons (le_var (i := 0)) (la_cons (le_lenV (i := 2)) la_nil)))))))
      (ls_ret (le_var (i := 3))))))) h__law_mixed⟩
end
def c__law_is_run : V → Ct := fun _ as R _ => match as with
  | [.d m, .d v] => ∃ ns : List Int, m = .tuple (ns.map PyData.int) ∧ R (.d (.bool (runD ns v)))
  | _ => False
def b__law_is_run (dk : V) : ASx :=
  (aSeq (aIfS (tOrA (tNotA (aB (aUn (gP tupD) (aVar 1)))) (aB (aOp (gNe) (aCB gLen (aCons (aVar 1) aNil)) (aC (.int 2))))) (aRet (aC (.bool false))) aNext)
      (aSeq (aAsg (aVar 1) (gT (gCons (gN 2) (gCons (gN 3) gNil))))
      (aSeq (aIfS (tOrA (tNotA (aB (aUn (gP tupD) (aVar 2)))) (aB (aOp (gNe) (aCB gLen (aCons (aVar 2) aNil)) (aCB gLen (aCons (aVar 0) aNil))))) (aRet (aC (.bool false))) aNext)
      (aCut (aFor (aZip (aCons (aVar 0) (aCons (aVar 2) aNil))) (gT (gCons (gN 4) (gCons (gN 5) gNil))) (aIfS (tAndA (aB (aOp (gNotN) (aVar 5) (aC (.none)))) (tOrA (tNotA (aB (aCall0 (c__law_is_integer dk) (aCons (aVar 5) aNil)))) (tNotA (aB (aChain (gI0 fun i j => .bool (decide (i ≤ j))) (gI0 fun i j => .bool (decide (i < j))) (aC (.int 0)) (aVar 5) (aVar 4)))))) (aRet (aC (.bool false))) aNext))
      (aSeq (aIfS (tOrA (tNotA (aB (aUn (gP tupD) (aVar 3)))) (aB (aOp (gNe) (aCB gLen (aCons (aVar 3) aNil)) (aC (.int 2))))) (aRet (aC (.bool false))) aNext)
      (aSeq (aIfS (aB (aOp (gNe) (aComp (aIter (aVar 3)) (gN 6) (tOrA (tNotA (aB (aCall0 (c__law_is_integer dk) (aCons (aVar 6) aNil)))) (tNotA (aB (aChain (gI0 fun i j => .bool (decide (i ≤ j))) (gI0 fun i j => .bool (decide (i ≤ j))) (aUn (gU fun i => .int (-i)) (aOp (gI CPow fun i j => .int (i ^ j.toNat)) (aC (.int 10)) (aC (.int 60)))) (aVar 6) (aOp (gI CPow fun i j => .int (i ^ j.toNat)) (aC (.int 10)) (aC (.int 60))))))) (aC (.int 1)) [6]) (aLst aNil))) (aRet (aC (.bool false))) aNext)
      (aRet (aOp (gI0 fun i j => .bool (decide (i ≤ j))) (aOp gIx (aVar 3) (aC (.int 0))) (aOp gIx (aVar 3) (aC (.int 1)))))))))))
theorem l__law_is_run : ∀ (dk : V) (as : List A) (R : A → Prop) (Z : Ex → Prop), c__law_is_run dk as R Z → as.length = 2 := by
  intro dk as R Z h
  unfold c__law_is_run at h
  split at h
  · rfl
  · exact h.elim
theorem h__law_is_run : ∀ (dk : V) (as : List A) (R : A → Prop) (Z : Ex → Prop), as.length = 2 → c__law_is_run dk as R Z → b__law_is_run dk (ends0 R) (fun _ => R (.d .none)) (as ++ unA ((["machine", "value", "word", "stretch", "modulus", "rest", "own"] : List Str).length - 2)) := by
  intro dk as R Z hl h
  unfold c__law_is_run at h
  split at h
  · rename_i m v
    obtain ⟨ns, rfl, h⟩ := h
    cases v <;> simp only [b__law_is_run, ends0, wipeA, List.map, List.set, List.cons_append, List.nil_append, List.length_cons, List.length_nil, ite_true, ite_false, Bool.not_true, Bool.not_false, Bool.true_and, Bool.and_true, Bool.false_and, Bool.and_false, reduceIte, reduceCtorEq, Bool.false_eq_true, if_true, if_false, Nat.reduceAdd, Nat.reduceLeDiff, ne_eq, not_false_eq_true, eq_self, not_true_eq_false, Nat.reduceSub, Nat.reduceMul, Nat.reduceLT, Nat.reducePow, Int.reduceLE, Int.reduceLT, Int.reduceAdd, Int.reduceSub, Int.reduceMul, Int.reduceNeg, Int.reducePow, Int.reduceToNat, Int.reduceEq, Int.reduceBEq, Option.some.injEq, exists_eq_left', exists_eq_left, true_and, and_true, decide_true, decide_false, Nat.reduceBEq, Bool.or_true, Bool.true_or, Bool.or_false, Bool.false_or, aVar_e, aC_e, aRaw_e, aOp_e, aUn_e, aNot_e, aAnd_e, aOr_e, aChain_e, aTern_e, aNil_e, aCons_e, aTup_e, aLst_e, aB_e, tAndA_e, tOrA_e, tNotA_e, aCB_e, aCall_e, aCallK_e, aSl_e, aNoP_e, aCall0_e, gN_e, aNext_e, aSeq_e, aBrk_e, aCnt_e, aDrop_e, aRet_e, aRetN_e, aIfS_e, aAsg_e, aAug_e, aPar_e, aFor_e, aWhile_e, aYes_e, aIter_e, aEnum_e, aRange1_e, aRange2_e, aZip_e, aZipTL_e, aApp_e, aPopAt_e, aPop_e, aLenV_e, aIxV_e, aEqNilV_e, aTupV_e, aDnew_e, aListRg_e, aComp_e, aZip3T_e, aCallK0_e, gSetV_e, on_d, on_own, bl_b, it_i, ow_o, isOwn_o, seq_t, seq_l, seq_o, lst_l, lst_o, tup_t, same_t, same_l, one_1, fz_d, fz_r, fz_o, look_d, look_r, look_o, unA_0, unA_s, sl_0, sl_s, ons_n, ons_c, gI0_i, gI_i, gU_i, gIsN_n, gNotN_n, isNone_n, isNone_i, isNone_b, isNone_s, isNone_t, isNone_l, gEq_s, gNe_s, gIn_l, gIn_t, gNotIn_l, gNotIn_t, gIx_t, gIx_l, gCat_i, gCat_t, gCat_l, gMul_i, gMul_t, gMul_l, gCut_t, gCut_l, gP_x, intD_n, intD_b, intD_i, intD_s, intD_l, intD_t, intD_d, boolD_n, boolD_b, boolD_i, boolD_s, boolD_l, boolD_t, boolD_d, strD_n, strD_b, strD_i, strD_s, strD_l, strD_t, strD_d, tupD_n, tupD_b, tupD_i, tupD_s, tupD_l, tupD_t, tupD_d, wholeD_n, wholeD_b, wholeD_i, wholeD_s, wholeD_l, wholeD_t, wholeD_d, gLen_1, gTuple_1, gList_1, gInt_i, gInt_b, gAbs_i, gRepr_x, gAll_l, gAny_l, gSum_l, gGcd_i, gSorted_l, cDraw_1, two_1, three_1, cPick_1, gMax2_i, gMin2_i, gEqS_s, isStr_s, gNil_n, gCons_c, gT_t, gL_o, gL_l, at1_0, at2_0, at2_1, at3_0, at3_1, at3_2, cpow_e, cast_lit, abs_lit, aPart_e, gEq_i, gNe_i] <;> try exact h
    rename_i ds
    by_cases h2 : ds.length = 2
    · match ds, h2, h with
      | [x, y], _, h =>
        replace h : R (.d (.bool (isNone (wordD ns x) && isNone (stretchD y)))) := h
        simp only [ends0, wipeA, List.map, List.set, List.cons_append, List.nil_append, List.length_cons, List.length_nil, ite_true, ite_false, Bool.not_true, Bool.not_false, Bool.true_and, Bool.and_true, Bool.false_and, Bool.and_false, reduceIte, reduceCtorEq, Bool.false_eq_true, if_true, if_false, Nat.reduceAdd, Nat.reduceLeDiff, ne_eq, not_false_eq_true, eq_self, not_true_eq_false, Nat.reduceSub, Nat.reduceMul, Nat.reduceLT, Nat.reducePow, Int.reduceLE, Int.reduceLT, Int.reduceAdd, Int.reduceSub, Int.reduceMul, Int.reduceNeg, Int.reducePow, Int.reduceToNat, Int.reduceEq, Int.reduceBEq, Option.some.injEq, exists_eq_left', exists_eq_left, true_and, and_true, decide_true, decide_false, Nat.reduceBEq, Bool.or_true, Bool.true_or, Bool.or_false, Bool.false_or, aVar_e, aC_e, aRaw_e, aOp_e, aUn_e, aNot_e, aAnd_e, aOr_e, aChain_e, aTern_e, aNil_e, aCons_e, aTup_e, aLst_e, aB_e, tAndA_e, tOrA_e, tNotA_e, aCB_e, aCall_e, aCallK_e, aSl_e, aNoP_e, aCall0_e, gN_e, aNext_e, aSeq_e, aBrk_e, aCnt_e, aDrop_e, aRet_e, aRetN_e, aIfS_e, aAsg_e, aAug_e, aPar_e, aFor_e, aWhile_e, aYes_e, aIter_e, aEnum_e, aRange1_e, aRange2_e, aZip_e, aZipTL_e, aApp_e, aPopAt_e, aPop_e, aLenV_e, aIxV_e, aEqNilV_e, aTupV_e, aDnew_e, aListRg_e, aComp_e, aZip3T_e, aCallK0_e, gSetV_e, on_d, on_own, bl_b, it_i, ow_o, isOwn_o, seq_t, seq_l, seq_o, lst_l, lst_o, tup_t, same_t, same_l, one_1, fz_d, fz_r, fz_o, look_d, look_r, look_o, unA_0, unA_s, sl_0, sl_s, ons_n, ons_c, gI0_i, gI_i, gU_i, gIsN_n, gNotN_n, isNone_n, isNone_i, isNone_b, isNone_s, isNone_t, isNone_l, gEq_s, gNe_s, gIn_l, gIn_t, gNotIn_l, gNotIn_t, gIx_t, gIx_l, gCat_i, gCat_t, gCat_l, gMul_i, gMul_t, gMul_l, gCut_t, gCut_l, gP_x, intD_n, intD_b, intD_i, intD_s, intD_l, intD_t, intD_d, boolD_n, boolD_b, boolD_i, boolD_s, boolD_l, boolD_t, boolD_d, strD_n, strD_b, strD_i, strD_s, strD_l, strD_t, strD_d, tupD_n, tupD_b, tupD_i, tupD_s, tupD_l, tupD_t, tupD_d, wholeD_n, wholeD_b, wholeD_i, wholeD_s, wholeD_l, wholeD_t, wholeD_d, gLen_1, gTuple_1, gList_1, gInt_i, gInt_b, gAbs_i, gRepr_x, gAll_l, gAny_l, gSum_l, gGcd_i, gSorted_l, cDraw_1, two_1, three_1, cPick_1, gMax2_i, gMin2_i, gEqS_s, isStr_s, gNil_n, gCons_c, gT_t, gL_o, gL_l, at1_0, at2_0, at2_1, at3_0, at3_1, at3_2, cpow_e, cast_lit, abs_lit, aPart_e, gEq_i, gNe_i]
        have no : isNone (wordD ns x) = false → R (.d (.bool false)) := fun e => by rw [e] at h; exact h
        cases x <;> simp only [ends0, wipeA, List.map, List.set, List.cons_append, List.nil_append, List.length_cons, List.length_nil, ite_true, ite_false, Bool.not_true, Bool.not_false, Bool.true_and, Bool.and_true, Bool.false_and, Bool.and_false, reduceIte, reduceCtorEq, Bool.false_eq_true, if_true, if_false, Nat.reduceAdd, Nat.reduceLeDiff, ne_eq, not_false_eq_true, eq_self, not_true_eq_false, Nat.reduceSub, Nat.reduceMul, Nat.reduceLT, Nat.reducePow, Int.reduceLE, Int.reduceLT, Int.reduceAdd, Int.reduceSub, Int.reduceMul, Int.reduceNeg, Int.reducePow, Int.reduceToNat, Int.reduceEq, Int.reduceBEq, Option.some.injEq, exists_eq_left', exists_eq_left, true_and, and_true, decide_true, decide_false, Nat.reduceBEq, Bool.or_true, Bool.true_or, Bool.or_false, Bool.false_or, aVar_e, aC_e, aRaw_e, aOp_e, aUn_e, aNot_e, aAnd_e, aOr_e, aChain_e, aTern_e, aNil_e, aCons_e, aTup_e, aLst_e, aB_e, tAndA_e, tOrA_e, tNotA_e, aCB_e, aCall_e, aCallK_e, aSl_e, aNoP_e, aCall0_e, gN_e, aNext_e, aSeq_e, aBrk_e, aCnt_e, aDrop_e, aRet_e, aRetN_e, aIfS_e, aAsg_e, aAug_e, aPar_e, aFor_e, aWhile_e, aYes_e, aIter_e, aEnum_e, aRange1_e, aRange2_e, aZip_e, aZipTL_e, aApp_e, aPopAt_e, aPop_e, aLenV_e, aIxV_e, aEqNilV_e, aTupV_e, aDnew_e, aListRg_e, aComp_e, aZip3T_e, aCallK0_e, gSetV_e, on_d, on_own, bl_b, it_i, ow_o, isOwn_o, seq_t, seq_l, seq_o, lst_l, lst_o, tup_t, same_t, same_l, one_1, fz_d, fz_r, fz_o, look_d, look_r, look_o, unA_0, unA_s, sl_0, sl_s, ons_n, ons_c, gI0_i, gI_i, gU_i, gIsN_n, gNotN_n, isNone_n, isNone_i, isNone_b, isNone_s, isNone_t, isNone_l, gEq_s, gNe_s, gIn_l, gIn_t, gNotIn_l, gNotIn_t, gIx_t, gIx_l, gCat_i, gCat_t, gCat_l, gMul_i, gMul_t, gMul_l, gCut_t, gCut_l, gP_x, intD_n, intD_b, intD_i, intD_s, intD_l, intD_t, intD_d, boolD_n, boolD_b, boolD_i, boolD_s, boolD_l, boolD_t, boolD_d, strD_n, strD_b, strD_i, strD_s, strD_l, strD_t, strD_d, tupD_n, tupD_b, tupD_i, tupD_s, tupD_l, tupD_t, tupD_d, wholeD_n, wholeD_b, wholeD_i, wholeD_s, wholeD_l, wholeD_t, wholeD_d, gLen_1, gTuple_1, gList_1, gInt_i, gInt_b, gAbs_i, gRepr_x, gAll_l, gAny_l, gSum_l, gGcd_i, gSorted_l, cDraw_1, two_1, three_1, cPick_1, gMax2_i, gMin2_i, gEqS_s, isStr_s, gNil_n, gCons_c, gT_t, gL_o, gL_l, at1_0, at2_0, at2_1, at3_0, at3_1, at3_2, cpow_e, cast_lit, abs_lit, aPart_e, gEq_i, gNe_i] <;> try exact no rfl
        rename_i ws _
        rw [wordD_tup] at h no
        by_cases h1 : ws.length = ns.length
        · rw [if_pos h1] at h no
          have e : ((ws.length : Int) == ((ns.map PyData.int).length : Nat)) = true := by
            rw [List.length_map, h1]
            exact beq_self_eq_true _
          simp only [e, ends0, wipeA, List.map, List.set, List.cons_append, List.nil_append, List.length_cons, List.length_nil, ite_true, ite_false, Bool.not_true, Bool.not_false, Bool.true_and, Bool.and_true, Bool.false_and, Bool.and_false, reduceIte, reduceCtorEq, Bool.false_eq_true, if_true, if_false, Nat.reduceAdd, Nat.reduceLeDiff, ne_eq, not_false_eq_true, eq_self, not_true_eq_false, Nat.reduceSub, Nat.reduceMul, Nat.reduceLT, Nat.reducePow, Int.reduceLE, Int.reduceLT, Int.reduceAdd, Int.reduceSub, Int.reduceMul, Int.reduceNeg, Int.reducePow, Int.reduceToNat, Int.reduceEq, Int.reduceBEq, Option.some.injEq, exists_eq_left', exists_eq_left, true_and, and_true, decide_true, decide_false, Nat.reduceBEq, Bool.or_true, Bool.true_or, Bool.or_false, Bool.false_or, aVar_e, aC_e, aRaw_e, aOp_e, aUn_e, aNot_e, aAnd_e, aOr_e, aChain_e, aTern_e, aNil_e, aCons_e, aTup_e, aLst_e, aB_e, tAndA_e, tOrA_e, tNotA_e, aCB_e, aCall_e, aCallK_e, aSl_e, aNoP_e, aCall0_e, gN_e, aNext_e, aSeq_e, aBrk_e, aCnt_e, aDrop_e, aRet_e, aRetN_e, aIfS_e, aAsg_e, aAug_e, aPar_e, aFor_e, aWhile_e, aYes_e, aIter_e, aEnum_e, aRange1_e, aRange2_e, aZip_e, aZipTL_e, aApp_e, aPopAt_e, aPop_e, aLenV_e, aIxV_e, aEqNilV_e, aTupV_e, aDnew_e, aListRg_e, aComp_e, aZip3T_e, aCallK0_e, gSetV_e, on_d, on_own, bl_b, it_i, ow_o, isOwn_o, seq_t, seq_l, seq_o, lst_l, lst_o, tup_t, same_t, same_l, one_1, fz_d, fz_r, fz_o, look_d, look_r, look_o, unA_0, unA_s, sl_0, sl_s, ons_n, ons_c, gI0_i, gI_i, gU_i, gIsN_n, gNotN_n, isNone_n, isNone_i, isNone_b, isNone_s, isNone_t, isNone_l, gEq_s, gNe_s, gIn_l, gIn_t, gNotIn_l, gNotIn_t, gIx_t, gIx_l, gCat_i, gCat_t, gCat_l, gMul_i, gMul_t, gMul_l, gCut_t, gCut_l, gP_x, intD_n, intD_b, intD_i, intD_s, intD_l, intD_t, intD_d, boolD_n, boolD_b, boolD_i, boolD_s, boolD_l, boolD_t, boolD_d, strD_n, strD_b, strD_i, strD_s, strD_l, strD_t, strD_d, tupD_n, tupD_b, tupD_i, tupD_s, tupD_l, tupD_t, tupD_d, wholeD_n, wholeD_b, wholeD_i, wholeD_s, wholeD_l, wholeD_t, wholeD_d, gLen_1, gTuple_1, gList_1, gInt_i, gInt_b, gAbs_i, gRepr_x, gAll_l, gAny_l, gSum_l, gGcd_i, gSorted_l, cDraw_1, two_1, three_1, cPick_1, gMax2_i, gMin2_i, gEqS_s, isStr_s, gNil_n, gCons_c, gT_t, gL_o, gL_l, at1_0, at2_0, at2_1, at3_0, at3_1, at3_2, cpow_e, cast_lit, abs_lit, aPart_e, gEq_i, gNe_i]
          refine ⟨fun ρ => (∃ x1 x2 x3 x4, ρ = [.d (.tuple (ns.map PyData.int)), x1, x2, .d y, x3, x4, .un]) ∧ ∀ j, j < ws.length → badRest ns ws j = false, ?_, ?_⟩
          · simp only [ends0, wipeA, List.map, List.set, List.cons_append, List.nil_append, List.length_cons, List.length_nil, ite_true, ite_false, Bool.not_true, Bool.not_false, Bool.true_and, Bool.and_true, Bool.false_and, Bool.and_false, reduceIte, reduceCtorEq, Bool.false_eq_true, if_true, if_false, Nat.reduceAdd, Nat.reduceLeDiff, ne_eq, not_false_eq_true, eq_self, not_true_eq_false, Nat.reduceSub, Nat.reduceMul, Nat.reduceLT, Nat.reducePow, Int.reduceLE, Int.reduceLT, Int.reduceAdd, Int.reduceSub, Int.reduceMul, Int.reduceNeg, Int.reducePow, Int.reduceToNat, Int.reduceEq, Int.reduceBEq, Option.some.injEq, exists_eq_left', exists_eq_left, true_and, and_true, decide_true, decide_false, Nat.reduceBEq, Bool.or_true, Bool.true_or, Bool.or_false, Bool.false_or, aVar_e, aC_e, aRaw_e, aOp_e, aUn_e, aNot_e, aAnd_e, aOr_e, aChain_e, aTern_e, aNil_e, aCons_e, aTup_e, aLst_e, aB_e, tAndA_e, tOrA_e, tNotA_e, aCB_e, aCall_e, aCallK_e, aSl_e, aNoP_e, aCall0_e, gN_e, aNext_e, aSeq_e, aBrk_e, aCnt_e, aDrop_e, aRet_e, aRetN_e, aIfS_e, aAsg_e, aAug_e, aPar_e, aFor_e, aWhile_e, aYes_e, aIter_e, aEnum_e, aRange1_e, aRange2_e, aZip_e, aZipTL_e, aApp_e, aPopAt_e, aPop_e, aLenV_e, aIxV_e, aEqNilV_e, aTupV_e, aDnew_e, aListRg_e, aComp_e, aZip3T_e, aCallK0_e, gSetV_e, on_d, on_own, bl_b, it_i, ow_o, isOwn_o, seq_t, seq_l, seq_o, lst_l, lst_o, tup_t, same_t, same_l, one_1, fz_d, fz_r, fz_o, look_d, look_r, look_o, unA_0, unA_s, sl_0, sl_s, ons_n, ons_c, gI0_i, gI_i, gU_i, gIsN_n, gNotN_n, isNone_n, isNone_i, isNone_b, isNone_s, isNone_t, isNone_l, gEq_s, gNe_s, gIn_l, gIn_t, gNotIn_l, gNotIn_t, gIx_t, gIx_l, gCat_i, gCat_t, gCat_l, gMul_i, gMul_t, gMul_l, gCut_t, gCut_l, gP_x, intD_n, intD_b, intD_i, intD_s, intD_l, intD_t, intD_d, boolD_n, boolD_b, boolD_i, boolD_s, boolD_l, boolD_t, boolD_d, strD_n, strD_b, strD_i, strD_s, strD_l, strD_t, strD_d, tupD_n, tupD_b, tupD_i, tupD_s, tupD_l, tupD_t, tupD_d, wholeD_n, wholeD_b, wholeD_i, wholeD_s, wholeD_l, wholeD_t, wholeD_d, gLen_1, gTuple_1, gList_1, gInt_i, gInt_b, gAbs_i, gRepr_x, gAll_l, gAny_l, gSum_l, gGcd_i, gSorted_l, cDraw_1, two_1, three_1, cPick_1, gMax2_i, gMin2_i, gEqS_s, isStr_s, gNil_n, gCons_c, gT_t, gL_o, gL_l, at1_0, at2_0, at2_1, at3_0, at3_1, at3_2, cpow_e, cast_lit, abs_lit, aPart_e, gEq_i, gNe_i]
            refine ⟨fun i ρ => (∃ x1 x2, ρ = [.d (.tuple (ns.map PyData.int)), .d (.tuple [.tuple ws, y]), .d (.tuple ws), .d y, x1, x2, .un]) ∧ ∀ j, j < i → badRest ns ws j = false, ⟨⟨_, _, rfl⟩, fun j z => absurd z (Nat.not_lt_zero _)⟩, ?_, fun ρ hj => ?_⟩
            · rintro i ρ hi ⟨⟨x1, x2, rfl⟩, hj⟩
              rw [zipD_len, List.length_map] at hi
              rw [zipD_at (by rw [List.length_map]; exact hi)]
              have hb : badRest ns ws i = (!isNone (ws.getD i .none) && !withinD (ws.getD i .none) 0 (ns.getD i 0 - 1)) := by
                unfold badRest
                cases ws.getD i .none <;> rfl
              have bad : badRest ns ws i = true → R (.d (.bool false)) := fun e => no (by rw [first_at (by omega) e fun j z => hj j z] <;> rfl)
              have good : badRest ns ws i = false → ∀ j, j < i + 1 → badRest ns ws j = false := fun e j z => by
                by_cases hji : j < i
                · exact hj j hji
                · obtain rfl : j = i := by omega
                  exact e
              rw [hb] at bad good
              have lat : (ns.map PyData.int).getD i .none = .int (ns.getD i 0) := by
                rw [List.getD_eq_getElem?_getD, List.getElem?_map, getD_some 0 (by omega)] <;> rfl
              rw [lat]
              generalize ws.getD i .none = it at bad good
              generalize ns.getD i 0 = md at bad good
              cases it <;> simp only [c__law_is_integer, ends0, wipeA, List.map, List.set, List.cons_append, List.nil_append, List.length_cons, List.length_nil, ite_true, ite_false, Bool.not_true, Bool.not_false, Bool.true_and, Bool.and_true, Bool.false_and, Bool.and_false, reduceIte, reduceCtorEq, Bool.false_eq_true, if_true, if_false, Nat.reduceAdd, Nat.reduceLeDiff, ne_eq, not_false_eq_true, eq_self, not_true_eq_false, Nat.reduceSub, Nat.reduceMul, Nat.reduceLT, Nat.reducePow, Int.reduceLE, Int.reduceLT, Int.reduceAdd, Int.reduceSub, Int.reduceMul, Int.reduceNeg, Int.reducePow, Int.reduceToNat, Int.reduceEq, Int.reduceBEq, Option.some.injEq, exists_eq_left', exists_eq_left, true_and, and_true, decide_true, decide_false, Nat.reduceBEq, Bool.or_true, Bool.true_or, Bool.or_false, Bool.false_or, aVar_e, aC_e, aRaw_e, aOp_e, aUn_e, aNot_e, aAnd_e, aOr_e, aChain_e, aTern_e, aNil_e, aCons_e, aTup_e, aLst_e, aB_e, tAndA_e, tOrA_e, tNotA_e, aCB_e, aCall_e, aCallK_e, aSl_e, aNoP_e, aCall0_e, gN_e, aNext_e, aSeq_e, aBrk_e, aCnt_e, aDrop_e, aRet_e, aRetN_e, aIfS_e, aAsg_e, aAug_e, aPar_e, aFor_e, aWhile_e, aYes_e, aIter_e, aEnum_e, aRange1_e, aRange2_e, aZip_e, aZipTL_e, aApp_e, aPopAt_e, aPop_e, aLenV_e, aIxV_e, aEqNilV_e, aTupV_e, aDnew_e, aListRg_e, aComp_e, aZip3T_e, aCallK0_e, gSetV_e, on_d, on_own, bl_b, it_i, ow_o, isOwn_o, seq_t, seq_l, seq_o, lst_l, lst_o, tup_t, same_t, same_l, one_1, fz_d, fz_r, fz_o, look_d, look_r, look_o, unA_0, unA_s, sl_0, sl_s, ons_n, ons_c, gI0_i, gI_i, gU_i, gIsN_n, gNotN_n, isNone_n, isNone_i, isNone_b, isNone_s, isNone_t, isNone_l, gEq_s, gNe_s, gIn_l, gIn_t, gNotIn_l, gNotIn_t, gIx_t, gIx_l, gCat_i, gCat_t, gCat_l, gMul_i, gMul_t, gMul_l, gCut_t, gCut_l, gP_x, intD_n, intD_b, intD_i, intD_s, intD_l, intD_t, intD_d, boolD_n, boolD_b, boolD_i, boolD_s, boolD_l, boolD_t, boolD_d, strD_n, strD_b, strD_i, strD_s, strD_l, strD_t, strD_d, tupD_n, tupD_b, tupD_i, tupD_s, tupD_l, tupD_t, tupD_d, wholeD_n, wholeD_b, wholeD_i, wholeD_s, wholeD_l, wholeD_t, wholeD_d, gLen_1, gTuple_1, gList_1, gInt_i, gInt_b, gAbs_i, gRepr_x, gAll_l, gAny_l, gSum_l, gGcd_i, gSorted_l, cDraw_1, two_1, three_1, cPick_1, gMax2_i, gMin2_i, gEqS_s, isStr_s, gNil_n, gCons_c, gT_t, gL_o, gL_l, at1_0, at2_0, at2_1, at3_0, at3_1, at3_2, cpow_e, cast_lit, abs_lit, aPart_e, gEq_i, gNe_i] <;> first | exact bad rfl | exact ⟨⟨_, _, rfl⟩, good rfl⟩ | skip
              rename_i k
              have hw : withinD (.int k) 0 (md - 1) = (decide (0 ≤ k) && decide (k < md)) := by
                show (decide (0 ≤ k) && decide (k ≤ md - 1)) = _
                congr 1
                exact decide_eq_decide.mpr (by omega)
              rw [hw] at bad good
              by_cases k0 : 0 ≤ k
              · by_cases k1 : k < md
                · simp only [k0, k1, ends0, wipeA, List.map, List.set, List.cons_append, List.nil_append, List.length_cons, List.length_nil, ite_true, ite_false, Bool.not_true, Bool.not_false, Bool.true_and, Bool.and_true, Bool.false_and, Bool.and_false, reduceIte, reduceCtorEq, Bool.false_eq_true, if_true, if_false, Nat.reduceAdd, Nat.reduceLeDiff, ne_eq, not_false_eq_true, eq_self, not_true_eq_false, Nat.reduceSub, Nat.reduceMul, Nat.reduceLT, Nat.reducePow, Int.reduceLE, Int.reduceLT, Int.reduceAdd, Int.reduceSub, Int.reduceMul, Int.reduceNeg, Int.reducePow, Int.reduceToNat, Int.reduceEq, Int.reduceBEq, Option.some.injEq, exists_eq_left', exists_eq_left, true_and, and_true, decide_true, decide_false, Nat.reduceBEq, Bool.or_true, Bool.true_or, Bool.or_false, Bool.false_or, aVar_e, aC_e, aRaw_e, aOp_e, aUn_e, aNot_e, aAnd_e, aOr_e, aChain_e, aTern_e, aNil_e, aCons_e, aTup_e, aLst_e, aB_e, tAndA_e, tOrA_e, tNotA_e, aCB_e, aCall_e, aCallK_e, aSl_e, aNoP_e, aCall0_e, gN_e, aNext_e, aSeq_e, aBrk_e, aCnt_e, aDrop_e, aRet_e, aRetN_e, aIfS_e, aAsg_e, aAug_e, aPar_e, aFor_e, aWhile_e, aYes_e, aIter_e, aEnum_e, aRange1_e, aRange2_e, aZip_e, aZipTL_e, aApp_e, aPopAt_e, aPop_e, aLenV_e, aIxV_e, aEqNilV_e, aTupV_e, aDnew_e, aListRg_e, aComp_e, aZip3T_e, aCallK0_e, gSetV_e, on_d, on_own, bl_b, it_i, ow_o, isOwn_o, seq_t, seq_l, seq_o, lst_l, lst_o, tup_t, same_t, same_l, one_1, fz_d, fz_r, fz_o, look_d, look_r, look_o, unA_0, unA_s, sl_0, sl_s, ons_n, ons_c, gI0_i, gI_i, gU_i, gIsN_n, gNotN_n, isNone_n, isNone_i, isNone_b, isNone_s, isNone_t, isNone_l, gEq_s, gNe_s, gIn_l, gIn_t, gNotIn_l, gNotIn_t, gIx_t, gIx_l, gCat_i, gCat_t, gCat_l, gMul_i, gMul_t, gMul_l, gCut_t, gCut_l, gP_x, intD_n, intD_b, intD_i, intD_s, intD_l, intD_t, intD_d, boolD_n, boolD_b, boolD_i, boolD_s, boolD_l, boolD_t, boolD_d, strD_n, strD_b, strD_i, strD_s, strD_l, strD_t, strD_d, tupD_n, tupD_b, tupD_i, tupD_s, tupD_l, tupD_t, tupD_d, wholeD_n, wholeD_b, wholeD_i, wholeD_s, wholeD_l, wholeD_t, wholeD_d, gLen_1, gTuple_1, gList_1, gInt_i, gInt_b, gAbs_i, gRepr_x, gAll_l, gAny_l, gSum_l, gGcd_i, gSorted_l, cDraw_1, two_1, three_1, cPick_1, gMax2_i, gMin2_i, gEqS_s, isStr_s, gNil_n, gCons_c, gT_t, gL_o, gL_l, at1_0, at2_0, at2_1, at3_0, at3_1, at3_2, cpow_e, cast_lit, abs_lit, aPart_e, gEq_i, gNe_i] at bad good ⊢
                  exact ⟨⟨_, _, rfl⟩, good trivial⟩
                · simp only [k0, k1, ends0, wipeA, List.map, List.set, List.cons_append, List.nil_append, List.length_cons, List.length_nil, ite_true, ite_false, Bool.not_true, Bool.not_false, Bool.true_and, Bool.and_true, Bool.false_and, Bool.and_false, reduceIte, reduceCtorEq, Bool.false_eq_true, if_true, if_false, Nat.reduceAdd, Nat.reduceLeDiff, ne_eq, not_false_eq_true, eq_self, not_true_eq_false, Nat.reduceSub, Nat.reduceMul, Nat.reduceLT, Nat.reducePow, Int.reduceLE, Int.reduceLT, Int.reduceAdd, Int.reduceSub, Int.reduceMul, Int.reduceNeg, Int.reducePow, Int.reduceToNat, Int.reduceEq, Int.reduceBEq, Option.some.injEq, exists_eq_left', exists_eq_left, true_and, and_true, decide_true, decide_false, Nat.reduceBEq, Bool.or_true, Bool.true_or, Bool.or_false, Bool.false_or, aVar_e, aC_e, aRaw_e, aOp_e, aUn_e, aNot_e, aAnd_e, aOr_e, aChain_e, aTern_e, aNil_e, aCons_e, aTup_e, aLst_e, aB_e, tAndA_e, tOrA_e, tNotA_e, aCB_e, aCall_e, aCallK_e, aSl_e, aNoP_e, aCall0_e, gN_e, aNext_e, aSeq_e, aBrk_e, aCnt_e, aDrop_e, aRet_e, aRetN_e, aIfS_e, aAsg_e, aAug_e, aPar_e, aFor_e, aWhile_e, aYes_e, aIter_e, aEnum_e, aRange1_e, aRange2_e, aZip_e, aZipTL_e, aApp_e, aPopAt_e, aPop_e, aLenV_e, aIxV_e, aEqNilV_e, aTupV_e, aDnew_e, aListRg_e, aComp_e, aZip3T_e, aCallK0_e, gSetV_e, on_d, on_own, bl_b, it_i, ow_o, isOwn_o, seq_t, seq_l, seq_o, lst_l, lst_o, tup_t, same_t, same_l, one_1, fz_d, fz_r, fz_o, look_d, look_r, look_o, unA_0, unA_s, sl_0, sl_s, ons_n, ons_c, gI0_i, gI_i, gU_i, gIsN_n, gNotN_n, isNone_n, isNone_i, isNone_b, isNone_s, isNone_t, isNone_l, gEq_s, gNe_s, gIn_l, gIn_t, gNotIn_l, gNotIn_t, gIx_t, gIx_l, gCat_i, gCat_t, gCat_l, gMul_i, gMul_t, gMul_l, gCut_t, gCut_l, gP_x, intD_n, intD_b, intD_i, intD_s, intD_l, intD_t, intD_d, boolD_n, boolD_b, boolD_i, boolD_s, boolD_l, boolD_t, boolD_d, strD_n, strD_b, strD_i, strD_s, strD_l, strD_t, strD_d, tupD_n, tupD_b, tupD_i, tupD_s, tupD_l, tupD_t, tupD_d, wholeD_n, wholeD_b, wholeD_i, wholeD_s, wholeD_l, wholeD_t, wholeD_d, gLen_1, gTuple_1, gList_1, gInt_i, gInt_b, gAbs_i, gRepr_x, gAll_l, gAny_l, gSum_l, gGcd_i, gSorted_l, cDraw_1, two_1, three_1, cPick_1, gMax2_i, gMin2_i, gEqS_s, isStr_s, gNil_n, gCons_c, gT_t, gL_o, gL_l, at1_0, at2_0, at2_1, at3_0, at3_1, at3_2, cpow_e, cast_lit, abs_lit, aPart_e, gEq_i, gNe_i] at bad good ⊢
                  exact bad trivial
              · simp only [k0, ends0, wipeA, List.map, List.set, List.cons_append, List.nil_append, List.length_cons, List.length_nil, ite_true, ite_false, Bool.not_true, Bool.not_false, Bool.true_and, Bool.and_true, Bool.false_and, Bool.and_false, reduceIte, reduceCtorEq, Bool.false_eq_true, if_true, if_false, Nat.reduceAdd, Nat.reduceLeDiff, ne_eq, not_false_eq_true, eq_self, not_true_eq_false, Nat.reduceSub, Nat.reduceMul, Nat.reduceLT, Nat.reducePow, Int.reduceLE, Int.reduceLT, Int.reduceAdd, Int.reduceSub, Int.reduceMul, Int.reduceNeg, Int.reducePow, Int.reduceToNat, Int.reduceEq, Int.reduceBEq, Option.some.injEq, exists_eq_left', exists_eq_left, true_and, and_true, decide_true, decide_false, Nat.reduceBEq, Bool.or_true, Bool.true_or, Bool.or_false, Bool.false_or, aVar_e, aC_e, aRaw_e, aOp_e, aUn_e, aNot_e, aAnd_e, aOr_e, aChain_e, aTern_e, aNil_e, aCons_e, aTup_e, aLst_e, aB_e, tAndA_e, tOrA_e, tNotA_e, aCB_e, aCall_e, aCallK_e, aSl_e, aNoP_e, aCall0_e, gN_e, aNext_e, aSeq_e, aBrk_e, aCnt_e, aDrop_e, aRet_e, aRetN_e, aIfS_e, aAsg_e, aAug_e, aPar_e, aFor_e, aWhile_e, aYes_e, aIter_e, aEnum_e, aRange1_e, aRange2_e, aZip_e, aZipTL_e, aApp_e, aPopAt_e, aPop_e, aLenV_e, aIxV_e, aEqNilV_e, aTupV_e, aDnew_e, aListRg_e, aComp_e, aZip3T_e, aCallK0_e, gSetV_e, on_d, on_own, bl_b, it_i, ow_o, isOwn_o, seq_t, seq_l, seq_o, lst_l, lst_o, tup_t, same_t, same_l, one_1, fz_d, fz_r, fz_o, look_d, look_r, look_o, unA_0, unA_s, sl_0, sl_s, ons_n, ons_c, gI0_i, gI_i, gU_i, gIsN_n, gNotN_n, isNone_n, isNone_i, isNone_b, isNone_s, isNone_t, isNone_l, gEq_s, gNe_s, gIn_l, gIn_t, gNotIn_l, gNotIn_t, gIx_t, gIx_l, gCat_i, gCat_t, gCat_l, gMul_i, gMul_t, gMul_l, gCut_t, gCut_l, gP_x, intD_n, intD_b, intD_i, intD_s, intD_l, intD_t, intD_d, boolD_n, boolD_b, boolD_i, boolD_s, boolD_l, boolD_t, boolD_d, strD_n, strD_b, strD_i, strD_s, strD_l, strD_t, strD_d, tupD_n, tupD_b, tupD_i, tupD_s, tupD_l, tupD_t, tupD_d, wholeD_n, wholeD_b, wholeD_i, wholeD_s, wholeD_l, wholeD_t, wholeD_d, gLen_1, gTuple_1, gList_1, gInt_i, gInt_b, gAbs_i, gRepr_x, gAll_l, gAny_l, gSum_l, gGcd_i, gSorted_l, cDraw_1, two_1, three_1, cPick_1, gMax2_i, gMin2_i, gEqS_s, isStr_s, gNil_n, gCons_c, gT_t, gL_o, gL_l, at1_0, at2_0, at2_1, at3_0, at3_1, at3_2, cpow_e, cast_lit, abs_lit, aPart_e, gEq_i, gNe_i] at bad good ⊢
                exact bad trivial
            · rw [zipD_len, List.length_map] at hj
              obtain ⟨⟨x1, x2, rfl⟩, hj⟩ := hj
              exact ⟨⟨_, _, _, _, rfl⟩, fun j z => hj j (by omega)⟩
          · rintro ρ ⟨⟨x1, x2, x3, x4, rfl⟩, hj⟩
            rw [first_no hj] at h
            replace h : R (.d (.bool (isNone (stretchD y)))) := h
            cases y <;> simp only [ends0, wipeA, List.map, List.set, List.cons_append, List.nil_append, List.length_cons, List.length_nil, ite_true, ite_false, Bool.not_true, Bool.not_false, Bool.true_and, Bool.and_true, Bool.false_and, Bool.and_false, reduceIte, reduceCtorEq, Bool.false_eq_true, if_true, if_false, Nat.reduceAdd, Nat.reduceLeDiff, ne_eq, not_false_eq_true, eq_self, not_true_eq_false, Nat.reduceSub, Nat.reduceMul, Nat.reduceLT, Nat.reducePow, Int.reduceLE, Int.reduceLT, Int.reduceAdd, Int.reduceSub, Int.reduceMul, Int.reduceNeg, Int.reducePow, Int.reduceToNat, Int.reduceEq, Int.reduceBEq, Option.some.injEq, exists_eq_left', exists_eq_left, true_and, and_true, decide_true, decide_false, Nat.reduceBEq, Bool.or_true, Bool.true_or, Bool.or_false, Bool.false_or, aVar_e, aC_e, aRaw_e, aOp_e, aUn_e, aNot_e, aAnd_e, aOr_e, aChain_e, aTern_e, aNil_e, aCons_e, aTup_e, aLst_e, aB_e, tAndA_e, tOrA_e, tNotA_e, aCB_e, aCall_e, aCallK_e, aSl_e, aNoP_e, aCall0_e, gN_e, aNext_e, aSeq_e, aBrk_e, aCnt_e, aDrop_e, aRet_e, aRetN_e, aIfS_e, aAsg_e, aAug_e, aPar_e, aFor_e, aWhile_e, aYes_e, aIter_e, aEnum_e, aRange1_e, aRange2_e, aZip_e, aZipTL_e, aApp_e, aPopAt_e, aPop_e, aLenV_e, aIxV_e, aEqNilV_e, aTupV_e, aDnew_e, aListRg_e, aComp_e, aZip3T_e, aCallK0_e, gSetV_e, on_d, on_own, bl_b, it_i, ow_o, isOwn_o, seq_t, seq_l, seq_o, lst_l, lst_o, tup_t, same_t, same_l, one_1, fz_d, fz_r, fz_o, look_d, look_r, look_o, unA_0, unA_s, sl_0, sl_s, ons_n, ons_c, gI0_i, gI_i, gU_i, gIsN_n, gNotN_n, isNone_n, isNone_i, isNone_b, isNone_s, isNone_t, isNone_l, gEq_s, gNe_s, gIn_l, gIn_t, gNotIn_l, gNotIn_t, gIx_t, gIx_l, gCat_i, gCat_t, gCat_l, gMul_i, gMul_t, gMul_l, gCut_t, gCut_l, gP_x, intD_n, intD_b, intD_i, intD_s, intD_l, intD_t, intD_d, boolD_n, boolD_b, boolD_i, boolD_s, boolD_l, boolD_t, boolD_d, strD_n, strD_b, strD_i, strD_s, strD_l, strD_t, strD_d, tupD_n, tupD_b, tupD_i, tupD_s, tupD_l, tupD_t, tupD_d, wholeD_n, wholeD_b, wholeD_i, wholeD_s, wholeD_l, wholeD_t, wholeD_d, gLen_1, gTuple_1, gList_1, gInt_i, gInt_b, gAbs_i, gRepr_x, gAll_l, gAny_l, gSum_l, gGcd_i, gSorted_l, cDraw_1, two_1, three_1, cPick_1, gMax2_i, gMin2_i, gEqS_s, isStr_s, gNil_n, gCons_c, gT_t, gL_o, gL_l, at1_0, at2_0, at2_1, at3_0, at3_1, at3_2, cpow_e, cast_lit, abs_lit, aPart_e, gEq_i, gNe_i] <;> try exact h
            rename_i es _
            by_cases h3 : es.length = 2
            · match es, h3, h with
              | [a, b], _, h =>
                simp only [ends0, wipeA, List.map, List.set, List.cons_append, List.nil_append, List.length_cons, List.length_nil, ite_true, ite_false, Bool.not_true, Bool.not_false, Bool.true_and, Bool.and_true, Bool.false_and, Bool.and_false, reduceIte, reduceCtorEq, Bool.false_eq_true, if_true, if_false, Nat.reduceAdd, Nat.reduceLeDiff, ne_eq, not_false_eq_true, eq_self, not_true_eq_false, Nat.reduceSub, Nat.reduceMul, Nat.reduceLT, Nat.reducePow, Int.reduceLE, Int.reduceLT, Int.reduceAdd, Int.reduceSub, Int.reduceMul, Int.reduceNeg, Int.reducePow, Int.reduceToNat, Int.reduceEq, Int.reduceBEq, Option.some.injEq, exists_eq_left', exists_eq_left, true_and, and_true, decide_true, decide_false, Nat.reduceBEq, Bool.or_true, Bool.true_or, Bool.or_false, Bool.false_or, aVar_e, aC_e, aRaw_e, aOp_e, aUn_e, aNot_e, aAnd_e, aOr_e, aChain_e, aTern_e, aNil_e, aCons_e, aTup_e, aLst_e, aB_e, tAndA_e, tOrA_e, tNotA_e, aCB_e, aCall_e, aCallK_e, aSl_e, aNoP_e, aCall0_e, gN_e, aNext_e, aSeq_e, aBrk_e, aCnt_e, aDrop_e, aRet_e, aRetN_e, aIfS_e, aAsg_e, aAug_e, aPar_e, aFor_e, aWhile_e, aYes_e, aIter_e, aEnum_e, aRange1_e, aRange2_e, aZip_e, aZipTL_e, aApp_e, aPopAt_e, aPop_e, aLenV_e, aIxV_e, aEqNilV_e, aTupV_e, aDnew_e, aListRg_e, aComp_e, aZip3T_e, aCallK0_e, gSetV_e, on_d, on_own, bl_b, it_i, ow_o, isOwn_o, seq_t, seq_l, seq_o, lst_l, lst_o, tup_t, same_t, same_l, one_1, fz_d, fz_r, fz_o, look_d, look_r, look_o, unA_0, unA_s, sl_0, sl_s, ons_n, ons_c, gI0_i, gI_i, gU_i, gIsN_n, gNotN_n, isNone_n, isNone_i, isNone_b, isNone_s, isNone_t, isNone_l, gEq_s, gNe_s, gIn_l, gIn_t, gNotIn_l, gNotIn_t, gIx_t, gIx_l, gCat_i, gCat_t, gCat_l, gMul_i, gMul_t, gMul_l, gCut_t, gCut_l, gP_x, intD_n, intD_b, intD_i, intD_s, intD_l, intD_t, intD_d, boolD_n, boolD_b, boolD_i, boolD_s, boolD_l, boolD_t, boolD_d, strD_n, strD_b, strD_i, strD_s, strD_l, strD_t, strD_d, tupD_n, tupD_b, tupD_i, tupD_s, tupD_l, tupD_t, tupD_d, wholeD_n, wholeD_b, wholeD_i, wholeD_s, wholeD_l, wholeD_t, wholeD_d, gLen_1, gTuple_1, gList_1, gInt_i, gInt_b, gAbs_i, gRepr_x, gAll_l, gAny_l, gSum_l, gGcd_i, gSorted_l, cDraw_1, two_1, three_1, cPick_1, gMax2_i, gMin2_i, gEqS_s, isStr_s, gNil_n, gCons_c, gT_t, gL_o, gL_l, at1_0, at2_0, at2_1, at3_0, at3_1, at3_2, cpow_e, cast_lit, abs_lit, aPart_e, gEq_i, gNe_i]
                refine comp_det (fun d => if numD d then none else some (.int 1)) (by show 2 ≤ 4000000; decide) (fun d hd J hJ => ?_) ?_
                · have nm : ∀ i : Int, numD (.int i) = (decide (-1000000000000000000000000000000000000000000000000000000000000 ≤ i) && decide (i ≤ 1000000000000000000000000000000000000000000000000000000000000)) := fun i => rfl
                  cases d <;> simp only [c__law_is_integer, ends0, wipeA, List.map, List.set, List.cons_append, List.nil_append, List.length_cons, List.length_nil, ite_true, ite_false, Bool.not_true, Bool.not_false, Bool.true_and, Bool.and_true, Bool.false_and, Bool.and_false, reduceIte, reduceCtorEq, Bool.false_eq_true, if_true, if_false, Nat.reduceAdd, Nat.reduceLeDiff, ne_eq, not_false_eq_true, eq_self, not_true_eq_false, Nat.reduceSub, Nat.reduceMul, Nat.reduceLT, Nat.reducePow, Int.reduceLE, Int.reduceLT, Int.reduceAdd, Int.reduceSub, Int.reduceMul, Int.reduceNeg, Int.reducePow, Int.reduceToNat, Int.reduceEq, Int.reduceBEq, Option.some.injEq, exists_eq_left', exists_eq_left, true_and, and_true, decide_true, decide_false, Nat.reduceBEq, Bool.or_true, Bool.true_or, Bool.or_false, Bool.false_or, aVar_e, aC_e, aRaw_e, aOp_e, aUn_e, aNot_e, aAnd_e, aOr_e, aChain_e, aTern_e, aNil_e, aCons_e, aTup_e, aLst_e, aB_e, tAndA_e, tOrA_e, tNotA_e, aCB_e, aCall_e, aCallK_e, aSl_e, aNoP_e, aCall0_e, gN_e, aNext_e, aSeq_e, aBrk_e, aCnt_e, aDrop_e, aRet_e, aRetN_e, aIfS_e, aAsg_e, aAug_e, aPar_e, aFor_e, aWhile_e, aYes_e, aIter_e, aEnum_e, aRange1_e, aRange2_e, aZip_e, aZipTL_e, aApp_e, aPopAt_e, aPop_e, aLenV_e, aIxV_e, aEqNilV_e, aTupV_e, aDnew_e, aListRg_e, aComp_e, aZip3T_e, aCallK0_e, gSetV_e, on_d, on_own, bl_b, it_i, ow_o, isOwn_o, seq_t, seq_l, seq_o, lst_l, lst_o, tup_t, same_t, same_l, one_1, fz_d, fz_r, fz_o, look_d, look_r, look_o, unA_0, unA_s, sl_0, sl_s, ons_n, ons_c, gI0_i, gI_i, gU_i, gIsN_n, gNotN_n, isNone_n, isNone_i, isNone_b, isNone_s, isNone_t, isNone_l, gEq_s, gNe_s, gIn_l, gIn_t, gNotIn_l, gNotIn_t, gIx_t, gIx_l, gCat_i, gCat_t, gCat_l, gMul_i, gMul_t, gMul_l, gCut_t, gCut_l, gP_x, intD_n, intD_b, intD_i, intD_s, intD_l, intD_t, intD_d, boolD_n, boolD_b, boolD_i, boolD_s, boolD_l, boolD_t, boolD_d, strD_n, strD_b, strD_i, strD_s, strD_l, strD_t, strD_d, tupD_n, tupD_b, tupD_i, tupD_s, tupD_l, tupD_t, tupD_d, wholeD_n, wholeD_b, wholeD_i, wholeD_s, wholeD_l, wholeD_t, wholeD_d, gLen_1, gTuple_1, gList_1, gInt_i, gInt_b, gAbs_i, gRepr_x, gAll_l, gAny_l, gSum_l, gGcd_i, gSorted_l, cDraw_1, two_1, three_1, cPick_1, gMax2_i, gMin2_i, gEqS_s, isStr_s, gNil_n, gCons_c, gT_t, gL_o, gL_l, at1_0, at2_0, at2_1, at3_0, at3_1, at3_2, cpow_e, cast_lit, abs_lit, aPart_e, gEq_i, gNe_i] <;> try exact hJ
                  rename_i i
                  rw [nm] at hJ
                  by_cases i0 : -1000000000000000000000000000000000000000000000000000000000000 ≤ i
                  · by_cases i1 : i ≤ 1000000000000000000000000000000000000000000000000000000000000
                    · simp only [i0, i1, ends0, wipeA, List.map, List.set, List.cons_append, List.nil_append, List.length_cons, List.length_nil, ite_true, ite_false, Bool.not_true, Bool.not_false, Bool.true_and, Bool.and_true, Bool.false_and, Bool.and_false, reduceIte, reduceCtorEq, Bool.false_eq_true, if_true, if_false, Nat.reduceAdd, Nat.reduceLeDiff, ne_eq, not_false_eq_true, eq_self, not_true_eq_false, Nat.reduceSub, Nat.reduceMul, Nat.reduceLT, Nat.reducePow, Int.reduceLE, Int.reduceLT, Int.reduceAdd, Int.reduceSub, Int.reduceMul, Int.reduceNeg, Int.reducePow, Int.reduceToNat, Int.reduceEq, Int.reduceBEq, Option.some.injEq, exists_eq_left', exists_eq_left, true_and, and_true, decide_true, decide_false, Nat.reduceBEq, Bool.or_true, Bool.true_or, Bool.or_false, Bool.false_or, aVar_e, aC_e, aRaw_e, aOp_e, aUn_e, aNot_e, aAnd_e, aOr_e, aChain_e, aTern_e, aNil_e, aCons_e, aTup_e, aLst_e, aB_e, tAndA_e, tOrA_e, tNotA_e, aCB_e, aCall_e, aCallK_e, aSl_e, aNoP_e, aCall0_e, gN_e, aNext_e, aSeq_e, aBrk_e, aCnt_e, aDrop_e, aRet_e, aRetN_e, aIfS_e, aAsg_e, aAug_e, aPar_e, aFor_e, aWhile_e, aYes_e, aIter_e, aEnum_e, aRange1_e, aRange2_e, aZip_e, aZipTL_e, aApp_e, aPopAt_e, aPop_e, aLenV_e, aIxV_e, aEqNilV_e, aTupV_e, aDnew_e, aListRg_e, aComp_e, aZip3T_e, aCallK0_e, gSetV_e, on_d, on_own, bl_b, it_i, ow_o, isOwn_o, seq_t, seq_l, seq_o, lst_l, lst_o, tup_t, same_t, same_l, one_1, fz_d, fz_r, fz_o, look_d, look_r, look_o, unA_0, unA_s, sl_0, sl_s, ons_n, ons_c, gI0_i, gI_i, gU_i, gIsN_n, gNotN_n, isNone_n, isNone_i, isNone_b, isNone_s, isNone_t, isNone_l, gEq_s, gNe_s, gIn_l, gIn_t, gNotIn_l, gNotIn_t, gIx_t, gIx_l, gCat_i, gCat_t, gCat_l, gMul_i, gMul_t, gMul_l, gCut_t, gCut_l, gP_x, intD_n, intD_b, intD_i, intD_s, intD_l, intD_t, intD_d, boolD_n, boolD_b, boolD_i, boolD_s, boolD_l, boolD_t, boolD_d, strD_n, strD_b, strD_i, strD_s, strD_l, strD_t, strD_d, tupD_n, tupD_b, tupD_i, tupD_s, tupD_l, tupD_t, tupD_d, wholeD_n, wholeD_b, wholeD_i, wholeD_s, wholeD_l, wholeD_t, wholeD_d, gLen_1, gTuple_1, gList_1, gInt_i, gInt_b, gAbs_i, gRepr_x, gAll_l, gAny_l, gSum_l, gGcd_i, gSorted_l, cDraw_1, two_1, three_1, cPick_1, gMax2_i, gMin2_i, gEqS_s, isStr_s, gNil_n, gCons_c, gT_t, gL_o, gL_l, at1_0, at2_0, at2_1, at3_0, at3_1, at3_2, cpow_e, cast_lit, abs_lit, aPart_e, gEq_i, gNe_i] at hJ ⊢
                      exact hJ
                    · simp only [i0, i1, ends0, wipeA, List.map, List.set, List.cons_append, List.nil_append, List.length_cons, List.length_nil, ite_true, ite_false, Bool.not_true, Bool.not_false, Bool.true_and, Bool.and_true, Bool.false_and, Bool.and_false, reduceIte, reduceCtorEq, Bool.false_eq_true, if_true, if_false, Nat.reduceAdd, Nat.reduceLeDiff, ne_eq, not_false_eq_true, eq_self, not_true_eq_false, Nat.reduceSub, Nat.reduceMul, Nat.reduceLT, Nat.reducePow, Int.reduceLE, Int.reduceLT, Int.reduceAdd, Int.reduceSub, Int.reduceMul, Int.reduceNeg, Int.reducePow, Int.reduceToNat, Int.reduceEq, Int.reduceBEq, Option.some.injEq, exists_eq_left', exists_eq_left, true_and, and_true, decide_true, decide_false, Nat.reduceBEq, Bool.or_true, Bool.true_or, Bool.or_false, Bool.false_or, aVar_e, aC_e, aRaw_e, aOp_e, aUn_e, aNot_e, aAnd_e, aOr_e, aChain_e, aTern_e, aNil_e, aCons_e, aTup_e, aLst_e, aB_e, tAndA_e, tOrA_e, tNotA_e, aCB_e, aCall_e, aCallK_e, aSl_e, aNoP_e, aCall0_e, gN_e, aNext_e, aSeq_e, aBrk_e, aCnt_e, aDrop_e, aRet_e, aRetN_e, aIfS_e, aAsg_e, aAug_e, aPar_e, aFor_e, aWhile_e, aYes_e, aIter_e, aEnum_e, aRange1_e, aRange2_e, aZip_e, aZipTL_e, aApp_e, aPopAt_e, aPop_e, aLenV_e, aIxV_e, aEqNilV_e, aTupV_e, aDnew_e, aListRg_e, aComp_e, aZip3T_e, aCallK0_e, gSetV_e, on_d, on_own, bl_b, it_i, ow_o, isOwn_o, seq_t, seq_l, seq_o, lst_l, lst_o, tup_t, same_t, same_l, one_1, fz_d, fz_r, fz_o, look_d, look_r, look_o, unA_0, unA_s, sl_0, sl_s, ons_n, ons_c, gI0_i, gI_i, gU_i, gIsN_n, gNotN_n, isNone_n, isNone_i, isNone_b, isNone_s, isNone_t, isNone_l, gEq_s, gNe_s, gIn_l, gIn_t, gNotIn_l, gNotIn_t, gIx_t, gIx_l, gCat_i, gCat_t, gCat_l, gMul_i, gMul_t, gMul_l, gCut_t, gCut_l, gP_x, intD_n, intD_b, intD_i, intD_s, intD_l, intD_t, intD_d, boolD_n, boolD_b, boolD_i, boolD_s, boolD_l, boolD_t, boolD_d, strD_n, strD_b, strD_i, strD_s, strD_l, strD_t, strD_d, tupD_n, tupD_b, tupD_i, tupD_s, tupD_l, tupD_t, tupD_d, wholeD_n, wholeD_b, wholeD_i, wholeD_s, wholeD_l, wholeD_t, wholeD_d, gLen_1, gTuple_1, gList_1, gInt_i, gInt_b, gAbs_i, gRepr_x, gAll_l, gAny_l, gSum_l, gGcd_i, gSorted_l, cDraw_1, two_1, three_1, cPick_1, gMax2_i, gMin2_i, gEqS_s, isStr_s, gNil_n, gCons_c, gT_t, gL_o, gL_l, at1_0, at2_0, at2_1, at3_0, at3_1, at3_2, cpow_e, cast_lit, abs_lit, aPart_e, gEq_i, gNe_i] at hJ ⊢
                      exact hJ
                  · simp only [i0, ends0, wipeA, List.map, List.set, List.cons_append, List.nil_append, List.length_cons, List.length_nil, ite_true, ite_false, Bool.not_true, Bool.not_false, Bool.true_and, Bool.and_true, Bool.false_and, Bool.and_false, reduceIte, reduceCtorEq, Bool.false_eq_true, if_true, if_false, Nat.reduceAdd, Nat.reduceLeDiff, ne_eq, not_false_eq_true, eq_self, not_true_eq_false, Nat.reduceSub, Nat.reduceMul, Nat.reduceLT, Nat.reducePow, Int.reduceLE, Int.reduceLT, Int.reduceAdd, Int.reduceSub, Int.reduceMul, Int.reduceNeg, Int.reducePow, Int.reduceToNat, Int.reduceEq, Int.reduceBEq, Option.some.injEq, exists_eq_left', exists_eq_left, true_and, and_true, decide_true, decide_false, Nat.reduceBEq, Bool.or_true, Bool.true_or, Bool.or_false, Bool.false_or, aVar_e, aC_e, aRaw_e, aOp_e, aUn_e, aNot_e, aAnd_e, aOr_e, aChain_e, aTern_e, aNil_e, aCons_e, aTup_e, aLst_e, aB_e, tAndA_e, tOrA_e, tNotA_e, aCB_e, aCall_e, aCallK_e, aSl_e, aNoP_e, aCall0_e, gN_e, aNext_e, aSeq_e, aBrk_e, aCnt_e, aDrop_e, aRet_e, aRetN_e, aIfS_e, aAsg_e, aAug_e, aPar_e, aFor_e, aWhile_e, aYes_e, aIter_e, aEnum_e, aRange1_e, aRange2_e, aZip_e, aZipTL_e, aApp_e, aPopAt_e, aPop_e, aLenV_e, aIxV_e, aEqNilV_e, aTupV_e, aDnew_e, aListRg_e, aComp_e, aZip3T_e, aCallK0_e, gSetV_e, on_d, on_own, bl_b, it_i, ow_o, isOwn_o, seq_t, seq_l, seq_o, lst_l, lst_o, tup_t, same_t, same_l, one_1, fz_d, fz_r, fz_o, look_d, look_r, look_o, unA_0, unA_s, sl_0, sl_s, ons_n, ons_c, gI0_i, gI_i, gU_i, gIsN_n, gNotN_n, isNone_n, isNone_i, isNone_b, isNone_s, isNone_t, isNone_l, gEq_s, gNe_s, gIn_l, gIn_t, gNotIn_l, gNotIn_t, gIx_t, gIx_l, gCat_i, gCat_t, gCat_l, gMul_i, gMul_t, gMul_l, gCut_t, gCut_l, gP_x, intD_n, intD_b, intD_i, intD_s, intD_l, intD_t, intD_d, boolD_n, boolD_b, boolD_i, boolD_s, boolD_l, boolD_t, boolD_d, strD_n, strD_b, strD_i, strD_s, strD_l, strD_t, strD_d, tupD_n, tupD_b, tupD_i, tupD_s, tupD_l, tupD_t, tupD_d, wholeD_n, wholeD_b, wholeD_i, wholeD_s, wholeD_l, wholeD_t, wholeD_d, gLen_1, gTuple_1, gList_1, gInt_i, gInt_b, gAbs_i, gRepr_x, gAll_l, gAny_l, gSum_l, gGcd_i, gSorted_l, cDraw_1, two_1, three_1, cPick_1, gMax2_i, gMin2_i, gEqS_s, isStr_s, gNil_n, gCons_c, gT_t, gL_o, gL_l, at1_0, at2_0, at2_1, at3_0, at3_1, at3_2, cpow_e, cast_lit, abs_lit, aPart_e, gEq_i, gNe_i] at hJ ⊢
                    exact hJ
                · cases n1 : numD a with
                  | false =>
                    rw [stretch_bad (.inl n1)] at h
                    simp only [n1, List.filterMap_cons, List.filterMap_nil, ends0, wipeA, List.map, List.set, List.cons_append, List.nil_append, List.length_cons, List.length_nil, ite_true, ite_false, Bool.not_true, Bool.not_false, Bool.true_and, Bool.and_true, Bool.false_and, Bool.and_false, reduceIte, reduceCtorEq, Bool.false_eq_true, if_true, if_false, Nat.reduceAdd, Nat.reduceLeDiff, ne_eq, not_false_eq_true, eq_self, not_true_eq_false, Nat.reduceSub, Nat.reduceMul, Nat.reduceLT, Nat.reducePow, Int.reduceLE, Int.reduceLT, Int.reduceAdd, Int.reduceSub, Int.reduceMul, Int.reduceNeg, Int.reducePow, Int.reduceToNat, Int.reduceEq, Int.reduceBEq, Option.some.injEq, exists_eq_left', exists_eq_left, true_and, and_true, decide_true, decide_false, Nat.reduceBEq, Bool.or_true, Bool.true_or, Bool.or_false, Bool.false_or, aVar_e, aC_e, aRaw_e, aOp_e, aUn_e, aNot_e, aAnd_e, aOr_e, aChain_e, aTern_e, aNil_e, aCons_e, aTup_e, aLst_e, aB_e, tAndA_e, tOrA_e, tNotA_e, aCB_e, aCall_e, aCallK_e, aSl_e, aNoP_e, aCall0_e, gN_e, aNext_e, aSeq_e, aBrk_e, aCnt_e, aDrop_e, aRet_e, aRetN_e, aIfS_e, aAsg_e, aAug_e, aPar_e, aFor_e, aWhile_e, aYes_e, aIter_e, aEnum_e, aRange1_e, aRange2_e, aZip_e, aZipTL_e, aApp_e, aPopAt_e, aPop_e, aLenV_e, aIxV_e, aEqNilV_e, aTupV_e, aDnew_e, aListRg_e, aComp_e, aZip3T_e, aCallK0_e, gSetV_e, on_d, on_own, bl_b, it_i, ow_o, isOwn_o, seq_t, seq_l, seq_o, lst_l, lst_o, tup_t, same_t, same_l, one_1, fz_d, fz_r, fz_o, look_d, look_r, look_o, unA_0, unA_s, sl_0, sl_s, ons_n, ons_c, gI0_i, gI_i, gU_i, gIsN_n, gNotN_n, isNone_n, isNone_i, isNone_b, isNone_s, isNone_t, isNone_l, gEq_s, gNe_s, gIn_l, gIn_t, gNotIn_l, gNotIn_t, gIx_t, gIx_l, gCat_i, gCat_t, gCat_l, gMul_i, gMul_t, gMul_l, gCut_t, gCut_l, gP_x, intD_n, intD_b, intD_i, intD_s, intD_l, intD_t, intD_d, boolD_n, boolD_b, boolD_i, boolD_s, boolD_l, boolD_t, boolD_d, strD_n, strD_b, strD_i, strD_s, strD_l, strD_t, strD_d, tupD_n, tupD_b, tupD_i, tupD_s, tupD_l, tupD_t, tupD_d, wholeD_n, wholeD_b, wholeD_i, wholeD_s, wholeD_l, wholeD_t, wholeD_d, gLen_1, gTuple_1, gList_1, gInt_i, gInt_b, gAbs_i, gRepr_x, gAll_l, gAny_l, gSum_l, gGcd_i, gSorted_l, cDraw_1, two_1, three_1, cPick_1, gMax2_i, gMin2_i, gEqS_s, isStr_s, gNil_n, gCons_c, gT_t, gL_o, gL_l, at1_0, at2_0, at2_1, at3_0, at3_1, at3_2, cpow_e, cast_lit, abs_lit, aPart_e, gEq_i, gNe_i]
                    cases n2 : numD b <;> simp only [n2, ends0, wipeA, List.map, List.set, List.cons_append, List.nil_append, List.length_cons, List.length_nil, ite_true, ite_false, Bool.not_true, Bool.not_false, Bool.true_and, Bool.and_true, Bool.false_and, Bool.and_false, reduceIte, reduceCtorEq, Bool.false_eq_true, if_true, if_false, Nat.reduceAdd, Nat.reduceLeDiff, ne_eq, not_false_eq_true, eq_self, not_true_eq_false, Nat.reduceSub, Nat.reduceMul, Nat.reduceLT, Nat.reducePow, Int.reduceLE, Int.reduceLT, Int.reduceAdd, Int.reduceSub, Int.reduceMul, Int.reduceNeg, Int.reducePow, Int.reduceToNat, Int.reduceEq, Int.reduceBEq, Option.some.injEq, exists_eq_left', exists_eq_left, true_and, and_true, decide_true, decide_false, Nat.reduceBEq, Bool.or_true, Bool.true_or, Bool.or_false, Bool.false_or, aVar_e, aC_e, aRaw_e, aOp_e, aUn_e, aNot_e, aAnd_e, aOr_e, aChain_e, aTern_e, aNil_e, aCons_e, aTup_e, aLst_e, aB_e, tAndA_e, tOrA_e, tNotA_e, aCB_e, aCall_e, aCallK_e, aSl_e, aNoP_e, aCall0_e, gN_e, aNext_e, aSeq_e, aBrk_e, aCnt_e, aDrop_e, aRet_e, aRetN_e, aIfS_e, aAsg_e, aAug_e, aPar_e, aFor_e, aWhile_e, aYes_e, aIter_e, aEnum_e, aRange1_e, aRange2_e, aZip_e, aZipTL_e, aApp_e, aPopAt_e, aPop_e, aLenV_e, aIxV_e, aEqNilV_e, aTupV_e, aDnew_e, aListRg_e, aComp_e, aZip3T_e, aCallK0_e, gSetV_e, on_d, on_own, bl_b, it_i, ow_o, isOwn_o, seq_t, seq_l, seq_o, lst_l, lst_o, tup_t, same_t, same_l, one_1, fz_d, fz_r, fz_o, look_d, look_r, look_o, unA_0, unA_s, sl_0, sl_s, ons_n, ons_c, gI0_i, gI_i, gU_i, gIsN_n, gNotN_n, isNone_n, isNone_i, isNone_b, isNone_s, isNone_t, isNone_l, gEq_s, gNe_s, gIn_l, gIn_t, gNotIn_l, gNotIn_t, gIx_t, gIx_l, gCat_i, gCat_t, gCat_l, gMul_i, gMul_t, gMul_l, gCut_t, gCut_l, gP_x, intD_n, intD_b, intD_i, intD_s, intD_l, intD_t, intD_d, boolD_n, boolD_b, boolD_i, boolD_s, boolD_l, boolD_t, boolD_d, strD_n, strD_b, strD_i, strD_s, strD_l, strD_t, strD_d, tupD_n, tupD_b, tupD_i, tupD_s, tupD_l, tupD_t, tupD_d, wholeD_n, wholeD_b, wholeD_i, wholeD_s, wholeD_l, wholeD_t, wholeD_d, gLen_1, gTuple_1, gList_1, gInt_i, gInt_b, gAbs_i, gRepr_x, gAll_l, gAny_l, gSum_l, gGcd_i, gSorted_l, cDraw_1, two_1, three_1, cPick_1, gMax2_i, gMin2_i, gEqS_s, isStr_s, gNil_n, gCons_c, gT_t, gL_o, gL_l, at1_0, at2_0, at2_1, at3_0, at3_1, at3_2, cpow_e, cast_lit, abs_lit, aPart_e, gEq_i, gNe_i] <;> exact ⟨rfl, rfl, by decide, h⟩
                  | true =>
                    cases n2 : numD b with
                    | false =>
                      rw [stretch_bad (.inr n2)] at h
                      simp only [n1, n2, List.filterMap_cons, List.filterMap_nil, ends0, wipeA, List.map, List.set, List.cons_append, List.nil_append, List.length_cons, List.length_nil, ite_true, ite_false, Bool.not_true, Bool.not_false, Bool.true_and, Bool.and_true, Bool.false_and, Bool.and_false, reduceIte, reduceCtorEq, Bool.false_eq_true, if_true, if_false, Nat.reduceAdd, Nat.reduceLeDiff, ne_eq, not_false_eq_true, eq_self, not_true_eq_false, Nat.reduceSub, Nat.reduceMul, Nat.reduceLT, Nat.reducePow, Int.reduceLE, Int.reduceLT, Int.reduceAdd, Int.reduceSub, Int.reduceMul, Int.reduceNeg, Int.reducePow, Int.reduceToNat, Int.reduceEq, Int.reduceBEq, Option.some.injEq, exists_eq_left', exists_eq_left, true_and, and_true, decide_true, decide_false, Nat.reduceBEq, Bool.or_true, Bool.true_or, Bool.or_false, Bool.false_or, aVar_e, aC_e, aRaw_e, aOp_e, aUn_e, aNot_e, aAnd_e, aOr_e, aChain_e, aTern_e, aNil_e, aCons_e, aTup_e, aLst_e, aB_e, tAndA_e, tOrA_e, tNotA_e, aCB_e, aCall_e, aCallK_e, aSl_e, aNoP_e, aCall0_e, gN_e, aNext_e, aSeq_e, aBrk_e, aCnt_e, aDrop_e, aRet_e, aRetN_e, aIfS_e, aAsg_e, aAug_e, aPar_e, aFor_e, aWhile_e, aYes_e, aIter_e, aEnum_e, aRange1_e, aRange2_e, aZip_e, aZipTL_e, aApp_e, aPopAt_e, aPop_e, aLenV_e, aIxV_e, aEqNilV_e, aTupV_e, aDnew_e, aListRg_e, aComp_e, aZip3T_e, aCallK0_e, gSetV_e, on_d, on_own, bl_b, it_i, ow_o, isOwn_o, seq_t, seq_l, seq_o, lst_l, lst_o, tup_t, same_t, same_l, one_1, fz_d, fz_r, fz_o, look_d, look_r, look_o, unA_0, unA_s, sl_0, sl_s, ons_n, ons_c, gI0_i, gI_i, gU_i, gIsN_n, gNotN_n, isNone_n, isNone_i, isNone_b, isNone_s, isNone_t, isNone_l, gEq_s, gNe_s, gIn_l, gIn_t, gNotIn_l, gNotIn_t, gIx_t, gIx_l, gCat_i, gCat_t, gCat_l, gMul_i, gMul_t, gMul_l, gCut_t, gCut_l, gP_x, intD_n, intD_b, intD_i, intD_s, intD_l, intD_t, intD_d, boolD_n, boolD_b, boolD_i, boolD_s, boolD_l, boolD_t, boolD_d, strD_n, strD_b, strD_i, strD_s, strD_l, strD_t, strD_d, tupD_n, tupD_b, tupD_i, tupD_s, tupD_l, tupD_t, tupD_d, wholeD_n, wholeD_b, wholeD_i, wholeD_s, wholeD_l, wholeD_t, wholeD_d, gLen_1, gTuple_1, gList_1, gInt_i, gInt_b, gAbs_i, gRepr_x, gAll_l, gAny_l, gSum_l, gGcd_i, gSorted_l, cDraw_1, two_1, three_1, cPick_1, gMax2_i, gMin2_i, gEqS_s, isStr_s, gNil_n, gCons_c, gT_t, gL_o, gL_l, at1_0, at2_0, at2_1, at3_0, at3_1, at3_2, cpow_e, cast_lit, abs_lit, aPart_e, gEq_i, gNe_i]
                      exact ⟨rfl, rfl, by decide, h⟩
                    | true =>
                      obtain ⟨i, rfl, _⟩ := within_num n1
                      obtain ⟨j, rfl, _⟩ := within_num n2
                      rw [stretch_good n1 n2] at h
                      simp only [n1, n2, List.filterMap_cons, List.filterMap_nil, ends0, wipeA, List.map, List.set, List.cons_append, List.nil_append, List.length_cons, List.length_nil, ite_true, ite_false, Bool.not_true, Bool.not_false, Bool.true_and, Bool.and_true, Bool.false_and, Bool.and_false, reduceIte, reduceCtorEq, Bool.false_eq_true, if_true, if_false, Nat.reduceAdd, Nat.reduceLeDiff, ne_eq, not_false_eq_true, eq_self, not_true_eq_false, Nat.reduceSub, Nat.reduceMul, Nat.reduceLT, Nat.reducePow, Int.reduceLE, Int.reduceLT, Int.reduceAdd, Int.reduceSub, Int.reduceMul, Int.reduceNeg, Int.reducePow, Int.reduceToNat, Int.reduceEq, Int.reduceBEq, Option.some.injEq, exists_eq_left', exists_eq_left, true_and, and_true, decide_true, decide_false, Nat.reduceBEq, Bool.or_true, Bool.true_or, Bool.or_false, Bool.false_or, aVar_e, aC_e, aRaw_e, aOp_e, aUn_e, aNot_e, aAnd_e, aOr_e, aChain_e, aTern_e, aNil_e, aCons_e, aTup_e, aLst_e, aB_e, tAndA_e, tOrA_e, tNotA_e, aCB_e, aCall_e, aCallK_e, aSl_e, aNoP_e, aCall0_e, gN_e, aNext_e, aSeq_e, aBrk_e, aCnt_e, aDrop_e, aRet_e, aRetN_e, aIfS_e, aAsg_e, aAug_e, aPar_e, aFor_e, aWhile_e, aYes_e, aIter_e, aEnum_e, aRange1_e, aRange2_e, aZip_e, aZipTL_e, aApp_e, aPopAt_e, aPop_e, aLenV_e, aIxV_e, aEqNilV_e, aTupV_e, aDnew_e, aListRg_e, aComp_e, aZip3T_e, aCallK0_e, gSetV_e, on_d, on_own, bl_b, it_i, ow_o, isOwn_o, seq_t, seq_l, seq_o, lst_l, lst_o, tup_t, same_t, same_l, one_1, fz_d, fz_r, fz_o, look_d, look_r, look_o, unA_0, unA_s, sl_0, sl_s, ons_n, ons_c, gI0_i, gI_i, gU_i, gIsN_n, gNotN_n, isNone_n, isNone_i, isNone_b, isNone_s, isNone_t, isNone_l, gEq_s, gNe_s, gIn_l, gIn_t, gNotIn_l, gNotIn_t, gIx_t, gIx_l, gCat_i, gCat_t, gCat_l, gMul_i, gMul_t, gMul_l, gCut_t, gCut_l, gP_x, intD_n, intD_b, intD_i, intD_s, intD_l, intD_t, intD_d, boolD_n, boolD_b, boolD_i, boolD_s, boolD_l, boolD_t, boolD_d, strD_n, strD_b, strD_i, strD_s, strD_l, strD_t, strD_d, tupD_n, tupD_b, tupD_i, tupD_s, tupD_l, tupD_t, tupD_d, wholeD_n, wholeD_b, wholeD_i, wholeD_s, wholeD_l, wholeD_t, wholeD_d, gLen_1, gTuple_1, gList_1, gInt_i, gInt_b, gAbs_i, gRepr_x, gAll_l, gAny_l, gSum_l, gGcd_i, gSorted_l, cDraw_1, two_1, three_1, cPick_1, gMax2_i, gMin2_i, gEqS_s, isStr_s, gNil_n, gCons_c, gT_t, gL_o, gL_l, at1_0, at2_0, at2_1, at3_0, at3_1, at3_2, cpow_e, cast_lit, abs_lit, aPart_e, gEq_i, gNe_i]
                      refine ⟨rfl, rfl, by decide, ?_⟩
                      simp only [show (!PyData.eqv (.list []) (.list [])) = false from rfl, ends0, wipeA, List.map, List.set, List.cons_append, List.nil_append, List.length_cons, List.length_nil, ite_true, ite_false, Bool.not_true, Bool.not_false, Bool.true_and, Bool.and_true, Bool.false_and, Bool.and_false, reduceIte, reduceCtorEq, Bool.false_eq_true, if_true, if_false, Nat.reduceAdd, Nat.reduceLeDiff, ne_eq, not_false_eq_true, eq_self, not_true_eq_false, Nat.reduceSub, Nat.reduceMul, Nat.reduceLT, Nat.reducePow, Int.reduceLE, Int.reduceLT, Int.reduceAdd, Int.reduceSub, Int.reduceMul, Int.reduceNeg, Int.reducePow, Int.reduceToNat, Int.reduceEq, Int.reduceBEq, Option.some.injEq, exists_eq_left', exists_eq_left, true_and, and_true, decide_true, decide_false, Nat.reduceBEq, Bool.or_true, Bool.true_or, Bool.or_false, Bool.false_or, aVar_e, aC_e, aRaw_e, aOp_e, aUn_e, aNot_e, aAnd_e, aOr_e, aChain_e, aTern_e, aNil_e, aCons_e, aTup_e, aLst_e, aB_e, tAndA_e, tOrA_e, tNotA_e, aCB_e, aCall_e, aCallK_e, aSl_e, aNoP_e, aCall0_e, gN_e, aNext_e, aSeq_e, aBrk_e, aCnt_e, aDrop_e, aRet_e, aRetN_e, aIfS_e, aAsg_e, aAug_e, aPar_e, aFor_e, aWhile_e, aYes_e, aIter_e, aEnum_e, aRange1_e, aRange2_e, aZip_e, aZipTL_e, aApp_e, aPopAt_e, aPop_e, aLenV_e, aIxV_e, aEqNilV_e, aTupV_e, aDnew_e, aListRg_e, aComp_e, aZip3T_e, aCallK0_e, gSetV_e, on_d, on_own, bl_b, it_i, ow_o, isOwn_o, seq_t, seq_l, seq_o, lst_l, lst_o, tup_t, same_t, same_l, one_1, fz_d, fz_r, fz_o, look_d, look_r, look_o, unA_0, unA_s, sl_0, sl_s, ons_n, ons_c, gI0_i, gI_i, gU_i, gIsN_n, gNotN_n, isNone_n, isNone_i, isNone_b, isNone_s, isNone_t, isNone_l, gEq_s, gNe_s, gIn_l, gIn_t, gNotIn_l, gNotIn_t, gIx_t, gIx_l, gCat_i, gCat_t, gCat_l, gMul_i, gMul_t, gMul_l, gCut_t, gCut_l, gP_x, intD_n, intD_b, intD_i, intD_s, intD_l, intD_t, intD_d, boolD_n, boolD_b, boolD_i, boolD_s, boolD_l, boolD_t, boolD_d, strD_n, strD_b, strD_i, strD_s, strD_l, strD_t, strD_d, tupD_n, tupD_b, tupD_i, tupD_s, tupD_l, tupD_t, tupD_d, wholeD_n, wholeD_b, wholeD_i, wholeD_s, wholeD_l, wholeD_t, wholeD_d, gLen_1, gTuple_1, gList_1, gInt_i, gInt_b, gAbs_i, gRepr_x, gAll_l, gAny_l, gSum_l, gGcd_i, gSorted_l, cDraw_1, two_1, three_1, cPick_1, gMax2_i, gMin2_i, gEqS_s, isStr_s, gNil_n, gCons_c, gT_t, gL_o, gL_l, at1_0, at2_0, at2_1, at3_0, at3_1, at3_2, cpow_e, cast_lit, abs_lit, aPart_e, gEq_i, gNe_i]
                      by_cases hlt : j < i
                      · rw [if_pos hlt] at h
                        simp only [show ¬ i ≤ j from by omega, ends0, wipeA, List.map, List.set, List.cons_append, List.nil_append, List.length_cons, List.length_nil, ite_true, ite_false, Bool.not_true, Bool.not_false, Bool.true_and, Bool.and_true, Bool.false_and, Bool.and_false, reduceIte, reduceCtorEq, Bool.false_eq_true, if_true, if_false, Nat.reduceAdd, Nat.reduceLeDiff, ne_eq, not_false_eq_true, eq_self, not_true_eq_false, Nat.reduceSub, Nat.reduceMul, Nat.reduceLT, Nat.reducePow, Int.reduceLE, Int.reduceLT, Int.reduceAdd, Int.reduceSub, Int.reduceMul, Int.reduceNeg, Int.reducePow, Int.reduceToNat, Int.reduceEq, Int.reduceBEq, Option.some.injEq, exists_eq_left', exists_eq_left, true_and, and_true, decide_true, decide_false, Nat.reduceBEq, Bool.or_true, Bool.true_or, Bool.or_false, Bool.false_or, aVar_e, aC_e, aRaw_e, aOp_e, aUn_e, aNot_e, aAnd_e, aOr_e, aChain_e, aTern_e, aNil_e, aCons_e, aTup_e, aLst_e, aB_e, tAndA_e, tOrA_e, tNotA_e, aCB_e, aCall_e, aCallK_e, aSl_e, aNoP_e, aCall0_e, gN_e, aNext_e, aSeq_e, aBrk_e, aCnt_e, aDrop_e, aRet_e, aRetN_e, aIfS_e, aAsg_e, aAug_e, aPar_e, aFor_e, aWhile_e, aYes_e, aIter_e, aEnum_e, aRange1_e, aRange2_e, aZip_e, aZipTL_e, aApp_e, aPopAt_e, aPop_e, aLenV_e, aIxV_e, aEqNilV_e, aTupV_e, aDnew_e, aListRg_e, aComp_e, aZip3T_e, aCallK0_e, gSetV_e, on_d, on_own, bl_b, it_i, ow_o, isOwn_o, seq_t, seq_l, seq_o, lst_l, lst_o, tup_t, same_t, same_l, one_1, fz_d, fz_r, fz_o, look_d, look_r, look_o, unA_0, unA_s, sl_0, sl_s, ons_n, ons_c, gI0_i, gI_i, gU_i, gIsN_n, gNotN_n, isNone_n, isNone_i, isNone_b, isNone_s, isNone_t, isNone_l, gEq_s, gNe_s, gIn_l, gIn_t, gNotIn_l, gNotIn_t, gIx_t, gIx_l, gCat_i, gCat_t, gCat_l, gMul_i, gMul_t, gMul_l, gCut_t, gCut_l, gP_x, intD_n, intD_b, intD_i, intD_s, intD_l, intD_t, intD_d, boolD_n, boolD_b, boolD_i, boolD_s, boolD_l, boolD_t, boolD_d, strD_n, strD_b, strD_i, strD_s, strD_l, strD_t, strD_d, tupD_n, tupD_b, tupD_i, tupD_s, tupD_l, tupD_t, tupD_d, wholeD_n, wholeD_b, wholeD_i, wholeD_s, wholeD_l, wholeD_t, wholeD_d, gLen_1, gTuple_1, gList_1, gInt_i, gInt_b, gAbs_i, gRepr_x, gAll_l, gAny_l, gSum_l, gGcd_i, gSorted_l, cDraw_1, two_1, three_1, cPick_1, gMax2_i, gMin2_i, gEqS_s, isStr_s, gNil_n, gCons_c, gT_t, gL_o, gL_l, at1_0, at2_0, at2_1, at3_0, at3_1, at3_2, cpow_e, cast_lit, abs_lit, aPart_e, gEq_i, gNe_i]
                        exact h
                      · rw [if_neg hlt] at h
                        simp only [show i ≤ j from by omega, ends0, wipeA, List.map, List.set, List.cons_append, List.nil_append, List.length_cons, List.length_nil, ite_true, ite_false, Bool.not_true, Bool.not_false, Bool.true_and, Bool.and_true, Bool.false_and, Bool.and_false, reduceIte, reduceCtorEq, Bool.false_eq_true, if_true, if_false, Nat.reduceAdd, Nat.reduceLeDiff, ne_eq, not_false_eq_true, eq_self, not_true_eq_false, Nat.reduceSub, Nat.reduceMul, Nat.reduceLT, Nat.reducePow, Int.reduceLE, Int.reduceLT, Int.reduceAdd, Int.reduceSub, Int.reduceMul, Int.reduceNeg, Int.reducePow, Int.reduceToNat, Int.reduceEq, Int.reduceBEq, Option.some.injEq, exists_eq_left', exists_eq_left, true_and, and_true, decide_true, decide_false, Nat.reduceBEq, Bool.or_true, Bool.true_or, Bool.or_false, Bool.false_or, aVar_e, aC_e, aRaw_e, aOp_e, aUn_e, aNot_e, aAnd_e, aOr_e, aChain_e, aTern_e, aNil_e, aCons_e, aTup_e, aLst_e, aB_e, tAndA_e, tOrA_e, tNotA_e, aCB_e, aCall_e, aCallK_e, aSl_e, aNoP_e, aCall0_e, gN_e, aNext_e, aSeq_e, aBrk_e, aCnt_e, aDrop_e, aRet_e, aRetN_e, aIfS_e, aAsg_e, aAug_e, aPar_e, aFor_e, aWhile_e, aYes_e, aIter_e, aEnum_e, aRange1_e, aRange2_e, aZip_e, aZipTL_e, aApp_e, aPopAt_e, aPop_e, aLenV_e, aIxV_e, aEqNilV_e, aTupV_e, aDnew_e, aListRg_e, aComp_e, aZip3T_e, aCallK0_e, gSetV_e, on_d, on_own, bl_b, it_i, ow_o, isOwn_o, seq_t, seq_l, seq_o, lst_l, lst_o, tup_t, same_t, same_l, one_1, fz_d, fz_r, fz_o, look_d, look_r, look_o, unA_0, unA_s, sl_0, sl_s, ons_n, ons_c, gI0_i, gI_i, gU_i, gIsN_n, gNotN_n, isNone_n, isNone_i, isNone_b, isNone_s, isNone_t, isNone_l, gEq_s, gNe_s, gIn_l, gIn_t, gNotIn_l, gNotIn_t, gIx_t, gIx_l, gCat_i, gCat_t, gCat_l, gMul_i, gMul_t, gMul_l, gCut_t, gCut_l, gP_x, intD_n, intD_b, intD_i, intD_s, intD_l, intD_t, intD_d, boolD_n, boolD_b, boolD_i, boolD_s, boolD_l, boolD_t, boolD_d, strD_n, strD_b, strD_i, strD_s, strD_l, strD_t, strD_d, tupD_n, tupD_b, tupD_i, tupD_s, tupD_l, tupD_t, tupD_d, wholeD_n, wholeD_b, wholeD_i, wholeD_s, wholeD_l, wholeD_t, wholeD_d, gLen_1, gTuple_1, gList_1, gInt_i, gInt_b, gAbs_i, gRepr_x, gAll_l, gAny_l, gSum_l, gGcd_i, gSorted_l, cDraw_1, two_1, three_1, cPick_1, gMax2_i, gMin2_i, gEqS_s, isStr_s, gNil_n, gCons_c, gT_t, gL_o, gL_l, at1_0, at2_0, at2_1, at3_0, at3_1, at3_2, cpow_e, cast_lit, abs_lit, aPart_e, gEq_i, gNe_i]
                        exact h
            · have : ((es.length : Int) == 2) = false := by simpa using fun z : (es.length : Int) = 2 => h3 (by omega)
              rw [stretch_not2 h3] at h
              simp only [this, ends0, wipeA, List.map, List.set, List.cons_append, List.nil_append, List.length_cons, List.length_nil, ite_true, ite_false, Bool.not_true, Bool.not_false, Bool.true_and, Bool.and_true, Bool.false_and, Bool.and_false, reduceIte, reduceCtorEq, Bool.false_eq_true, if_true, if_false, Nat.reduceAdd, Nat.reduceLeDiff, ne_eq, not_false_eq_true, eq_self, not_true_eq_false, Nat.reduceSub, Nat.reduceMul, Nat.reduceLT, Nat.reducePow, Int.reduceLE, Int.reduceLT, Int.reduceAdd, Int.reduceSub, Int.reduceMul, Int.reduceNeg, Int.reducePow, Int.reduceToNat, Int.reduceEq, Int.reduceBEq, Option.some.injEq, exists_eq_left', exists_eq_left, true_and, and_true, decide_true, decide_false, Nat.reduceBEq, Bool.or_true, Bool.true_or, Bool.or_false, Bool.false_or, aVar_e, aC_e, aRaw_e, aOp_e, aUn_e, aNot_e, aAnd_e, aOr_e, aChain_e, aTern_e, aNil_e, aCons_e, aTup_e, aLst_e, aB_e, tAndA_e, tOrA_e, tNotA_e, aCB_e, aCall_e, aCallK_e, aSl_e, aNoP_e, aCall0_e, gN_e, aNext_e, aSeq_e, aBrk_e, aCnt_e, aDrop_e, aRet_e, aRetN_e, aIfS_e, aAsg_e, aAug_e, aPar_e, aFor_e, aWhile_e, aYes_e, aIter_e, aEnum_e, aRange1_e, aRange2_e, aZip_e, aZipTL_e, aApp_e, aPopAt_e, aPop_e, aLenV_e, aIxV_e, aEqNilV_e, aTupV_e, aDnew_e, aListRg_e, aComp_e, aZip3T_e, aCallK0_e, gSetV_e, on_d, on_own, bl_b, it_i, ow_o, isOwn_o, seq_t, seq_l, seq_o, lst_l, lst_o, tup_t, same_t, same_l, one_1, fz_d, fz_r, fz_o, look_d, look_r, look_o, unA_0, unA_s, sl_0, sl_s, ons_n, ons_c, gI0_i, gI_i, gU_i, gIsN_n, gNotN_n, isNone_n, isNone_i, isNone_b, isNone_s, isNone_t, isNone_l, gEq_s, gNe_s, gIn_l, gIn_t, gNotIn_l, gNotIn_t, gIx_t, gIx_l, gCat_i, gCat_t, gCat_l, gMul_i, gMul_t, gMul_l, gCut_t, gCut_l, gP_x, intD_n, intD_b, intD_i, intD_s, intD_l, intD_t, intD_d, boolD_n, boolD_b, boolD_i, boolD_s, boolD_l, boolD_t, boolD_d, strD_n, strD_b, strD_i, strD_s, strD_l, strD_t, strD_d, tupD_n, tupD_b, tupD_i, tupD_s, tupD_l, tupD_t, tupD_d, wholeD_n, wholeD_b, wholeD_i, wholeD_s, wholeD_l, wholeD_t, wholeD_d, gLen_1, gTuple_1, gList_1, gInt_i, gInt_b, gAbs_i, gRepr_x, gAll_l, gAny_l, gSum_l, gGcd_i, gSorted_l, cDraw_1, two_1, three_1, cPick_1, gMax2_i, gMin2_i, gEqS_s, isStr_s, gNil_n, gCons_c, gT_t, gL_o, gL_l, at1_0, at2_0, at2_1, at3_0, at3_1, at3_2, cpow_e, cast_lit, abs_lit, aPart_e, gEq_i, gNe_i]
              exact h
        · rw [if_neg h1] at no
          have e : ((ws.length : Int) == ((ns.map PyData.int).length : Nat)) = false := by
            rw [List.length_map]
            simpa using fun z : (ws.length : Int) = ns.length => h1 (by omega)
          simp only [e, ends0, wipeA, List.map, List.set, List.cons_append, List.nil_append, List.length_cons, List.length_nil, ite_true, ite_false, Bool.not_true, Bool.not_false, Bool.true_and, Bool.and_true, Bool.false_and, Bool.and_false, reduceIte, reduceCtorEq, Bool.false_eq_true, if_true, if_false, Nat.reduceAdd, Nat.reduceLeDiff, ne_eq, not_false_eq_true, eq_self, not_true_eq_false, Nat.reduceSub, Nat.reduceMul, Nat.reduceLT, Nat.reducePow, Int.reduceLE, Int.reduceLT, Int.reduceAdd, Int.reduceSub, Int.reduceMul, Int.reduceNeg, Int.reducePow, Int.reduceToNat, Int.reduceEq, Int.reduceBEq, Option.some.injEq, exists_eq_left', exists_eq_left, true_and, and_true, decide_true, decide_false, Nat.reduceBEq, Bool.or_true, Bool.true_or, Bool.or_false, Bool.false_or, aVar_e, aC_e, aRaw_e, aOp_e, aUn_e, aNot_e, aAnd_e, aOr_e, aChain_e, aTern_e, aNil_e, aCons_e, aTup_e, aLst_e, aB_e, tAndA_e, tOrA_e, tNotA_e, aCB_e, aCall_e, aCallK_e, aSl_e, aNoP_e, aCall0_e, gN_e, aNext_e, aSeq_e, aBrk_e, aCnt_e, aDrop_e, aRet_e, aRetN_e, aIfS_e, aAsg_e, aAug_e, aPar_e, aFor_e, aWhile_e, aYes_e, aIter_e, aEnum_e, aRange1_e, aRange2_e, aZip_e, aZipTL_e, aApp_e, aPopAt_e, aPop_e, aLenV_e, aIxV_e, aEqNilV_e, aTupV_e, aDnew_e, aListRg_e, aComp_e, aZip3T_e, aCallK0_e, gSetV_e, on_d, on_own, bl_b, it_i, ow_o, isOwn_o, seq_t, seq_l, seq_o, lst_l, lst_o, tup_t, same_t, same_l, one_1, fz_d, fz_r, fz_o, look_d, look_r, look_o, unA_0, unA_s, sl_0, sl_s, ons_n, ons_c, gI0_i, gI_i, gU_i, gIsN_n, gNotN_n, isNone_n, isNone_i, isNone_b, isNone_s, isNone_t, isNone_l, gEq_s, gNe_s, gIn_l, gIn_t, gNotIn_l, gNotIn_t, gIx_t, gIx_l, gCat_i, gCat_t, gCat_l, gMul_i, gMul_t, gMul_l, gCut_t, gCut_l, gP_x, intD_n, intD_b, intD_i, intD_s, intD_l, intD_t, intD_d, boolD_n, boolD_b, boolD_i, boolD_s, boolD_l, boolD_t, boolD_d, strD_n, strD_b, strD_i, strD_s, strD_l, strD_t, strD_d, tupD_n, tupD_b, tupD_i, tupD_s, tupD_l, tupD_t, tupD_d, wholeD_n, wholeD_b, wholeD_i, wholeD_s, wholeD_l, wholeD_t, wholeD_d, gLen_1, gTuple_1, gList_1, gInt_i, gInt_b, gAbs_i, gRepr_x, gAll_l, gAny_l, gSum_l, gGcd_i, gSorted_l, cDraw_1, two_1, three_1, cPick_1, gMax2_i, gMin2_i, gEqS_s, isStr_s, gNil_n, gCons_c, gT_t, gL_o, gL_l, at1_0, at2_0, at2_1, at3_0, at3_1, at3_2, cpow_e, cast_lit, abs_lit, aPart_e, gEq_i, gNe_i]
          exact no rfl
    · rw [run_not2 h2] at h
      have : ((ds.length : Int) == 2) = false := by simpa using fun z : (ds.length : Int) = 2 => h2 (by omega)
      simp only [this, ends0, wipeA, List.map, List.set, List.cons_append, List.nil_append, List.length_cons, List.length_nil, ite_true, ite_false, Bool.not_true, Bool.not_false, Bool.true_and, Bool.and_true, Bool.false_and, Bool.and_false, reduceIte, reduceCtorEq, Bool.false_eq_true, if_true, if_false, Nat.reduceAdd, Nat.reduceLeDiff, ne_eq, not_false_eq_true, eq_self, not_true_eq_false, Nat.reduceSub, Nat.reduceMul, Nat.reduceLT, Nat.reducePow, Int.reduceLE, Int.reduceLT, Int.reduceAdd, Int.reduceSub, Int.reduceMul, Int.reduceNeg, Int.reducePow, Int.reduceToNat, Int.reduceEq, Int.reduceBEq, Option.some.injEq, exists_eq_left', exists_eq_left, true_and, and_true, decide_true, decide_false, Nat.reduceBEq, Bool.or_true, Bool.true_or, Bool.or_false, Bool.false_or, aVar_e, aC_e, aRaw_e, aOp_e, aUn_e, aNot_e, aAnd_e, aOr_e, aChain_e, aTern_e, aNil_e, aCons_e, aTup_e, aLst_e, aB_e, tAndA_e, tOrA_e, tNotA_e, aCB_e, aCall_e, aCallK_e, aSl_e, aNoP_e, aCall0_e, gN_e, aNext_e, aSeq_e, aBrk_e, aCnt_e, aDrop_e, aRet_e, aRetN_e, aIfS_e, aAsg_e, aAug_e, aPar_e, aFor_e, aWhile_e, aYes_e, aIter_e, aEnum_e, aRange1_e, aRange2_e, aZip_e, aZipTL_e, aApp_e, aPopAt_e, aPop_e, aLenV_e, aIxV_e, aEqNilV_e, aTupV_e, aDnew_e, aListRg_e, aComp_e, aZip3T_e, aCallK0_e, gSetV_e, on_d, on_own, bl_b, it_i, ow_o, isOwn_o, seq_t, seq_l, seq_o, lst_l, lst_o, tup_t, same_t, same_l, one_1, fz_d, fz_r, fz_o, look_d, look_r, look_o, unA_0, unA_s, sl_0, sl_s, ons_n, ons_c, gI0_i, gI_i, gU_i, gIsN_n, gNotN_n, isNone_n, isNone_i, isNone_b, isNone_s, isNone_t, isNone_l, gEq_s, gNe_s, gIn_l, gIn_t, gNotIn_l, gNotIn_t, gIx_t, gIx_l, gCat_i, gCat_t, gCat_l, gMul_i, gMul_t, gMul_l, gCut_t, gCut_l, gP_x, intD_n, intD_b, intD_i, intD_s, intD_l, intD_t, intD_d, boolD_n, boolD_b, boolD_i, boolD_s, boolD_l, boolD_t, boolD_d, strD_n, strD_b, strD_i, strD_s, strD_l, strD_t, strD_d, tupD_n, tupD_b, tupD_i, tupD_s, tupD_l, tupD_t, tupD_d, wholeD_n, wholeD_b, wholeD_i, wholeD_s, wholeD_l, wholeD_t, wholeD_d, gLen_1, gTuple_1, gList_1, gInt_i, gInt_b, gAbs_i, gRepr_x, gAll_l, gAny_l, gSum_l, gGcd_i, gSorted_l, cDraw_1, two_1, three_1, cPick_1, gMax2_i, gMin2_i, gEqS_s, isStr_s, gNil_n, gCons_c, gT_t, gL_o, gL_l, at1_0, at2_0, at2_1, at3_0, at3_1, at3_2, cpow_e, cast_lit, abs_lit, aPart_e, gEq_i, gNe_i]
      exact h
  · exact h.elim
abbrev sp__law_is_run (K : PySem.W.Frag) : Sp := SpL K noBox c__law_is_run
section
variable {P : Program} {w : World} {K : PySem.W.Frag} {mg : Str → Option Value} {base : Heap} {a : Adr}
theorem ok__law_is_run (T : Txt K mg a) : FnOk P w K mg base CX0 2 a.f__law_is_run a.d__law_is_run ["machine", "value"] (sp__law_is_run K) := by
  have G__law_is_integer : FnOk P w K mg base CX0 1 a.f__law_is_integer a.d__law_is_integer ["value"] (sp__law_is_integer K) := ok__law_is_integer T
  refine T._law_is_run.F.ok sc__law_is_run (fun vs H Q E h => sp_len l__law_is_run h) (fun cdv A outer s H vs Q E hr h => ?_)
  have hu := hu_of hr
  exact ⟨_, (pss_cons (ps_if (PW.pt (pw_or (pt_not (pt_val (pe_callB (show CallR _ _ (rIsi K) from call_isi) (by rfl) T.b_isinstance (by decide +kernel) (pa_cons (pv 1) (pa_cons (pe_bltn (v := .ty "tuple") rfl T.b_tuple (by decide +kernel) rfl) pa_nil))))) (pw_or1 (pt_cmpR (show OpR _ _ (rNeP K) from op_neP hr.units) (pe_callB (show CallR _ _ (Sx.rLenS K) from call_len_seq) (by rfl) T.b_len (by decide +kernel) (pa_cons (pv 1) pa_nil)) pe_int (nomark _))))) (pss_one (ps_ret pe_bl)) pss_nil)
      (pss_cons (ps_asg (pv 1) (show PG _ _ (gTup K 2 _) from pg_tup rfl (pgs_cons (pg_name (i := 2) sc__law_is_run.nd rfl (by first | exact Or.inl rfl | exact Or.inr rfl)) (pgs_cons (pg_name (i := 3) sc__law_is_run.nd rfl (by first | exact Or.inl rfl | exact Or.inr rfl)) pgs_nil))))
      (pss_cons (ps_if (PW.pt (pw_or (pt_not (pt_val (pe_callB (show CallR _ _ (rIsi K) from call_isi) (by rfl) T.b_isinstance (by decide +kernel) (pa_cons (pv 2) (pa_cons (pe_bltn (v := .ty "tuple") rfl T.b_tuple (by decide +kernel) rfl) pa_nil))))) (pw_or1 (pt_cmpR (show OpR _ _ (rNeP K) from op_neP hr.units) (pe_callB (show CallR _ _ (Sx.rLenS K) from call_len_seq) (by rfl) T.b_len (by decide +kernel) (pa_cons (pv 2) pa_nil)) (pe_callB (show CallR _ _ (Sx.rLenS K) from call_len_seq) (by rfl) T.b_len (by decide +kernel) (pa_cons (pv 0) pa_nil)) (nomark _))))) (pss_one (ps_ret pe_bl)) pss_nil)
      (pss_cons (ps_for PassesOwn.never rfl (show PI _ _ _ (RZ.iZipA K _) from RZ.pi_zipA (by rfl) T.b_zip (pa_cons (pv 0) (pa_cons (pv 2) pa_nil))) (show PG _ _ (gTup K 2 _) from pg_tup rfl (pgs_cons (pg_name (i := 4) sc__law_is_run.nd rfl (by first | exact Or.inl rfl | exact Or.inr rfl)) (pgs_cons (pg_name (i := 5) sc__law_is_run.nd rfl (by first | exact Or.inl rfl | exact Or.inr rfl)) pgs_nil))) (pss_one (ps_if (PW.pt (pw_and (pt_cmpR op_notN (pv 5) pe_non (nomark _)) (pw_and1 (PW.pt (pw_or (pt_not (pt_val (pe_call G__law_is_integer hr (by rfl) T._law_is_integer.m T._law_is_integer.F.kp T._law_is_integer.b .nil pass0 (pa_cons (pv 5) pa_nil)))) (pw_or1 (pt_not (pt_chain op_le op_lt pe_int (pv 5) (pv 4))))))))) (pss_one (ps_ret pe_bl)) pss_nil)))
      (pss_cons (ps_if (PW.pt (pw_or (pt_not (pt_val (pe_callB (show CallR _ _ (rIsi K) from call_isi) (by rfl) T.b_isinstance (by decide +kernel) (pa_cons (pv 3) (pa_cons (pe_bltn (v := .ty "tuple") rfl T.b_tuple (by decide +kernel) rfl) pa_nil))))) (pw_or1 (pt_cmpR (show OpR _ _ (rNeP K) from op_neP hr.units) (pe_callB (show CallR _ _ (Sx.rLenS K) from call_len_seq) (by rfl) T.b_len (by decide +kernel) (pa_cons (pv 3) pa_nil)) pe_int (nomark _))))) (pss_one (ps_ret pe_bl)) pss_nil)
      (pss_cons (ps_if (pt_cmpR (show OpR _ _ (rNeP K) from op_neP hr.units) (pe_lc (own := [("own", 6)]) rfl sc__law_is_run.nd (show PI _ _ _ (iAny K _) from pi_any (pv 3)) (blkOk_by (N := ["machine", "value", "word", "stretch", "modulus", "rest", "own"]) (sc := defScope s__law_is_run) (by decide +kernel)) (fun _ _ _ _ _ => (pg_name (i := 6) sc__law_is_run.nd rfl (by first | exact Or.inl rfl | exact Or.inr rfl))) (fun _ _ _ _ _ => (pts_one (PW.pt (pw_or (pt_not (pt_val (pe_call G__law_is_integer hr (by rfl) T._law_is_integer.m T._law_is_integer.F.kp T._law_is_integer.b .nil pass0 (pa_cons (pv 6) pa_nil)))) (pw_or1 (pt_not (pt_chain op_le op_le (pe_un un_neg (pe_op op_pow pe_int pe_int)) (pv 6) (pe_op op_pow pe_int pe_int)))))))) (fun _ _ _ _ _ => pe_int)) (pe_lst pa_nil) (nomark _)) (pss_one (ps_ret pe_bl)) pss_nil)
      (pss_one (ps_ret (pe_cmpR op_le (pe_ix (show IxR _ (rIx K) from ix_seq) (pv 3) pe_int (fun _ _ => rfl)) (pe_ix (show IxR _ (rIx K) from ix_seq) (pv 3) pe_int (fun _ _ => rfl)) (nomark _)))))))))),
    run0 (N := ["machine", "value", "word", "stretch", "modulus", "rest", "own"]) (np := 2) (f := b__law_is_run) h (sp_len l__law_is_run h) (fun dk B hb => (show LS B K Wno _ (b__law_is_run dk) from
      (ls_seq (ls_if (lt_or (lt_not (lt_b (le_isi (p := tupD) kit_tuple (le_var (i := 1))))) (lt_test (le_op (ol_ne) (le_cb cl_len (la_cons (le_var (i := 1)) la_nil)) (le_c (y := .int 2) fun _ => .int _)))) (ls_ret (le_c (y := .bool false) fun _ => .bl _)) ls_next)
      (ls_seq (ls_asg (le_var (i := 1)) (lg_tup (lgs_cons (lg_name (i := 2)) (lgs_cons (lg_name (i := 3)) lgs_nil)) (gC_len (gC_len gN_len))))
      (ls_seq (ls_if (lt_or (lt_not (lt_b (le_isi (p := tupD) kit_tuple (le_var (i := 2))))) (lt_test (le_op (ol_ne) (le_cb cl_len (la_cons (le_var (i := 2)) la_nil)) (le_cb cl_len (la_cons (le_var (i := 0)) la_nil))))) (ls_ret (le_c (y := .bool false) fun _ => .bl _)) ls_next)
      (ls_cut (ls_for (li_zip (la_cons (le_var (i := 0)) (la_cons (le_var (i := 2)) la_nil))) (lg_tup (lgs_cons (lg_name (i := 4)) (lgs_cons (lg_name (i := 5)) lgs_nil)) (gC_len (gC_len gN_len))) (ls_if (lt_and (lt_test (le_op (ol_notN) (le_var (i := 5)) (le_c (y := .none) fun _ => .non))) (lt_or (lt_not (lt_b (le_call0 (dk := dk) (c := c__law_is_integer) trivial (la_cons (le_var (i := 5)) la_nil)))) (lt_not (lt_test (le_chain (ol_I0 fun _ _ _ => .bl _) (ol_I0 fun _ _ _ => .bl _) (le_c (y := .int 0) fun _ => .int _) (le_var (i := 5)) (le_var (i := 4))))))) (ls_ret (le_c (y := .bool false) fun _ => .bl _)) ls_next))
      (ls_seq (ls_if (lt_or (lt_not (lt_b (le_isi (p := tupD) kit_tuple (le_var (i := 3))))) (lt_test (le_op (ol_ne) (le_cb cl_len (la_cons (le_var (i := 3)) la_nil)) (le_c (y := .int 2) fun _ => .int _)))) (ls_ret (le_c (y := .bool false) fun _ => .bl _)) ls_next)
      (ls_seq (ls_if (lt_test (le_op (ol_ne) (le_comp (vs := [6]) (li_any (le_var (i := 3))) (lg_name (i := 6)) (tg_name (by decide)) (lt_or (lt_not (lt_b (le_call0 (dk := dk) (c := c__law_is_integer) trivial (la_cons (le_var (i := 6)) la_nil)))) (lt_not (lt_test (le_chain (ol_I0 fun _ _ _ => .bl _) (ol_I0 fun _ _ _ => .bl _) (le_un (ul_U fun _ _ => .int _) (le_op (ol_I fun _ _ _ => .int _) (le_c (y := .int 10) fun _ => .int _) (le_c (y := .int 60) fun _ => .int _))) (le_var (i := 6)) (le_op (ol_I fun _ _ _ => .int _) (le_c (y := .int 10) fun _ => .int _) (le_c (y := .int 60) fun _ => .int _)))))) (le_c (y := .int 1) fun _ => .int _)) (le_lst la_nil (by decide)))) (ls_ret (le_c (y := .bool false) fun _ => .bl _)) ls_next)
      (ls_ret (le_op (ol_I0 fun _ _ _ => .bl _) (le_op ol_ix (le_var (i := 3)) (le_c (y := .int 0) fun _ => .int _)) (le_op ol_ix (le_var (i := 3)) (le_c (y := .int 1) fun _ => .int _)))))))))))) h__law_is_run⟩
end
def c_is_number : V → Ct := fun _ as R _ => match as with
  | [.d v] => R (.d (.bool (numD v)))
  | _ => False
def b_is_number (dk : V) : ASx :=
  (aRet (aCall0 (c_is_within dk) (aCons (aVar 0) (aCons (aUn (gU fun i => .int (-i)) (aC (.int (10 ^ 60)))) (aCons (aC (.int (10 ^ 60))) aNil)))))
theorem l_is_number : ∀ (dk : V) (as : List A) (R : A → Prop) (Z : Ex → Prop), c_is_number dk as R Z → as.length = 1 := by
  intro dk as R Z h
  unfold c_is_number at h
  split at h
  · rfl
  · exact h.elim
theorem h_is_number : ∀ (dk : V) (as : List A) (R : A → Prop) (Z : Ex → Prop), as.length = 1 → c_is_number dk as R Z → b_is_number dk (ends0 R) (fun _ => R (.d .none)) (as ++ unA ((["value"] : List Str).length - 1)) := by
  intro dk as R Z hl h
  unfold c_is_number at h
  split at h
  · rename_i v
    simp only [b_is_number, c_is_within, ends0, wipeA, List.map, List.set, List.cons_append, List.nil_append, List.length_cons, List.length_nil, ite_true, ite_false, Bool.not_true, Bool.not_false, Bool.true_and, Bool.and_true, Bool.false_and, Bool.and_false, reduceIte, reduceCtorEq, Bool.false_eq_true, if_true, if_false, Nat.reduceAdd, Nat.reduceLeDiff, ne_eq, not_false_eq_true, eq_self, not_true_eq_false, Nat.reduceSub, Nat.reduceMul, Nat.reduceLT, Nat.reducePow, Int.reduceLE, Int.reduceLT, Int.reduceAdd, Int.reduceSub, Int.reduceMul, Int.reduceNeg, Int.reducePow, Int.reduceToNat, Int.reduceEq, Int.reduceBEq, Option.some.injEq, exists_eq_left', exists_eq_left, true_and, and_true, decide_true, decide_false, Nat.reduceBEq, Bool.or_true, Bool.true_or, Bool.or_false, Bool.false_or, aVar_e, aC_e, aRaw_e, aOp_e, aUn_e, aNot_e, aAnd_e, aOr_e, aChain_e, aTern_e, aNil_e, aCons_e, aTup_e, aLst_e, aB_e, tAndA_e, tOrA_e, tNotA_e, aCB_e, aCall_e, aCallK_e, aSl_e, aNoP_e, aCall0_e, gN_e, aNext_e, aSeq_e, aBrk_e, aCnt_e, aDrop_e, aRet_e, aRetN_e, aIfS_e, aAsg_e, aAug_e, aPar_e, aFor_e, aWhile_e, aYes_e, aIter_e, aEnum_e, aRange1_e, aRange2_e, aZip_e, aZipTL_e, aApp_e, aPopAt_e, aPop_e, aLenV_e, aIxV_e, aEqNilV_e, aTupV_e, aDnew_e, aListRg_e, aComp_e, aZip3T_e, aCallK0_e, gSetV_e, on_d, on_own, bl_b, it_i, ow_o, isOwn_o, seq_t, seq_l, seq_o, lst_l, lst_o, tup_t, same_t, same_l, one_1, fz_d, fz_r, fz_o, look_d, look_r, look_o, unA_0, unA_s, sl_0, sl_s, ons_n, ons_c, gI0_i, gI_i, gU_i, gIsN_n, gNotN_n, isNone_n, isNone_i, isNone_b, isNone_s, isNone_t, isNone_l, gEq_s, gNe_s, gIn_l, gIn_t, gNotIn_l, gNotIn_t, gIx_t, gIx_l, gCat_i, gCat_t, gCat_l, gMul_i, gMul_t, gMul_l, gCut_t, gCut_l, gP_x, intD_n, intD_b, intD_i, intD_s, intD_l, intD_t, intD_d, boolD_n, boolD_b, boolD_i, boolD_s, boolD_l, boolD_t, boolD_d, strD_n, strD_b, strD_i, strD_s, strD_l, strD_t, strD_d, tupD_n, tupD_b, tupD_i, tupD_s, tupD_l, tupD_t, tupD_d, wholeD_n, wholeD_b, wholeD_i, wholeD_s, wholeD_l, wholeD_t, wholeD_d, gLen_1, gTuple_1, gList_1, gInt_i, gInt_b, gAbs_i, gRepr_x, gAll_l, gAny_l, gSum_l, gGcd_i, gSorted_l, cDraw_1, two_1, three_1, cPick_1, gMax2_i, gMin2_i, gEqS_s, isStr_s, gNil_n, gCons_c, gT_t, gL_o, gL_l, at1_0, at2_0, at2_1, at3_0, at3_1, at3_2, cpow_e, cast_lit, abs_lit, aPart_e, gEq_i, gNe_i]
    simp only [numD, Int.reducePow, Int.reduceNeg] at h
    exact h
  · exact h.elim
abbrev sp_is_number (K : PySem.W.Frag) : Sp := SpL K noBox c_is_number
section
variable {P : Program} {w : World} {K : PySem.W.Frag} {mg : Str → Option Value} {base : Heap} {a : Adr}
theorem ok_is_number (T : Txt K mg a) : FnOk P w K mg base CX0 3 a.f_is_number a.d_is_number ["value"] (sp_is_number K) := by
  have G_is_within : FnOk P w K mg base CX0 2 a.f_is_within a.d_is_within ["value", "low", "high"] (sp_is_within K) := ok_is_within T
  refine T.is_number.F.ok sc_is_number (fun vs H Q E h => sp_len l_is_number h) (fun cdv A outer s H vs Q E hr h => ?_)
  have hu := hu_of hr
  exact ⟨_, (pss_one (ps_ret (pe_call G_is_within hr (by rfl) T.is_within.m T.is_within.F.kp T.is_within.b .nil pass0 (pa_cons (pv 0) (pa_cons (pe_un un_neg (pe_cst T.c_MAX_NUMBER rfl)) (pa_cons (pe_cst T.c_MAX_NUMBER rfl) pa_nil)))))),
    run0 (N := ["value"]) (np := 1) (f := b_is_number) h (sp_len l_is_number h) (fun dk B hb => (show LS B K Wno _ (b_is_number dk) from
      (ls_ret (le_call0 (dk := dk) (c := c_is_within) trivial (la_cons (le_var (i := 0)) (la_cons (le_un (ul_U fun _ _ => .int _) (le_c (y := .int (10 ^ 60)) fun _ => .int _)) (la_cons (le_c (y := .int (10 ^ 60)) fun _ => .int _) la_nil))))))) h_is_number⟩
end
def c_word_error : V → Ct := fun _ as R _ => match as with
  | [.d m, .d v] => ∃ ns : List Int, m = .tuple (ns.map PyData.int) ∧ R (.d (wordD ns v))
  | _ => False
def b_word_error (dk : V) : ASx :=
  (aSeq (aIfS (tOrA (tNotA (aB (aUn (gP tupD) (aVar 1)))) (aB (aOp (gNe) (aCB gLen (aCons (aVar 1) aNil)) (aCB gLen (aCons (aVar 0) aNil))))) (aRet (aC (.str "form"))) aNext)
      (aCut (aFor (aEnum (aCons (aVar 1) aNil)) (gT (gCons (gN 2) (gCons (gN 3) gNil))) (aIfS (tAndA (aB (aOp (gNotN) (aVar 3) (aC (.none)))) (tNotA (aB (aCall0 (c_is_within dk) (aCons (aVar 3) (aCons (aC (.int 0)) (aCons (aOp (gI0 fun i j => .int (i - j)) (aOp gIx (aVar 0) (aVar 2)) (aC (.int 1))) aNil))))))) (aRet (aTup (aCons (aC (.str "rest")) (aCons (aVar 2) aNil)))) aNext))
      (aRet (aC (.none)))))
theorem l_word_error : ∀ (dk : V) (as : List A) (R : A → Prop) (Z : Ex → Prop), c_word_error dk as R Z → as.length = 2 := by
  intro dk as R Z h
  unfold c_word_error at h
  split at h
  · rfl
  · exact h.elim
theorem h_word_error : ∀ (dk : V) (as : List A) (R : A → Prop) (Z : Ex → Prop), as.length = 2 → c_word_error dk as R Z → b_word_error dk (ends0 R) (fun _ => R (.d .none)) (as ++ unA ((["machine", "value", "lane", "item"] : List Str).length - 2)) := by
  intro dk as R Z hl h
  unfold c_word_error at h
  split at h
  · rename_i m v
    obtain ⟨ns, rfl, h⟩ := h
    cases v <;> simp only [b_word_error, ends0, wipeA, List.map, List.set, List.cons_append, List.nil_append, List.length_cons, List.length_nil, ite_true, ite_false, Bool.not_true, Bool.not_false, Bool.true_and, Bool.and_true, Bool.false_and, Bool.and_false, reduceIte, reduceCtorEq, Bool.false_eq_true, if_true, if_false, Nat.reduceAdd, Nat.reduceLeDiff, ne_eq, not_false_eq_true, eq_self, not_true_eq_false, Nat.reduceSub, Nat.reduceMul, Nat.reduceLT, Nat.reducePow, Int.reduceLE, Int.reduceLT, Int.reduceAdd, Int.reduceSub, Int.reduceMul, Int.reduceNeg, Int.reducePow, Int.reduceToNat, Int.reduceEq, Int.reduceBEq, Option.some.injEq, exists_eq_left', exists_eq_left, true_and, and_true, decide_true, decide_false, Nat.reduceBEq, Bool.or_true, Bool.true_or, Bool.or_false, Bool.false_or, aVar_e, aC_e, aRaw_e, aOp_e, aUn_e, aNot_e, aAnd_e, aOr_e, aChain_e, aTern_e, aNil_e, aCons_e, aTup_e, aLst_e, aB_e, tAndA_e, tOrA_e, tNotA_e, aCB_e, aCall_e, aCallK_e, aSl_e, aNoP_e, aCall0_e, gN_e, aNext_e, aSeq_e, aBrk_e, aCnt_e, aDrop_e, aRet_e, aRetN_e, aIfS_e, aAsg_e, aAug_e, aPar_e, aFor_e, aWhile_e, aYes_e, aIter_e, aEnum_e, aRange1_e, aRange2_e, aZip_e, aZipTL_e, aApp_e, aPopAt_e, aPop_e, aLenV_e, aIxV_e, aEqNilV_e, aTupV_e, aDnew_e, aListRg_e, aComp_e, aZip3T_e, aCallK0_e, gSetV_e, on_d, on_own, bl_b, it_i, ow_o, isOwn_o, seq_t, seq_l, seq_o, lst_l, lst_o, tup_t, same_t, same_l, one_1, fz_d, fz_r, fz_o, look_d, look_r, look_o, unA_0, unA_s, sl_0, sl_s, ons_n, ons_c, gI0_i, gI_i, gU_i, gIsN_n, gNotN_n, isNone_n, isNone_i, isNone_b, isNone_s, isNone_t, isNone_l, gEq_s, gNe_s, gIn_l, gIn_t, gNotIn_l, gNotIn_t, gIx_t, gIx_l, gCat_i, gCat_t, gCat_l, gMul_i, gMul_t, gMul_l, gCut_t, gCut_l, gP_x, intD_n, intD_b, intD_i, intD_s, intD_l, intD_t, intD_d, boolD_n, boolD_b, boolD_i, boolD_s, boolD_l, boolD_t, boolD_d, strD_n, strD_b, strD_i, strD_s, strD_l, strD_t, strD_d, tupD_n, tupD_b, tupD_i, tupD_s, tupD_l, tupD_t, tupD_d, wholeD_n, wholeD_b, wholeD_i, wholeD_s, wholeD_l, wholeD_t, wholeD_d, gLen_1, gTuple_1, gList_1, gInt_i, gInt_b, gAbs_i, gRepr_x, gAll_l, gAny_l, gSum_l, gGcd_i, gSorted_l, cDraw_1, two_1, three_1, cPick_1, gMax2_i, gMin2_i, gEqS_s, isStr_s, gNil_n, gCons_c, gT_t, gL_o, gL_l, at1_0, at2_0, at2_1, at3_0, at3_1, at3_2, cpow_e, cast_lit, abs_lit, aPart_e, gEq_i, gNe_i] <;> try exact h
    rename_i ds
    rw [wordD_tup] at h
    by_cases h1 : ds.length = ns.length
    · rw [if_pos h1] at h
      have e : ((ds.length : Int) == ((ns.map PyData.int).length : Nat)) = true := by
        rw [List.length_map, h1]
        exact beq_self_eq_true _
      simp only [e, ends0, wipeA, List.map, List.set, List.cons_append, List.nil_append, List.length_cons, List.length_nil, ite_true, ite_false, Bool.not_true, Bool.not_false, Bool.true_and, Bool.and_true, Bool.false_and, Bool.and_false, reduceIte, reduceCtorEq, Bool.false_eq_true, if_true, if_false, Nat.reduceAdd, Nat.reduceLeDiff, ne_eq, not_false_eq_true, eq_self, not_true_eq_false, Nat.reduceSub, Nat.reduceMul, Nat.reduceLT, Nat.reducePow, Int.reduceLE, Int.reduceLT, Int.reduceAdd, Int.reduceSub, Int.reduceMul, Int.reduceNeg, Int.reducePow, Int.reduceToNat, Int.reduceEq, Int.reduceBEq, Option.some.injEq, exists_eq_left', exists_eq_left, true_and, and_true, decide_true, decide_false, Nat.reduceBEq, Bool.or_true, Bool.true_or, Bool.or_false, Bool.false_or, aVar_e, aC_e, aRaw_e, aOp_e, aUn_e, aNot_e, aAnd_e, aOr_e, aChain_e, aTern_e, aNil_e, aCons_e, aTup_e, aLst_e, aB_e, tAndA_e, tOrA_e, tNotA_e, aCB_e, aCall_e, aCallK_e, aSl_e, aNoP_e, aCall0_e, gN_e, aNext_e, aSeq_e, aBrk_e, aCnt_e, aDrop_e, aRet_e, aRetN_e, aIfS_e, aAsg_e, aAug_e, aPar_e, aFor_e, aWhile_e, aYes_e, aIter_e, aEnum_e, aRange1_e, aRange2_e, aZip_e, aZipTL_e, aApp_e, aPopAt_e, aPop_e, aLenV_e, aIxV_e, aEqNilV_e, aTupV_e, aDnew_e, aListRg_e, aComp_e, aZip3T_e, aCallK0_e, gSetV_e, on_d, on_own, bl_b, it_i, ow_o, isOwn_o, seq_t, seq_l, seq_o, lst_l, lst_o, tup_t, same_t, same_l, one_1, fz_d, fz_r, fz_o, look_d, look_r, look_o, unA_0, unA_s, sl_0, sl_s, ons_n, ons_c, gI0_i, gI_i, gU_i, gIsN_n, gNotN_n, isNone_n, isNone_i, isNone_b, isNone_s, isNone_t, isNone_l, gEq_s, gNe_s, gIn_l, gIn_t, gNotIn_l, gNotIn_t, gIx_t, gIx_l, gCat_i, gCat_t, gCat_l, gMul_i, gMul_t, gMul_l, gCut_t, gCut_l, gP_x, intD_n, intD_b, intD_i, intD_s, intD_l, intD_t, intD_d, boolD_n, boolD_b, boolD_i, boolD_s, boolD_l, boolD_t, boolD_d, strD_n, strD_b, strD_i, strD_s, strD_l, strD_t, strD_d, tupD_n, tupD_b, tupD_i, tupD_s, tupD_l, tupD_t, tupD_d, wholeD_n, wholeD_b, wholeD_i, wholeD_s, wholeD_l, wholeD_t, wholeD_d, gLen_1, gTuple_1, gList_1, gInt_i, gInt_b, gAbs_i, gRepr_x, gAll_l, gAny_l, gSum_l, gGcd_i, gSorted_l, cDraw_1, two_1, three_1, cPick_1, gMax2_i, gMin2_i, gEqS_s, isStr_s, gNil_n, gCons_c, gT_t, gL_o, gL_l, at1_0, at2_0, at2_1, at3_0, at3_1, at3_2, cpow_e, cast_lit, abs_lit, aPart_e, gEq_i, gNe_i]
      refine ⟨fun ρ => ∀ j, j < ds.length → badRest ns ds j = false, ?_, fun ρ hj => ?_⟩
      · simp only [ends0, wipeA, List.map, List.set, List.cons_append, List.nil_append, List.length_cons, List.length_nil, ite_true, ite_false, Bool.not_true, Bool.not_false, Bool.true_and, Bool.and_true, Bool.false_and, Bool.and_false, reduceIte, reduceCtorEq, Bool.false_eq_true, if_true, if_false, Nat.reduceAdd, Nat.reduceLeDiff, ne_eq, not_false_eq_true, eq_self, not_true_eq_false, Nat.reduceSub, Nat.reduceMul, Nat.reduceLT, Nat.reducePow, Int.reduceLE, Int.reduceLT, Int.reduceAdd, Int.reduceSub, Int.reduceMul, Int.reduceNeg, Int.reducePow, Int.reduceToNat, Int.reduceEq, Int.reduceBEq, Option.some.injEq, exists_eq_left', exists_eq_left, true_and, and_true, decide_true, decide_false, Nat.reduceBEq, Bool.or_true, Bool.true_or, Bool.or_false, Bool.false_or, aVar_e, aC_e, aRaw_e, aOp_e, aUn_e, aNot_e, aAnd_e, aOr_e, aChain_e, aTern_e, aNil_e, aCons_e, aTup_e, aLst_e, aB_e, tAndA_e, tOrA_e, tNotA_e, aCB_e, aCall_e, aCallK_e, aSl_e, aNoP_e, aCall0_e, gN_e, aNext_e, aSeq_e, aBrk_e, aCnt_e, aDrop_e, aRet_e, aRetN_e, aIfS_e, aAsg_e, aAug_e, aPar_e, aFor_e, aWhile_e, aYes_e, aIter_e, aEnum_e, aRange1_e, aRange2_e, aZip_e, aZipTL_e, aApp_e, aPopAt_e, aPop_e, aLenV_e, aIxV_e, aEqNilV_e, aTupV_e, aDnew_e, aListRg_e, aComp_e, aZip3T_e, aCallK0_e, gSetV_e, on_d, on_own, bl_b, it_i, ow_o, isOwn_o, seq_t, seq_l, seq_o, lst_l, lst_o, tup_t, same_t, same_l, one_1, fz_d, fz_r, fz_o, look_d, look_r, look_o, unA_0, unA_s, sl_0, sl_s, ons_n, ons_c, gI0_i, gI_i, gU_i, gIsN_n, gNotN_n, isNone_n, isNone_i, isNone_b, isNone_s, isNone_t, isNone_l, gEq_s, gNe_s, gIn_l, gIn_t, gNotIn_l, gNotIn_t, gIx_t, gIx_l, gCat_i, gCat_t, gCat_l, gMul_i, gMul_t, gMul_l, gCut_t, gCut_l, gP_x, intD_n, intD_b, intD_i, intD_s, intD_l, intD_t, intD_d, boolD_n, boolD_b, boolD_i, boolD_s, boolD_l, boolD_t, boolD_d, strD_n, strD_b, strD_i, strD_s, strD_l, strD_t, strD_d, tupD_n, tupD_b, tupD_i, tupD_s, tupD_l, tupD_t, tupD_d, wholeD_n, wholeD_b, wholeD_i, wholeD_s, wholeD_l, wholeD_t, wholeD_d, gLen_1, gTuple_1, gList_1, gInt_i, gInt_b, gAbs_i, gRepr_x, gAll_l, gAny_l, gSum_l, gGcd_i, gSorted_l, cDraw_1, two_1, three_1, cPick_1, gMax2_i, gMin2_i, gEqS_s, isStr_s, gNil_n, gCons_c, gT_t, gL_o, gL_l, at1_0, at2_0, at2_1, at3_0, at3_1, at3_2, cpow_e, cast_lit, abs_lit, aPart_e, gEq_i, gNe_i]
        refine ⟨fun i ρ => (∃ x y, ρ = [.d (.tuple (ns.map PyData.int)), .d (.tuple ds), x, y]) ∧ ∀ j, j < i → badRest ns ds j = false, ⟨⟨_, _, rfl⟩, fun j z => absurd z (Nat.not_lt_zero _)⟩, ?_, fun ρ hj => by rw [enumD_len] at hj; exact hj.2⟩
        rintro i ρ hi ⟨⟨x, y, rfl⟩, hj⟩
        rw [enumD_len] at hi
        rw [enumD_at hi]
        have hb : badRest ns ds i = (!isNone (ds.getD i .none) && !withinD (ds.getD i .none) 0 (ns.getD i 0 - 1)) := by
          unfold badRest
          cases ds.getD i .none <;> rfl
        have bad : badRest ns ds i = true → R (.d (.tuple [.str "rest", .int (i : Nat)])) := fun e => by
          rw [first_at hi e fun j z => hj j z] at h
          exact h
        have good : badRest ns ds i = false → ∀ j, j < i + 1 → badRest ns ds j = false := fun e j z => by
          by_cases hji : j < i
          · exact hj j hji
          · obtain rfl : j = i := by omega
            exact e
        rw [hb] at bad good
        have lat : atI (ns.map PyData.int) (i : Nat) = some (.int (ns.getD i 0)) := atI_nat (by rw [List.getElem?_map, getD_some 0 (by omega)] <;> rfl)
        generalize ds.getD i .none = it at bad good
        cases hn : isNone it <;> rw [hn] at bad good <;> simp only [c_is_within, hn, lat, ends0, wipeA, List.map, List.set, List.cons_append, List.nil_append, List.length_cons, List.length_nil, ite_true, ite_false, Bool.not_true, Bool.not_false, Bool.true_and, Bool.and_true, Bool.false_and, Bool.and_false, reduceIte, reduceCtorEq, Bool.false_eq_true, if_true, if_false, Nat.reduceAdd, Nat.reduceLeDiff, ne_eq, not_false_eq_true, eq_self, not_true_eq_false, Nat.reduceSub, Nat.reduceMul, Nat.reduceLT, Nat.reducePow, Int.reduceLE, Int.reduceLT, Int.reduceAdd, Int.reduceSub, Int.reduceMul, Int.reduceNeg, Int.reducePow, Int.reduceToNat, Int.reduceEq, Int.reduceBEq, Option.some.injEq, exists_eq_left', exists_eq_left, true_and, and_true, decide_true, decide_false, Nat.reduceBEq, Bool.or_true, Bool.true_or, Bool.or_false, Bool.false_or, aVar_e, aC_e, aRaw_e, aOp_e, aUn_e, aNot_e, aAnd_e, aOr_e, aChain_e, aTern_e, aNil_e, aCons_e, aTup_e, aLst_e, aB_e, tAndA_e, tOrA_e, tNotA_e, aCB_e, aCall_e, aCallK_e, aSl_e, aNoP_e, aCall0_e, gN_e, aNext_e, aSeq_e, aBrk_e, aCnt_e, aDrop_e, aRet_e, aRetN_e, aIfS_e, aAsg_e, aAug_e, aPar_e, aFor_e, aWhile_e, aYes_e, aIter_e, aEnum_e, aRange1_e, aRange2_e, aZip_e, aZipTL_e, aApp_e, aPopAt_e, aPop_e, aLenV_e, aIxV_e, aEqNilV_e, aTupV_e, aDnew_e, aListRg_e, aComp_e, aZip3T_e, aCallK0_e, gSetV_e, on_d, on_own, bl_b, it_i, ow_o, isOwn_o, seq_t, seq_l, seq_o, lst_l, lst_o, tup_t, same_t, same_l, one_1, fz_d, fz_r, fz_o, look_d, look_r, look_o, unA_0, unA_s, sl_0, sl_s, ons_n, ons_c, gI0_i, gI_i, gU_i, gIsN_n, gNotN_n, isNone_n, isNone_i, isNone_b, isNone_s, isNone_t, isNone_l, gEq_s, gNe_s, gIn_l, gIn_t, gNotIn_l, gNotIn_t, gIx_t, gIx_l, gCat_i, gCat_t, gCat_l, gMul_i, gMul_t, gMul_l, gCut_t, gCut_l, gP_x, intD_n, intD_b, intD_i, intD_s, intD_l, intD_t, intD_d, boolD_n, boolD_b, boolD_i, boolD_s, boolD_l, boolD_t, boolD_d, strD_n, strD_b, strD_i, strD_s, strD_l, strD_t, strD_d, tupD_n, tupD_b, tupD_i, tupD_s, tupD_l, tupD_t, tupD_d, wholeD_n, wholeD_b, wholeD_i, wholeD_s, wholeD_l, wholeD_t, wholeD_d, gLen_1, gTuple_1, gList_1, gInt_i, gInt_b, gAbs_i, gRepr_x, gAll_l, gAny_l, gSum_l, gGcd_i, gSorted_l, cDraw_1, two_1, three_1, cPick_1, gMax2_i, gMin2_i, gEqS_s, isStr_s, gNil_n, gCons_c, gT_t, gL_o, gL_l, at1_0, at2_0, at2_1, at3_0, at3_1, at3_2, cpow_e, cast_lit, abs_lit, aPart_e, gEq_i, gNe_i]
        · cases hw : withinD it 0 (ns.getD i 0 - 1) <;> rw [hw] at bad good <;> simp only [hw, ends0, wipeA, List.map, List.set, List.cons_append, List.nil_append, List.length_cons, List.length_nil, ite_true, ite_false, Bool.not_true, Bool.not_false, Bool.true_and, Bool.and_true, Bool.false_and, Bool.and_false, reduceIte, reduceCtorEq, Bool.false_eq_true, if_true, if_false, Nat.reduceAdd, Nat.reduceLeDiff, ne_eq, not_false_eq_true, eq_self, not_true_eq_false, Nat.reduceSub, Nat.reduceMul, Nat.reduceLT, Nat.reducePow, Int.reduceLE, Int.reduceLT, Int.reduceAdd, Int.reduceSub, Int.reduceMul, Int.reduceNeg, Int.reducePow, Int.reduceToNat, Int.reduceEq, Int.reduceBEq, Option.some.injEq, exists_eq_left', exists_eq_left, true_and, and_true, decide_true, decide_false, Nat.reduceBEq, Bool.or_true, Bool.true_or, Bool.or_false, Bool.false_or, aVar_e, aC_e, aRaw_e, aOp_e, aUn_e, aNot_e, aAnd_e, aOr_e, aChain_e, aTern_e, aNil_e, aCons_e, aTup_e, aLst_e, aB_e, tAndA_e, tOrA_e, tNotA_e, aCB_e, aCall_e, aCallK_e, aSl_e, aNoP_e, aCall0_e, gN_e, aNext_e, aSeq_e, aBrk_e, aCnt_e, aDrop_e, aRet_e, aRetN_e, aIfS_e, aAsg_e, aAug_e, aPar_e, aFor_e, aWhile_e, aYes_e, aIter_e, aEnum_e, aRange1_e, aRange2_e, aZip_e, aZipTL_e, aApp_e, aPopAt_e, aPop_e, aLenV_e, aIxV_e, aEqNilV_e, aTupV_e, aDnew_e, aListRg_e, aComp_e, aZip3T_e, aCallK0_e, gSetV_e, on_d, on_own, bl_b, it_i, ow_o, isOwn_o, seq_t, seq_l, seq_o, lst_l, lst_o, tup_t, same_t, same_l, one_1, fz_d, fz_r, fz_o, look_d, look_r, look_o, unA_0, unA_s, sl_0, sl_s, ons_n, ons_c, gI0_i, gI_i, gU_i, gIsN_n, gNotN_n, isNone_n, isNone_i, isNone_b, isNone_s, isNone_t, isNone_l, gEq_s, gNe_s, gIn_l, gIn_t, gNotIn_l, gNotIn_t, gIx_t, gIx_l, gCat_i, gCat_t, gCat_l, gMul_i, gMul_t, gMul_l, gCut_t, gCut_l, gP_x, intD_n, intD_b, intD_i, intD_s, intD_l, intD_t, intD_d, boolD_n, boolD_b, boolD_i, boolD_s, boolD_l, boolD_t, boolD_d, strD_n, strD_b, strD_i, strD_s, strD_l, strD_t, strD_d, tupD_n, tupD_b, tupD_i, tupD_s, tupD_l, tupD_t, tupD_d, wholeD_n, wholeD_b, wholeD_i, wholeD_s, wholeD_l, wholeD_t, wholeD_d, gLen_1, gTuple_1, gList_1, gInt_i, gInt_b, gAbs_i, gRepr_x, gAll_l, gAny_l, gSum_l, gGcd_i, gSorted_l, cDraw_1, two_1, three_1, cPick_1, gMax2_i, gMin2_i, gEqS_s, isStr_s, gNil_n, gCons_c, gT_t, gL_o, gL_l, at1_0, at2_0, at2_1, at3_0, at3_1, at3_2, cpow_e, cast_lit, abs_lit, aPart_e, gEq_i, gNe_i]
          · exact bad rfl
          · exact ⟨⟨_, _, rfl⟩, good rfl⟩
        · exact ⟨⟨_, _, rfl⟩, good rfl⟩
      · simp only [ends0, wipeA, List.map, List.set, List.cons_append, List.nil_append, List.length_cons, List.length_nil, ite_true, ite_false, Bool.not_true, Bool.not_false, Bool.true_and, Bool.and_true, Bool.false_and, Bool.and_false, reduceIte, reduceCtorEq, Bool.false_eq_true, if_true, if_false, Nat.reduceAdd, Nat.reduceLeDiff, ne_eq, not_false_eq_true, eq_self, not_true_eq_false, Nat.reduceSub, Nat.reduceMul, Nat.reduceLT, Nat.reducePow, Int.reduceLE, Int.reduceLT, Int.reduceAdd, Int.reduceSub, Int.reduceMul, Int.reduceNeg, Int.reducePow, Int.reduceToNat, Int.reduceEq, Int.reduceBEq, Option.some.injEq, exists_eq_left', exists_eq_left, true_and, and_true, decide_true, decide_false, Nat.reduceBEq, Bool.or_true, Bool.true_or, Bool.or_false, Bool.false_or, aVar_e, aC_e, aRaw_e, aOp_e, aUn_e, aNot_e, aAnd_e, aOr_e, aChain_e, aTern_e, aNil_e, aCons_e, aTup_e, aLst_e, aB_e, tAndA_e, tOrA_e, tNotA_e, aCB_e, aCall_e, aCallK_e, aSl_e, aNoP_e, aCall0_e, gN_e, aNext_e, aSeq_e, aBrk_e, aCnt_e, aDrop_e, aRet_e, aRetN_e, aIfS_e, aAsg_e, aAug_e, aPar_e, aFor_e, aWhile_e, aYes_e, aIter_e, aEnum_e, aRange1_e, aRange2_e, aZip_e, aZipTL_e, aApp_e, aPopAt_e, aPop_e, aLenV_e, aIxV_e, aEqNilV_e, aTupV_e, aDnew_e, aListRg_e, aComp_e, aZip3T_e, aCallK0_e, gSetV_e, on_d, on_own, bl_b, it_i, ow_o, isOwn_o, seq_t, seq_l, seq_o, lst_l, lst_o, tup_t, same_t, same_l, one_1, fz_d, fz_r, fz_o, look_d, look_r, look_o, unA_0, unA_s, sl_0, sl_s, ons_n, ons_c, gI0_i, gI_i, gU_i, gIsN_n, gNotN_n, isNone_n, isNone_i, isNone_b, isNone_s, isNone_t, isNone_l, gEq_s, gNe_s, gIn_l, gIn_t, gNotIn_l, gNotIn_t, gIx_t, gIx_l, gCat_i, gCat_t, gCat_l, gMul_i, gMul_t, gMul_l, gCut_t, gCut_l, gP_x, intD_n, intD_b, intD_i, intD_s, intD_l, intD_t, intD_d, boolD_n, boolD_b, boolD_i, boolD_s, boolD_l, boolD_t, boolD_d, strD_n, strD_b, strD_i, strD_s, strD_l, strD_t, strD_d, tupD_n, tupD_b, tupD_i, tupD_s, tupD_l, tupD_t, tupD_d, wholeD_n, wholeD_b, wholeD_i, wholeD_s, wholeD_l, wholeD_t, wholeD_d, gLen_1, gTuple_1, gList_1, gInt_i, gInt_b, gAbs_i, gRepr_x, gAll_l, gAny_l, gSum_l, gGcd_i, gSorted_l, cDraw_1, two_1, three_1, cPick_1, gMax2_i, gMin2_i, gEqS_s, isStr_s, gNil_n, gCons_c, gT_t, gL_o, gL_l, at1_0, at2_0, at2_1, at3_0, at3_1, at3_2, cpow_e, cast_lit, abs_lit, aPart_e, gEq_i, gNe_i]
        rw [first_no hj] at h
        exact h
    · rw [if_neg h1] at h
      have e : ((ds.length : Int) == ((ns.map PyData.int).length : Nat)) = false := by
        rw [List.length_map]
        simpa using fun z : (ds.length : Int) = ns.length => h1 (by omega)
      simp only [e, ends0, wipeA, List.map, List.set, List.cons_append, List.nil_append, List.length_cons, List.length_nil, ite_true, ite_false, Bool.not_true, Bool.not_false, Bool.true_and, Bool.and_true, Bool.false_and, Bool.and_false, reduceIte, reduceCtorEq, Bool.false_eq_true, if_true, if_false, Nat.reduceAdd, Nat.reduceLeDiff, ne_eq, not_false_eq_true, eq_self, not_true_eq_false, Nat.reduceSub, Nat.reduceMul, Nat.reduceLT, Nat.reducePow, Int.reduceLE, Int.reduceLT, Int.reduceAdd, Int.reduceSub, Int.reduceMul, Int.reduceNeg, Int.reducePow, Int.reduceToNat, Int.reduceEq, Int.reduceBEq, Option.some.injEq, exists_eq_left', exists_eq_left, true_and, and_true, decide_true, decide_false, Nat.reduceBEq, Bool.or_true, Bool.true_or, Bool.or_false, Bool.false_or, aVar_e, aC_e, aRaw_e, aOp_e, aUn_e, aNot_e, aAnd_e, aOr_e, aChain_e, aTern_e, aNil_e, aCons_e, aTup_e, aLst_e, aB_e, tAndA_e, tOrA_e, tNotA_e, aCB_e, aCall_e, aCallK_e, aSl_e, aNoP_e, aCall0_e, gN_e, aNext_e, aSeq_e, aBrk_e, aCnt_e, aDrop_e, aRet_e, aRetN_e, aIfS_e, aAsg_e, aAug_e, aPar_e, aFor_e, aWhile_e, aYes_e, aIter_e, aEnum_e, aRange1_e, aRange2_e, aZip_e, aZipTL_e, aApp_e, aPopAt_e, aPop_e, aLenV_e, aIxV_e, aEqNilV_e, aTupV_e, aDnew_e, aListRg_e, aComp_e, aZip3T_e, aCallK0_e, gSetV_e, on_d, on_own, bl_b, it_i, ow_o, isOwn_o, seq_t, seq_l, seq_o, lst_l, lst_o, tup_t, same_t, same_l, one_1, fz_d, fz_r, fz_o, look_d, look_r, look_o, unA_0, unA_s, sl_0, sl_s, ons_n, ons_c, gI0_i, gI_i, gU_i, gIsN_n, gNotN_n, isNone_n, isNone_i, isNone_b, isNone_s, isNone_t, isNone_l, gEq_s, gNe_s, gIn_l, gIn_t, gNotIn_l, gNotIn_t, gIx_t, gIx_l, gCat_i, gCat_t, gCat_l, gMul_i, gMul_t, gMul_l, gCut_t, gCut_l, gP_x, intD_n, intD_b, intD_i, intD_s, intD_l, intD_t, intD_d, boolD_n, boolD_b, boolD_i, boolD_s, boolD_l, boolD_t, boolD_d, strD_n, strD_b, strD_i, strD_s, strD_l, strD_t, strD_d, tupD_n, tupD_b, tupD_i, tupD_s, tupD_l, tupD_t, tupD_d, wholeD_n, wholeD_b, wholeD_i, wholeD_s, wholeD_l, wholeD_t, wholeD_d, gLen_1, gTuple_1, gList_1, gInt_i, gInt_b, gAbs_i, gRepr_x, gAll_l, gAny_l, gSum_l, gGcd_i, gSorted_l, cDraw_1, two_1, three_1, cPick_1, gMax2_i, gMin2_i, gEqS_s, isStr_s, gNil_n, gCons_c, gT_t, gL_o, gL_l, at1_0, at2_0, at2_1, at3_0, at3_1, at3_2, cpow_e, cast_lit, abs_lit, aPart_e, gEq_i, gNe_i]
      exact h
  · exact h.elim
abbrev sp_word_error (K : PySem.W.Frag) : Sp := SpL K noBox c_word_error
section
variable {P : Program} {w : World} {K : PySem.W.Frag} {mg : Str → Option Value} {base : Heap} {a : Adr}
theorem ok_word_error (T : Txt K mg a) : FnOk P w K mg base CX0 3 a.f_word_error a.d_word_error ["machine", "value"] (sp_word_error K) := by
  have G_is_within : FnOk P w K mg base CX0 2 a.f_is_within a.d_is_within ["value", "low", "high"] (sp_is_within K) := ok_is_within T
  refine T.word_error.F.ok sc_word_error (fun vs H Q E h => sp_len l_word_error h) (fun cdv A outer s H vs Q E hr h => ?_)
  have hu := hu_of hr
  exact ⟨_, (pss_cons (ps_if (PW.pt (pw_or (pt_not (pt_val (pe_callB (show CallR _ _ (rIsi K) from call_isi) (by rfl) T.b_isinstance (by decide +kernel) (pa_cons (pv 1) (pa_cons (pe_bltn (v := .ty "tuple") rfl T.b_tuple (by decide +kernel) rfl) pa_nil))))) (pw_or1 (pt_cmpR (show OpR _ _ (rNeP K) from op_neP hr.units) (pe_callB (show CallR _ _ (Sx.rLenS K) from call_len_seq) (by rfl) T.b_len (by decide +kernel) (pa_cons (pv 1) pa_nil)) (pe_callB (show CallR _ _ (Sx.rLenS K) from call_len_seq) (by rfl) T.b_len (by decide +kernel) (pa_cons (pv 0) pa_nil)) (nomark _))))) (pss_one (ps_ret pe_str)) pss_nil)
      (pss_cons (ps_for PassesOwn.never rfl (show PI _ _ _ (iEnumA K _) from pi_enumA (by rfl) T.b_enumerate (pa_cons (pv 1) pa_nil)) (show PG _ _ (gTup K 2 _) from pg_tup rfl (pgs_cons (pg_name (i := 2) sc_word_error.nd rfl (by first | exact Or.inl rfl | exact Or.inr rfl)) (pgs_cons (pg_name (i := 3) sc_word_error.nd rfl (by first | exact Or.inl rfl | exact Or.inr rfl)) pgs_nil))) (pss_one (ps_if (PW.pt (pw_and (pt_cmpR op_notN (pv 3) pe_non (nomark _)) (pw_and1 (pt_not (pt_val (pe_call G_is_within hr (by rfl) T.is_within.m T.is_within.F.kp T.is_within.b .nil pass0 (pa_cons (pv 3) (pa_cons pe_int (pa_cons (pe_op op_sub (pe_ix (show IxR _ (rIx K) from ix_seq) (pv 0) (pv 2) (fun _ _ => rfl)) pe_int) pa_nil))))))))) (pss_one (ps_ret (pe_tup (pa_cons pe_str (pa_cons (pv 2) pa_nil))))) pss_nil)))
      (pss_one (ps_ret pe_non)))),
    run0 (N := ["machine", "value", "lane", "item"]) (np := 2) (f := b_word_error) h (sp_len l_word_error h) (fun dk B hb => (show LS B K Wno _ (b_word_error dk) from
      (ls_seq (ls_if (lt_or (lt_not (lt_b (le_isi (p := tupD) kit_tuple (le_var (i := 1))))) (lt_test (le_op (ol_ne) (le_cb cl_len (la_cons (le_var (i := 1)) la_nil)) (le_cb cl_len (la_cons (le_var (i := 0)) la_nil))))) (ls_ret (le_c (y := .str "form") fun _ => .str _)) ls_next)
      (ls_cut (ls_for (li_enum (la_cons (le_var (i := 1)) la_nil)) (lg_tup (lgs_cons (lg_name (i := 2)) (lgs_cons (lg_name (i := 3)) lgs_nil)) (gC_len (gC_len gN_len))) (ls_if (lt_and (lt_test (le_op (ol_notN) (le_var (i := 3)) (le_c (y := .none) fun _ => .non))) (lt_not (lt_b (le_call0 (dk := dk) (c := c_is_within) trivial (la_cons (le_var (i := 3)) (la_cons (le_c (y := .int 0) fun _ => .int _) (la_cons (le_op (ol_I0 fun _ _ _ => .int _) (le_op ol_ix (le_var (i := 0)) (le_var (i := 2))) (le_c (y := .int 1) fun _ => .int _)) la_nil))))))) (ls_ret (le_tup (la_cons (le_c (y := .str "rest") fun _ => .str _) (la_cons (le_var (i := 2)) la_nil)) (by decide))) ls_next))
      (ls_ret (le_c (y := .none) fun _ => .non)))))) h_word_error⟩
end
def c__law_machine : V → Ct := fun dk as R _ => match as with
  | [.raw v, .d x, .d y] => v = dk ∧ ∃ n most : Int, x = .int n ∧ y = .int most ∧ 1 ≤ n ∧ n ≤ 10 ∧ 3 ≤ most ∧ most ≤ 1000000 ∧ ∀ ns : List Int, (ns.length : Int) = n → (∀ m ∈ ns, 2 ≤ m ∧ m ≤ max most 7) → R (.d (.tuple (ns.map PyData.int)))
  | _ => False
def b__law_machine (dk : V) : ASx :=
  (aSeq (aAsg (aCall0 (c__law_draw dk) (aCons (aVar 0) (aCons (aC (.int 4)) aNil))) (gN 3))
      (aSeq (aIfS (aB (aOp (gEq) (aVar 3) (aC (.int 0)))) (aRet (aOp (gMul) (aTup (aCons (aOp (gCat) (aC (.int 2)) (aCall0 (c__law_draw dk) (aCons (aVar 0) (aCons (aOp (gI0 fun i j => .int (i - j)) (aVar 2) (aC (.int 1))) aNil)))) aNil)) (aVar 1))) aNext)
      (aSeq (aIfS (aB (aOp (gEq) (aVar 3) (aC (.int 1)))) (aSeq (aAsg (aOp (gCat) (aC (.int 2)) (aCall0 (c__law_draw dk) (aCons (aVar 0) (aCons (aC (.int 2)) aNil)))) (gN 4))
        (aRet (aCB gTuple (aCons (aComp (aRange1 (aCons (aVar 1) aNil)) (gN 7) aYes (aOp (gMul) (aVar 4) (aOp (gCat) (aC (.int 1)) (aCall0 (c__law_draw dk) (aCons (aVar 0) (aCons (aOp (gI CDivW fun i j => .int (i / j)) (aVar 2) (aVar 4)) aNil))))) [7]) aNil)))) aNext)
      (aSeq (aIfS (aB (aOp (gEq) (aVar 3) (aC (.int 2)))) (aSeq (aAsg (aComp (aIter (aTup (aCons (aC (.int 2)) (aCons (aC (.int 3)) (aCons (aC (.int 5)) (aCons (aC (.int 7)) (aCons (aC (.int 11)) (aCons (aC (.int 13)) aNil)))))))) (gN 6) (aB (aOp (gI0 fun i j => .bool (decide (i ≤ j))) (aVar 6) (aCB gMax2 (aCons (aVar 2) (aCons (aC (.int 7)) aNil))))) (aVar 6) [6]) (gN 5))
        (aRet (aCB gTuple (aCons (aSl gCut (aOp (gCat) (aOp (gCat) (aCall0 (c__law_mixed dk) (aCons (aVar 0) (aCons (aVar 5) aNil))) (aCall0 (c__law_mixed dk) (aCons (aVar 0) (aCons (aVar 5) aNil)))) (aVar 5)) aNoP (aPart (aVar 1))) aNil)))) aNext)
      (aRet (aCB gTuple (aCons (aComp (aRange1 (aCons (aVar 1) aNil)) (gN 7) aYes (aOp (gCat) (aC (.int 2)) (aCall0 (c__law_draw dk) (aCons (aVar 0) (aCons (aOp (gI0 fun i j => .int (i - j)) (aVar 2) (aC (.int 1))) aNil)))) [7]) aNil)))))))
theorem l__law_machine : ∀ (dk : V) (as : List A) (R : A → Prop) (Z : Ex → Prop), c__law_machine dk as R Z → as.length = 3 := by
  intro dk as R Z h
  unfold c__law_machine at h
  split at h
  · rfl
  · exact h.elim
theorem h__law_machine : ∀ (dk : V) (as : List A) (R : A → Prop) (Z : Ex → Prop), as.length = 3 → c__law_machine dk as R Z → b__law_machine dk (ends0 R) (fun _ => R (.d .none)) (as ++ unA ((["deck", "n", "most", "way", "base", "found", "own", "turn"] : List Str).length - 3)) := by
  intro dk as R Z hl h
  unfold c__law_machine at h
  split at h
  · rename_i v x y
    obtain ⟨rfl, n, most, rfl, rfl, n1, n10, m3, m9, h⟩ := h
    have fin : ∀ ys : List PyData, (ys.length : Int) = n → (∀ y ∈ ys, ∃ m : Int, y = .int m ∧ 2 ≤ m ∧ m ≤ max most 7) → R (.d (.tuple ys)) := fun ys hl hy => by
      obtain ⟨ns, rfl, hn⟩ := ints_of hy
      exact h ns (by rw [← hl, List.length_map]) hn
    simp only [b__law_machine, c__law_draw, ends0, wipeA, List.map, List.set, List.cons_append, List.nil_append, List.length_cons, List.length_nil, ite_true, ite_false, Bool.not_true, Bool.not_false, Bool.true_and, Bool.and_true, Bool.false_and, Bool.and_false, reduceIte, reduceCtorEq, Bool.false_eq_true, if_true, if_false, Nat.reduceAdd, Nat.reduceLeDiff, ne_eq, not_false_eq_true, eq_self, not_true_eq_false, Nat.reduceSub, Nat.reduceMul, Nat.reduceLT, Nat.reducePow, Int.reduceLE, Int.reduceLT, Int.reduceAdd, Int.reduceSub, Int.reduceMul, Int.reduceNeg, Int.reducePow, Int.reduceToNat, Int.reduceEq, Int.reduceBEq, Option.some.injEq, exists_eq_left', exists_eq_left, true_and, and_true, decide_true, decide_false, Nat.reduceBEq, Bool.or_true, Bool.true_or, Bool.or_false, Bool.false_or, aVar_e, aC_e, aRaw_e, aOp_e, aUn_e, aNot_e, aAnd_e, aOr_e, aChain_e, aTern_e, aNil_e, aCons_e, aTup_e, aLst_e, aB_e, tAndA_e, tOrA_e, tNotA_e, aCB_e, aCall_e, aCallK_e, aSl_e, aNoP_e, aCall0_e, gN_e, aNext_e, aSeq_e, aBrk_e, aCnt_e, aDrop_e, aRet_e, aRetN_e, aIfS_e, aAsg_e, aAug_e, aPar_e, aFor_e, aWhile_e, aYes_e, aIter_e, aEnum_e, aRange1_e, aRange2_e, aZip_e, aZipTL_e, aApp_e, aPopAt_e, aPop_e, aLenV_e, aIxV_e, aEqNilV_e, aTupV_e, aDnew_e, aListRg_e, aComp_e, aZip3T_e, aCallK0_e, gSetV_e, on_d, on_own, bl_b, it_i, ow_o, isOwn_o, seq_t, seq_l, seq_o, lst_l, lst_o, tup_t, same_t, same_l, one_1, fz_d, fz_r, fz_o, look_d, look_r, look_o, unA_0, unA_s, sl_0, sl_s, ons_n, ons_c, gI0_i, gI_i, gU_i, gIsN_n, gNotN_n, isNone_n, isNone_i, isNone_b, isNone_s, isNone_t, isNone_l, gEq_s, gNe_s, gIn_l, gIn_t, gNotIn_l, gNotIn_t, gIx_t, gIx_l, gCat_i, gCat_t, gCat_l, gMul_i, gMul_t, gMul_l, gCut_t, gCut_l, gP_x, intD_n, intD_b, intD_i, intD_s, intD_l, intD_t, intD_d, boolD_n, boolD_b, boolD_i, boolD_s, boolD_l, boolD_t, boolD_d, strD_n, strD_b, strD_i, strD_s, strD_l, strD_t, strD_d, tupD_n, tupD_b, tupD_i, tupD_s, tupD_l, tupD_t, tupD_d, wholeD_n, wholeD_b, wholeD_i, wholeD_s, wholeD_l, wholeD_t, wholeD_d, gLen_1, gTuple_1, gList_1, gInt_i, gInt_b, gAbs_i, gRepr_x, gAll_l, gAny_l, gSum_l, gGcd_i, gSorted_l, cDraw_1, two_1, three_1, cPick_1, gMax2_i, gMin2_i, gEqS_s, isStr_s, gNil_n, gCons_c, gT_t, gL_o, gL_l, at1_0, at2_0, at2_1, at3_0, at3_1, at3_2, cpow_e, cast_lit, abs_lit, aPart_e, gEq_i, gNe_i]
    refine ⟨small_of (by decide) (by decide), fun way w0 w1 => ?_⟩
    by_cases e0 : way = 0
    · subst e0
      simp only [ends0, wipeA, List.map, List.set, List.cons_append, List.nil_append, List.length_cons, List.length_nil, ite_true, ite_false, Bool.not_true, Bool.not_false, Bool.true_and, Bool.and_true, Bool.false_and, Bool.and_false, reduceIte, reduceCtorEq, Bool.false_eq_true, if_true, if_false, Nat.reduceAdd, Nat.reduceLeDiff, ne_eq, not_false_eq_true, eq_self, not_true_eq_false, Nat.reduceSub, Nat.reduceMul, Nat.reduceLT, Nat.reducePow, Int.reduceLE, Int.reduceLT, Int.reduceAdd, Int.reduceSub, Int.reduceMul, Int.reduceNeg, Int.reducePow, Int.reduceToNat, Int.reduceEq, Int.reduceBEq, Option.some.injEq, exists_eq_left', exists_eq_left, true_and, and_true, decide_true, decide_false, Nat.reduceBEq, Bool.or_true, Bool.true_or, Bool.or_false, Bool.false_or, aVar_e, aC_e, aRaw_e, aOp_e, aUn_e, aNot_e, aAnd_e, aOr_e, aChain_e, aTern_e, aNil_e, aCons_e, aTup_e, aLst_e, aB_e, tAndA_e, tOrA_e, tNotA_e, aCB_e, aCall_e, aCallK_e, aSl_e, aNoP_e, aCall0_e, gN_e, aNext_e, aSeq_e, aBrk_e, aCnt_e, aDrop_e, aRet_e, aRetN_e, aIfS_e, aAsg_e, aAug_e, aPar_e, aFor_e, aWhile_e, aYes_e, aIter_e, aEnum_e, aRange1_e, aRange2_e, aZip_e, aZipTL_e, aApp_e, aPopAt_e, aPop_e, aLenV_e, aIxV_e, aEqNilV_e, aTupV_e, aDnew_e, aListRg_e, aComp_e, aZip3T_e, aCallK0_e, gSetV_e, on_d, on_own, bl_b, it_i, ow_o, isOwn_o, seq_t, seq_l, seq_o, lst_l, lst_o, tup_t, same_t, same_l, one_1, fz_d, fz_r, fz_o, look_d, look_r, look_o, unA_0, unA_s, sl_0, sl_s, ons_n, ons_c, gI0_i, gI_i, gU_i, gIsN_n, gNotN_n, isNone_n, isNone_i, isNone_b, isNone_s, isNone_t, isNone_l, gEq_s, gNe_s, gIn_l, gIn_t, gNotIn_l, gNotIn_t, gIx_t, gIx_l, gCat_i, gCat_t, gCat_l, gMul_i, gMul_t, gMul_l, gCut_t, gCut_l, gP_x, intD_n, intD_b, intD_i, intD_s, intD_l, intD_t, intD_d, boolD_n, boolD_b, boolD_i, boolD_s, boolD_l, boolD_t, boolD_d, strD_n, strD_b, strD_i, strD_s, strD_l, strD_t, strD_d, tupD_n, tupD_b, tupD_i, tupD_s, tupD_l, tupD_t, tupD_d, wholeD_n, wholeD_b, wholeD_i, wholeD_s, wholeD_l, wholeD_t, wholeD_d, gLen_1, gTuple_1, gList_1, gInt_i, gInt_b, gAbs_i, gRepr_x, gAll_l, gAny_l, gSum_l, gGcd_i, gSorted_l, cDraw_1, two_1, three_1, cPick_1, gMax2_i, gMin2_i, gEqS_s, isStr_s, gNil_n, gCons_c, gT_t, gL_o, gL_l, at1_0, at2_0, at2_1, at3_0, at3_1, at3_2, cpow_e, cast_lit, abs_lit, aPart_e, gEq_i, gNe_i]
      refine ⟨small_of (by omega) (by omega), fun r r0 r1 => ⟨by omega, by omega, ?_⟩⟩
      have hr : (List.replicate n.toNat [PyData.int (2 + r)]).flatten = List.replicate n.toNat (PyData.int (2 + r)) := by
        generalize n.toNat = k
        induction k with
        | zero => rfl
        | succ k ih => rw [List.replicate_succ, List.flatten_cons, ih, List.replicate_succ] <;> rfl
      rw [hr]
      refine fin _ (by rw [List.length_replicate]; omega) fun y hy => ⟨2 + r, List.eq_of_mem_replicate hy, by omega, by omega⟩
    have b0 : (way == 0) = false := by simpa using e0
    simp only [b0, ends0, wipeA, List.map, List.set, List.cons_append, List.nil_append, List.length_cons, List.length_nil, ite_true, ite_false, Bool.not_true, Bool.not_false, Bool.true_and, Bool.and_true, Bool.false_and, Bool.and_false, reduceIte, reduceCtorEq, Bool.false_eq_true, if_true, if_false, Nat.reduceAdd, Nat.reduceLeDiff, ne_eq, not_false_eq_true, eq_self, not_true_eq_false, Nat.reduceSub, Nat.reduceMul, Nat.reduceLT, Nat.reducePow, Int.reduceLE, Int.reduceLT, Int.reduceAdd, Int.reduceSub, Int.reduceMul, Int.reduceNeg, Int.reducePow, Int.reduceToNat, Int.reduceEq, Int.reduceBEq, Option.some.injEq, exists_eq_left', exists_eq_left, true_and, and_true, decide_true, decide_false, Nat.reduceBEq, Bool.or_true, Bool.true_or, Bool.or_false, Bool.false_or, aVar_e, aC_e, aRaw_e, aOp_e, aUn_e, aNot_e, aAnd_e, aOr_e, aChain_e, aTern_e, aNil_e, aCons_e, aTup_e, aLst_e, aB_e, tAndA_e, tOrA_e, tNotA_e, aCB_e, aCall_e, aCallK_e, aSl_e, aNoP_e, aCall0_e, gN_e, aNext_e, aSeq_e, aBrk_e, aCnt_e, aDrop_e, aRet_e, aRetN_e, aIfS_e, aAsg_e, aAug_e, aPar_e, aFor_e, aWhile_e, aYes_e, aIter_e, aEnum_e, aRange1_e, aRange2_e, aZip_e, aZipTL_e, aApp_e, aPopAt_e, aPop_e, aLenV_e, aIxV_e, aEqNilV_e, aTupV_e, aDnew_e, aListRg_e, aComp_e, aZip3T_e, aCallK0_e, gSetV_e, on_d, on_own, bl_b, it_i, ow_o, isOwn_o, seq_t, seq_l, seq_o, lst_l, lst_o, tup_t, same_t, same_l, one_1, fz_d, fz_r, fz_o, look_d, look_r, look_o, unA_0, unA_s, sl_0, sl_s, ons_n, ons_c, gI0_i, gI_i, gU_i, gIsN_n, gNotN_n, isNone_n, isNone_i, isNone_b, isNone_s, isNone_t, isNone_l, gEq_s, gNe_s, gIn_l, gIn_t, gNotIn_l, gNotIn_t, gIx_t, gIx_l, gCat_i, gCat_t, gCat_l, gMul_i, gMul_t, gMul_l, gCut_t, gCut_l, gP_x, intD_n, intD_b, intD_i, intD_s, intD_l, intD_t, intD_d, boolD_n, boolD_b, boolD_i, boolD_s, boolD_l, boolD_t, boolD_d, strD_n, strD_b, strD_i, strD_s, strD_l, strD_t, strD_d, tupD_n, tupD_b, tupD_i, tupD_s, tupD_l, tupD_t, tupD_d, wholeD_n, wholeD_b, wholeD_i, wholeD_s, wholeD_l, wholeD_t, wholeD_d, gLen_1, gTuple_1, gList_1, gInt_i, gInt_b, gAbs_i, gRepr_x, gAll_l, gAny_l, gSum_l, gGcd_i, gSorted_l, cDraw_1, two_1, three_1, cPick_1, gMax2_i, gMin2_i, gEqS_s, isStr_s, gNil_n, gCons_c, gT_t, gL_o, gL_l, at1_0, at2_0, at2_1, at3_0, at3_1, at3_2, cpow_e, cast_lit, abs_lit, aPart_e, gEq_i, gNe_i]
    by_cases e1 : way = 1
    · subst e1
      simp only [ends0, wipeA, List.map, List.set, List.cons_append, List.nil_append, List.length_cons, List.length_nil, ite_true, ite_false, Bool.not_true, Bool.not_false, Bool.true_and, Bool.and_true, Bool.false_and, Bool.and_false, reduceIte, reduceCtorEq, Bool.false_eq_true, if_true, if_false, Nat.reduceAdd, Nat.reduceLeDiff, ne_eq, not_false_eq_true, eq_self, not_true_eq_false, Nat.reduceSub, Nat.reduceMul, Nat.reduceLT, Nat.reducePow, Int.reduceLE, Int.reduceLT, Int.reduceAdd, Int.reduceSub, Int.reduceMul, Int.reduceNeg, Int.reducePow, Int.reduceToNat, Int.reduceEq, Int.reduceBEq, Option.some.injEq, exists_eq_left', exists_eq_left, true_and, and_true, decide_true, decide_false, Nat.reduceBEq, Bool.or_true, Bool.true_or, Bool.or_false, Bool.false_or, aVar_e, aC_e, aRaw_e, aOp_e, aUn_e, aNot_e, aAnd_e, aOr_e, aChain_e, aTern_e, aNil_e, aCons_e, aTup_e, aLst_e, aB_e, tAndA_e, tOrA_e, tNotA_e, aCB_e, aCall_e, aCallK_e, aSl_e, aNoP_e, aCall0_e, gN_e, aNext_e, aSeq_e, aBrk_e, aCnt_e, aDrop_e, aRet_e, aRetN_e, aIfS_e, aAsg_e, aAug_e, aPar_e, aFor_e, aWhile_e, aYes_e, aIter_e, aEnum_e, aRange1_e, aRange2_e, aZip_e, aZipTL_e, aApp_e, aPopAt_e, aPop_e, aLenV_e, aIxV_e, aEqNilV_e, aTupV_e, aDnew_e, aListRg_e, aComp_e, aZip3T_e, aCallK0_e, gSetV_e, on_d, on_own, bl_b, it_i, ow_o, isOwn_o, seq_t, seq_l, seq_o, lst_l, lst_o, tup_t, same_t, same_l, one_1, fz_d, fz_r, fz_o, look_d, look_r, look_o, unA_0, unA_s, sl_0, sl_s, ons_n, ons_c, gI0_i, gI_i, gU_i, gIsN_n, gNotN_n, isNone_n, isNone_i, isNone_b, isNone_s, isNone_t, isNone_l, gEq_s, gNe_s, gIn_l, gIn_t, gNotIn_l, gNotIn_t, gIx_t, gIx_l, gCat_i, gCat_t, gCat_l, gMul_i, gMul_t, gMul_l, gCut_t, gCut_l, gP_x, intD_n, intD_b, intD_i, intD_s, intD_l, intD_t, intD_d, boolD_n, boolD_b, boolD_i, boolD_s, boolD_l, boolD_t, boolD_d, strD_n, strD_b, strD_i, strD_s, strD_l, strD_t, strD_d, tupD_n, tupD_b, tupD_i, tupD_s, tupD_l, tupD_t, tupD_d, wholeD_n, wholeD_b, wholeD_i, wholeD_s, wholeD_l, wholeD_t, wholeD_d, gLen_1, gTuple_1, gList_1, gInt_i, gInt_b, gAbs_i, gRepr_x, gAll_l, gAny_l, gSum_l, gGcd_i, gSorted_l, cDraw_1, two_1, three_1, cPick_1, gMax2_i, gMin2_i, gEqS_s, isStr_s, gNil_n, gCons_c, gT_t, gL_o, gL_l, at1_0, at2_0, at2_1, at3_0, at3_1, at3_2, cpow_e, cast_lit, abs_lit, aPart_e, gEq_i, gNe_i]
      refine ⟨small_of (by decide) (by decide), fun r r0 r1 => ?_⟩
      refine ⟨by omega, by omega, ?_⟩
      refine comp_each (fun _ y => ∃ m : Int, y = .int m ∧ 2 ≤ m ∧ m ≤ max most 7) (by rw [rangeD_len]; omega) (fun d hd J hJ => ?_) fun ys hl hy => ?_
      · have cw : ∀ i j : Int, i.natAbs ≤ 1000000 → j.natAbs ≤ 1000000 → CMulW i j := fun i j h1 h2 => by
          show i.natAbs.log2 + j.natAbs.log2 < 1000000
          have a1 := PySem.Flt.log2_lt_of (n := i.natAbs) (k := 60) (by decide) (by omega)
          have a2 := PySem.Flt.log2_lt_of (n := j.natAbs) (k := 60) (by decide) (by omega)
          omega
        have hq : 1 ≤ most / (2 + r) := by
          rw [Int.le_ediv_iff_mul_le (by omega)]
          omega
        have hq2 : most / (2 + r) ≤ most := Int.ediv_le_self _ (by omega)
        have hq3 : (2 + r) * (most / (2 + r)) ≤ most := Int.mul_ediv_self_le (by omega)
        simp only [c__law_draw, ends0, wipeA, List.map, List.set, List.cons_append, List.nil_append, List.length_cons, List.length_nil, ite_true, ite_false, Bool.not_true, Bool.not_false, Bool.true_and, Bool.and_true, Bool.false_and, Bool.and_false, reduceIte, reduceCtorEq, Bool.false_eq_true, if_true, if_false, Nat.reduceAdd, Nat.reduceLeDiff, ne_eq, not_false_eq_true, eq_self, not_true_eq_false, Nat.reduceSub, Nat.reduceMul, Nat.reduceLT, Nat.reducePow, Int.reduceLE, Int.reduceLT, Int.reduceAdd, Int.reduceSub, Int.reduceMul, Int.reduceNeg, Int.reducePow, Int.reduceToNat, Int.reduceEq, Int.reduceBEq, Option.some.injEq, exists_eq_left', exists_eq_left, true_and, and_true, decide_true, decide_false, Nat.reduceBEq, Bool.or_true, Bool.true_or, Bool.or_false, Bool.false_or, aVar_e, aC_e, aRaw_e, aOp_e, aUn_e, aNot_e, aAnd_e, aOr_e, aChain_e, aTern_e, aNil_e, aCons_e, aTup_e, aLst_e, aB_e, tAndA_e, tOrA_e, tNotA_e, aCB_e, aCall_e, aCallK_e, aSl_e, aNoP_e, aCall0_e, gN_e, aNext_e, aSeq_e, aBrk_e, aCnt_e, aDrop_e, aRet_e, aRetN_e, aIfS_e, aAsg_e, aAug_e, aPar_e, aFor_e, aWhile_e, aYes_e, aIter_e, aEnum_e, aRange1_e, aRange2_e, aZip_e, aZipTL_e, aApp_e, aPopAt_e, aPop_e, aLenV_e, aIxV_e, aEqNilV_e, aTupV_e, aDnew_e, aListRg_e, aComp_e, aZip3T_e, aCallK0_e, gSetV_e, on_d, on_own, bl_b, it_i, ow_o, isOwn_o, seq_t, seq_l, seq_o, lst_l, lst_o, tup_t, same_t, same_l, one_1, fz_d, fz_r, fz_o, look_d, look_r, look_o, unA_0, unA_s, sl_0, sl_s, ons_n, ons_c, gI0_i, gI_i, gU_i, gIsN_n, gNotN_n, isNone_n, isNone_i, isNone_b, isNone_s, isNone_t, isNone_l, gEq_s, gNe_s, gIn_l, gIn_t, gNotIn_l, gNotIn_t, gIx_t, gIx_l, gCat_i, gCat_t, gCat_l, gMul_i, gMul_t, gMul_l, gCut_t, gCut_l, gP_x, intD_n, intD_b, intD_i, intD_s, intD_l, intD_t, intD_d, boolD_n, boolD_b, boolD_i, boolD_s, boolD_l, boolD_t, boolD_d, strD_n, strD_b, strD_i, strD_s, strD_l, strD_t, strD_d, tupD_n, tupD_b, tupD_i, tupD_s, tupD_l, tupD_t, tupD_d, wholeD_n, wholeD_b, wholeD_i, wholeD_s, wholeD_l, wholeD_t, wholeD_d, gLen_1, gTuple_1, gList_1, gInt_i, gInt_b, gAbs_i, gRepr_x, gAll_l, gAny_l, gSum_l, gGcd_i, gSorted_l, cDraw_1, two_1, three_1, cPick_1, gMax2_i, gMin2_i, gEqS_s, isStr_s, gNil_n, gCons_c, gT_t, gL_o, gL_l, at1_0, at2_0, at2_1, at3_0, at3_1, at3_2, cpow_e, cast_lit, abs_lit, aPart_e, gEq_i, gNe_i]
        refine ⟨⟨by omega, ?_⟩, small_of (by omega) (by omega), fun k k0 k1 => ?_⟩
        · have a1 := PySem.Flt.log2_lt_of (n := (2 + r).natAbs) (k := 60) (by decide) (by omega)
          omega
        have hm : (2 + r) * (1 + k) ≤ (2 + r) * (most / (2 + r)) := Int.mul_le_mul_of_nonneg_left (by omega) (by omega)
        have hm2 : (2 + r) * 1 ≤ (2 + r) * (1 + k) := Int.mul_le_mul_of_nonneg_left (by omega) (by omega)
        rw [Int.mul_one] at hm2
        refine ⟨cw _ _ (by omega) (by omega), hJ _ ⟨_, rfl, by omega, by omega⟩⟩
      · rw [rangeD_len] at hl hy
        simp only [ends0, wipeA, List.map, List.set, List.cons_append, List.nil_append, List.length_cons, List.length_nil, ite_true, ite_false, Bool.not_true, Bool.not_false, Bool.true_and, Bool.and_true, Bool.false_and, Bool.and_false, reduceIte, reduceCtorEq, Bool.false_eq_true, if_true, if_false, Nat.reduceAdd, Nat.reduceLeDiff, ne_eq, not_false_eq_true, eq_self, not_true_eq_false, Nat.reduceSub, Nat.reduceMul, Nat.reduceLT, Nat.reducePow, Int.reduceLE, Int.reduceLT, Int.reduceAdd, Int.reduceSub, Int.reduceMul, Int.reduceNeg, Int.reducePow, Int.reduceToNat, Int.reduceEq, Int.reduceBEq, Option.some.injEq, exists_eq_left', exists_eq_left, true_and, and_true, decide_true, decide_false, Nat.reduceBEq, Bool.or_true, Bool.true_or, Bool.or_false, Bool.false_or, aVar_e, aC_e, aRaw_e, aOp_e, aUn_e, aNot_e, aAnd_e, aOr_e, aChain_e, aTern_e, aNil_e, aCons_e, aTup_e, aLst_e, aB_e, tAndA_e, tOrA_e, tNotA_e, aCB_e, aCall_e, aCallK_e, aSl_e, aNoP_e, aCall0_e, gN_e, aNext_e, aSeq_e, aBrk_e, aCnt_e, aDrop_e, aRet_e, aRetN_e, aIfS_e, aAsg_e, aAug_e, aPar_e, aFor_e, aWhile_e, aYes_e, aIter_e, aEnum_e, aRange1_e, aRange2_e, aZip_e, aZipTL_e, aApp_e, aPopAt_e, aPop_e, aLenV_e, aIxV_e, aEqNilV_e, aTupV_e, aDnew_e, aListRg_e, aComp_e, aZip3T_e, aCallK0_e, gSetV_e, on_d, on_own, bl_b, it_i, ow_o, isOwn_o, seq_t, seq_l, seq_o, lst_l, lst_o, tup_t, same_t, same_l, one_1, fz_d, fz_r, fz_o, look_d, look_r, look_o, unA_0, unA_s, sl_0, sl_s, ons_n, ons_c, gI0_i, gI_i, gU_i, gIsN_n, gNotN_n, isNone_n, isNone_i, isNone_b, isNone_s, isNone_t, isNone_l, gEq_s, gNe_s, gIn_l, gIn_t, gNotIn_l, gNotIn_t, gIx_t, gIx_l, gCat_i, gCat_t, gCat_l, gMul_i, gMul_t, gMul_l, gCut_t, gCut_l, gP_x, intD_n, intD_b, intD_i, intD_s, intD_l, intD_t, intD_d, boolD_n, boolD_b, boolD_i, boolD_s, boolD_l, boolD_t, boolD_d, strD_n, strD_b, strD_i, strD_s, strD_l, strD_t, strD_d, tupD_n, tupD_b, tupD_i, tupD_s, tupD_l, tupD_t, tupD_d, wholeD_n, wholeD_b, wholeD_i, wholeD_s, wholeD_l, wholeD_t, wholeD_d, gLen_1, gTuple_1, gList_1, gInt_i, gInt_b, gAbs_i, gRepr_x, gAll_l, gAny_l, gSum_l, gGcd_i, gSorted_l, cDraw_1, two_1, three_1, cPick_1, gMax2_i, gMin2_i, gEqS_s, isStr_s, gNil_n, gCons_c, gT_t, gL_o, gL_l, at1_0, at2_0, at2_1, at3_0, at3_1, at3_2, cpow_e, cast_lit, abs_lit, aPart_e, gEq_i, gNe_i]
        exact fin _ (by rw [hl]; omega) (mem_at fun i hi => hy i (by omega))
    have b1 : (way == 1) = false := by simpa using e1
    simp only [b1, ends0, wipeA, List.map, List.set, List.cons_append, List.nil_append, List.length_cons, List.length_nil, ite_true, ite_false, Bool.not_true, Bool.not_false, Bool.true_and, Bool.and_true, Bool.false_and, Bool.and_false, reduceIte, reduceCtorEq, Bool.false_eq_true, if_true, if_false, Nat.reduceAdd, Nat.reduceLeDiff, ne_eq, not_false_eq_true, eq_self, not_true_eq_false, Nat.reduceSub, Nat.reduceMul, Nat.reduceLT, Nat.reducePow, Int.reduceLE, Int.reduceLT, Int.reduceAdd, Int.reduceSub, Int.reduceMul, Int.reduceNeg, Int.reducePow, Int.reduceToNat, Int.reduceEq, Int.reduceBEq, Option.some.injEq, exists_eq_left', exists_eq_left, true_and, and_true, decide_true, decide_false, Nat.reduceBEq, Bool.or_true, Bool.true_or, Bool.or_false, Bool.false_or, aVar_e, aC_e, aRaw_e, aOp_e, aUn_e, aNot_e, aAnd_e, aOr_e, aChain_e, aTern_e, aNil_e, aCons_e, aTup_e, aLst_e, aB_e, tAndA_e, tOrA_e, tNotA_e, aCB_e, aCall_e, aCallK_e, aSl_e, aNoP_e, aCall0_e, gN_e, aNext_e, aSeq_e, aBrk_e, aCnt_e, aDrop_e, aRet_e, aRetN_e, aIfS_e, aAsg_e, aAug_e, aPar_e, aFor_e, aWhile_e, aYes_e, aIter_e, aEnum_e, aRange1_e, aRange2_e, aZip_e, aZipTL_e, aApp_e, aPopAt_e, aPop_e, aLenV_e, aIxV_e, aEqNilV_e, aTupV_e, aDnew_e, aListRg_e, aComp_e, aZip3T_e, aCallK0_e, gSetV_e, on_d, on_own, bl_b, it_i, ow_o, isOwn_o, seq_t, seq_l, seq_o, lst_l, lst_o, tup_t, same_t, same_l, one_1, fz_d, fz_r, fz_o, look_d, look_r, look_o, unA_0, unA_s, sl_0, sl_s, ons_n, ons_c, gI0_i, gI_i, gU_i, gIsN_n, gNotN_n, isNone_n, isNone_i, isNone_b, isNone_s, isNone_t, isNone_l, gEq_s, gNe_s, gIn_l, gIn_t, gNotIn_l, gNotIn_t, gIx_t, gIx_l, gCat_i, gCat_t, gCat_l, gMul_i, gMul_t, gMul_l, gCut_t, gCut_l, gP_x, intD_n, intD_b, intD_i, intD_s, intD_l, intD_t, intD_d, boolD_n, boolD_b, boolD_i, boolD_s, boolD_l, boolD_t, boolD_d, strD_n, strD_b, strD_i, strD_s, strD_l, strD_t, strD_d, tupD_n, tupD_b, tupD_i, tupD_s, tupD_l, tupD_t, tupD_d, wholeD_n, wholeD_b, wholeD_i, wholeD_s, wholeD_l, wholeD_t, wholeD_d, gLen_1, gTuple_1, gList_1, gInt_i, gInt_b, gAbs_i, gRepr_x, gAll_l, gAny_l, gSum_l, gGcd_i, gSorted_l, cDraw_1, two_1, three_1, cPick_1, gMax2_i, gMin2_i, gEqS_s, isStr_s, gNil_n, gCons_c, gT_t, gL_o, gL_l, at1_0, at2_0, at2_1, at3_0, at3_1, at3_2, cpow_e, cast_lit, abs_lit, aPart_e, gEq_i, gNe_i]
    by_cases e2 : way = 2
    · subst e2
      simp only [ends0, wipeA, List.map, List.set, List.cons_append, List.nil_append, List.length_cons, List.length_nil, ite_true, ite_false, Bool.not_true, Bool.not_false, Bool.true_and, Bool.and_true, Bool.false_and, Bool.and_false, reduceIte, reduceCtorEq, Bool.false_eq_true, if_true, if_false, Nat.reduceAdd, Nat.reduceLeDiff, ne_eq, not_false_eq_true, eq_self, not_true_eq_false, Nat.reduceSub, Nat.reduceMul, Nat.reduceLT, Nat.reducePow, Int.reduceLE, Int.reduceLT, Int.reduceAdd, Int.reduceSub, Int.reduceMul, Int.reduceNeg, Int.reducePow, Int.reduceToNat, Int.reduceEq, Int.reduceBEq, Option.some.injEq, exists_eq_left', exists_eq_left, true_and, and_true, decide_true, decide_false, Nat.reduceBEq, Bool.or_true, Bool.true_or, Bool.or_false, Bool.false_or, aVar_e, aC_e, aRaw_e, aOp_e, aUn_e, aNot_e, aAnd_e, aOr_e, aChain_e, aTern_e, aNil_e, aCons_e, aTup_e, aLst_e, aB_e, tAndA_e, tOrA_e, tNotA_e, aCB_e, aCall_e, aCallK_e, aSl_e, aNoP_e, aCall0_e, gN_e, aNext_e, aSeq_e, aBrk_e, aCnt_e, aDrop_e, aRet_e, aRetN_e, aIfS_e, aAsg_e, aAug_e, aPar_e, aFor_e, aWhile_e, aYes_e, aIter_e, aEnum_e, aRange1_e, aRange2_e, aZip_e, aZipTL_e, aApp_e, aPopAt_e, aPop_e, aLenV_e, aIxV_e, aEqNilV_e, aTupV_e, aDnew_e, aListRg_e, aComp_e, aZip3T_e, aCallK0_e, gSetV_e, on_d, on_own, bl_b, it_i, ow_o, isOwn_o, seq_t, seq_l, seq_o, lst_l, lst_o, tup_t, same_t, same_l, one_1, fz_d, fz_r, fz_o, look_d, look_r, look_o, unA_0, unA_s, sl_0, sl_s, ons_n, ons_c, gI0_i, gI_i, gU_i, gIsN_n, gNotN_n, isNone_n, isNone_i, isNone_b, isNone_s, isNone_t, isNone_l, gEq_s, gNe_s, gIn_l, gIn_t, gNotIn_l, gNotIn_t, gIx_t, gIx_l, gCat_i, gCat_t, gCat_l, gMul_i, gMul_t, gMul_l, gCut_t, gCut_l, gP_x, intD_n, intD_b, intD_i, intD_s, intD_l, intD_t, intD_d, boolD_n, boolD_b, boolD_i, boolD_s, boolD_l, boolD_t, boolD_d, strD_n, strD_b, strD_i, strD_s, strD_l, strD_t, strD_d, tupD_n, tupD_b, tupD_i, tupD_s, tupD_l, tupD_t, tupD_d, wholeD_n, wholeD_b, wholeD_i, wholeD_s, wholeD_l, wholeD_t, wholeD_d, gLen_1, gTuple_1, gList_1, gInt_i, gInt_b, gAbs_i, gRepr_x, gAll_l, gAny_l, gSum_l, gGcd_i, gSorted_l, cDraw_1, two_1, three_1, cPick_1, gMax2_i, gMin2_i, gEqS_s, isStr_s, gNil_n, gCons_c, gT_t, gL_o, gL_l, at1_0, at2_0, at2_1, at3_0, at3_1, at3_2, cpow_e, cast_lit, abs_lit, aPart_e, gEq_i, gNe_i]
      have hM : (if (7 : Int) > most then 7 else most) = max most 7 := by
        by_cases h7 : (7 : Int) > most
        · rw [if_pos h7]; omega
        · rw [if_neg h7]; omega
      refine comp_det (fun d => match d with
        | .int i => if i ≤ max most 7 then some (.int i) else none
        | _ => none) (by decide) (fun d hd J hJ => ?_) ?_
      · obtain ⟨i, rfl⟩ : ∃ i : Int, d = .int i := by
          simp only [ends0, wipeA, List.map, List.set, List.cons_append, List.nil_append, List.length_cons, List.length_nil, ite_true, ite_false, Bool.not_true, Bool.not_false, Bool.true_and, Bool.and_true, Bool.false_and, Bool.and_false, reduceIte, reduceCtorEq, Bool.false_eq_true, if_true, if_false, Nat.reduceAdd, Nat.reduceLeDiff, ne_eq, not_false_eq_true, eq_self, not_true_eq_false, Nat.reduceSub, Nat.reduceMul, Nat.reduceLT, Nat.reducePow, Int.reduceLE, Int.reduceLT, Int.reduceAdd, Int.reduceSub, Int.reduceMul, Int.reduceNeg, Int.reducePow, Int.reduceToNat, Int.reduceEq, Int.reduceBEq, Option.some.injEq, exists_eq_left', exists_eq_left, true_and, and_true, decide_true, decide_false, Nat.reduceBEq, Bool.or_true, Bool.true_or, Bool.or_false, Bool.false_or, aVar_e, aC_e, aRaw_e, aOp_e, aUn_e, aNot_e, aAnd_e, aOr_e, aChain_e, aTern_e, aNil_e, aCons_e, aTup_e, aLst_e, aB_e, tAndA_e, tOrA_e, tNotA_e, aCB_e, aCall_e, aCallK_e, aSl_e, aNoP_e, aCall0_e, gN_e, aNext_e, aSeq_e, aBrk_e, aCnt_e, aDrop_e, aRet_e, aRetN_e, aIfS_e, aAsg_e, aAug_e, aPar_e, aFor_e, aWhile_e, aYes_e, aIter_e, aEnum_e, aRange1_e, aRange2_e, aZip_e, aZipTL_e, aApp_e, aPopAt_e, aPop_e, aLenV_e, aIxV_e, aEqNilV_e, aTupV_e, aDnew_e, aListRg_e, aComp_e, aZip3T_e, aCallK0_e, gSetV_e, on_d, on_own, bl_b, it_i, ow_o, isOwn_o, seq_t, seq_l, seq_o, lst_l, lst_o, tup_t, same_t, same_l, one_1, fz_d, fz_r, fz_o, look_d, look_r, look_o, unA_0, unA_s, sl_0, sl_s, ons_n, ons_c, gI0_i, gI_i, gU_i, gIsN_n, gNotN_n, isNone_n, isNone_i, isNone_b, isNone_s, isNone_t, isNone_l, gEq_s, gNe_s, gIn_l, gIn_t, gNotIn_l, gNotIn_t, gIx_t, gIx_l, gCat_i, gCat_t, gCat_l, gMul_i, gMul_t, gMul_l, gCut_t, gCut_l, gP_x, intD_n, intD_b, intD_i, intD_s, intD_l, intD_t, intD_d, boolD_n, boolD_b, boolD_i, boolD_s, boolD_l, boolD_t, boolD_d, strD_n, strD_b, strD_i, strD_s, strD_l, strD_t, strD_d, tupD_n, tupD_b, tupD_i, tupD_s, tupD_l, tupD_t, tupD_d, wholeD_n, wholeD_b, wholeD_i, wholeD_s, wholeD_l, wholeD_t, wholeD_d, gLen_1, gTuple_1, gList_1, gInt_i, gInt_b, gAbs_i, gRepr_x, gAll_l, gAny_l, gSum_l, gGcd_i, gSorted_l, cDraw_1, two_1, three_1, cPick_1, gMax2_i, gMin2_i, gEqS_s, isStr_s, gNil_n, gCons_c, gT_t, gL_o, gL_l, at1_0, at2_0, at2_1, at3_0, at3_1, at3_2, cpow_e, cast_lit, abs_lit, aPart_e, gEq_i, gNe_i, List.mem_cons, List.not_mem_nil, or_false, forall_eq_or_imp, forall_eq] at hd
          rcases hd with h | h | h | h | h | h <;> exact ⟨_, h⟩
        simp only [hM, ends0, wipeA, List.map, List.set, List.cons_append, List.nil_append, List.length_cons, List.length_nil, ite_true, ite_false, Bool.not_true, Bool.not_false, Bool.true_and, Bool.and_true, Bool.false_and, Bool.and_false, reduceIte, reduceCtorEq, Bool.false_eq_true, if_true, if_false, Nat.reduceAdd, Nat.reduceLeDiff, ne_eq, not_false_eq_true, eq_self, not_true_eq_false, Nat.reduceSub, Nat.reduceMul, Nat.reduceLT, Nat.reducePow, Int.reduceLE, Int.reduceLT, Int.reduceAdd, Int.reduceSub, Int.reduceMul, Int.reduceNeg, Int.reducePow, Int.reduceToNat, Int.reduceEq, Int.reduceBEq, Option.some.injEq, exists_eq_left', exists_eq_left, true_and, and_true, decide_true, decide_false, Nat.reduceBEq, Bool.or_true, Bool.true_or, Bool.or_false, Bool.false_or, aVar_e, aC_e, aRaw_e, aOp_e, aUn_e, aNot_e, aAnd_e, aOr_e, aChain_e, aTern_e, aNil_e, aCons_e, aTup_e, aLst_e, aB_e, tAndA_e, tOrA_e, tNotA_e, aCB_e, aCall_e, aCallK_e, aSl_e, aNoP_e, aCall0_e, gN_e, aNext_e, aSeq_e, aBrk_e, aCnt_e, aDrop_e, aRet_e, aRetN_e, aIfS_e, aAsg_e, aAug_e, aPar_e, aFor_e, aWhile_e, aYes_e, aIter_e, aEnum_e, aRange1_e, aRange2_e, aZip_e, aZipTL_e, aApp_e, aPopAt_e, aPop_e, aLenV_e, aIxV_e, aEqNilV_e, aTupV_e, aDnew_e, aListRg_e, aComp_e, aZip3T_e, aCallK0_e, gSetV_e, on_d, on_own, bl_b, it_i, ow_o, isOwn_o, seq_t, seq_l, seq_o, lst_l, lst_o, tup_t, same_t, same_l, one_1, fz_d, fz_r, fz_o, look_d, look_r, look_o, unA_0, unA_s, sl_0, sl_s, ons_n, ons_c, gI0_i, gI_i, gU_i, gIsN_n, gNotN_n, isNone_n, isNone_i, isNone_b, isNone_s, isNone_t, isNone_l, gEq_s, gNe_s, gIn_l, gIn_t, gNotIn_l, gNotIn_t, gIx_t, gIx_l, gCat_i, gCat_t, gCat_l, gMul_i, gMul_t, gMul_l, gCut_t, gCut_l, gP_x, intD_n, intD_b, intD_i, intD_s, intD_l, intD_t, intD_d, boolD_n, boolD_b, boolD_i, boolD_s, boolD_l, boolD_t, boolD_d, strD_n, strD_b, strD_i, strD_s, strD_l, strD_t, strD_d, tupD_n, tupD_b, tupD_i, tupD_s, tupD_l, tupD_t, tupD_d, wholeD_n, wholeD_b, wholeD_i, wholeD_s, wholeD_l, wholeD_t, wholeD_d, gLen_1, gTuple_1, gList_1, gInt_i, gInt_b, gAbs_i, gRepr_x, gAll_l, gAny_l, gSum_l, gGcd_i, gSorted_l, cDraw_1, two_1, three_1, cPick_1, gMax2_i, gMin2_i, gEqS_s, isStr_s, gNil_n, gCons_c, gT_t, gL_o, gL_l, at1_0, at2_0, at2_1, at3_0, at3_1, at3_2, cpow_e, cast_lit, abs_lit, aPart_e, gEq_i, gNe_i]
        by_cases hi : i ≤ max most 7
        · simp only [hi, ends0, wipeA, List.map, List.set, List.cons_append, List.nil_append, List.length_cons, List.length_nil, ite_true, ite_false, Bool.not_true, Bool.not_false, Bool.true_and, Bool.and_true, Bool.false_and, Bool.and_false, reduceIte, reduceCtorEq, Bool.false_eq_true, if_true, if_false, Nat.reduceAdd, Nat.reduceLeDiff, ne_eq, not_false_eq_true, eq_self, not_true_eq_false, Nat.reduceSub, Nat.reduceMul, Nat.reduceLT, Nat.reducePow, Int.reduceLE, Int.reduceLT, Int.reduceAdd, Int.reduceSub, Int.reduceMul, Int.reduceNeg, Int.reducePow, Int.reduceToNat, Int.reduceEq, Int.reduceBEq, Option.some.injEq, exists_eq_left', exists_eq_left, true_and, and_true, decide_true, decide_false, Nat.reduceBEq, Bool.or_true, Bool.true_or, Bool.or_false, Bool.false_or, aVar_e, aC_e, aRaw_e, aOp_e, aUn_e, aNot_e, aAnd_e, aOr_e, aChain_e, aTern_e, aNil_e, aCons_e, aTup_e, aLst_e, aB_e, tAndA_e, tOrA_e, tNotA_e, aCB_e, aCall_e, aCallK_e, aSl_e, aNoP_e, aCall0_e, gN_e, aNext_e, aSeq_e, aBrk_e, aCnt_e, aDrop_e, aRet_e, aRetN_e, aIfS_e, aAsg_e, aAug_e, aPar_e, aFor_e, aWhile_e, aYes_e, aIter_e, aEnum_e, aRange1_e, aRange2_e, aZip_e, aZipTL_e, aApp_e, aPopAt_e, aPop_e, aLenV_e, aIxV_e, aEqNilV_e, aTupV_e, aDnew_e, aListRg_e, aComp_e, aZip3T_e, aCallK0_e, gSetV_e, on_d, on_own, bl_b, it_i, ow_o, isOwn_o, seq_t, seq_l, seq_o, lst_l, lst_o, tup_t, same_t, same_l, one_1, fz_d, fz_r, fz_o, look_d, look_r, look_o, unA_0, unA_s, sl_0, sl_s, ons_n, ons_c, gI0_i, gI_i, gU_i, gIsN_n, gNotN_n, isNone_n, isNone_i, isNone_b, isNone_s, isNone_t, isNone_l, gEq_s, gNe_s, gIn_l, gIn_t, gNotIn_l, gNotIn_t, gIx_t, gIx_l, gCat_i, gCat_t, gCat_l, gMul_i, gMul_t, gMul_l, gCut_t, gCut_l, gP_x, intD_n, intD_b, intD_i, intD_s, intD_l, intD_t, intD_d, boolD_n, boolD_b, boolD_i, boolD_s, boolD_l, boolD_t, boolD_d, strD_n, strD_b, strD_i, strD_s, strD_l, strD_t, strD_d, tupD_n, tupD_b, tupD_i, tupD_s, tupD_l, tupD_t, tupD_d, wholeD_n, wholeD_b, wholeD_i, wholeD_s, wholeD_l, wholeD_t, wholeD_d, gLen_1, gTuple_1, gList_1, gInt_i, gInt_b, gAbs_i, gRepr_x, gAll_l, gAny_l, gSum_l, gGcd_i, gSorted_l, cDraw_1, two_1, three_1, cPick_1, gMax2_i, gMin2_i, gEqS_s, isStr_s, gNil_n, gCons_c, gT_t, gL_o, gL_l, at1_0, at2_0, at2_1, at3_0, at3_1, at3_2, cpow_e, cast_lit, abs_lit, aPart_e, gEq_i, gNe_i] at hJ ⊢
          exact hJ
        · simp only [hi, ends0, wipeA, List.map, List.set, List.cons_append, List.nil_append, List.length_cons, List.length_nil, ite_true, ite_false, Bool.not_true, Bool.not_false, Bool.true_and, Bool.and_true, Bool.false_and, Bool.and_false, reduceIte, reduceCtorEq, Bool.false_eq_true, if_true, if_false, Nat.reduceAdd, Nat.reduceLeDiff, ne_eq, not_false_eq_true, eq_self, not_true_eq_false, Nat.reduceSub, Nat.reduceMul, Nat.reduceLT, Nat.reducePow, Int.reduceLE, Int.reduceLT, Int.reduceAdd, Int.reduceSub, Int.reduceMul, Int.reduceNeg, Int.reducePow, Int.reduceToNat, Int.reduceEq, Int.reduceBEq, Option.some.injEq, exists_eq_left', exists_eq_left, true_and, and_true, decide_true, decide_false, Nat.reduceBEq, Bool.or_true, Bool.true_or, Bool.or_false, Bool.false_or, aVar_e, aC_e, aRaw_e, aOp_e, aUn_e, aNot_e, aAnd_e, aOr_e, aChain_e, aTern_e, aNil_e, aCons_e, aTup_e, aLst_e, aB_e, tAndA_e, tOrA_e, tNotA_e, aCB_e, aCall_e, aCallK_e, aSl_e, aNoP_e, aCall0_e, gN_e, aNext_e, aSeq_e, aBrk_e, aCnt_e, aDrop_e, aRet_e, aRetN_e, aIfS_e, aAsg_e, aAug_e, aPar_e, aFor_e, aWhile_e, aYes_e, aIter_e, aEnum_e, aRange1_e, aRange2_e, aZip_e, aZipTL_e, aApp_e, aPopAt_e, aPop_e, aLenV_e, aIxV_e, aEqNilV_e, aTupV_e, aDnew_e, aListRg_e, aComp_e, aZip3T_e, aCallK0_e, gSetV_e, on_d, on_own, bl_b, it_i, ow_o, isOwn_o, seq_t, seq_l, seq_o, lst_l, lst_o, tup_t, same_t, same_l, one_1, fz_d, fz_r, fz_o, look_d, look_r, look_o, unA_0, unA_s, sl_0, sl_s, ons_n, ons_c, gI0_i, gI_i, gU_i, gIsN_n, gNotN_n, isNone_n, isNone_i, isNone_b, isNone_s, isNone_t, isNone_l, gEq_s, gNe_s, gIn_l, gIn_t, gNotIn_l, gNotIn_t, gIx_t, gIx_l, gCat_i, gCat_t, gCat_l, gMul_i, gMul_t, gMul_l, gCut_t, gCut_l, gP_x, intD_n, intD_b, intD_i, intD_s, intD_l, intD_t, intD_d, boolD_n, boolD_b, boolD_i, boolD_s, boolD_l, boolD_t, boolD_d, strD_n, strD_b, strD_i, strD_s, strD_l, strD_t, strD_d, tupD_n, tupD_b, tupD_i, tupD_s, tupD_l, tupD_t, tupD_d, wholeD_n, wholeD_b, wholeD_i, wholeD_s, wholeD_l, wholeD_t, wholeD_d, gLen_1, gTuple_1, gList_1, gInt_i, gInt_b, gAbs_i, gRepr_x, gAll_l, gAny_l, gSum_l, gGcd_i, gSorted_l, cDraw_1, two_1, three_1, cPick_1, gMax2_i, gMin2_i, gEqS_s, isStr_s, gNil_n, gCons_c, gT_t, gL_o, gL_l, at1_0, at2_0, at2_1, at3_0, at3_1, at3_2, cpow_e, cast_lit, abs_lit, aPart_e, gEq_i, gNe_i] at hJ ⊢
          exact hJ
      generalize hfs : List.filterMap _ _ = fs
      have hf : (∀ y ∈ fs, ∃ m : Int, y = .int m ∧ 2 ≤ m ∧ m ≤ max most 7) ∧ 4 ≤ fs.length ∧ fs.length ≤ 6 := by
        rw [← hfs]
        have q2 : (2 : Int) ≤ max most 7 := by omega
        have q3 : (3 : Int) ≤ max most 7 := by omega
        have q5 : (5 : Int) ≤ max most 7 := by omega
        have q7 : (7 : Int) ≤ max most 7 := by omega
        refine ⟨fun y hy => ?_, ?_, ?_⟩
        · obtain ⟨d, hd, e⟩ := List.mem_filterMap.mp hy
          obtain ⟨i, rfl, i2⟩ : ∃ i : Int, d = .int i ∧ 2 ≤ i := by
            simp only [ends0, wipeA, List.map, List.set, List.cons_append, List.nil_append, List.length_cons, List.length_nil, ite_true, ite_false, Bool.not_true, Bool.not_false, Bool.true_and, Bool.and_true, Bool.false_and, Bool.and_false, reduceIte, reduceCtorEq, Bool.false_eq_true, if_true, if_false, Nat.reduceAdd, Nat.reduceLeDiff, ne_eq, not_false_eq_true, eq_self, not_true_eq_false, Nat.reduceSub, Nat.reduceMul, Nat.reduceLT, Nat.reducePow, Int.reduceLE, Int.reduceLT, Int.reduceAdd, Int.reduceSub, Int.reduceMul, Int.reduceNeg, Int.reducePow, Int.reduceToNat, Int.reduceEq, Int.reduceBEq, Option.some.injEq, exists_eq_left', exists_eq_left, true_and, and_true, decide_true, decide_false, Nat.reduceBEq, Bool.or_true, Bool.true_or, Bool.or_false, Bool.false_or, aVar_e, aC_e, aRaw_e, aOp_e, aUn_e, aNot_e, aAnd_e, aOr_e, aChain_e, aTern_e, aNil_e, aCons_e, aTup_e, aLst_e, aB_e, tAndA_e, tOrA_e, tNotA_e, aCB_e, aCall_e, aCallK_e, aSl_e, aNoP_e, aCall0_e, gN_e, aNext_e, aSeq_e, aBrk_e, aCnt_e, aDrop_e, aRet_e, aRetN_e, aIfS_e, aAsg_e, aAug_e, aPar_e, aFor_e, aWhile_e, aYes_e, aIter_e, aEnum_e, aRange1_e, aRange2_e, aZip_e, aZipTL_e, aApp_e, aPopAt_e, aPop_e, aLenV_e, aIxV_e, aEqNilV_e, aTupV_e, aDnew_e, aListRg_e, aComp_e, aZip3T_e, aCallK0_e, gSetV_e, on_d, on_own, bl_b, it_i, ow_o, isOwn_o, seq_t, seq_l, seq_o, lst_l, lst_o, tup_t, same_t, same_l, one_1, fz_d, fz_r, fz_o, look_d, look_r, look_o, unA_0, unA_s, sl_0, sl_s, ons_n, ons_c, gI0_i, gI_i, gU_i, gIsN_n, gNotN_n, isNone_n, isNone_i, isNone_b, isNone_s, isNone_t, isNone_l, gEq_s, gNe_s, gIn_l, gIn_t, gNotIn_l, gNotIn_t, gIx_t, gIx_l, gCat_i, gCat_t, gCat_l, gMul_i, gMul_t, gMul_l, gCut_t, gCut_l, gP_x, intD_n, intD_b, intD_i, intD_s, intD_l, intD_t, intD_d, boolD_n, boolD_b, boolD_i, boolD_s, boolD_l, boolD_t, boolD_d, strD_n, strD_b, strD_i, strD_s, strD_l, strD_t, strD_d, tupD_n, tupD_b, tupD_i, tupD_s, tupD_l, tupD_t, tupD_d, wholeD_n, wholeD_b, wholeD_i, wholeD_s, wholeD_l, wholeD_t, wholeD_d, gLen_1, gTuple_1, gList_1, gInt_i, gInt_b, gAbs_i, gRepr_x, gAll_l, gAny_l, gSum_l, gGcd_i, gSorted_l, cDraw_1, two_1, three_1, cPick_1, gMax2_i, gMin2_i, gEqS_s, isStr_s, gNil_n, gCons_c, gT_t, gL_o, gL_l, at1_0, at2_0, at2_1, at3_0, at3_1, at3_2, cpow_e, cast_lit, abs_lit, aPart_e, gEq_i, gNe_i, List.mem_cons, List.not_mem_nil, or_false, forall_eq_or_imp, forall_eq] at hd
            rcases hd with h | h | h | h | h | h <;> exact ⟨_, h, by decide⟩
          dsimp only at e
          split at e
          · cases e
            exact ⟨i, rfl, i2, by assumption⟩
          · cases e
        · simp only [List.filterMap_cons, q2, q3, q5, q7, ends0, wipeA, List.map, List.set, List.cons_append, List.nil_append, List.length_cons, List.length_nil, ite_true, ite_false, Bool.not_true, Bool.not_false, Bool.true_and, Bool.and_true, Bool.false_and, Bool.and_false, reduceIte, reduceCtorEq, Bool.false_eq_true, if_true, if_false, Nat.reduceAdd, Nat.reduceLeDiff, ne_eq, not_false_eq_true, eq_self, not_true_eq_false, Nat.reduceSub, Nat.reduceMul, Nat.reduceLT, Nat.reducePow, Int.reduceLE, Int.reduceLT, Int.reduceAdd, Int.reduceSub, Int.reduceMul, Int.reduceNeg, Int.reducePow, Int.reduceToNat, Int.reduceEq, Int.reduceBEq, Option.some.injEq, exists_eq_left', exists_eq_left, true_and, and_true, decide_true, decide_false, Nat.reduceBEq, Bool.or_true, Bool.true_or, Bool.or_false, Bool.false_or, aVar_e, aC_e, aRaw_e, aOp_e, aUn_e, aNot_e, aAnd_e, aOr_e, aChain_e, aTern_e, aNil_e, aCons_e, aTup_e, aLst_e, aB_e, tAndA_e, tOrA_e, tNotA_e, aCB_e, aCall_e, aCallK_e, aSl_e, aNoP_e, aCall0_e, gN_e, aNext_e, aSeq_e, aBrk_e, aCnt_e, aDrop_e, aRet_e, aRetN_e, aIfS_e, aAsg_e, aAug_e, aPar_e, aFor_e, aWhile_e, aYes_e, aIter_e, aEnum_e, aRange1_e, aRange2_e, aZip_e, aZipTL_e, aApp_e, aPopAt_e, aPop_e, aLenV_e, aIxV_e, aEqNilV_e, aTupV_e, aDnew_e, aListRg_e, aComp_e, aZip3T_e, aCallK0_e, gSetV_e, on_d, on_own, bl_b, it_i, ow_o, isOwn_o, seq_t, seq_l, seq_o, lst_l, lst_o, tup_t, same_t, same_l, one_1, fz_d, fz_r, fz_o, look_d, look_r, look_o, unA_0, unA_s, sl_0, sl_s, ons_n, ons_c, gI0_i, gI_i, gU_i, gIsN_n, gNotN_n, isNone_n, isNone_i, isNone_b, isNone_s, isNone_t, isNone_l, gEq_s, gNe_s, gIn_l, gIn_t, gNotIn_l, gNotIn_t, gIx_t, gIx_l, gCat_i, gCat_t, gCat_l, gMul_i, gMul_t, gMul_l, gCut_t, gCut_l, gP_x, intD_n, intD_b, intD_i, intD_s, intD_l, intD_t, intD_d, boolD_n, boolD_b, boolD_i, boolD_s, boolD_l, boolD_t, boolD_d, strD_n, strD_b, strD_i, strD_s, strD_l, strD_t, strD_d, tupD_n, tupD_b, tupD_i, tupD_s, tupD_l, tupD_t, tupD_d, wholeD_n, wholeD_b, wholeD_i, wholeD_s, wholeD_l, wholeD_t, wholeD_d, gLen_1, gTuple_1, gList_1, gInt_i, gInt_b, gAbs_i, gRepr_x, gAll_l, gAny_l, gSum_l, gGcd_i, gSorted_l, cDraw_1, two_1, three_1, cPick_1, gMax2_i, gMin2_i, gEqS_s, isStr_s, gNil_n, gCons_c, gT_t, gL_o, gL_l, at1_0, at2_0, at2_1, at3_0, at3_1, at3_2, cpow_e, cast_lit, abs_lit, aPart_e, gEq_i, gNe_i]
        · exact Nat.le_trans (List.length_filterMap_le _ _) (by decide)
      obtain ⟨f1, f4, f6⟩ := hf
      have pf : PyData.plainAll fs = true := plain_ints fun y hy => by
        obtain ⟨m, e, _⟩ := f1 y hy
        exact ⟨m, e⟩
      simp only [c__law_mixed, ends0, wipeA, List.map, List.set, List.cons_append, List.nil_append, List.length_cons, List.length_nil, ite_true, ite_false, Bool.not_true, Bool.not_false, Bool.true_and, Bool.and_true, Bool.false_and, Bool.and_false, reduceIte, reduceCtorEq, Bool.false_eq_true, if_true, if_false, Nat.reduceAdd, Nat.reduceLeDiff, ne_eq, not_false_eq_true, eq_self, not_true_eq_false, Nat.reduceSub, Nat.reduceMul, Nat.reduceLT, Nat.reducePow, Int.reduceLE, Int.reduceLT, Int.reduceAdd, Int.reduceSub, Int.reduceMul, Int.reduceNeg, Int.reducePow, Int.reduceToNat, Int.reduceEq, Int.reduceBEq, Option.some.injEq, exists_eq_left', exists_eq_left, true_and, and_true, decide_true, decide_false, Nat.reduceBEq, Bool.or_true, Bool.true_or, Bool.or_false, Bool.false_or, aVar_e, aC_e, aRaw_e, aOp_e, aUn_e, aNot_e, aAnd_e, aOr_e, aChain_e, aTern_e, aNil_e, aCons_e, aTup_e, aLst_e, aB_e, tAndA_e, tOrA_e, tNotA_e, aCB_e, aCall_e, aCallK_e, aSl_e, aNoP_e, aCall0_e, gN_e, aNext_e, aSeq_e, aBrk_e, aCnt_e, aDrop_e, aRet_e, aRetN_e, aIfS_e, aAsg_e, aAug_e, aPar_e, aFor_e, aWhile_e, aYes_e, aIter_e, aEnum_e, aRange1_e, aRange2_e, aZip_e, aZipTL_e, aApp_e, aPopAt_e, aPop_e, aLenV_e, aIxV_e, aEqNilV_e, aTupV_e, aDnew_e, aListRg_e, aComp_e, aZip3T_e, aCallK0_e, gSetV_e, on_d, on_own, bl_b, it_i, ow_o, isOwn_o, seq_t, seq_l, seq_o, lst_l, lst_o, tup_t, same_t, same_l, one_1, fz_d, fz_r, fz_o, look_d, look_r, look_o, unA_0, unA_s, sl_0, sl_s, ons_n, ons_c, gI0_i, gI_i, gU_i, gIsN_n, gNotN_n, isNone_n, isNone_i, isNone_b, isNone_s, isNone_t, isNone_l, gEq_s, gNe_s, gIn_l, gIn_t, gNotIn_l, gNotIn_t, gIx_t, gIx_l, gCat_i, gCat_t, gCat_l, gMul_i, gMul_t, gMul_l, gCut_t, gCut_l, gP_x, intD_n, intD_b, intD_i, intD_s, intD_l, intD_t, intD_d, boolD_n, boolD_b, boolD_i, boolD_s, boolD_l, boolD_t, boolD_d, strD_n, strD_b, strD_i, strD_s, strD_l, strD_t, strD_d, tupD_n, tupD_b, tupD_i, tupD_s, tupD_l, tupD_t, tupD_d, wholeD_n, wholeD_b, wholeD_i, wholeD_s, wholeD_l, wholeD_t, wholeD_d, gLen_1, gTuple_1, gList_1, gInt_i, gInt_b, gAbs_i, gRepr_x, gAll_l, gAny_l, gSum_l, gGcd_i, gSorted_l, cDraw_1, two_1, three_1, cPick_1, gMax2_i, gMin2_i, gEqS_s, isStr_s, gNil_n, gCons_c, gT_t, gL_o, gL_l, at1_0, at2_0, at2_1, at3_0, at3_1, at3_2, cpow_e, cast_lit, abs_lit, aPart_e, gEq_i, gNe_i]
      refine ⟨pf, by omega, fun ys py => ⟨pf, by omega, fun zs pz => ?_⟩⟩
      have l1 := py.length_eq
      have l2 := pz.length_eq
      refine ⟨by omega, by rw [List.length_append]; omega, ?_⟩
      refine fin _ ?_ fun y hy => ?_
      · unfold Sx.cutD
        rw [HT.sIx_none]
        have e3 : HT.sIx (ys ++ zs ++ fs).length (ys ++ zs ++ fs).length (some n) = min n.toNat (ys ++ zs ++ fs).length := by
          have := HT.sIx_nat (ys ++ zs ++ fs).length (ys ++ zs ++ fs).length n.toNat
          rw [show ((n.toNat : Nat) : Int) = n by omega] at this
          exact this
        rw [e3, List.drop_zero, Nat.sub_zero, List.length_take, List.length_append, List.length_append]
        omega
      · have := mem_cut hy
        rcases List.mem_append.mp this with h | h
        · rcases List.mem_append.mp h with h | h
          · exact f1 y (py.mem_iff.mp h)
          · exact f1 y (pz.mem_iff.mp h)
        · exact f1 y h
    have b2 : (way == 2) = false := by simpa using e2
    simp only [b2, ends0, wipeA, List.map, List.set, List.cons_append, List.nil_append, List.length_cons, List.length_nil, ite_true, ite_false, Bool.not_true, Bool.not_false, Bool.true_and, Bool.and_true, Bool.false_and, Bool.and_false, reduceIte, reduceCtorEq, Bool.false_eq_true, if_true, if_false, Nat.reduceAdd, Nat.reduceLeDiff, ne_eq, not_false_eq_true, eq_self, not_true_eq_false, Nat.reduceSub, Nat.reduceMul, Nat.reduceLT, Nat.reducePow, Int.reduceLE, Int.reduceLT, Int.reduceAdd, Int.reduceSub, Int.reduceMul, Int.reduceNeg, Int.reducePow, Int.reduceToNat, Int.reduceEq, Int.reduceBEq, Option.some.injEq, exists_eq_left', exists_eq_left, true_and, and_true, decide_true, decide_false, Nat.reduceBEq, Bool.or_true, Bool.true_or, Bool.or_false, Bool.false_or, aVar_e, aC_e, aRaw_e, aOp_e, aUn_e, aNot_e, aAnd_e, aOr_e, aChain_e, aTern_e, aNil_e, aCons_e, aTup_e, aLst_e, aB_e, tAndA_e, tOrA_e, tNotA_e, aCB_e, aCall_e, aCallK_e, aSl_e, aNoP_e, aCall0_e, gN_e, aNext_e, aSeq_e, aBrk_e, aCnt_e, aDrop_e, aRet_e, aRetN_e, aIfS_e, aAsg_e, aAug_e, aPar_e, aFor_e, aWhile_e, aYes_e, aIter_e, aEnum_e, aRange1_e, aRange2_e, aZip_e, aZipTL_e, aApp_e, aPopAt_e, aPop_e, aLenV_e, aIxV_e, aEqNilV_e, aTupV_e, aDnew_e, aListRg_e, aComp_e, aZip3T_e, aCallK0_e, gSetV_e, on_d, on_own, bl_b, it_i, ow_o, isOwn_o, seq_t, seq_l, seq_o, lst_l, lst_o, tup_t, same_t, same_l, one_1, fz_d, fz_r, fz_o, look_d, look_r, look_o, unA_0, unA_s, sl_0, sl_s, ons_n, ons_c, gI0_i, gI_i, gU_i, gIsN_n, gNotN_n, isNone_n, isNone_i, isNone_b, isNone_s, isNone_t, isNone_l, gEq_s, gNe_s, gIn_l, gIn_t, gNotIn_l, gNotIn_t, gIx_t, gIx_l, gCat_i, gCat_t, gCat_l, gMul_i, gMul_t, gMul_l, gCut_t, gCut_l, gP_x, intD_n, intD_b, intD_i, intD_s, intD_l, intD_t, intD_d, boolD_n, boolD_b, boolD_i, boolD_s, boolD_l, boolD_t, boolD_d, strD_n, strD_b, strD_i, strD_s, strD_l, strD_t, strD_d, tupD_n, tupD_b, tupD_i, tupD_s, tupD_l, tupD_t, tupD_d, wholeD_n, wholeD_b, wholeD_i, wholeD_s, wholeD_l, wholeD_t, wholeD_d, gLen_1, gTuple_1, gList_1, gInt_i, gInt_b, gAbs_i, gRepr_x, gAll_l, gAny_l, gSum_l, gGcd_i, gSorted_l, cDraw_1, two_1, three_1, cPick_1, gMax2_i, gMin2_i, gEqS_s, isStr_s, gNil_n, gCons_c, gT_t, gL_o, gL_l, at1_0, at2_0, at2_1, at3_0, at3_1, at3_2, cpow_e, cast_lit, abs_lit, aPart_e, gEq_i, gNe_i]
    refine ⟨by omega, by omega, ?_⟩
    refine comp_each (fun _ y => ∃ m : Int, y = .int m ∧ 2 ≤ m ∧ m ≤ max most 7) (by rw [rangeD_len]; omega) (fun d hd J hJ => ?_) fun ys hl hy => ?_
    · simp only [c__law_draw, ends0, wipeA, List.map, List.set, List.cons_append, List.nil_append, List.length_cons, List.length_nil, ite_true, ite_false, Bool.not_true, Bool.not_false, Bool.true_and, Bool.and_true, Bool.false_and, Bool.and_false, reduceIte, reduceCtorEq, Bool.false_eq_true, if_true, if_false, Nat.reduceAdd, Nat.reduceLeDiff, ne_eq, not_false_eq_true, eq_self, not_true_eq_false, Nat.reduceSub, Nat.reduceMul, Nat.reduceLT, Nat.reducePow, Int.reduceLE, Int.reduceLT, Int.reduceAdd, Int.reduceSub, Int.reduceMul, Int.reduceNeg, Int.reducePow, Int.reduceToNat, Int.reduceEq, Int.reduceBEq, Option.some.injEq, exists_eq_left', exists_eq_left, true_and, and_true, decide_true, decide_false, Nat.reduceBEq, Bool.or_true, Bool.true_or, Bool.or_false, Bool.false_or, aVar_e, aC_e, aRaw_e, aOp_e, aUn_e, aNot_e, aAnd_e, aOr_e, aChain_e, aTern_e, aNil_e, aCons_e, aTup_e, aLst_e, aB_e, tAndA_e, tOrA_e, tNotA_e, aCB_e, aCall_e, aCallK_e, aSl_e, aNoP_e, aCall0_e, gN_e, aNext_e, aSeq_e, aBrk_e, aCnt_e, aDrop_e, aRet_e, aRetN_e, aIfS_e, aAsg_e, aAug_e, aPar_e, aFor_e, aWhile_e, aYes_e, aIter_e, aEnum_e, aRange1_e, aRange2_e, aZip_e, aZipTL_e, aApp_e, aPopAt_e, aPop_e, aLenV_e, aIxV_e, aEqNilV_e, aTupV_e, aDnew_e, aListRg_e, aComp_e, aZip3T_e, aCallK0_e, gSetV_e, on_d, on_own, bl_b, it_i, ow_o, isOwn_o, seq_t, seq_l, seq_o, lst_l, lst_o, tup_t, same_t, same_l, one_1, fz_d, fz_r, fz_o, look_d, look_r, look_o, unA_0, unA_s, sl_0, sl_s, ons_n, ons_c, gI0_i, gI_i, gU_i, gIsN_n, gNotN_n, isNone_n, isNone_i, isNone_b, isNone_s, isNone_t, isNone_l, gEq_s, gNe_s, gIn_l, gIn_t, gNotIn_l, gNotIn_t, gIx_t, gIx_l, gCat_i, gCat_t, gCat_l, gMul_i, gMul_t, gMul_l, gCut_t, gCut_l, gP_x, intD_n, intD_b, intD_i, intD_s, intD_l, intD_t, intD_d, boolD_n, boolD_b, boolD_i, boolD_s, boolD_l, boolD_t, boolD_d, strD_n, strD_b, strD_i, strD_s, strD_l, strD_t, strD_d, tupD_n, tupD_b, tupD_i, tupD_s, tupD_l, tupD_t, tupD_d, wholeD_n, wholeD_b, wholeD_i, wholeD_s, wholeD_l, wholeD_t, wholeD_d, gLen_1, gTuple_1, gList_1, gInt_i, gInt_b, gAbs_i, gRepr_x, gAll_l, gAny_l, gSum_l, gGcd_i, gSorted_l, cDraw_1, two_1, three_1, cPick_1, gMax2_i, gMin2_i, gEqS_s, isStr_s, gNil_n, gCons_c, gT_t, gL_o, gL_l, at1_0, at2_0, at2_1, at3_0, at3_1, at3_2, cpow_e, cast_lit, abs_lit, aPart_e, gEq_i, gNe_i]
      exact ⟨small_of (by omega) (by omega), fun k k0 k1 => hJ _ ⟨_, rfl, by omega, by omega⟩⟩
    · rw [rangeD_len] at hl hy
      simp only [ends0, wipeA, List.map, List.set, List.cons_append, List.nil_append, List.length_cons, List.length_nil, ite_true, ite_false, Bool.not_true, Bool.not_false, Bool.true_and, Bool.and_true, Bool.false_and, Bool.and_false, reduceIte, reduceCtorEq, Bool.false_eq_true, if_true, if_false, Nat.reduceAdd, Nat.reduceLeDiff, ne_eq, not_false_eq_true, eq_self, not_true_eq_false, Nat.reduceSub, Nat.reduceMul, Nat.reduceLT, Nat.reducePow, Int.reduceLE, Int.reduceLT, Int.reduceAdd, Int.reduceSub, Int.reduceMul, Int.reduceNeg, Int.reducePow, Int.reduceToNat, Int.reduceEq, Int.reduceBEq, Option.some.injEq, exists_eq_left', exists_eq_left, true_and, and_true, decide_true, decide_false, Nat.reduceBEq, Bool.or_true, Bool.true_or, Bool.or_false, Bool.false_or, aVar_e, aC_e, aRaw_e, aOp_e, aUn_e, aNot_e, aAnd_e, aOr_e, aChain_e, aTern_e, aNil_e, aCons_e, aTup_e, aLst_e, aB_e, tAndA_e, tOrA_e, tNotA_e, aCB_e, aCall_e, aCallK_e, aSl_e, aNoP_e, aCall0_e, gN_e, aNext_e, aSeq_e, aBrk_e, aCnt_e, aDrop_e, aRet_e, aRetN_e, aIfS_e, aAsg_e, aAug_e, aPar_e, aFor_e, aWhile_e, aYes_e, aIter_e, aEnum_e, aRange1_e, aRange2_e, aZip_e, aZipTL_e, aApp_e, aPopAt_e, aPop_e, aLenV_e, aIxV_e, aEqNilV_e, aTupV_e, aDnew_e, aListRg_e, aComp_e, aZip3T_e, aCallK0_e, gSetV_e, on_d, on_own, bl_b, it_i, ow_o, isOwn_o, seq_t, seq_l, seq_o, lst_l, lst_o, tup_t, same_t, same_l, one_1, fz_d, fz_r, fz_o, look_d, look_r, look_o, unA_0, unA_s, sl_0, sl_s, ons_n, ons_c, gI0_i, gI_i, gU_i, gIsN_n, gNotN_n, isNone_n, isNone_i, isNone_b, isNone_s, isNone_t, isNone_l, gEq_s, gNe_s, gIn_l, gIn_t, gNotIn_l, gNotIn_t, gIx_t, gIx_l, gCat_i, gCat_t, gCat_l, gMul_i, gMul_t, gMul_l, gCut_t, gCut_l, gP_x, intD_n, intD_b, intD_i, intD_s, intD_l, intD_t, intD_d, boolD_n, boolD_b, boolD_i, boolD_s, boolD_l, boolD_t, boolD_d, strD_n, strD_b, strD_i, strD_s, strD_l, strD_t, strD_d, tupD_n, tupD_b, tupD_i, tupD_s, tupD_l, tupD_t, tupD_d, wholeD_n, wholeD_b, wholeD_i, wholeD_s, wholeD_l, wholeD_t, wholeD_d, gLen_1, gTuple_1, gList_1, gInt_i, gInt_b, gAbs_i, gRepr_x, gAll_l, gAny_l, gSum_l, gGcd_i, gSorted_l, cDraw_1, two_1, three_1, cPick_1, gMax2_i, gMin2_i, gEqS_s, isStr_s, gNil_n, gCons_c, gT_t, gL_o, gL_l, at1_0, at2_0, at2_1, at3_0, at3_1, at3_2, cpow_e, cast_lit, abs_lit, aPart_e, gEq_i, gNe_i]
      exact fin _ (by rw [hl]; omega) (mem_at fun i hi => hy i (by omega))
  · exact h.elim
abbrev sp__law_machine (K : PySem.W.Frag) : Sp := SpL K (deckOf boxV) c__law_machine
section
variable {P : Program} {w : World} {K : PySem.W.Frag} {mg : Str → Option Value} {base : Heap} {a : Adr}
theorem ok__law_machine (T : Txt K mg a) : FnOk P w K mg base CX0 3 a.f__law_machine a.d__law_machine ["deck", "n", "most"] (sp__law_machine K) := by
  have G__law_draw : FnOk P w K mg base CX0 1 a.f__law_draw a.d__law_draw ["deck", "many"] (sp__law_draw K) := ok__law_draw T
  have G__law_mixed : FnOk P w K mg base CX0 2 a.f__law_mixed a.d__law_mixed ["deck", "items"] (sp__law_mixed K) := ok__law_mixed T
  refine T._law_machine.F.ok sc__law_machine (fun vs H Q E h => sp_len l__law_machine h) (fun cdv A outer s H vs Q E hr h => ?_)
  have hu := hu_of hr
  exact ⟨_, (pss_cons (ps_set (i := 3) sc__law_machine.nd rfl (by first | exact Or.inl rfl | exact Or.inr rfl) (pe_call G__law_draw (hr.mono (by decide)) (by rfl) T._law_draw.m T._law_draw.F.kp T._law_draw.b .nil pass0 (pa_cons (pv 0) (pa_cons pe_int pa_nil))))
      (pss_cons (ps_if (pt_cmpR (show OpR _ _ (rEqP K) from op_eqP hr.units) (pv 3) pe_int (nomark _)) (pss_one (ps_ret (pe_op (show OpR _ _ (rTimes K) from op_times) (pe_tup (pa_cons (pe_op (show OpR _ _ (rPlus K) from op_plus) pe_int (pe_call G__law_draw (hr.mono (by decide)) (by rfl) T._law_draw.m T._law_draw.F.kp T._law_draw.b .nil pass0 (pa_cons (pv 0) (pa_cons (pe_op op_sub (pv 2) pe_int) pa_nil)))) pa_nil)) (pv 1)))) pss_nil)
      (pss_cons (ps_if (pt_cmpR (show OpR _ _ (rEqP K) from op_eqP hr.units) (pv 3) pe_int (nomark _)) (pss_cons (ps_set (i := 4) sc__law_machine.nd rfl (by first | exact Or.inl rfl | exact Or.inr rfl) (pe_op (show OpR _ _ (rPlus K) from op_plus) pe_int (pe_call G__law_draw (hr.mono (by decide)) (by rfl) T._law_draw.m T._law_draw.F.kp T._law_draw.b .nil pass0 (pa_cons (pv 0) (pa_cons pe_int pa_nil)))))
        (pss_one (ps_ret (pe_callTy (show CallR _ _ (rTupS K) from call_tuple_of) (by rfl) T.b_tuple (by decide +kernel) (pa_cons (pe_lc (own := [("turn", 7)]) rfl sc__law_machine.nd (pi_range1 rfl T.b_range (pa_cons (pv 1) pa_nil)) (blkOk_by (N := ["deck", "n", "most", "way", "base", "found", "own", "turn"]) (sc := defScope s__law_machine) (by decide +kernel)) (fun _ _ _ _ _ => (pg_name (i := 7) sc__law_machine.nd rfl (by first | exact Or.inl rfl | exact Or.inr rfl))) (fun _ _ _ _ _ => pts_nil) (fun _ _ _ _ _ => (pe_op (show OpR _ _ (rTimes K) from op_times) (pv 4) (pe_op (show OpR _ _ (rPlus K) from op_plus) pe_int (pe_call G__law_draw (hr.mono (by decide)) (by rfl) T._law_draw.m T._law_draw.F.kp T._law_draw.b .nil pass0 (pa_cons (pv 0) (pa_cons (pe_op op_fdivW (pv 2) (pv 4)) pa_nil))))))) pa_nil))))) pss_nil)
      (pss_cons (ps_if (pt_cmpR (show OpR _ _ (rEqP K) from op_eqP hr.units) (pv 3) pe_int (nomark _)) (pss_cons (ps_setLc (i := 5) (own := [("own", 6)]) rfl sc__law_machine.nd rfl rfl (sw_true rfl rfl rfl (by decide +kernel)) (show PI _ _ _ (iAny K _) from pi_any (pe_tup (pa_cons pe_int (pa_cons pe_int (pa_cons pe_int (pa_cons pe_int (pa_cons pe_int (pa_cons pe_int pa_nil)))))))) (blkOk_by (N := ["deck", "n", "most", "way", "base", "found", "own", "turn"]) (sc := defScope s__law_machine) (by decide +kernel)) (fun _ _ _ _ _ => (pg_name (i := 6) sc__law_machine.nd rfl (by first | exact Or.inl rfl | exact Or.inr rfl))) (fun _ _ _ _ _ => (pts_one (pt_cmpR op_le (pv 6) (pe_callB (show CallR _ _ rMax2 from call_max2 rfl) (by rfl) T.b_max (by decide +kernel) (pa_cons (pv 2) (pa_cons pe_int pa_nil))) (nomark _)))) (fun _ _ _ _ _ => (pv 6)))
        (pss_one (ps_ret (pe_callTy (show CallR _ _ (rTupS K) from call_tuple_of) (by rfl) T.b_tuple (by decide +kernel) (pa_cons (pe_slice (show L2.SlR _ (rCut K) from sl_cut) (pe_op (show OpR _ _ (rPlus K) from op_plus) (pe_op (show OpR _ _ (rPlus K) from op_plus) (pe_call G__law_mixed hr (by rfl) T._law_mixed.m T._law_mixed.F.kp T._law_mixed.b .nil pass0 (pa_cons (pv 0) (pa_cons (pv 5) pa_nil))) (pe_call G__law_mixed hr (by rfl) T._law_mixed.m T._law_mixed.F.kp T._law_mixed.b .nil pass0 (pa_cons (pv 0) (pa_cons (pv 5) pa_nil)))) (pv 5)) po_none (po_some (pv 1))) pa_nil))))) pss_nil)
      (pss_one (ps_ret (pe_callTy (show CallR _ _ (rTupS K) from call_tuple_of) (by rfl) T.b_tuple (by decide +kernel) (pa_cons (pe_lc (own := [("turn", 7)]) rfl sc__law_machine.nd (pi_range1 rfl T.b_range (pa_cons (pv 1) pa_nil)) (blkOk_by (N := ["deck", "n", "most", "way", "base", "found", "own", "turn"]) (sc := defScope s__law_machine) (by decide +kernel)) (fun _ _ _ _ _ => (pg_name (i := 7) sc__law_machine.nd rfl (by first | exact Or.inl rfl | exact Or.inr rfl))) (fun _ _ _ _ _ => pts_nil) (fun _ _ _ _ _ => (pe_op (show OpR _ _ (rPlus K) from op_plus) pe_int (pe_call G__law_draw (hr.mono (by decide)) (by rfl) T._law_draw.m T._law_draw.F.kp T._law_draw.b .nil pass0 (pa_cons (pv 0) (pa_cons (pe_op op_sub (pv 2) pe_int) pa_nil)))))) pa_nil)))))))),
    run0 (N := ["deck", "n", "most", "way", "base", "found", "own", "turn"]) (np := 3) (f := b__law_machine) h (sp_len l__law_machine h) (fun dk B hb => (show LS B K Wno _ (b__law_machine dk) from
      (ls_seq (ls_asg (le_call0 (dk := dk) (c := c__law_draw) hb (la_cons (le_var (i := 0)) (la_cons (le_c (y := .int 4) fun _ => .int _) la_nil))) (lg_name (i := 3)))
      (ls_seq (ls_if (lt_test (le_op (ol_eq) (le_var (i := 3)) (le_c (y := .int 0) fun _ => .int _))) (ls_ret (le_op (ol_times) (le_tup (la_cons (le_op (ol_plus) (le_c (y := .int 2) fun _ => .int _) (le_call0 (dk := dk) (c := c__law_draw) hb (la_cons (le_var (i := 0)) (la_cons (le_op (ol_I0 fun _ _ _ => .int _) (le_var (i := 2)) (le_c (y := .int 1) fun _ => .int _)) la_nil)))) la_nil) (by decide)) (le_var (i := 1)))) ls_next)
      (ls_seq (ls_if (lt_test (le_op (ol_eq) (le_var (i := 3)) (le_c (y := .int 1) fun _ => .int _))) (ls_seq (ls_asg (le_op (ol_plus) (le_c (y := .int 2) fun _ => .int _) (le_call0 (dk := dk) (c := c__law_draw) hb (la_cons (le_var (i := 0)) (la_cons (le_c (y := .int 2) fun _ => .int _) la_nil)))) (lg_name (i := 4)))
        (ls_ret (le_cb cl_tuple (la_cons (le_comp (vs := [7]) (li_range1 (la_cons (le_var (i := 1)) la_nil)) (lg_name (i := 7)) (tg_name (by decide)) lt_yes (le_op (ol_times) (le_var (i := 4)) (le_op (ol_plus) (le_c (y := .int 1) fun _ => .int _) (le_call0 (dk := dk) (c := c__law_draw) hb (la_cons (le_var (i := 0)) (la_cons (le_op (ol_I fun _ _ _ => .int _) (le_var (i := 2)) (le_var (i := 4))) la_nil)))))) la_nil)))) ls_next)
      (ls_seq (ls_if (lt_test (le_op (ol_eq) (le_var (i := 3)) (le_c (y := .int 2) fun _ => .int _))) (ls_seq (ls_asg (le_comp (vs := [6]) (li_any (le_tup (la_cons (le_c (y := .int 2) fun _ => .int _) (la_cons (le_c (y := .int 3) fun _ => .int _) (la_cons (le_c (y := .int 5) fun _ => .int _) (la_cons (le_c (y := .int 7) fun _ => .int _) (la_cons (le_c (y := .int 11) fun _ => .int _) (la_cons (le_c (y := .int 13) fun _ => .int _) la_nil)))))) (by decide))) (lg_name (i := 6)) (tg_name (by decide)) (lt_test (le_op (ol_I0 fun _ _ _ => .bl _) (le_var (i := 6)) (le_cb cl_max2 (la_cons (le_var (i := 2)) (la_cons (le_c (y := .int 7) fun _ => .int _) la_nil))))) (le_var (i := 6))) (lg_name (i := 5)))
        (ls_ret (le_cb cl_tuple (la_cons (le_sl sll_cut (le_op (ol_plus) (le_op (ol_plus) (le_call0 (dk := dk) (c := c__law_mixed) hb (la_cons (le_var (i := 0)) (la_cons (le_var (i := 5)) la_nil))) (le_call0 (dk := dk) (c := c__law_mixed) hb (la_cons (le_var (i := 0)) (la_cons (le_var (i := 5)) la_nil)))) (le_var (i := 5))) lo_no (lo_some (le_var (i := 1)))) la_nil)))) ls_next)
      (ls_ret (le_cb cl_tuple (la_cons (le_comp (vs := [7]) (li_range1 (la_cons (le_var (i := 1)) la_nil)) (lg_name (i := 7)) (tg_name (by decide)) lt_yes (le_op (ol_plus) (le_c (y := .int 2) fun _ => .int _) (le_call0 (dk := dk) (c := c__law_draw) hb (la_cons (le_var (i := 0)) (la_cons (le_op (ol_I0 fun _ _ _ => .int _) (le_var (i := 2)) (le_c (y := .int 1) fun _ => .int _)) la_nil))))) la_nil))))))))) h__law_machine⟩
end
def c__law_due : V → Ct := fun _ as R _ => match as with
  | [.d m, .d v] => ∃ ns : List Int, m = .tuple (ns.map PyData.int) ∧ R (.d (ledgerD ns v))
  | _ => False
def b__law_due (dk : V) : ASx :=
  (aSeq (aIfS (tOrA (tNotA (aB (aUn (gP tupD) (aVar 1)))) (tNotA (aB (aChain (gI0 fun i j => .bool (decide (i ≤ j))) (gI0 fun i j => .bool (decide (i ≤ j))) (aC (.int 1)) (aCB gLen (aCons (aVar 1) aNil)) (aC (.int 8)))))) (aRet (aC (.str "form"))) aNext)
      (aCut (aFor (aEnum (aCons (aVar 1) aNil)) (gT (gCons (gN 2) (gCons (gN 3) gNil))) (aIfS (tNotA (aB (aCall0 (c__law_is_run dk) (aCons (aVar 0) (aCons (aVar 3) aNil))))) (aRet (aTup (aCons (aC (.str "run")) (aCons (aVar 2) aNil)))) aNext))
      (aRet (aC (.none)))))
theorem l__law_due : ∀ (dk : V) (as : List A) (R : A → Prop) (Z : Ex → Prop), c__law_due dk as R Z → as.length = 2 := by
  intro dk as R Z h
  unfold c__law_due at h
  split at h
  · rfl
  · exact h.elim
theorem h__law_due : ∀ (dk : V) (as : List A) (R : A → Prop) (Z : Ex → Prop), as.length = 2 → c__law_due dk as R Z → b__law_due dk (ends0 R) (fun _ => R (.d .none)) (as ++ unA ((["machine", "value", "place", "single"] : List Str).length - 2)) := by
  intro dk as R Z hl h
  unfold c__law_due at h
  split at h
  · rename_i m v
    obtain ⟨ns, rfl, h⟩ := h
    cases v <;> simp only [b__law_due, ends0, wipeA, List.map, List.set, List.cons_append, List.nil_append, List.length_cons, List.length_nil, ite_true, ite_false, Bool.not_true, Bool.not_false, Bool.true_and, Bool.and_true, Bool.false_and, Bool.and_false, reduceIte, reduceCtorEq, Bool.false_eq_true, if_true, if_false, Nat.reduceAdd, Nat.reduceLeDiff, ne_eq, not_false_eq_true, eq_self, not_true_eq_false, Nat.reduceSub, Nat.reduceMul, Nat.reduceLT, Nat.reducePow, Int.reduceLE, Int.reduceLT, Int.reduceAdd, Int.reduceSub, Int.reduceMul, Int.reduceNeg, Int.reducePow, Int.reduceToNat, Int.reduceEq, Int.reduceBEq, Option.some.injEq, exists_eq_left', exists_eq_left, true_and, and_true, decide_true, decide_false, Nat.reduceBEq, Bool.or_true, Bool.true_or, Bool.or_false, Bool.false_or, aVar_e, aC_e, aRaw_e, aOp_e, aUn_e, aNot_e, aAnd_e, aOr_e, aChain_e, aTern_e, aNil_e, aCons_e, aTup_e, aLst_e, aB_e, tAndA_e, tOrA_e, tNotA_e, aCB_e, aCall_e, aCallK_e, aSl_e, aNoP_e, aCall0_e, gN_e, aNext_e, aSeq_e, aBrk_e, aCnt_e, aDrop_e, aRet_e, aRetN_e, aIfS_e, aAsg_e, aAug_e, aPar_e, aFor_e, aWhile_e, aYes_e, aIter_e, aEnum_e, aRange1_e, aRange2_e, aZip_e, aZipTL_e, aApp_e, aPopAt_e, aPop_e, aLenV_e, aIxV_e, aEqNilV_e, aTupV_e, aDnew_e, aListRg_e, aComp_e, aZip3T_e, aCallK0_e, gSetV_e, on_d, on_own, bl_b, it_i, ow_o, isOwn_o, seq_t, seq_l, seq_o, lst_l, lst_o, tup_t, same_t, same_l, one_1, fz_d, fz_r, fz_o, look_d, look_r, look_o, unA_0, unA_s, sl_0, sl_s, ons_n, ons_c, gI0_i, gI_i, gU_i, gIsN_n, gNotN_n, isNone_n, isNone_i, isNone_b, isNone_s, isNone_t, isNone_l, gEq_s, gNe_s, gIn_l, gIn_t, gNotIn_l, gNotIn_t, gIx_t, gIx_l, gCat_i, gCat_t, gCat_l, gMul_i, gMul_t, gMul_l, gCut_t, gCut_l, gP_x, intD_n, intD_b, intD_i, intD_s, intD_l, intD_t, intD_d, boolD_n, boolD_b, boolD_i, boolD_s, boolD_l, boolD_t, boolD_d, strD_n, strD_b, strD_i, strD_s, strD_l, strD_t, strD_d, tupD_n, tupD_b, tupD_i, tupD_s, tupD_l, tupD_t, tupD_d, wholeD_n, wholeD_b, wholeD_i, wholeD_s, wholeD_l, wholeD_t, wholeD_d, gLen_1, gTuple_1, gList_1, gInt_i, gInt_b, gAbs_i, gRepr_x, gAll_l, gAny_l, gSum_l, gGcd_i, gSorted_l, cDraw_1, two_1, three_1, cPick_1, gMax2_i, gMin2_i, gEqS_s, isStr_s, gNil_n, gCons_c, gT_t, gL_o, gL_l, at1_0, at2_0, at2_1, at3_0, at3_1, at3_2, cpow_e, cast_lit, abs_lit, aPart_e, gEq_i, gNe_i] <;> try exact h
    rename_i ds
    have hs : ledgerD ns (.tuple ds) = if 1 ≤ ds.length ∧ ds.length ≤ 8 then firstD "run" ds.length (fun i => !runD ns (ds.getD i .none)) else .str "form" := rfl
    rw [hs] at h
    by_cases h1 : 1 ≤ ds.length ∧ ds.length ≤ 8
    · rw [if_pos h1] at h
      simp only [show (1 : Int) ≤ (ds.length : Int) from by omega, show (ds.length : Int) ≤ 8 from by omega, decide_true, ends0, wipeA, List.map, List.set, List.cons_append, List.nil_append, List.length_cons, List.length_nil, ite_true, ite_false, Bool.not_true, Bool.not_false, Bool.true_and, Bool.and_true, Bool.false_and, Bool.and_false, reduceIte, reduceCtorEq, Bool.false_eq_true, if_true, if_false, Nat.reduceAdd, Nat.reduceLeDiff, ne_eq, not_false_eq_true, eq_self, not_true_eq_false, Nat.reduceSub, Nat.reduceMul, Nat.reduceLT, Nat.reducePow, Int.reduceLE, Int.reduceLT, Int.reduceAdd, Int.reduceSub, Int.reduceMul, Int.reduceNeg, Int.reducePow, Int.reduceToNat, Int.reduceEq, Int.reduceBEq, Option.some.injEq, exists_eq_left', exists_eq_left, true_and, and_true, decide_true, decide_false, Nat.reduceBEq, Bool.or_true, Bool.true_or, Bool.or_false, Bool.false_or, aVar_e, aC_e, aRaw_e, aOp_e, aUn_e, aNot_e, aAnd_e, aOr_e, aChain_e, aTern_e, aNil_e, aCons_e, aTup_e, aLst_e, aB_e, tAndA_e, tOrA_e, tNotA_e, aCB_e, aCall_e, aCallK_e, aSl_e, aNoP_e, aCall0_e, gN_e, aNext_e, aSeq_e, aBrk_e, aCnt_e, aDrop_e, aRet_e, aRetN_e, aIfS_e, aAsg_e, aAug_e, aPar_e, aFor_e, aWhile_e, aYes_e, aIter_e, aEnum_e, aRange1_e, aRange2_e, aZip_e, aZipTL_e, aApp_e, aPopAt_e, aPop_e, aLenV_e, aIxV_e, aEqNilV_e, aTupV_e, aDnew_e, aListRg_e, aComp_e, aZip3T_e, aCallK0_e, gSetV_e, on_d, on_own, bl_b, it_i, ow_o, isOwn_o, seq_t, seq_l, seq_o, lst_l, lst_o, tup_t, same_t, same_l, one_1, fz_d, fz_r, fz_o, look_d, look_r, look_o, unA_0, unA_s, sl_0, sl_s, ons_n, ons_c, gI0_i, gI_i, gU_i, gIsN_n, gNotN_n, isNone_n, isNone_i, isNone_b, isNone_s, isNone_t, isNone_l, gEq_s, gNe_s, gIn_l, gIn_t, gNotIn_l, gNotIn_t, gIx_t, gIx_l, gCat_i, gCat_t, gCat_l, gMul_i, gMul_t, gMul_l, gCut_t, gCut_l, gP_x, intD_n, intD_b, intD_i, intD_s, intD_l, intD_t, intD_d, boolD_n, boolD_b, boolD_i, boolD_s, boolD_l, boolD_t, boolD_d, strD_n, strD_b, strD_i, strD_s, strD_l, strD_t, strD_d, tupD_n, tupD_b, tupD_i, tupD_s, tupD_l, tupD_t, tupD_d, wholeD_n, wholeD_b, wholeD_i, wholeD_s, wholeD_l, wholeD_t, wholeD_d, gLen_1, gTuple_1, gList_1, gInt_i, gInt_b, gAbs_i, gRepr_x, gAll_l, gAny_l, gSum_l, gGcd_i, gSorted_l, cDraw_1, two_1, three_1, cPick_1, gMax2_i, gMin2_i, gEqS_s, isStr_s, gNil_n, gCons_c, gT_t, gL_o, gL_l, at1_0, at2_0, at2_1, at3_0, at3_1, at3_2, cpow_e, cast_lit, abs_lit, aPart_e, gEq_i, gNe_i]
      refine ⟨fun ρ => ∀ j, j < ds.length → runD ns (ds.getD j .none) = true, ?_, fun ρ hj => ?_⟩
      · simp only [ends0, wipeA, List.map, List.set, List.cons_append, List.nil_append, List.length_cons, List.length_nil, ite_true, ite_false, Bool.not_true, Bool.not_false, Bool.true_and, Bool.and_true, Bool.false_and, Bool.and_false, reduceIte, reduceCtorEq, Bool.false_eq_true, if_true, if_false, Nat.reduceAdd, Nat.reduceLeDiff, ne_eq, not_false_eq_true, eq_self, not_true_eq_false, Nat.reduceSub, Nat.reduceMul, Nat.reduceLT, Nat.reducePow, Int.reduceLE, Int.reduceLT, Int.reduceAdd, Int.reduceSub, Int.reduceMul, Int.reduceNeg, Int.reducePow, Int.reduceToNat, Int.reduceEq, Int.reduceBEq, Option.some.injEq, exists_eq_left', exists_eq_left, true_and, and_true, decide_true, decide_false, Nat.reduceBEq, Bool.or_true, Bool.true_or, Bool.or_false, Bool.false_or, aVar_e, aC_e, aRaw_e, aOp_e, aUn_e, aNot_e, aAnd_e, aOr_e, aChain_e, aTern_e, aNil_e, aCons_e, aTup_e, aLst_e, aB_e, tAndA_e, tOrA_e, tNotA_e, aCB_e, aCall_e, aCallK_e, aSl_e, aNoP_e, aCall0_e, gN_e, aNext_e, aSeq_e, aBrk_e, aCnt_e, aDrop_e, aRet_e, aRetN_e, aIfS_e, aAsg_e, aAug_e, aPar_e, aFor_e, aWhile_e, aYes_e, aIter_e, aEnum_e, aRange1_e, aRange2_e, aZip_e, aZipTL_e, aApp_e, aPopAt_e, aPop_e, aLenV_e, aIxV_e, aEqNilV_e, aTupV_e, aDnew_e, aListRg_e, aComp_e, aZip3T_e, aCallK0_e, gSetV_e, on_d, on_own, bl_b, it_i, ow_o, isOwn_o, seq_t, seq_l, seq_o, lst_l, lst_o, tup_t, same_t, same_l, one_1, fz_d, fz_r, fz_o, look_d, look_r, look_o, unA_0, unA_s, sl_0, sl_s, ons_n, ons_c, gI0_i, gI_i, gU_i, gIsN_n, gNotN_n, isNone_n, isNone_i, isNone_b, isNone_s, isNone_t, isNone_l, gEq_s, gNe_s, gIn_l, gIn_t, gNotIn_l, gNotIn_t, gIx_t, gIx_l, gCat_i, gCat_t, gCat_l, gMul_i, gMul_t, gMul_l, gCut_t, gCut_l, gP_x, intD_n, intD_b, intD_i, intD_s, intD_l, intD_t, intD_d, boolD_n, boolD_b, boolD_i, boolD_s, boolD_l, boolD_t, boolD_d, strD_n, strD_b, strD_i, strD_s, strD_l, strD_t, strD_d, tupD_n, tupD_b, tupD_i, tupD_s, tupD_l, tupD_t, tupD_d, wholeD_n, wholeD_b, wholeD_i, wholeD_s, wholeD_l, wholeD_t, wholeD_d, gLen_1, gTuple_1, gList_1, gInt_i, gInt_b, gAbs_i, gRepr_x, gAll_l, gAny_l, gSum_l, gGcd_i, gSorted_l, cDraw_1, two_1, three_1, cPick_1, gMax2_i, gMin2_i, gEqS_s, isStr_s, gNil_n, gCons_c, gT_t, gL_o, gL_l, at1_0, at2_0, at2_1, at3_0, at3_1, at3_2, cpow_e, cast_lit, abs_lit, aPart_e, gEq_i, gNe_i]
        refine ⟨fun i ρ => (∃ x y, ρ = [.d (.tuple (ns.map PyData.int)), .d (.tuple ds), x, y]) ∧ ∀ j, j < i → runD ns (ds.getD j .none) = true, ⟨⟨_, _, rfl⟩, fun j z => absurd z (Nat.not_lt_zero _)⟩, ?_, fun ρ hj => by rw [enumD_len] at hj; exact hj.2⟩
        rintro i ρ hi ⟨⟨x, y, rfl⟩, hj⟩
        rw [enumD_len] at hi
        rw [enumD_at hi]
        simp only [c__law_is_run, ends0, wipeA, List.map, List.set, List.cons_append, List.nil_append, List.length_cons, List.length_nil, ite_true, ite_false, Bool.not_true, Bool.not_false, Bool.true_and, Bool.and_true, Bool.false_and, Bool.and_false, reduceIte, reduceCtorEq, Bool.false_eq_true, if_true, if_false, Nat.reduceAdd, Nat.reduceLeDiff, ne_eq, not_false_eq_true, eq_self, not_true_eq_false, Nat.reduceSub, Nat.reduceMul, Nat.reduceLT, Nat.reducePow, Int.reduceLE, Int.reduceLT, Int.reduceAdd, Int.reduceSub, Int.reduceMul, Int.reduceNeg, Int.reducePow, Int.reduceToNat, Int.reduceEq, Int.reduceBEq, Option.some.injEq, exists_eq_left', exists_eq_left, true_and, and_true, decide_true, decide_false, Nat.reduceBEq, Bool.or_true, Bool.true_or, Bool.or_false, Bool.false_or, aVar_e, aC_e, aRaw_e, aOp_e, aUn_e, aNot_e, aAnd_e, aOr_e, aChain_e, aTern_e, aNil_e, aCons_e, aTup_e, aLst_e, aB_e, tAndA_e, tOrA_e, tNotA_e, aCB_e, aCall_e, aCallK_e, aSl_e, aNoP_e, aCall0_e, gN_e, aNext_e, aSeq_e, aBrk_e, aCnt_e, aDrop_e, aRet_e, aRetN_e, aIfS_e, aAsg_e, aAug_e, aPar_e, aFor_e, aWhile_e, aYes_e, aIter_e, aEnum_e, aRange1_e, aRange2_e, aZip_e, aZipTL_e, aApp_e, aPopAt_e, aPop_e, aLenV_e, aIxV_e, aEqNilV_e, aTupV_e, aDnew_e, aListRg_e, aComp_e, aZip3T_e, aCallK0_e, gSetV_e, on_d, on_own, bl_b, it_i, ow_o, isOwn_o, seq_t, seq_l, seq_o, lst_l, lst_o, tup_t, same_t, same_l, one_1, fz_d, fz_r, fz_o, look_d, look_r, look_o, unA_0, unA_s, sl_0, sl_s, ons_n, ons_c, gI0_i, gI_i, gU_i, gIsN_n, gNotN_n, isNone_n, isNone_i, isNone_b, isNone_s, isNone_t, isNone_l, gEq_s, gNe_s, gIn_l, gIn_t, gNotIn_l, gNotIn_t, gIx_t, gIx_l, gCat_i, gCat_t, gCat_l, gMul_i, gMul_t, gMul_l, gCut_t, gCut_l, gP_x, intD_n, intD_b, intD_i, intD_s, intD_l, intD_t, intD_d, boolD_n, boolD_b, boolD_i, boolD_s, boolD_l, boolD_t, boolD_d, strD_n, strD_b, strD_i, strD_s, strD_l, strD_t, strD_d, tupD_n, tupD_b, tupD_i, tupD_s, tupD_l, tupD_t, tupD_d, wholeD_n, wholeD_b, wholeD_i, wholeD_s, wholeD_l, wholeD_t, wholeD_d, gLen_1, gTuple_1, gList_1, gInt_i, gInt_b, gAbs_i, gRepr_x, gAll_l, gAny_l, gSum_l, gGcd_i, gSorted_l, cDraw_1, two_1, three_1, cPick_1, gMax2_i, gMin2_i, gEqS_s, isStr_s, gNil_n, gCons_c, gT_t, gL_o, gL_l, at1_0, at2_0, at2_1, at3_0, at3_1, at3_2, cpow_e, cast_lit, abs_lit, aPart_e, gEq_i, gNe_i]
        refine ⟨ns, rfl, ?_⟩
        cases e : runD ns (ds.getD i .none)
        · simp only [ends0, wipeA, List.map, List.set, List.cons_append, List.nil_append, List.length_cons, List.length_nil, ite_true, ite_false, Bool.not_true, Bool.not_false, Bool.true_and, Bool.and_true, Bool.false_and, Bool.and_false, reduceIte, reduceCtorEq, Bool.false_eq_true, if_true, if_false, Nat.reduceAdd, Nat.reduceLeDiff, ne_eq, not_false_eq_true, eq_self, not_true_eq_false, Nat.reduceSub, Nat.reduceMul, Nat.reduceLT, Nat.reducePow, Int.reduceLE, Int.reduceLT, Int.reduceAdd, Int.reduceSub, Int.reduceMul, Int.reduceNeg, Int.reducePow, Int.reduceToNat, Int.reduceEq, Int.reduceBEq, Option.some.injEq, exists_eq_left', exists_eq_left, true_and, and_true, decide_true, decide_false, Nat.reduceBEq, Bool.or_true, Bool.true_or, Bool.or_false, Bool.false_or, aVar_e, aC_e, aRaw_e, aOp_e, aUn_e, aNot_e, aAnd_e, aOr_e, aChain_e, aTern_e, aNil_e, aCons_e, aTup_e, aLst_e, aB_e, tAndA_e, tOrA_e, tNotA_e, aCB_e, aCall_e, aCallK_e, aSl_e, aNoP_e, aCall0_e, gN_e, aNext_e, aSeq_e, aBrk_e, aCnt_e, aDrop_e, aRet_e, aRetN_e, aIfS_e, aAsg_e, aAug_e, aPar_e, aFor_e, aWhile_e, aYes_e, aIter_e, aEnum_e, aRange1_e, aRange2_e, aZip_e, aZipTL_e, aApp_e, aPopAt_e, aPop_e, aLenV_e, aIxV_e, aEqNilV_e, aTupV_e, aDnew_e, aListRg_e, aComp_e, aZip3T_e, aCallK0_e, gSetV_e, on_d, on_own, bl_b, it_i, ow_o, isOwn_o, seq_t, seq_l, seq_o, lst_l, lst_o, tup_t, same_t, same_l, one_1, fz_d, fz_r, fz_o, look_d, look_r, look_o, unA_0, unA_s, sl_0, sl_s, ons_n, ons_c, gI0_i, gI_i, gU_i, gIsN_n, gNotN_n, isNone_n, isNone_i, isNone_b, isNone_s, isNone_t, isNone_l, gEq_s, gNe_s, gIn_l, gIn_t, gNotIn_l, gNotIn_t, gIx_t, gIx_l, gCat_i, gCat_t, gCat_l, gMul_i, gMul_t, gMul_l, gCut_t, gCut_l, gP_x, intD_n, intD_b, intD_i, intD_s, intD_l, intD_t, intD_d, boolD_n, boolD_b, boolD_i, boolD_s, boolD_l, boolD_t, boolD_d, strD_n, strD_b, strD_i, strD_s, strD_l, strD_t, strD_d, tupD_n, tupD_b, tupD_i, tupD_s, tupD_l, tupD_t, tupD_d, wholeD_n, wholeD_b, wholeD_i, wholeD_s, wholeD_l, wholeD_t, wholeD_d, gLen_1, gTuple_1, gList_1, gInt_i, gInt_b, gAbs_i, gRepr_x, gAll_l, gAny_l, gSum_l, gGcd_i, gSorted_l, cDraw_1, two_1, three_1, cPick_1, gMax2_i, gMin2_i, gEqS_s, isStr_s, gNil_n, gCons_c, gT_t, gL_o, gL_l, at1_0, at2_0, at2_1, at3_0, at3_1, at3_2, cpow_e, cast_lit, abs_lit, aPart_e, gEq_i, gNe_i]
          rw [first_at hi (by rw [e] <;> rfl) fun j z => by rw [hj j z] <;> rfl] at h
          exact h
        · simp only [ends0, wipeA, List.map, List.set, List.cons_append, List.nil_append, List.length_cons, List.length_nil, ite_true, ite_false, Bool.not_true, Bool.not_false, Bool.true_and, Bool.and_true, Bool.false_and, Bool.and_false, reduceIte, reduceCtorEq, Bool.false_eq_true, if_true, if_false, Nat.reduceAdd, Nat.reduceLeDiff, ne_eq, not_false_eq_true, eq_self, not_true_eq_false, Nat.reduceSub, Nat.reduceMul, Nat.reduceLT, Nat.reducePow, Int.reduceLE, Int.reduceLT, Int.reduceAdd, Int.reduceSub, Int.reduceMul, Int.reduceNeg, Int.reducePow, Int.reduceToNat, Int.reduceEq, Int.reduceBEq, Option.some.injEq, exists_eq_left', exists_eq_left, true_and, and_true, decide_true, decide_false, Nat.reduceBEq, Bool.or_true, Bool.true_or, Bool.or_false, Bool.false_or, aVar_e, aC_e, aRaw_e, aOp_e, aUn_e, aNot_e, aAnd_e, aOr_e, aChain_e, aTern_e, aNil_e, aCons_e, aTup_e, aLst_e, aB_e, tAndA_e, tOrA_e, tNotA_e, aCB_e, aCall_e, aCallK_e, aSl_e, aNoP_e, aCall0_e, gN_e, aNext_e, aSeq_e, aBrk_e, aCnt_e, aDrop_e, aRet_e, aRetN_e, aIfS_e, aAsg_e, aAug_e, aPar_e, aFor_e, aWhile_e, aYes_e, aIter_e, aEnum_e, aRange1_e, aRange2_e, aZip_e, aZipTL_e, aApp_e, aPopAt_e, aPop_e, aLenV_e, aIxV_e, aEqNilV_e, aTupV_e, aDnew_e, aListRg_e, aComp_e, aZip3T_e, aCallK0_e, gSetV_e, on_d, on_own, bl_b, it_i, ow_o, isOwn_o, seq_t, seq_l, seq_o, lst_l, lst_o, tup_t, same_t, same_l, one_1, fz_d, fz_r, fz_o, look_d, look_r, look_o, unA_0, unA_s, sl_0, sl_s, ons_n, ons_c, gI0_i, gI_i, gU_i, gIsN_n, gNotN_n, isNone_n, isNone_i, isNone_b, isNone_s, isNone_t, isNone_l, gEq_s, gNe_s, gIn_l, gIn_t, gNotIn_l, gNotIn_t, gIx_t, gIx_l, gCat_i, gCat_t, gCat_l, gMul_i, gMul_t, gMul_l, gCut_t, gCut_l, gP_x, intD_n, intD_b, intD_i, intD_s, intD_l, intD_t, intD_d, boolD_n, boolD_b, boolD_i, boolD_s, boolD_l, boolD_t, boolD_d, strD_n, strD_b, strD_i, strD_s, strD_l, strD_t, strD_d, tupD_n, tupD_b, tupD_i, tupD_s, tupD_l, tupD_t, tupD_d, wholeD_n, wholeD_b, wholeD_i, wholeD_s, wholeD_l, wholeD_t, wholeD_d, gLen_1, gTuple_1, gList_1, gInt_i, gInt_b, gAbs_i, gRepr_x, gAll_l, gAny_l, gSum_l, gGcd_i, gSorted_l, cDraw_1, two_1, three_1, cPick_1, gMax2_i, gMin2_i, gEqS_s, isStr_s, gNil_n, gCons_c, gT_t, gL_o, gL_l, at1_0, at2_0, at2_1, at3_0, at3_1, at3_2, cpow_e, cast_lit, abs_lit, aPart_e, gEq_i, gNe_i]
          refine ⟨⟨_, _, rfl⟩, fun j z => ?_⟩
          by_cases hji : j < i
          · exact hj j hji
          · obtain rfl : j = i := by omega
            exact e
      · simp only [ends0, wipeA, List.map, List.set, List.cons_append, List.nil_append, List.length_cons, List.length_nil, ite_true, ite_false, Bool.not_true, Bool.not_false, Bool.true_and, Bool.and_true, Bool.false_and, Bool.and_false, reduceIte, reduceCtorEq, Bool.false_eq_true, if_true, if_false, Nat.reduceAdd, Nat.reduceLeDiff, ne_eq, not_false_eq_true, eq_self, not_true_eq_false, Nat.reduceSub, Nat.reduceMul, Nat.reduceLT, Nat.reducePow, Int.reduceLE, Int.reduceLT, Int.reduceAdd, Int.reduceSub, Int.reduceMul, Int.reduceNeg, Int.reducePow, Int.reduceToNat, Int.reduceEq, Int.reduceBEq, Option.some.injEq, exists_eq_left', exists_eq_left, true_and, and_true, decide_true, decide_false, Nat.reduceBEq, Bool.or_true, Bool.true_or, Bool.or_false, Bool.false_or, aVar_e, aC_e, aRaw_e, aOp_e, aUn_e, aNot_e, aAnd_e, aOr_e, aChain_e, aTern_e, aNil_e, aCons_e, aTup_e, aLst_e, aB_e, tAndA_e, tOrA_e, tNotA_e, aCB_e, aCall_e, aCallK_e, aSl_e, aNoP_e, aCall0_e, gN_e, aNext_e, aSeq_e, aBrk_e, aCnt_e, aDrop_e, aRet_e, aRetN_e, aIfS_e, aAsg_e, aAug_e, aPar_e, aFor_e, aWhile_e, aYes_e, aIter_e, aEnum_e, aRange1_e, aRange2_e, aZip_e, aZipTL_e, aApp_e, aPopAt_e, aPop_e, aLenV_e, aIxV_e, aEqNilV_e, aTupV_e, aDnew_e, aListRg_e, aComp_e, aZip3T_e, aCallK0_e, gSetV_e, on_d, on_own, bl_b, it_i, ow_o, isOwn_o, seq_t, seq_l, seq_o, lst_l, lst_o, tup_t, same_t, same_l, one_1, fz_d, fz_r, fz_o, look_d, look_r, look_o, unA_0, unA_s, sl_0, sl_s, ons_n, ons_c, gI0_i, gI_i, gU_i, gIsN_n, gNotN_n, isNone_n, isNone_i, isNone_b, isNone_s, isNone_t, isNone_l, gEq_s, gNe_s, gIn_l, gIn_t, gNotIn_l, gNotIn_t, gIx_t, gIx_l, gCat_i, gCat_t, gCat_l, gMul_i, gMul_t, gMul_l, gCut_t, gCut_l, gP_x, intD_n, intD_b, intD_i, intD_s, intD_l, intD_t, intD_d, boolD_n, boolD_b, boolD_i, boolD_s, boolD_l, boolD_t, boolD_d, strD_n, strD_b, strD_i, strD_s, strD_l, strD_t, strD_d, tupD_n, tupD_b, tupD_i, tupD_s, tupD_l, tupD_t, tupD_d, wholeD_n, wholeD_b, wholeD_i, wholeD_s, wholeD_l, wholeD_t, wholeD_d, gLen_1, gTuple_1, gList_1, gInt_i, gInt_b, gAbs_i, gRepr_x, gAll_l, gAny_l, gSum_l, gGcd_i, gSorted_l, cDraw_1, two_1, three_1, cPick_1, gMax2_i, gMin2_i, gEqS_s, isStr_s, gNil_n, gCons_c, gT_t, gL_o, gL_l, at1_0, at2_0, at2_1, at3_0, at3_1, at3_2, cpow_e, cast_lit, abs_lit, aPart_e, gEq_i, gNe_i]
        rw [first_no fun j z => by rw [hj j z] <;> rfl] at h
        exact h
    · rw [if_neg h1] at h
      by_cases h2 : (1 : Int) ≤ (ds.length : Int)
      · simp only [h2, show ¬ (ds.length : Int) ≤ 8 from by omega, decide_true, decide_false, ends0, wipeA, List.map, List.set, List.cons_append, List.nil_append, List.length_cons, List.length_nil, ite_true, ite_false, Bool.not_true, Bool.not_false, Bool.true_and, Bool.and_true, Bool.false_and, Bool.and_false, reduceIte, reduceCtorEq, Bool.false_eq_true, if_true, if_false, Nat.reduceAdd, Nat.reduceLeDiff, ne_eq, not_false_eq_true, eq_self, not_true_eq_false, Nat.reduceSub, Nat.reduceMul, Nat.reduceLT, Nat.reducePow, Int.reduceLE, Int.reduceLT, Int.reduceAdd, Int.reduceSub, Int.reduceMul, Int.reduceNeg, Int.reducePow, Int.reduceToNat, Int.reduceEq, Int.reduceBEq, Option.some.injEq, exists_eq_left', exists_eq_left, true_and, and_true, decide_true, decide_false, Nat.reduceBEq, Bool.or_true, Bool.true_or, Bool.or_false, Bool.false_or, aVar_e, aC_e, aRaw_e, aOp_e, aUn_e, aNot_e, aAnd_e, aOr_e, aChain_e, aTern_e, aNil_e, aCons_e, aTup_e, aLst_e, aB_e, tAndA_e, tOrA_e, tNotA_e, aCB_e, aCall_e, aCallK_e, aSl_e, aNoP_e, aCall0_e, gN_e, aNext_e, aSeq_e, aBrk_e, aCnt_e, aDrop_e, aRet_e, aRetN_e, aIfS_e, aAsg_e, aAug_e, aPar_e, aFor_e, aWhile_e, aYes_e, aIter_e, aEnum_e, aRange1_e, aRange2_e, aZip_e, aZipTL_e, aApp_e, aPopAt_e, aPop_e, aLenV_e, aIxV_e, aEqNilV_e, aTupV_e, aDnew_e, aListRg_e, aComp_e, aZip3T_e, aCallK0_e, gSetV_e, on_d, on_own, bl_b, it_i, ow_o, isOwn_o, seq_t, seq_l, seq_o, lst_l, lst_o, tup_t, same_t, same_l, one_1, fz_d, fz_r, fz_o, look_d, look_r, look_o, unA_0, unA_s, sl_0, sl_s, ons_n, ons_c, gI0_i, gI_i, gU_i, gIsN_n, gNotN_n, isNone_n, isNone_i, isNone_b, isNone_s, isNone_t, isNone_l, gEq_s, gNe_s, gIn_l, gIn_t, gNotIn_l, gNotIn_t, gIx_t, gIx_l, gCat_i, gCat_t, gCat_l, gMul_i, gMul_t, gMul_l, gCut_t, gCut_l, gP_x, intD_n, intD_b, intD_i, intD_s, intD_l, intD_t, intD_d, boolD_n, boolD_b, boolD_i, boolD_s, boolD_l, boolD_t, boolD_d, strD_n, strD_b, strD_i, strD_s, strD_l, strD_t, strD_d, tupD_n, tupD_b, tupD_i, tupD_s, tupD_l, tupD_t, tupD_d, wholeD_n, wholeD_b, wholeD_i, wholeD_s, wholeD_l, wholeD_t, wholeD_d, gLen_1, gTuple_1, gList_1, gInt_i, gInt_b, gAbs_i, gRepr_x, gAll_l, gAny_l, gSum_l, gGcd_i, gSorted_l, cDraw_1, two_1, three_1, cPick_1, gMax2_i, gMin2_i, gEqS_s, isStr_s, gNil_n, gCons_c, gT_t, gL_o, gL_l, at1_0, at2_0, at2_1, at3_0, at3_1, at3_2, cpow_e, cast_lit, abs_lit, aPart_e, gEq_i, gNe_i]
        exact h
      · simp only [h2, decide_false, ends0, wipeA, List.map, List.set, List.cons_append, List.nil_append, List.length_cons, List.length_nil, ite_true, ite_false, Bool.not_true, Bool.not_false, Bool.true_and, Bool.and_true, Bool.false_and, Bool.and_false, reduceIte, reduceCtorEq, Bool.false_eq_true, if_true, if_false, Nat.reduceAdd, Nat.reduceLeDiff, ne_eq, not_false_eq_true, eq_self, not_true_eq_false, Nat.reduceSub, Nat.reduceMul, Nat.reduceLT, Nat.reducePow, Int.reduceLE, Int.reduceLT, Int.reduceAdd, Int.reduceSub, Int.reduceMul, Int.reduceNeg, Int.reducePow, Int.reduceToNat, Int.reduceEq, Int.reduceBEq, Option.some.injEq, exists_eq_left', exists_eq_left, true_and, and_true, decide_true, decide_false, Nat.reduceBEq, Bool.or_true, Bool.true_or, Bool.or_false, Bool.false_or, aVar_e, aC_e, aRaw_e, aOp_e, aUn_e, aNot_e, aAnd_e, aOr_e, aChain_e, aTern_e, aNil_e, aCons_e, aTup_e, aLst_e, aB_e, tAndA_e, tOrA_e, tNotA_e, aCB_e, aCall_e, aCallK_e, aSl_e, aNoP_e, aCall0_e, gN_e, aNext_e, aSeq_e, aBrk_e, aCnt_e, aDrop_e, aRet_e, aRetN_e, aIfS_e, aAsg_e, aAug_e, aPar_e, aFor_e, aWhile_e, aYes_e, aIter_e, aEnum_e, aRange1_e, aRange2_e, aZip_e, aZipTL_e, aApp_e, aPopAt_e, aPop_e, aLenV_e, aIxV_e, aEqNilV_e, aTupV_e, aDnew_e, aListRg_e, aComp_e, aZip3T_e, aCallK0_e, gSetV_e, on_d, on_own, bl_b, it_i, ow_o, isOwn_o, seq_t, seq_l, seq_o, lst_l, lst_o, tup_t, same_t, same_l, one_1, fz_d, fz_r, fz_o, look_d, look_r, look_o, unA_0, unA_s, sl_0, sl_s, ons_n, ons_c, gI0_i, gI_i, gU_i, gIsN_n, gNotN_n, isNone_n, isNone_i, isNone_b, isNone_s, isNone_t, isNone_l, gEq_s, gNe_s, gIn_l, gIn_t, gNotIn_l, gNotIn_t, gIx_t, gIx_l, gCat_i, gCat_t, gCat_l, gMul_i, gMul_t, gMul_l, gCut_t, gCut_l, gP_x, intD_n, intD_b, intD_i, intD_s, intD_l, intD_t, intD_d, boolD_n, boolD_b, boolD_i, boolD_s, boolD_l, boolD_t, boolD_d, strD_n, strD_b, strD_i, strD_s, strD_l, strD_t, strD_d, tupD_n, tupD_b, tupD_i, tupD_s, tupD_l, tupD_t, tupD_d, wholeD_n, wholeD_b, wholeD_i, wholeD_s, wholeD_l, wholeD_t, wholeD_d, gLen_1, gTuple_1, gList_1, gInt_i, gInt_b, gAbs_i, gRepr_x, gAll_l, gAny_l, gSum_l, gGcd_i, gSorted_l, cDraw_1, two_1, three_1, cPick_1, gMax2_i, gMin2_i, gEqS_s, isStr_s, gNil_n, gCons_c, gT_t, gL_o, gL_l, at1_0, at2_0, at2_1, at3_0, at3_1, at3_2, cpow_e, cast_lit, abs_lit, aPart_e, gEq_i, gNe_i]
        exact h
  · exact h.elim
abbrev sp__law_due (K : PySem.W.Frag) : Sp := SpL K noBox c__law_due
section
variable {P : Program} {w : World} {K : PySem.W.Frag} {mg : Str → Option Value} {base : Heap} {a : Adr}
theorem ok__law_due (T : Txt K mg a) : FnOk P w K mg base CX0 3 a.f__law_due a.d__law_due ["machine", "value"] (sp__law_due K) := by
  have G__law_is_run : FnOk P w K mg base CX0 2 a.f__law_is_run a.d__law_is_run ["machine", "value"] (sp__law_is_run K) := ok__law_is_run T
  refine T._law_due.F.ok sc__law_due (fun vs H Q E h => sp_len l__law_due h) (fun cdv A outer s H vs Q E hr h => ?_)
  have hu := hu_of hr
  exact ⟨_, (pss_cons (ps_if (PW.pt (pw_or (pt_not (pt_val (pe_callB (show CallR _ _ (rIsi K) from call_isi) (by rfl) T.b_isinstance (by decide +kernel) (pa_cons (pv 1) (pa_cons (pe_bltn (v := .ty "tuple") rfl T.b_tuple (by decide +kernel) rfl) pa_nil))))) (pw_or1 (pt_not (pt_chain op_le op_le pe_int (pe_callB (show CallR _ _ (Sx.rLenS K) from call_len_seq) (by rfl) T.b_len (by decide +kernel) (pa_cons (pv 1) pa_nil)) pe_int))))) (pss_one (ps_ret pe_str)) pss_nil)
      (pss_cons (ps_for PassesOwn.never rfl (show PI _ _ _ (iEnumA K _) from pi_enumA (by rfl) T.b_enumerate (pa_cons (pv 1) pa_nil)) (show PG _ _ (gTup K 2 _) from pg_tup rfl (pgs_cons (pg_name (i := 2) sc__law_due.nd rfl (by first | exact Or.inl rfl | exact Or.inr rfl)) (pgs_cons (pg_name (i := 3) sc__law_due.nd rfl (by first | exact Or.inl rfl | exact Or.inr rfl)) pgs_nil))) (pss_one (ps_if (pt_not (pt_val (pe_call G__law_is_run hr (by rfl) T._law_is_run.m T._law_is_run.F.kp T._law_is_run.b .nil pass0 (pa_cons (pv 0) (pa_cons (pv 3) pa_nil))))) (pss_one (ps_ret (pe_tup (pa_cons pe_str (pa_cons (pv 2) pa_nil))))) pss_nil)))
      (pss_one (ps_ret pe_non)))),
    run0 (N := ["machine", "value", "place", "single"]) (np := 2) (f := b__law_due) h (sp_len l__law_due h) (fun dk B hb => (show LS B K Wno _ (b__law_due dk) from
      (ls_seq (ls_if (lt_or (lt_not (lt_b (le_isi (p := tupD) kit_tuple (le_var (i := 1))))) (lt_not (lt_test (le_chain (ol_I0 fun _ _ _ => .bl _) (ol_I0 fun _ _ _ => .bl _) (le_c (y := .int 1) fun _ => .int _) (le_cb cl_len (la_cons (le_var (i := 1)) la_nil)) (le_c (y := .int 8) fun _ => .int _))))) (ls_ret (le_c (y := .str "form") fun _ => .str _)) ls_next)
      (ls_cut (ls_for (li_enum (la_cons (le_var (i := 1)) la_nil)) (lg_tup (lgs_cons (lg_name (i := 2)) (lgs_cons (lg_name (i := 3)) lgs_nil)) (gC_len (gC_len gN_len))) (ls_if (lt_not (lt_b (le_call0 (dk := dk) (c := c__law_is_run) trivial (la_cons (le_var (i := 0)) (la_cons (le_var (i := 3)) la_nil))))) (ls_ret (le_tup (la_cons (le_c (y := .str "run") fun _ => .str _) (la_cons (le_var (i := 2)) la_nil)) (by decide))) ls_next))
      (ls_ret (le_c (y := .none) fun _ => .non)))))) h__law_due⟩
end
def c__law_run : V → Ct := fun dk as R _ => match as with
  | [.raw v, .d x] => v = dk ∧ ∃ ns : List Int, x = .tuple (ns.map PyData.int) ∧ 1 ≤ ns.length ∧ ns.length ≤ 10 ∧ (∀ n ∈ ns, 2 ≤ n ∧ n ≤ 1000000) ∧ ∀ d, runOk ns d → R (.d d)
  | _ => False
def b__law_run (dk : V) : ASx :=
  (aSeq (aAsg (aCB gTuple (aCons (aComp (aIter (aVar 1)) (gN 4) aYes (aTern (aB (aOp (gEq) (aCall0 (c__law_draw dk) (aCons (aVar 0) (aCons (aC (.int 5)) aNil))) (aC (.int 0)))) (aC (.none)) (aCall0 (c__law_draw dk) (aCons (aVar 0) (aCons (aVar 4) aNil)))) [4]) aNil)) (gN 2))
      (aSeq (aAsg (aCall0 (c__law_pick dk) (aCons (aVar 0) (aCons (aLst (aCons (aC (.int 0)) (aCons (aUn (gU fun i => .int (-i)) (aC (.int 5))) (aCons (aC (.int 7)) (aCons (aUn (gU fun i => .int (-i)) (aOp (gI CPow fun i j => .int (i ^ j.toNat)) (aC (.int 10)) (aC (.int 60)))) (aCons (aOp (gI CPow fun i j => .int (i ^ j.toNat)) (aC (.int 10)) (aC (.int 59))) aNil)))))) aNil))) (gN 3))
      (aRet (aTup (aCons (aVar 2) (aCons (aTup (aCons (aVar 3) (aCons (aOp (gCat) (aVar 3) (aCall0 (c__law_pick dk) (aCons (aVar 0) (aCons (aLst (aCons (aC (.int 0)) (aCons (aC (.int 1)) (aCons (aC (.int 60)) (aCons (aOp (gI CPow fun i j => .int (i ^ j.toNat)) (aC (.int 10)) (aC (.int 58))) aNil))))) aNil)))) aNil))) aNil))))))
theorem l__law_run : ∀ (dk : V) (as : List A) (R : A → Prop) (Z : Ex → Prop), c__law_run dk as R Z → as.length = 2 := by
  intro dk as R Z h
  unfold c__law_run at h
  split at h
  · rfl
  · exact h.elim
theorem h__law_run : ∀ (dk : V) (as : List A) (R : A → Prop) (Z : Ex → Prop), as.length = 2 → c__law_run dk as R Z → b__law_run dk (ends0 R) (fun _ => R (.d .none)) (as ++ unA ((["deck", "machine", "word", "low", "modulus"] : List Str).length - 2)) := by
  intro dk as R Z hl h
  unfold c__law_run at h
  split at h
  · rename_i v x
    obtain ⟨rfl, ns, rfl, l1, l10, hn, h⟩ := h
    simp only [b__law_run, ends0, wipeA, List.map, List.set, List.cons_append, List.nil_append, List.length_cons, List.length_nil, ite_true, ite_false, Bool.not_true, Bool.not_false, Bool.true_and, Bool.and_true, Bool.false_and, Bool.and_false, reduceIte, reduceCtorEq, Bool.false_eq_true, if_true, if_false, Nat.reduceAdd, Nat.reduceLeDiff, ne_eq, not_false_eq_true, eq_self, not_true_eq_false, Nat.reduceSub, Nat.reduceMul, Nat.reduceLT, Nat.reducePow, Int.reduceLE, Int.reduceLT, Int.reduceAdd, Int.reduceSub, Int.reduceMul, Int.reduceNeg, Int.reducePow, Int.reduceToNat, Int.reduceEq, Int.reduceBEq, Option.some.injEq, exists_eq_left', exists_eq_left, true_and, and_true, decide_true, decide_false, Nat.reduceBEq, Bool.or_true, Bool.true_or, Bool.or_false, Bool.false_or, aVar_e, aC_e, aRaw_e, aOp_e, aUn_e, aNot_e, aAnd_e, aOr_e, aChain_e, aTern_e, aNil_e, aCons_e, aTup_e, aLst_e, aB_e, tAndA_e, tOrA_e, tNotA_e, aCB_e, aCall_e, aCallK_e, aSl_e, aNoP_e, aCall0_e, gN_e, aNext_e, aSeq_e, aBrk_e, aCnt_e, aDrop_e, aRet_e, aRetN_e, aIfS_e, aAsg_e, aAug_e, aPar_e, aFor_e, aWhile_e, aYes_e, aIter_e, aEnum_e, aRange1_e, aRange2_e, aZip_e, aZipTL_e, aApp_e, aPopAt_e, aPop_e, aLenV_e, aIxV_e, aEqNilV_e, aTupV_e, aDnew_e, aListRg_e, aComp_e, aZip3T_e, aCallK0_e, gSetV_e, on_d, on_own, bl_b, it_i, ow_o, isOwn_o, seq_t, seq_l, seq_o, lst_l, lst_o, tup_t, same_t, same_l, one_1, fz_d, fz_r, fz_o, look_d, look_r, look_o, unA_0, unA_s, sl_0, sl_s, ons_n, ons_c, gI0_i, gI_i, gU_i, gIsN_n, gNotN_n, isNone_n, isNone_i, isNone_b, isNone_s, isNone_t, isNone_l, gEq_s, gNe_s, gIn_l, gIn_t, gNotIn_l, gNotIn_t, gIx_t, gIx_l, gCat_i, gCat_t, gCat_l, gMul_i, gMul_t, gMul_l, gCut_t, gCut_l, gP_x, intD_n, intD_b, intD_i, intD_s, intD_l, intD_t, intD_d, boolD_n, boolD_b, boolD_i, boolD_s, boolD_l, boolD_t, boolD_d, strD_n, strD_b, strD_i, strD_s, strD_l, strD_t, strD_d, tupD_n, tupD_b, tupD_i, tupD_s, tupD_l, tupD_t, tupD_d, wholeD_n, wholeD_b, wholeD_i, wholeD_s, wholeD_l, wholeD_t, wholeD_d, gLen_1, gTuple_1, gList_1, gInt_i, gInt_b, gAbs_i, gRepr_x, gAll_l, gAny_l, gSum_l, gGcd_i, gSorted_l, cDraw_1, two_1, three_1, cPick_1, gMax2_i, gMin2_i, gEqS_s, isStr_s, gNil_n, gCons_c, gT_t, gL_o, gL_l, at1_0, at2_0, at2_1, at3_0, at3_1, at3_2, cpow_e, cast_lit, abs_lit, aPart_e, gEq_i, gNe_i]
    refine comp_each (fun _ y => wOk y) (by rw [List.length_map]; omega) (fun d hd J hJ => ?_) fun ys hl hy => ?_
    · obtain ⟨n, hm, rfl⟩ := List.mem_map.mp hd
      obtain ⟨n2, n9⟩ := hn n hm
      simp only [c__law_draw, ends0, wipeA, List.map, List.set, List.cons_append, List.nil_append, List.length_cons, List.length_nil, ite_true, ite_false, Bool.not_true, Bool.not_false, Bool.true_and, Bool.and_true, Bool.false_and, Bool.and_false, reduceIte, reduceCtorEq, Bool.false_eq_true, if_true, if_false, Nat.reduceAdd, Nat.reduceLeDiff, ne_eq, not_false_eq_true, eq_self, not_true_eq_false, Nat.reduceSub, Nat.reduceMul, Nat.reduceLT, Nat.reducePow, Int.reduceLE, Int.reduceLT, Int.reduceAdd, Int.reduceSub, Int.reduceMul, Int.reduceNeg, Int.reducePow, Int.reduceToNat, Int.reduceEq, Int.reduceBEq, Option.some.injEq, exists_eq_left', exists_eq_left, true_and, and_true, decide_true, decide_false, Nat.reduceBEq, Bool.or_true, Bool.true_or, Bool.or_false, Bool.false_or, aVar_e, aC_e, aRaw_e, aOp_e, aUn_e, aNot_e, aAnd_e, aOr_e, aChain_e, aTern_e, aNil_e, aCons_e, aTup_e, aLst_e, aB_e, tAndA_e, tOrA_e, tNotA_e, aCB_e, aCall_e, aCallK_e, aSl_e, aNoP_e, aCall0_e, gN_e, aNext_e, aSeq_e, aBrk_e, aCnt_e, aDrop_e, aRet_e, aRetN_e, aIfS_e, aAsg_e, aAug_e, aPar_e, aFor_e, aWhile_e, aYes_e, aIter_e, aEnum_e, aRange1_e, aRange2_e, aZip_e, aZipTL_e, aApp_e, aPopAt_e, aPop_e, aLenV_e, aIxV_e, aEqNilV_e, aTupV_e, aDnew_e, aListRg_e, aComp_e, aZip3T_e, aCallK0_e, gSetV_e, on_d, on_own, bl_b, it_i, ow_o, isOwn_o, seq_t, seq_l, seq_o, lst_l, lst_o, tup_t, same_t, same_l, one_1, fz_d, fz_r, fz_o, look_d, look_r, look_o, unA_0, unA_s, sl_0, sl_s, ons_n, ons_c, gI0_i, gI_i, gU_i, gIsN_n, gNotN_n, isNone_n, isNone_i, isNone_b, isNone_s, isNone_t, isNone_l, gEq_s, gNe_s, gIn_l, gIn_t, gNotIn_l, gNotIn_t, gIx_t, gIx_l, gCat_i, gCat_t, gCat_l, gMul_i, gMul_t, gMul_l, gCut_t, gCut_l, gP_x, intD_n, intD_b, intD_i, intD_s, intD_l, intD_t, intD_d, boolD_n, boolD_b, boolD_i, boolD_s, boolD_l, boolD_t, boolD_d, strD_n, strD_b, strD_i, strD_s, strD_l, strD_t, strD_d, tupD_n, tupD_b, tupD_i, tupD_s, tupD_l, tupD_t, tupD_d, wholeD_n, wholeD_b, wholeD_i, wholeD_s, wholeD_l, wholeD_t, wholeD_d, gLen_1, gTuple_1, gList_1, gInt_i, gInt_b, gAbs_i, gRepr_x, gAll_l, gAny_l, gSum_l, gGcd_i, gSorted_l, cDraw_1, two_1, three_1, cPick_1, gMax2_i, gMin2_i, gEqS_s, isStr_s, gNil_n, gCons_c, gT_t, gL_o, gL_l, at1_0, at2_0, at2_1, at3_0, at3_1, at3_2, cpow_e, cast_lit, abs_lit, aPart_e, gEq_i, gNe_i]
      refine ⟨small_of (by decide) (by decide), fun r r0 r1 => ?_⟩
      split
      · exact hJ _ (.inl rfl)
      · exact ⟨small_of (by omega) (by omega), fun k k0 k1 => hJ _ (.inr ⟨k, rfl, k0, by omega⟩)⟩
    · rw [List.length_map] at hl hy
      simp only [c__law_pick, ends0, wipeA, List.map, List.set, List.cons_append, List.nil_append, List.length_cons, List.length_nil, ite_true, ite_false, Bool.not_true, Bool.not_false, Bool.true_and, Bool.and_true, Bool.false_and, Bool.and_false, reduceIte, reduceCtorEq, Bool.false_eq_true, if_true, if_false, Nat.reduceAdd, Nat.reduceLeDiff, ne_eq, not_false_eq_true, eq_self, not_true_eq_false, Nat.reduceSub, Nat.reduceMul, Nat.reduceLT, Nat.reducePow, Int.reduceLE, Int.reduceLT, Int.reduceAdd, Int.reduceSub, Int.reduceMul, Int.reduceNeg, Int.reducePow, Int.reduceToNat, Int.reduceEq, Int.reduceBEq, Option.some.injEq, exists_eq_left', exists_eq_left, true_and, and_true, decide_true, decide_false, Nat.reduceBEq, Bool.or_true, Bool.true_or, Bool.or_false, Bool.false_or, aVar_e, aC_e, aRaw_e, aOp_e, aUn_e, aNot_e, aAnd_e, aOr_e, aChain_e, aTern_e, aNil_e, aCons_e, aTup_e, aLst_e, aB_e, tAndA_e, tOrA_e, tNotA_e, aCB_e, aCall_e, aCallK_e, aSl_e, aNoP_e, aCall0_e, gN_e, aNext_e, aSeq_e, aBrk_e, aCnt_e, aDrop_e, aRet_e, aRetN_e, aIfS_e, aAsg_e, aAug_e, aPar_e, aFor_e, aWhile_e, aYes_e, aIter_e, aEnum_e, aRange1_e, aRange2_e, aZip_e, aZipTL_e, aApp_e, aPopAt_e, aPop_e, aLenV_e, aIxV_e, aEqNilV_e, aTupV_e, aDnew_e, aListRg_e, aComp_e, aZip3T_e, aCallK0_e, gSetV_e, on_d, on_own, bl_b, it_i, ow_o, isOwn_o, seq_t, seq_l, seq_o, lst_l, lst_o, tup_t, same_t, same_l, one_1, fz_d, fz_r, fz_o, look_d, look_r, look_o, unA_0, unA_s, sl_0, sl_s, ons_n, ons_c, gI0_i, gI_i, gU_i, gIsN_n, gNotN_n, isNone_n, isNone_i, isNone_b, isNone_s, isNone_t, isNone_l, gEq_s, gNe_s, gIn_l, gIn_t, gNotIn_l, gNotIn_t, gIx_t, gIx_l, gCat_i, gCat_t, gCat_l, gMul_i, gMul_t, gMul_l, gCut_t, gCut_l, gP_x, intD_n, intD_b, intD_i, intD_s, intD_l, intD_t, intD_d, boolD_n, boolD_b, boolD_i, boolD_s, boolD_l, boolD_t, boolD_d, strD_n, strD_b, strD_i, strD_s, strD_l, strD_t, strD_d, tupD_n, tupD_b, tupD_i, tupD_s, tupD_l, tupD_t, tupD_d, wholeD_n, wholeD_b, wholeD_i, wholeD_s, wholeD_l, wholeD_t, wholeD_d, gLen_1, gTuple_1, gList_1, gInt_i, gInt_b, gAbs_i, gRepr_x, gAll_l, gAny_l, gSum_l, gGcd_i, gSorted_l, cDraw_1, two_1, three_1, cPick_1, gMax2_i, gMin2_i, gEqS_s, isStr_s, gNil_n, gCons_c, gT_t, gL_o, gL_l, at1_0, at2_0, at2_1, at3_0, at3_1, at3_2, cpow_e, cast_lit, abs_lit, aPart_e, gEq_i, gNe_i]
      intro x hx
      obtain ⟨lo, rfl, hlo⟩ : ∃ lo : Int, x = .int lo ∧ lo.natAbs ≤ 10 ^ 60 := by
        simp only [ends0, wipeA, List.map, List.set, List.cons_append, List.nil_append, List.length_cons, List.length_nil, ite_true, ite_false, Bool.not_true, Bool.not_false, Bool.true_and, Bool.and_true, Bool.false_and, Bool.and_false, reduceIte, reduceCtorEq, Bool.false_eq_true, if_true, if_false, Nat.reduceAdd, Nat.reduceLeDiff, ne_eq, not_false_eq_true, eq_self, not_true_eq_false, Nat.reduceSub, Nat.reduceMul, Nat.reduceLT, Nat.reducePow, Int.reduceLE, Int.reduceLT, Int.reduceAdd, Int.reduceSub, Int.reduceMul, Int.reduceNeg, Int.reducePow, Int.reduceToNat, Int.reduceEq, Int.reduceBEq, Option.some.injEq, exists_eq_left', exists_eq_left, true_and, and_true, decide_true, decide_false, Nat.reduceBEq, Bool.or_true, Bool.true_or, Bool.or_false, Bool.false_or, aVar_e, aC_e, aRaw_e, aOp_e, aUn_e, aNot_e, aAnd_e, aOr_e, aChain_e, aTern_e, aNil_e, aCons_e, aTup_e, aLst_e, aB_e, tAndA_e, tOrA_e, tNotA_e, aCB_e, aCall_e, aCallK_e, aSl_e, aNoP_e, aCall0_e, gN_e, aNext_e, aSeq_e, aBrk_e, aCnt_e, aDrop_e, aRet_e, aRetN_e, aIfS_e, aAsg_e, aAug_e, aPar_e, aFor_e, aWhile_e, aYes_e, aIter_e, aEnum_e, aRange1_e, aRange2_e, aZip_e, aZipTL_e, aApp_e, aPopAt_e, aPop_e, aLenV_e, aIxV_e, aEqNilV_e, aTupV_e, aDnew_e, aListRg_e, aComp_e, aZip3T_e, aCallK0_e, gSetV_e, on_d, on_own, bl_b, it_i, ow_o, isOwn_o, seq_t, seq_l, seq_o, lst_l, lst_o, tup_t, same_t, same_l, one_1, fz_d, fz_r, fz_o, look_d, look_r, look_o, unA_0, unA_s, sl_0, sl_s, ons_n, ons_c, gI0_i, gI_i, gU_i, gIsN_n, gNotN_n, isNone_n, isNone_i, isNone_b, isNone_s, isNone_t, isNone_l, gEq_s, gNe_s, gIn_l, gIn_t, gNotIn_l, gNotIn_t, gIx_t, gIx_l, gCat_i, gCat_t, gCat_l, gMul_i, gMul_t, gMul_l, gCut_t, gCut_l, gP_x, intD_n, intD_b, intD_i, intD_s, intD_l, intD_t, intD_d, boolD_n, boolD_b, boolD_i, boolD_s, boolD_l, boolD_t, boolD_d, strD_n, strD_b, strD_i, strD_s, strD_l, strD_t, strD_d, tupD_n, tupD_b, tupD_i, tupD_s, tupD_l, tupD_t, tupD_d, wholeD_n, wholeD_b, wholeD_i, wholeD_s, wholeD_l, wholeD_t, wholeD_d, gLen_1, gTuple_1, gList_1, gInt_i, gInt_b, gAbs_i, gRepr_x, gAll_l, gAny_l, gSum_l, gGcd_i, gSorted_l, cDraw_1, two_1, three_1, cPick_1, gMax2_i, gMin2_i, gEqS_s, isStr_s, gNil_n, gCons_c, gT_t, gL_o, gL_l, at1_0, at2_0, at2_1, at3_0, at3_1, at3_2, cpow_e, cast_lit, abs_lit, aPart_e, gEq_i, gNe_i, List.mem_cons, List.not_mem_nil, or_false, forall_eq_or_imp, forall_eq] at hx
        rcases hx with h | h | h | h | h <;> exact ⟨_, h, by decide +kernel⟩
      intro y hy2
      obtain ⟨k, rfl, hk⟩ : ∃ k : Int, y = .int k ∧ k.natAbs ≤ 10 ^ 58 := by
        simp only [ends0, wipeA, List.map, List.set, List.cons_append, List.nil_append, List.length_cons, List.length_nil, ite_true, ite_false, Bool.not_true, Bool.not_false, Bool.true_and, Bool.and_true, Bool.false_and, Bool.and_false, reduceIte, reduceCtorEq, Bool.false_eq_true, if_true, if_false, Nat.reduceAdd, Nat.reduceLeDiff, ne_eq, not_false_eq_true, eq_self, not_true_eq_false, Nat.reduceSub, Nat.reduceMul, Nat.reduceLT, Nat.reducePow, Int.reduceLE, Int.reduceLT, Int.reduceAdd, Int.reduceSub, Int.reduceMul, Int.reduceNeg, Int.reducePow, Int.reduceToNat, Int.reduceEq, Int.reduceBEq, Option.some.injEq, exists_eq_left', exists_eq_left, true_and, and_true, decide_true, decide_false, Nat.reduceBEq, Bool.or_true, Bool.true_or, Bool.or_false, Bool.false_or, aVar_e, aC_e, aRaw_e, aOp_e, aUn_e, aNot_e, aAnd_e, aOr_e, aChain_e, aTern_e, aNil_e, aCons_e, aTup_e, aLst_e, aB_e, tAndA_e, tOrA_e, tNotA_e, aCB_e, aCall_e, aCallK_e, aSl_e, aNoP_e, aCall0_e, gN_e, aNext_e, aSeq_e, aBrk_e, aCnt_e, aDrop_e, aRet_e, aRetN_e, aIfS_e, aAsg_e, aAug_e, aPar_e, aFor_e, aWhile_e, aYes_e, aIter_e, aEnum_e, aRange1_e, aRange2_e, aZip_e, aZipTL_e, aApp_e, aPopAt_e, aPop_e, aLenV_e, aIxV_e, aEqNilV_e, aTupV_e, aDnew_e, aListRg_e, aComp_e, aZip3T_e, aCallK0_e, gSetV_e, on_d, on_own, bl_b, it_i, ow_o, isOwn_o, seq_t, seq_l, seq_o, lst_l, lst_o, tup_t, same_t, same_l, one_1, fz_d, fz_r, fz_o, look_d, look_r, look_o, unA_0, unA_s, sl_0, sl_s, ons_n, ons_c, gI0_i, gI_i, gU_i, gIsN_n, gNotN_n, isNone_n, isNone_i, isNone_b, isNone_s, isNone_t, isNone_l, gEq_s, gNe_s, gIn_l, gIn_t, gNotIn_l, gNotIn_t, gIx_t, gIx_l, gCat_i, gCat_t, gCat_l, gMul_i, gMul_t, gMul_l, gCut_t, gCut_l, gP_x, intD_n, intD_b, intD_i, intD_s, intD_l, intD_t, intD_d, boolD_n, boolD_b, boolD_i, boolD_s, boolD_l, boolD_t, boolD_d, strD_n, strD_b, strD_i, strD_s, strD_l, strD_t, strD_d, tupD_n, tupD_b, tupD_i, tupD_s, tupD_l, tupD_t, tupD_d, wholeD_n, wholeD_b, wholeD_i, wholeD_s, wholeD_l, wholeD_t, wholeD_d, gLen_1, gTuple_1, gList_1, gInt_i, gInt_b, gAbs_i, gRepr_x, gAll_l, gAny_l, gSum_l, gGcd_i, gSorted_l, cDraw_1, two_1, three_1, cPick_1, gMax2_i, gMin2_i, gEqS_s, isStr_s, gNil_n, gCons_c, gT_t, gL_o, gL_l, at1_0, at2_0, at2_1, at3_0, at3_1, at3_2, cpow_e, cast_lit, abs_lit, aPart_e, gEq_i, gNe_i, List.mem_cons, List.not_mem_nil, or_false, forall_eq_or_imp, forall_eq] at hy2
        rcases hy2 with h | h | h | h <;> exact ⟨_, h, by decide +kernel⟩
      simp only [ends0, wipeA, List.map, List.set, List.cons_append, List.nil_append, List.length_cons, List.length_nil, ite_true, ite_false, Bool.not_true, Bool.not_false, Bool.true_and, Bool.and_true, Bool.false_and, Bool.and_false, reduceIte, reduceCtorEq, Bool.false_eq_true, if_true, if_false, Nat.reduceAdd, Nat.reduceLeDiff, ne_eq, not_false_eq_true, eq_self, not_true_eq_false, Nat.reduceSub, Nat.reduceMul, Nat.reduceLT, Nat.reducePow, Int.reduceLE, Int.reduceLT, Int.reduceAdd, Int.reduceSub, Int.reduceMul, Int.reduceNeg, Int.reducePow, Int.reduceToNat, Int.reduceEq, Int.reduceBEq, Option.some.injEq, exists_eq_left', exists_eq_left, true_and, and_true, decide_true, decide_false, Nat.reduceBEq, Bool.or_true, Bool.true_or, Bool.or_false, Bool.false_or, aVar_e, aC_e, aRaw_e, aOp_e, aUn_e, aNot_e, aAnd_e, aOr_e, aChain_e, aTern_e, aNil_e, aCons_e, aTup_e, aLst_e, aB_e, tAndA_e, tOrA_e, tNotA_e, aCB_e, aCall_e, aCallK_e, aSl_e, aNoP_e, aCall0_e, gN_e, aNext_e, aSeq_e, aBrk_e, aCnt_e, aDrop_e, aRet_e, aRetN_e, aIfS_e, aAsg_e, aAug_e, aPar_e, aFor_e, aWhile_e, aYes_e, aIter_e, aEnum_e, aRange1_e, aRange2_e, aZip_e, aZipTL_e, aApp_e, aPopAt_e, aPop_e, aLenV_e, aIxV_e, aEqNilV_e, aTupV_e, aDnew_e, aListRg_e, aComp_e, aZip3T_e, aCallK0_e, gSetV_e, on_d, on_own, bl_b, it_i, ow_o, isOwn_o, seq_t, seq_l, seq_o, lst_l, lst_o, tup_t, same_t, same_l, one_1, fz_d, fz_r, fz_o, look_d, look_r, look_o, unA_0, unA_s, sl_0, sl_s, ons_n, ons_c, gI0_i, gI_i, gU_i, gIsN_n, gNotN_n, isNone_n, isNone_i, isNone_b, isNone_s, isNone_t, isNone_l, gEq_s, gNe_s, gIn_l, gIn_t, gNotIn_l, gNotIn_t, gIx_t, gIx_l, gCat_i, gCat_t, gCat_l, gMul_i, gMul_t, gMul_l, gCut_t, gCut_l, gP_x, intD_n, intD_b, intD_i, intD_s, intD_l, intD_t, intD_d, boolD_n, boolD_b, boolD_i, boolD_s, boolD_l, boolD_t, boolD_d, strD_n, strD_b, strD_i, strD_s, strD_l, strD_t, strD_d, tupD_n, tupD_b, tupD_i, tupD_s, tupD_l, tupD_t, tupD_d, wholeD_n, wholeD_b, wholeD_i, wholeD_s, wholeD_l, wholeD_t, wholeD_d, gLen_1, gTuple_1, gList_1, gInt_i, gInt_b, gAbs_i, gRepr_x, gAll_l, gAny_l, gSum_l, gGcd_i, gSorted_l, cDraw_1, two_1, three_1, cPick_1, gMax2_i, gMin2_i, gEqS_s, isStr_s, gNil_n, gCons_c, gT_t, gL_o, gL_l, at1_0, at2_0, at2_1, at3_0, at3_1, at3_2, cpow_e, cast_lit, abs_lit, aPart_e, gEq_i, gNe_i]
      exact h _ ⟨ys, lo, lo + k, rfl, hl, mem_at fun i hi => hy i (by omega), hlo, by omega⟩
  · exact h.elim
abbrev sp__law_run (K : PySem.W.Frag) : Sp := SpL K (deckOf boxV) c__law_run
section
variable {P : Program} {w : World} {K : PySem.W.Frag} {mg : Str → Option Value} {base : Heap} {a : Adr}
theorem ok__law_run (T : Txt K mg a) : FnOk P w K mg base CX0 3 a.f__law_run a.d__law_run ["deck", "machine"] (sp__law_run K) := by
  have G__law_pick : FnOk P w K mg base CX0 2 a.f__law_pick a.d__law_pick ["deck", "items"] (sp__law_pick K) := ok__law_pick T
  have G__law_draw : FnOk P w K mg base CX0 1 a.f__law_draw a.d__law_draw ["deck", "many"] (sp__law_draw K) := ok__law_draw T
  refine T._law_run.F.ok sc__law_run (fun vs H Q E h => sp_len l__law_run h) (fun cdv A outer s H vs Q E hr h => ?_)
  have hu := hu_of hr
  exact ⟨_, (pss_cons (ps_set (i := 2) sc__law_run.nd rfl (by first | exact Or.inl rfl | exact Or.inr rfl) (pe_callTy (show CallR _ _ (rTupS K) from call_tuple_of) (by rfl) T.b_tuple (by decide +kernel) (pa_cons (pe_lc (own := [("modulus", 4)]) rfl sc__law_run.nd (show PI _ _ _ (iAny K _) from pi_any (pv 1)) (blkOk_by (N := ["deck", "machine", "word", "low", "modulus"]) (sc := defScope s__law_run) (by decide +kernel)) (fun _ _ _ _ _ => (pg_name (i := 4) sc__law_run.nd rfl (by first | exact Or.inl rfl | exact Or.inr rfl))) (fun _ _ _ _ _ => pts_nil) (fun _ _ _ _ _ => (pe_ifExp (pt_cmpR (show OpR _ _ (rEqP K) from op_eqP hr.units) (pe_call G__law_draw (hr.mono (by decide)) (by rfl) T._law_draw.m T._law_draw.F.kp T._law_draw.b .nil pass0 (pa_cons (pv 0) (pa_cons pe_int pa_nil))) pe_int (nomark _)) pe_non (pe_call G__law_draw (hr.mono (by decide)) (by rfl) T._law_draw.m T._law_draw.F.kp T._law_draw.b .nil pass0 (pa_cons (pv 0) (pa_cons (pv 4) pa_nil)))))) pa_nil)))
      (pss_cons (ps_set (i := 3) sc__law_run.nd rfl (by first | exact Or.inl rfl | exact Or.inr rfl) (pe_call G__law_pick hr (by rfl) T._law_pick.m T._law_pick.F.kp T._law_pick.b .nil pass0 (pa_cons (pv 0) (pa_cons (pe_lst (pa_cons pe_int (pa_cons (pe_un un_neg pe_int) (pa_cons pe_int (pa_cons (pe_un un_neg (pe_op op_pow pe_int pe_int)) (pa_cons (pe_op op_pow pe_int pe_int) pa_nil)))))) pa_nil))))
      (pss_one (ps_ret (pe_tup (pa_cons (pv 2) (pa_cons (pe_tup (pa_cons (pv 3) (pa_cons (pe_op (show OpR _ _ (rPlus K) from op_plus) (pv 3) (pe_call G__law_pick hr (by rfl) T._law_pick.m T._law_pick.F.kp T._law_pick.b .nil pass0 (pa_cons (pv 0) (pa_cons (pe_lst (pa_cons pe_int (pa_cons pe_int (pa_cons pe_int (pa_cons (pe_op op_pow pe_int pe_int) pa_nil))))) pa_nil)))) pa_nil))) pa_nil))))))),
    run0 (N := ["deck", "machine", "word", "low", "modulus"]) (np := 2) (f := b__law_run) h (sp_len l__law_run h) (fun dk B hb => (show LS B K Wno _ (b__law_run dk) from
      (ls_seq (ls_asg (le_cb cl_tuple (la_cons (le_comp (vs := [4]) (li_any (le_var (i := 1))) (lg_name (i := 4)) (tg_name (by decide)) lt_yes (le_tern (lt_test (le_op (ol_eq) (le_call0 (dk := dk) (c := c__law_draw) hb (la_cons (le_var (i := 0)) (la_cons (le_c (y := .int 5) fun _ => .int _) la_nil))) (le_c (y := .int 0) fun _ => .int _))) (le_c (y := .none) fun _ => .non) (le_call0 (dk := dk) (c := c__law_draw) hb (la_cons (le_var (i := 0)) (la_cons (le_var (i := 4)) la_nil))))) la_nil)) (lg_name (i := 2)))
      (ls_seq (ls_asg (le_call0 (dk := dk) (c := c__law_pick) hb (la_cons (le_var (i := 0)) (la_cons (le_lst (la_cons (le_c (y := .int 0) fun _ => .int _) (la_cons (le_un (ul_U fun _ _ => .int _) (le_c (y := .int 5) fun _ => .int _)) (la_cons (le_c (y := .int 7) fun _ => .int _) (la_cons (le_un (ul_U fun _ _ => .int _) (le_op (ol_I fun _ _ _ => .int _) (le_c (y := .int 10) fun _ => .int _) (le_c (y := .int 60) fun _ => .int _))) (la_cons (le_op (ol_I fun _ _ _ => .int _) (le_c (y := .int 10) fun _ => .int _) (le_c (y := .int 59) fun _ => .int _)) la_nil))))) (by decide)) la_nil))) (lg_name (i := 3)))
      (ls_ret (le_tup (la_cons (le_var (i := 2)) (la_cons (le_tup (la_cons (le_var (i := 3)) (la_cons (le_op (ol_plus) (le_var (i := 3)) (le_call0 (dk := dk) (c := c__law_pick) hb (la_cons (le_var (i := 0)) (la_cons (le_lst (la_cons (le_c (y := .int 0) fun _ => .int _) (la_cons (le_c (y := .int 1) fun _ => .int _) (la_cons (le_c (y := .int 60) fun _ => .int _) (la_cons (le_op (ol_I fun _ _ _ => .int _) (le_c (y := .int 10) fun _ => .int _) (le_c (y := .int 58) fun _ => .int _)) la_nil)))) (by decide)) la_nil)))) la_nil)) (by decide)) la_nil)) (by decide))))))) h__law_run⟩
end
def c__law_odd : V → Ct := fun dk as R _ => match as with
  | [.raw v, .d x, .d y] => v = dk ∧ ∃ ns : List Int, x = .tuple (ns.map PyData.int) ∧ 1 ≤ ns.length ∧ ns.length ≤ 10 ∧ (∀ n ∈ ns, 2 ≤ n ∧ n ≤ 1000000) ∧ runOk ns y ∧ ∀ d, Ok 200 8 d → R (.d d)
  | _ => False
def b__law_odd (dk : V) : ASx :=
  (aSeq (aAsg (aVar 2) (gT (gCons (gN 9) (gCons (gN 10) gNil))))
      (aSeq (aAsg (aCall0 (c__law_draw dk) (aCons (aVar 0) (aCons (aCB gLen (aCons (aVar 9) aNil)) aNil))) (gN 3))
      (aSeq (aAsg (aLst (aCons (aOp gIx (aVar 1) (aVar 3)) (aCons (aOp (gI0 fun i j => .int (i - j)) (aOp gIx (aVar 1) (aVar 3)) (aC (.int 1))) (aCons (aUn (gU fun i => .int (-i)) (aC (.int 1))) (aCons (aC (.bool true)) (aCons (aC (.bool false)) (aCons (aC (.none)) (aCons (aC (.str "0")) (aCons (aTup (aCons (aC (.int 0)) aNil)) (aCons (aLst (aCons (aC (.int 0)) aNil)) (aCons (aOp (gI CPow fun i j => .int (i ^ j.toNat)) (aC (.int 10)) (aC (.int 60))) aNil))))))))))) (gN 4))
      (aSeq (aAsg (aOp (gCat) (aComp (aIter (aVar 4)) (gN 13) aYes (aOp (gCat) (aOp (gCat) (aSl gCut (aVar 9) aNoP (aPart (aVar 3))) (aTup (aCons (aVar 13) aNil))) (aSl gCut (aVar 9) (aPart (aOp (gCat) (aVar 3) (aC (.int 1)))) aNoP)) [13]) (aLst (aCons (aOp (gCat) (aVar 9) (aTup (aCons (aC (.int 0)) aNil))) (aCons (aSl gCut (aVar 9) (aPart (aC (.int 1))) aNoP) (aCons (aCB gList (aCons (aVar 9) aNil)) (aCons (aTup aNil) (aCons (aC (.none)) aNil))))))) (gN 5))
      (aSeq (aAsg (aVar 10) (gT (gCons (gN 11) (gCons (gN 12) gNil))))
      (aSeq (aAsg (aLst (aCons (aTup (aCons (aVar 12) (aCons (aVar 11) aNil))) (aCons (aTup (aCons (aVar 11) aNil)) (aCons (aTup (aCons (aVar 11) (aCons (aVar 12) (aCons (aVar 12) aNil)))) (aCons (aLst (aCons (aVar 11) (aCons (aVar 12) aNil))) (aCons (aTup (aCons (aVar 11) (aCons (aC (.bool true)) aNil))) (aCons (aTup (aCons (aC (.none)) (aCons (aVar 12) aNil))) (aCons (aTup (aCons (aVar 11) (aCons (aC (.str "9")) aNil))) (aCons (aTup aNil) (aCons (aC (.none)) (aCons (aC (.int 5)) aNil))))))))))) (gN 6))
      (aSeq (aDrop (aApp 6 (aTup (aCons (aC (.bool false)) (aCons (aCB gMax2 (aCons (aC (.int 0)) (aCons (aVar 12) aNil))) aNil)))))
      (aSeq (aAsg (aOp (gI CPow fun i j => .int (i ^ j.toNat)) (aC (.int 10)) (aC (.int 60))) (gN 7))
      (aSeq (aAsg (aOp (gCat) (aVar 6) (aLst (aCons (aTup (aCons (aVar 11) (aCons (aVar 7) aNil))) (aCons (aTup (aCons (aVar 11) (aCons (aOp (gCat) (aVar 7) (aC (.int 1))) aNil))) (aCons (aTup (aCons (aOp (gI0 fun i j => .int (i - j)) (aUn (gU fun i => .int (-i)) (aVar 7)) (aC (.int 1))) (aCons (aVar 12) aNil))) (aCons (aTup (aCons (aVar 11) (aCons (aVar 11) aNil))) (aCons (aTup (aCons (aOp (gCat) (aVar 11) (aC (.int 1))) (aCons (aVar 11) aNil))) (aCons (aTup (aCons (aVar 11) (aCons (aOp (gMul) (aOp (gMul) (aVar 7) (aVar 7)) (aVar 7)) aNil))) aNil)))))))) (gN 6))
      (aSeq (aAsg (aOp (gCat) (aComp (aIter (aVar 5)) (gN 14) aYes (aTup (aCons (aVar 14) (aCons (aVar 10) aNil))) [14]) (aComp (aIter (aVar 6)) (gN 14) aYes (aTup (aCons (aVar 9) (aCons (aVar 14) aNil))) [14])) (gN 8))
      (aSeq (aAsg (aOp (gCat) (aVar 8) (aLst (aCons (aTup (aCons (aVar 10) (aCons (aVar 9) aNil))) (aCons (aTup (aCons (aVar 9) aNil)) (aCons (aTup (aCons (aVar 9) (aCons (aVar 10) (aCons (aTup aNil) aNil)))) (aCons (aLst (aCons (aVar 9) (aCons (aVar 10) aNil))) (aCons (aVar 9) (aCons (aVar 10) (aCons (aC (.none)) (aCons aDnew (aCons (aC (.str "run")) (aCons (aC (.int 0)) aNil)))))))))))) (gN 8))
      (aRet (aCall0 (c__law_pick dk) (aCons (aVar 0) (aCons (aVar 8) aNil)))))))))))))))
theorem l__law_odd : ∀ (dk : V) (as : List A) (R : A → Prop) (Z : Ex → Prop), c__law_odd dk as R Z → as.length = 3 := by
  intro dk as R Z h
  unfold c__law_odd at h
  split at h
  · rfl
  · exact h.elim
theorem h__law_odd : ∀ (dk : V) (as : List A) (R : A → Prop) (Z : Ex → Prop), as.length = 3 → c__law_odd dk as R Z → b__law_odd dk (ends0 R) (fun _ => R (.d .none)) (as ++ unA ((["deck", "machine", "single", "lane", "rests", "words", "ends", "far", "found", "word", "stretch", "low", "high", "rest", "own"] : List Str).length - 3)) := by
  intro dk as R Z hl h
  unfold c__law_odd at h
  split at h
  · rename_i v x y
    obtain ⟨rfl, ns, rfl, l1, l10, hn, ⟨ws, lo, hi, rfl, w1, w2, hlo, hhi⟩, h⟩ := h
    simp only [b__law_odd, c__law_draw, ends0, wipeA, List.map, List.set, List.cons_append, List.nil_append, List.length_cons, List.length_nil, ite_true, ite_false, Bool.not_true, Bool.not_false, Bool.true_and, Bool.and_true, Bool.false_and, Bool.and_false, reduceIte, reduceCtorEq, Bool.false_eq_true, if_true, if_false, Nat.reduceAdd, Nat.reduceLeDiff, ne_eq, not_false_eq_true, eq_self, not_true_eq_false, Nat.reduceSub, Nat.reduceMul, Nat.reduceLT, Nat.reducePow, Int.reduceLE, Int.reduceLT, Int.reduceAdd, Int.reduceSub, Int.reduceMul, Int.reduceNeg, Int.reducePow, Int.reduceToNat, Int.reduceEq, Int.reduceBEq, Option.some.injEq, exists_eq_left', exists_eq_left, true_and, and_true, decide_true, decide_false, Nat.reduceBEq, Bool.or_true, Bool.true_or, Bool.or_false, Bool.false_or, aVar_e, aC_e, aRaw_e, aOp_e, aUn_e, aNot_e, aAnd_e, aOr_e, aChain_e, aTern_e, aNil_e, aCons_e, aTup_e, aLst_e, aB_e, tAndA_e, tOrA_e, tNotA_e, aCB_e, aCall_e, aCallK_e, aSl_e, aNoP_e, aCall0_e, gN_e, aNext_e, aSeq_e, aBrk_e, aCnt_e, aDrop_e, aRet_e, aRetN_e, aIfS_e, aAsg_e, aAug_e, aPar_e, aFor_e, aWhile_e, aYes_e, aIter_e, aEnum_e, aRange1_e, aRange2_e, aZip_e, aZipTL_e, aApp_e, aPopAt_e, aPop_e, aLenV_e, aIxV_e, aEqNilV_e, aTupV_e, aDnew_e, aListRg_e, aComp_e, aZip3T_e, aCallK0_e, gSetV_e, on_d, on_own, bl_b, it_i, ow_o, isOwn_o, seq_t, seq_l, seq_o, lst_l, lst_o, tup_t, same_t, same_l, one_1, fz_d, fz_r, fz_o, look_d, look_r, look_o, unA_0, unA_s, sl_0, sl_s, ons_n, ons_c, gI0_i, gI_i, gU_i, gIsN_n, gNotN_n, isNone_n, isNone_i, isNone_b, isNone_s, isNone_t, isNone_l, gEq_s, gNe_s, gIn_l, gIn_t, gNotIn_l, gNotIn_t, gIx_t, gIx_l, gCat_i, gCat_t, gCat_l, gMul_i, gMul_t, gMul_l, gCut_t, gCut_l, gP_x, intD_n, intD_b, intD_i, intD_s, intD_l, intD_t, intD_d, boolD_n, boolD_b, boolD_i, boolD_s, boolD_l, boolD_t, boolD_d, strD_n, strD_b, strD_i, strD_s, strD_l, strD_t, strD_d, tupD_n, tupD_b, tupD_i, tupD_s, tupD_l, tupD_t, tupD_d, wholeD_n, wholeD_b, wholeD_i, wholeD_s, wholeD_l, wholeD_t, wholeD_d, gLen_1, gTuple_1, gList_1, gInt_i, gInt_b, gAbs_i, gRepr_x, gAll_l, gAny_l, gSum_l, gGcd_i, gSorted_l, cDraw_1, two_1, three_1, cPick_1, gMax2_i, gMin2_i, gEqS_s, isStr_s, gNil_n, gCons_c, gT_t, gL_o, gL_l, at1_0, at2_0, at2_1, at3_0, at3_1, at3_2, cpow_e, cast_lit, abs_lit, aPart_e, gEq_i, gNe_i]
    refine ⟨small_of (by omega) (by omega), fun r r0 r1 => ?_⟩
    obtain ⟨x, lat, hx⟩ := atI_ok (xs := ns.map PyData.int) (i := r) r0 (by rw [List.length_map]; omega)
    obtain ⟨m, hm, rfl⟩ := List.mem_map.mp hx
    obtain ⟨m2, m9⟩ := hn m hm
    simp only [lat, ends0, wipeA, List.map, List.set, List.cons_append, List.nil_append, List.length_cons, List.length_nil, ite_true, ite_false, Bool.not_true, Bool.not_false, Bool.true_and, Bool.and_true, Bool.false_and, Bool.and_false, reduceIte, reduceCtorEq, Bool.false_eq_true, if_true, if_false, Nat.reduceAdd, Nat.reduceLeDiff, ne_eq, not_false_eq_true, eq_self, not_true_eq_false, Nat.reduceSub, Nat.reduceMul, Nat.reduceLT, Nat.reducePow, Int.reduceLE, Int.reduceLT, Int.reduceAdd, Int.reduceSub, Int.reduceMul, Int.reduceNeg, Int.reducePow, Int.reduceToNat, Int.reduceEq, Int.reduceBEq, Option.some.injEq, exists_eq_left', exists_eq_left, true_and, and_true, decide_true, decide_false, Nat.reduceBEq, Bool.or_true, Bool.true_or, Bool.or_false, Bool.false_or, aVar_e, aC_e, aRaw_e, aOp_e, aUn_e, aNot_e, aAnd_e, aOr_e, aChain_e, aTern_e, aNil_e, aCons_e, aTup_e, aLst_e, aB_e, tAndA_e, tOrA_e, tNotA_e, aCB_e, aCall_e, aCallK_e, aSl_e, aNoP_e, aCall0_e, gN_e, aNext_e, aSeq_e, aBrk_e, aCnt_e, aDrop_e, aRet_e, aRetN_e, aIfS_e, aAsg_e, aAug_e, aPar_e, aFor_e, aWhile_e, aYes_e, aIter_e, aEnum_e, aRange1_e, aRange2_e, aZip_e, aZipTL_e, aApp_e, aPopAt_e, aPop_e, aLenV_e, aIxV_e, aEqNilV_e, aTupV_e, aDnew_e, aListRg_e, aComp_e, aZip3T_e, aCallK0_e, gSetV_e, on_d, on_own, bl_b, it_i, ow_o, isOwn_o, seq_t, seq_l, seq_o, lst_l, lst_o, tup_t, same_t, same_l, one_1, fz_d, fz_r, fz_o, look_d, look_r, look_o, unA_0, unA_s, sl_0, sl_s, ons_n, ons_c, gI0_i, gI_i, gU_i, gIsN_n, gNotN_n, isNone_n, isNone_i, isNone_b, isNone_s, isNone_t, isNone_l, gEq_s, gNe_s, gIn_l, gIn_t, gNotIn_l, gNotIn_t, gIx_t, gIx_l, gCat_i, gCat_t, gCat_l, gMul_i, gMul_t, gMul_l, gCut_t, gCut_l, gP_x, intD_n, intD_b, intD_i, intD_s, intD_l, intD_t, intD_d, boolD_n, boolD_b, boolD_i, boolD_s, boolD_l, boolD_t, boolD_d, strD_n, strD_b, strD_i, strD_s, strD_l, strD_t, strD_d, tupD_n, tupD_b, tupD_i, tupD_s, tupD_l, tupD_t, tupD_d, wholeD_n, wholeD_b, wholeD_i, wholeD_s, wholeD_l, wholeD_t, wholeD_d, gLen_1, gTuple_1, gList_1, gInt_i, gInt_b, gAbs_i, gRepr_x, gAll_l, gAny_l, gSum_l, gGcd_i, gSorted_l, cDraw_1, two_1, three_1, cPick_1, gMax2_i, gMin2_i, gEqS_s, isStr_s, gNil_n, gCons_c, gT_t, gL_o, gL_l, at1_0, at2_0, at2_1, at3_0, at3_1, at3_2, cpow_e, cast_lit, abs_lit, aPart_e, gEq_i, gNe_i]
    have c1 := cutD_len (ds := ws) (lo := none) (hi := some r)
    have c2 := cutD_len (ds := ws) (lo := some (r + 1)) (hi := none)
    refine comp_map (fun d => .tuple (Sx.cutD ws none (some r) ++ [d] ++ Sx.cutD ws (some (r + 1)) none)) (by show 10 ≤ 4000000; decide) (fun d hd J hJ => ?_) ?_
    · simp only [ends0, wipeA, List.map, List.set, List.cons_append, List.nil_append, List.length_cons, List.length_nil, ite_true, ite_false, Bool.not_true, Bool.not_false, Bool.true_and, Bool.and_true, Bool.false_and, Bool.and_false, reduceIte, reduceCtorEq, Bool.false_eq_true, if_true, if_false, Nat.reduceAdd, Nat.reduceLeDiff, ne_eq, not_false_eq_true, eq_self, not_true_eq_false, Nat.reduceSub, Nat.reduceMul, Nat.reduceLT, Nat.reducePow, Int.reduceLE, Int.reduceLT, Int.reduceAdd, Int.reduceSub, Int.reduceMul, Int.reduceNeg, Int.reducePow, Int.reduceToNat, Int.reduceEq, Int.reduceBEq, Option.some.injEq, exists_eq_left', exists_eq_left, true_and, and_true, decide_true, decide_false, Nat.reduceBEq, Bool.or_true, Bool.true_or, Bool.or_false, Bool.false_or, aVar_e, aC_e, aRaw_e, aOp_e, aUn_e, aNot_e, aAnd_e, aOr_e, aChain_e, aTern_e, aNil_e, aCons_e, aTup_e, aLst_e, aB_e, tAndA_e, tOrA_e, tNotA_e, aCB_e, aCall_e, aCallK_e, aSl_e, aNoP_e, aCall0_e, gN_e, aNext_e, aSeq_e, aBrk_e, aCnt_e, aDrop_e, aRet_e, aRetN_e, aIfS_e, aAsg_e, aAug_e, aPar_e, aFor_e, aWhile_e, aYes_e, aIter_e, aEnum_e, aRange1_e, aRange2_e, aZip_e, aZipTL_e, aApp_e, aPopAt_e, aPop_e, aLenV_e, aIxV_e, aEqNilV_e, aTupV_e, aDnew_e, aListRg_e, aComp_e, aZip3T_e, aCallK0_e, gSetV_e, on_d, on_own, bl_b, it_i, ow_o, isOwn_o, seq_t, seq_l, seq_o, lst_l, lst_o, tup_t, same_t, same_l, one_1, fz_d, fz_r, fz_o, look_d, look_r, look_o, unA_0, unA_s, sl_0, sl_s, ons_n, ons_c, gI0_i, gI_i, gU_i, gIsN_n, gNotN_n, isNone_n, isNone_i, isNone_b, isNone_s, isNone_t, isNone_l, gEq_s, gNe_s, gIn_l, gIn_t, gNotIn_l, gNotIn_t, gIx_t, gIx_l, gCat_i, gCat_t, gCat_l, gMul_i, gMul_t, gMul_l, gCut_t, gCut_l, gP_x, intD_n, intD_b, intD_i, intD_s, intD_l, intD_t, intD_d, boolD_n, boolD_b, boolD_i, boolD_s, boolD_l, boolD_t, boolD_d, strD_n, strD_b, strD_i, strD_s, strD_l, strD_t, strD_d, tupD_n, tupD_b, tupD_i, tupD_s, tupD_l, tupD_t, tupD_d, wholeD_n, wholeD_b, wholeD_i, wholeD_s, wholeD_l, wholeD_t, wholeD_d, gLen_1, gTuple_1, gList_1, gInt_i, gInt_b, gAbs_i, gRepr_x, gAll_l, gAny_l, gSum_l, gGcd_i, gSorted_l, cDraw_1, two_1, three_1, cPick_1, gMax2_i, gMin2_i, gEqS_s, isStr_s, gNil_n, gCons_c, gT_t, gL_o, gL_l, at1_0, at2_0, at2_1, at3_0, at3_1, at3_2, cpow_e, cast_lit, abs_lit, aPart_e, gEq_i, gNe_i]
      refine ⟨by omega, ?_, hJ⟩
      rw [List.length_append, List.length_singleton]
      omega
    simp only [ends0, wipeA, List.map, List.set, List.cons_append, List.nil_append, List.length_cons, List.length_nil, ite_true, ite_false, Bool.not_true, Bool.not_false, Bool.true_and, Bool.and_true, Bool.false_and, Bool.and_false, reduceIte, reduceCtorEq, Bool.false_eq_true, if_true, if_false, Nat.reduceAdd, Nat.reduceLeDiff, ne_eq, not_false_eq_true, eq_self, not_true_eq_false, Nat.reduceSub, Nat.reduceMul, Nat.reduceLT, Nat.reducePow, Int.reduceLE, Int.reduceLT, Int.reduceAdd, Int.reduceSub, Int.reduceMul, Int.reduceNeg, Int.reducePow, Int.reduceToNat, Int.reduceEq, Int.reduceBEq, Option.some.injEq, exists_eq_left', exists_eq_left, true_and, and_true, decide_true, decide_false, Nat.reduceBEq, Bool.or_true, Bool.true_or, Bool.or_false, Bool.false_or, aVar_e, aC_e, aRaw_e, aOp_e, aUn_e, aNot_e, aAnd_e, aOr_e, aChain_e, aTern_e, aNil_e, aCons_e, aTup_e, aLst_e, aB_e, tAndA_e, tOrA_e, tNotA_e, aCB_e, aCall_e, aCallK_e, aSl_e, aNoP_e, aCall0_e, gN_e, aNext_e, aSeq_e, aBrk_e, aCnt_e, aDrop_e, aRet_e, aRetN_e, aIfS_e, aAsg_e, aAug_e, aPar_e, aFor_e, aWhile_e, aYes_e, aIter_e, aEnum_e, aRange1_e, aRange2_e, aZip_e, aZipTL_e, aApp_e, aPopAt_e, aPop_e, aLenV_e, aIxV_e, aEqNilV_e, aTupV_e, aDnew_e, aListRg_e, aComp_e, aZip3T_e, aCallK0_e, gSetV_e, on_d, on_own, bl_b, it_i, ow_o, isOwn_o, seq_t, seq_l, seq_o, lst_l, lst_o, tup_t, same_t, same_l, one_1, fz_d, fz_r, fz_o, look_d, look_r, look_o, unA_0, unA_s, sl_0, sl_s, ons_n, ons_c, gI0_i, gI_i, gU_i, gIsN_n, gNotN_n, isNone_n, isNone_i, isNone_b, isNone_s, isNone_t, isNone_l, gEq_s, gNe_s, gIn_l, gIn_t, gNotIn_l, gNotIn_t, gIx_t, gIx_l, gCat_i, gCat_t, gCat_l, gMul_i, gMul_t, gMul_l, gCut_t, gCut_l, gP_x, intD_n, intD_b, intD_i, intD_s, intD_l, intD_t, intD_d, boolD_n, boolD_b, boolD_i, boolD_s, boolD_l, boolD_t, boolD_d, strD_n, strD_b, strD_i, strD_s, strD_l, strD_t, strD_d, tupD_n, tupD_b, tupD_i, tupD_s, tupD_l, tupD_t, tupD_d, wholeD_n, wholeD_b, wholeD_i, wholeD_s, wholeD_l, wholeD_t, wholeD_d, gLen_1, gTuple_1, gList_1, gInt_i, gInt_b, gAbs_i, gRepr_x, gAll_l, gAny_l, gSum_l, gGcd_i, gSorted_l, cDraw_1, two_1, three_1, cPick_1, gMax2_i, gMin2_i, gEqS_s, isStr_s, gNil_n, gCons_c, gT_t, gL_o, gL_l, at1_0, at2_0, at2_1, at3_0, at3_1, at3_2, cpow_e, cast_lit, abs_lit, aPart_e, gEq_i, gNe_i]
    have w : ∀ i j : Int, i.natAbs.log2 + j.natAbs.log2 < 1000000 → CMulW i j := fun _ _ h => h
    refine ⟨by omega, w _ _ (by decide +kernel), w _ _ (by decide +kernel), ?_⟩
    refine comp_map (fun d => .tuple [d, .tuple [.int lo, .int hi]]) (by show 15 ≤ 4000000; decide) (fun d hd J hJ => ?_) ?_
    · simp only [ends0, wipeA, List.map, List.set, List.cons_append, List.nil_append, List.length_cons, List.length_nil, ite_true, ite_false, Bool.not_true, Bool.not_false, Bool.true_and, Bool.and_true, Bool.false_and, Bool.and_false, reduceIte, reduceCtorEq, Bool.false_eq_true, if_true, if_false, Nat.reduceAdd, Nat.reduceLeDiff, ne_eq, not_false_eq_true, eq_self, not_true_eq_false, Nat.reduceSub, Nat.reduceMul, Nat.reduceLT, Nat.reducePow, Int.reduceLE, Int.reduceLT, Int.reduceAdd, Int.reduceSub, Int.reduceMul, Int.reduceNeg, Int.reducePow, Int.reduceToNat, Int.reduceEq, Int.reduceBEq, Option.some.injEq, exists_eq_left', exists_eq_left, true_and, and_true, decide_true, decide_false, Nat.reduceBEq, Bool.or_true, Bool.true_or, Bool.or_false, Bool.false_or, aVar_e, aC_e, aRaw_e, aOp_e, aUn_e, aNot_e, aAnd_e, aOr_e, aChain_e, aTern_e, aNil_e, aCons_e, aTup_e, aLst_e, aB_e, tAndA_e, tOrA_e, tNotA_e, aCB_e, aCall_e, aCallK_e, aSl_e, aNoP_e, aCall0_e, gN_e, aNext_e, aSeq_e, aBrk_e, aCnt_e, aDrop_e, aRet_e, aRetN_e, aIfS_e, aAsg_e, aAug_e, aPar_e, aFor_e, aWhile_e, aYes_e, aIter_e, aEnum_e, aRange1_e, aRange2_e, aZip_e, aZipTL_e, aApp_e, aPopAt_e, aPop_e, aLenV_e, aIxV_e, aEqNilV_e, aTupV_e, aDnew_e, aListRg_e, aComp_e, aZip3T_e, aCallK0_e, gSetV_e, on_d, on_own, bl_b, it_i, ow_o, isOwn_o, seq_t, seq_l, seq_o, lst_l, lst_o, tup_t, same_t, same_l, one_1, fz_d, fz_r, fz_o, look_d, look_r, look_o, unA_0, unA_s, sl_0, sl_s, ons_n, ons_c, gI0_i, gI_i, gU_i, gIsN_n, gNotN_n, isNone_n, isNone_i, isNone_b, isNone_s, isNone_t, isNone_l, gEq_s, gNe_s, gIn_l, gIn_t, gNotIn_l, gNotIn_t, gIx_t, gIx_l, gCat_i, gCat_t, gCat_l, gMul_i, gMul_t, gMul_l, gCut_t, gCut_l, gP_x, intD_n, intD_b, intD_i, intD_s, intD_l, intD_t, intD_d, boolD_n, boolD_b, boolD_i, boolD_s, boolD_l, boolD_t, boolD_d, strD_n, strD_b, strD_i, strD_s, strD_l, strD_t, strD_d, tupD_n, tupD_b, tupD_i, tupD_s, tupD_l, tupD_t, tupD_d, wholeD_n, wholeD_b, wholeD_i, wholeD_s, wholeD_l, wholeD_t, wholeD_d, gLen_1, gTuple_1, gList_1, gInt_i, gInt_b, gAbs_i, gRepr_x, gAll_l, gAny_l, gSum_l, gGcd_i, gSorted_l, cDraw_1, two_1, three_1, cPick_1, gMax2_i, gMin2_i, gEqS_s, isStr_s, gNil_n, gCons_c, gT_t, gL_o, gL_l, at1_0, at2_0, at2_1, at3_0, at3_1, at3_2, cpow_e, cast_lit, abs_lit, aPart_e, gEq_i, gNe_i]
      exact hJ
    simp only [ends0, wipeA, List.map, List.set, List.cons_append, List.nil_append, List.length_cons, List.length_nil, ite_true, ite_false, Bool.not_true, Bool.not_false, Bool.true_and, Bool.and_true, Bool.false_and, Bool.and_false, reduceIte, reduceCtorEq, Bool.false_eq_true, if_true, if_false, Nat.reduceAdd, Nat.reduceLeDiff, ne_eq, not_false_eq_true, eq_self, not_true_eq_false, Nat.reduceSub, Nat.reduceMul, Nat.reduceLT, Nat.reducePow, Int.reduceLE, Int.reduceLT, Int.reduceAdd, Int.reduceSub, Int.reduceMul, Int.reduceNeg, Int.reducePow, Int.reduceToNat, Int.reduceEq, Int.reduceBEq, Option.some.injEq, exists_eq_left', exists_eq_left, true_and, and_true, decide_true, decide_false, Nat.reduceBEq, Bool.or_true, Bool.true_or, Bool.or_false, Bool.false_or, aVar_e, aC_e, aRaw_e, aOp_e, aUn_e, aNot_e, aAnd_e, aOr_e, aChain_e, aTern_e, aNil_e, aCons_e, aTup_e, aLst_e, aB_e, tAndA_e, tOrA_e, tNotA_e, aCB_e, aCall_e, aCallK_e, aSl_e, aNoP_e, aCall0_e, gN_e, aNext_e, aSeq_e, aBrk_e, aCnt_e, aDrop_e, aRet_e, aRetN_e, aIfS_e, aAsg_e, aAug_e, aPar_e, aFor_e, aWhile_e, aYes_e, aIter_e, aEnum_e, aRange1_e, aRange2_e, aZip_e, aZipTL_e, aApp_e, aPopAt_e, aPop_e, aLenV_e, aIxV_e, aEqNilV_e, aTupV_e, aDnew_e, aListRg_e, aComp_e, aZip3T_e, aCallK0_e, gSetV_e, on_d, on_own, bl_b, it_i, ow_o, isOwn_o, seq_t, seq_l, seq_o, lst_l, lst_o, tup_t, same_t, same_l, one_1, fz_d, fz_r, fz_o, look_d, look_r, look_o, unA_0, unA_s, sl_0, sl_s, ons_n, ons_c, gI0_i, gI_i, gU_i, gIsN_n, gNotN_n, isNone_n, isNone_i, isNone_b, isNone_s, isNone_t, isNone_l, gEq_s, gNe_s, gIn_l, gIn_t, gNotIn_l, gNotIn_t, gIx_t, gIx_l, gCat_i, gCat_t, gCat_l, gMul_i, gMul_t, gMul_l, gCut_t, gCut_l, gP_x, intD_n, intD_b, intD_i, intD_s, intD_l, intD_t, intD_d, boolD_n, boolD_b, boolD_i, boolD_s, boolD_l, boolD_t, boolD_d, strD_n, strD_b, strD_i, strD_s, strD_l, strD_t, strD_d, tupD_n, tupD_b, tupD_i, tupD_s, tupD_l, tupD_t, tupD_d, wholeD_n, wholeD_b, wholeD_i, wholeD_s, wholeD_l, wholeD_t, wholeD_d, gLen_1, gTuple_1, gList_1, gInt_i, gInt_b, gAbs_i, gRepr_x, gAll_l, gAny_l, gSum_l, gGcd_i, gSorted_l, cDraw_1, two_1, three_1, cPick_1, gMax2_i, gMin2_i, gEqS_s, isStr_s, gNil_n, gCons_c, gT_t, gL_o, gL_l, at1_0, at2_0, at2_1, at3_0, at3_1, at3_2, cpow_e, cast_lit, abs_lit, aPart_e, gEq_i, gNe_i]
    refine comp_map (fun d => .tuple [.tuple ws, d]) (by show 17 ≤ 4000000; decide) (fun d hd J hJ => ?_) ?_
    · simp only [ends0, wipeA, List.map, List.set, List.cons_append, List.nil_append, List.length_cons, List.length_nil, ite_true, ite_false, Bool.not_true, Bool.not_false, Bool.true_and, Bool.and_true, Bool.false_and, Bool.and_false, reduceIte, reduceCtorEq, Bool.false_eq_true, if_true, if_false, Nat.reduceAdd, Nat.reduceLeDiff, ne_eq, not_false_eq_true, eq_self, not_true_eq_false, Nat.reduceSub, Nat.reduceMul, Nat.reduceLT, Nat.reducePow, Int.reduceLE, Int.reduceLT, Int.reduceAdd, Int.reduceSub, Int.reduceMul, Int.reduceNeg, Int.reducePow, Int.reduceToNat, Int.reduceEq, Int.reduceBEq, Option.some.injEq, exists_eq_left', exists_eq_left, true_and, and_true, decide_true, decide_false, Nat.reduceBEq, Bool.or_true, Bool.true_or, Bool.or_false, Bool.false_or, aVar_e, aC_e, aRaw_e, aOp_e, aUn_e, aNot_e, aAnd_e, aOr_e, aChain_e, aTern_e, aNil_e, aCons_e, aTup_e, aLst_e, aB_e, tAndA_e, tOrA_e, tNotA_e, aCB_e, aCall_e, aCallK_e, aSl_e, aNoP_e, aCall0_e, gN_e, aNext_e, aSeq_e, aBrk_e, aCnt_e, aDrop_e, aRet_e, aRetN_e, aIfS_e, aAsg_e, aAug_e, aPar_e, aFor_e, aWhile_e, aYes_e, aIter_e, aEnum_e, aRange1_e, aRange2_e, aZip_e, aZipTL_e, aApp_e, aPopAt_e, aPop_e, aLenV_e, aIxV_e, aEqNilV_e, aTupV_e, aDnew_e, aListRg_e, aComp_e, aZip3T_e, aCallK0_e, gSetV_e, on_d, on_own, bl_b, it_i, ow_o, isOwn_o, seq_t, seq_l, seq_o, lst_l, lst_o, tup_t, same_t, same_l, one_1, fz_d, fz_r, fz_o, look_d, look_r, look_o, unA_0, unA_s, sl_0, sl_s, ons_n, ons_c, gI0_i, gI_i, gU_i, gIsN_n, gNotN_n, isNone_n, isNone_i, isNone_b, isNone_s, isNone_t, isNone_l, gEq_s, gNe_s, gIn_l, gIn_t, gNotIn_l, gNotIn_t, gIx_t, gIx_l, gCat_i, gCat_t, gCat_l, gMul_i, gMul_t, gMul_l, gCut_t, gCut_l, gP_x, intD_n, intD_b, intD_i, intD_s, intD_l, intD_t, intD_d, boolD_n, boolD_b, boolD_i, boolD_s, boolD_l, boolD_t, boolD_d, strD_n, strD_b, strD_i, strD_s, strD_l, strD_t, strD_d, tupD_n, tupD_b, tupD_i, tupD_s, tupD_l, tupD_t, tupD_d, wholeD_n, wholeD_b, wholeD_i, wholeD_s, wholeD_l, wholeD_t, wholeD_d, gLen_1, gTuple_1, gList_1, gInt_i, gInt_b, gAbs_i, gRepr_x, gAll_l, gAny_l, gSum_l, gGcd_i, gSorted_l, cDraw_1, two_1, three_1, cPick_1, gMax2_i, gMin2_i, gEqS_s, isStr_s, gNil_n, gCons_c, gT_t, gL_o, gL_l, at1_0, at2_0, at2_1, at3_0, at3_1, at3_2, cpow_e, cast_lit, abs_lit, aPart_e, gEq_i, gNe_i]
      exact hJ
    simp only [ends0, wipeA, List.map, List.set, List.cons_append, List.nil_append, List.length_cons, List.length_nil, ite_true, ite_false, Bool.not_true, Bool.not_false, Bool.true_and, Bool.and_true, Bool.false_and, Bool.and_false, reduceIte, reduceCtorEq, Bool.false_eq_true, if_true, if_false, Nat.reduceAdd, Nat.reduceLeDiff, ne_eq, not_false_eq_true, eq_self, not_true_eq_false, Nat.reduceSub, Nat.reduceMul, Nat.reduceLT, Nat.reducePow, Int.reduceLE, Int.reduceLT, Int.reduceAdd, Int.reduceSub, Int.reduceMul, Int.reduceNeg, Int.reducePow, Int.reduceToNat, Int.reduceEq, Int.reduceBEq, Option.some.injEq, exists_eq_left', exists_eq_left, true_and, and_true, decide_true, decide_false, Nat.reduceBEq, Bool.or_true, Bool.true_or, Bool.or_false, Bool.false_or, aVar_e, aC_e, aRaw_e, aOp_e, aUn_e, aNot_e, aAnd_e, aOr_e, aChain_e, aTern_e, aNil_e, aCons_e, aTup_e, aLst_e, aB_e, tAndA_e, tOrA_e, tNotA_e, aCB_e, aCall_e, aCallK_e, aSl_e, aNoP_e, aCall0_e, gN_e, aNext_e, aSeq_e, aBrk_e, aCnt_e, aDrop_e, aRet_e, aRetN_e, aIfS_e, aAsg_e, aAug_e, aPar_e, aFor_e, aWhile_e, aYes_e, aIter_e, aEnum_e, aRange1_e, aRange2_e, aZip_e, aZipTL_e, aApp_e, aPopAt_e, aPop_e, aLenV_e, aIxV_e, aEqNilV_e, aTupV_e, aDnew_e, aListRg_e, aComp_e, aZip3T_e, aCallK0_e, gSetV_e, on_d, on_own, bl_b, it_i, ow_o, isOwn_o, seq_t, seq_l, seq_o, lst_l, lst_o, tup_t, same_t, same_l, one_1, fz_d, fz_r, fz_o, look_d, look_r, look_o, unA_0, unA_s, sl_0, sl_s, ons_n, ons_c, gI0_i, gI_i, gU_i, gIsN_n, gNotN_n, isNone_n, isNone_i, isNone_b, isNone_s, isNone_t, isNone_l, gEq_s, gNe_s, gIn_l, gIn_t, gNotIn_l, gNotIn_t, gIx_t, gIx_l, gCat_i, gCat_t, gCat_l, gMul_i, gMul_t, gMul_l, gCut_t, gCut_l, gP_x, intD_n, intD_b, intD_i, intD_s, intD_l, intD_t, intD_d, boolD_n, boolD_b, boolD_i, boolD_s, boolD_l, boolD_t, boolD_d, strD_n, strD_b, strD_i, strD_s, strD_l, strD_t, strD_d, tupD_n, tupD_b, tupD_i, tupD_s, tupD_l, tupD_t, tupD_d, wholeD_n, wholeD_b, wholeD_i, wholeD_s, wholeD_l, wholeD_t, wholeD_d, gLen_1, gTuple_1, gList_1, gInt_i, gInt_b, gAbs_i, gRepr_x, gAll_l, gAny_l, gSum_l, gGcd_i, gSorted_l, cDraw_1, two_1, three_1, cPick_1, gMax2_i, gMin2_i, gEqS_s, isStr_s, gNil_n, gCons_c, gT_t, gL_o, gL_l, at1_0, at2_0, at2_1, at3_0, at3_1, at3_2, cpow_e, cast_lit, abs_lit, aPart_e, gEq_i, gNe_i, List.mem_cons, List.not_mem_nil, or_false, forall_eq_or_imp, forall_eq]
    have oW : OkAll 10 2 ws := ws_ok w2 (by omega)
    have fl := big_of (i := lo) (Nat.le_trans hlo (by decide +kernel))
    have fh := big_of (i := hi) (Nat.le_trans hhi (by decide +kernel))
    have fl1 := big_of (i := lo + 1) (Nat.le_trans (show (lo + 1).natAbs ≤ 10 ^ 60 + 1 by omega) (by decide +kernel))
    have fm := big_of (i := m) (by omega)
    have fm1 := big_of (i := m - 1) (by omega)
    have fx := big_of (i := if hi > 0 then hi else 0) (by split <;> omega)
    have cw : ∀ d, Ok 20 2 d → Ok 60 4 (.tuple (Sx.cutD ws none (some r) ++ [d] ++ Sx.cutD ws (some (r + 1)) none)) := fun d o =>
      ((((oW.cut none (some r)).app (OkAll.one o)).app (oW.cut (some (r + 1)) none)).tup).ge (by decide) (by decide)
    have oS : Ok 60 4 (.tuple [.int lo, .int hi]) := by first | exact ⟨by decide +kernel, by decide +kernel, by decide +kernel⟩ | exact ⟨by (simp only [fine_t, fine_l, fine_b, fine_n, fine_d, fine_i, fineAll_c, fineAll_n, decide_true, Bool.and_self, Bool.and_true, Bool.true_and, fl, fh] <;> decide +kernel), le_ble rfl, le_ble rfl⟩
    have oT : Ok 60 4 (.tuple ws) := (oW.tup).ge (by decide) (by decide)
    have pr : ∀ d, Ok 60 4 d → Ok 200 8 (.tuple [d, .tuple [.int lo, .int hi]]) := fun d o => ((OkAll.cons o (OkAll.one oS)).tup).ge (by decide) (by decide)
    have pr2 : ∀ d, Ok 60 4 d → Ok 200 8 (.tuple [.tuple ws, d]) := fun d o => ((OkAll.cons oT (OkAll.one o)).tup).ge (by decide) (by decide)
    have o1 : Ok 60 4 (.tuple (ws ++ [.int 0])) := ((oW.app (OkAll.one (by first | exact ⟨by decide +kernel, by decide +kernel, by decide +kernel⟩ | exact ⟨by (simp only [fine_t, fine_l, fine_b, fine_n, fine_d, fine_i, fineAll_c, fineAll_n, decide_true, Bool.and_self, Bool.and_true, Bool.true_and, True.intro] <;> decide +kernel), le_ble rfl, le_ble rfl⟩ : Ok 1 2 (.int 0)))).tup).ge (by decide) (by decide)
    have o2 : Ok 60 4 (.tuple (Sx.cutD ws (some 1) none)) := ((oW.cut _ _).tup).ge (by decide) (by decide)
    have o3 : Ok 60 4 (.list ws) := (oW.lst).ge (by decide) (by decide)
    have o4 : Ok 200 8 (.tuple [.tuple ws, .tuple [.int lo, .int hi], .tuple []]) := ((OkAll.cons oT (OkAll.cons oS (OkAll.one (by first | exact ⟨by decide +kernel, by decide +kernel, by decide +kernel⟩ | exact ⟨by (simp only [fine_t, fine_l, fine_b, fine_n, fine_d, fine_i, fineAll_c, fineAll_n, decide_true, Bool.and_self, Bool.and_true, Bool.true_and, True.intro] <;> decide +kernel), le_ble rfl, le_ble rfl⟩ : Ok 1 4 (.tuple []))))).tup).ge (by decide) (by decide)
    have o5 : Ok 200 8 (.list [.tuple ws, .tuple [.int lo, .int hi]]) := ((OkAll.cons oT (OkAll.one oS)).lst).ge (by decide) (by decide)
    have o6 : Ok 200 8 (.tuple [.tuple [.int lo, .int hi], .tuple ws]) := ((OkAll.cons oS (OkAll.one oT)).tup).ge (by decide) (by decide)
    have o7 : Ok 200 8 (.tuple [.tuple ws]) := ((OkAll.one oT).tup).ge (by decide) (by decide)
    repeat' apply And.intro
    all_goals refine h _ ?_
    all_goals first
      | exact pr _ (cw _ (by first | exact ⟨by decide +kernel, by decide +kernel, by decide +kernel⟩ | exact ⟨by (simp only [fine_t, fine_l, fine_b, fine_n, fine_d, fine_i, fineAll_c, fineAll_n, decide_true, Bool.and_self, Bool.and_true, Bool.true_and, fm, fm1] <;> decide +kernel), le_ble rfl, le_ble rfl⟩))
      | exact pr _ o1
      | exact pr _ o2
      | exact pr _ o3
      | exact o4
      | exact o5
      | exact o6
      | exact o7
      | exact oT.ge (by decide) (by decide)
      | exact oS.ge (by decide) (by decide)
      | exact pr2 _ (by first | exact ⟨by decide +kernel, by decide +kernel, by decide +kernel⟩ | exact ⟨by (simp only [fine_t, fine_l, fine_b, fine_n, fine_d, fine_i, fineAll_c, fineAll_n, decide_true, Bool.and_self, Bool.and_true, Bool.true_and, fl, fh, fl1, fx] <;> decide +kernel), le_ble rfl, le_ble rfl⟩)
      | exact pr _ (by first | exact ⟨by decide +kernel, by decide +kernel, by decide +kernel⟩ | exact ⟨by (simp only [fine_t, fine_l, fine_b, fine_n, fine_d, fine_i, fineAll_c, fineAll_n, decide_true, Bool.and_self, Bool.and_true, Bool.true_and, fl, fh] <;> decide +kernel), le_ble rfl, le_ble rfl⟩)
      | first | exact ⟨by decide +kernel, by decide +kernel, by decide +kernel⟩ | exact ⟨by (simp only [fine_t, fine_l, fine_b, fine_n, fine_d, fine_i, fineAll_c, fineAll_n, decide_true, Bool.and_self, Bool.and_true, Bool.true_and, fl, fh] <;> decide +kernel), le_ble rfl, le_ble rfl⟩
  · exact h.elim
abbrev sp__law_odd (K : PySem.W.Frag) : Sp := SpL K (deckOf boxV) c__law_odd
section
variable {P : Program} {w : World} {K : PySem.W.Frag} {mg : Str → Option Value} {base : Heap} {a : Adr}
theorem ok__law_odd (T : Txt K mg a) : FnOk P w K mg base CX0 3 a.f__law_odd a.d__law_odd ["deck", "machine", "single"] (sp__law_odd K) := by
  have G__law_draw : FnOk P w K mg base CX0 1 a.f__law_draw a.d__law_draw ["deck", "many"] (sp__law_draw K) := ok__law_draw T
  have G__law_pick : FnOk P w K mg base CX0 2 a.f__law_pick a.d__law_pick ["deck", "items"] (sp__law_pick K) := ok__law_pick T
  refine T._law_odd.F.ok sc__law_odd (fun vs H Q E h => sp_len l__law_odd h) (fun cdv A outer s H vs Q E hr h => ?_)
  have hu := hu_of hr
  exact ⟨_, (pss_cons (ps_asg (pv 2) (show PG _ _ (gTup K 2 _) from pg_tup rfl (pgs_cons (pg_name (i := 9) sc__law_odd.nd rfl (by first | exact Or.inl rfl | exact Or.inr rfl)) (pgs_cons (pg_name (i := 10) sc__law_odd.nd rfl (by first | exact Or.inl rfl | exact Or.inr rfl)) pgs_nil))))
      (pss_cons (ps_set (i := 3) sc__law_odd.nd rfl (by first | exact Or.inl rfl | exact Or.inr rfl) (pe_call G__law_draw (hr.mono (by decide)) (by rfl) T._law_draw.m T._law_draw.F.kp T._law_draw.b .nil pass0 (pa_cons (pv 0) (pa_cons (pe_callB (show CallR _ _ (Sx.rLenS K) from call_len_seq) (by rfl) T.b_len (by decide +kernel) (pa_cons (pv 9) pa_nil)) pa_nil))))
      (pss_cons (ps_set (i := 4) sc__law_odd.nd rfl (by first | exact Or.inl rfl | exact Or.inr rfl) (pe_lst (pa_cons (pe_ix (show IxR _ (rIx K) from ix_seq) (pv 1) (pv 3) (fun _ _ => rfl)) (pa_cons (pe_op op_sub (pe_ix (show IxR _ (rIx K) from ix_seq) (pv 1) (pv 3) (fun _ _ => rfl)) pe_int) (pa_cons (pe_un un_neg pe_int) (pa_cons pe_bl (pa_cons pe_bl (pa_cons pe_non (pa_cons pe_str (pa_cons (pe_tup (pa_cons pe_int pa_nil)) (pa_cons (pe_lst (pa_cons pe_int pa_nil)) (pa_cons (pe_op op_pow pe_int pe_int) pa_nil))))))))))))
      (pss_cons (ps_set (i := 5) sc__law_odd.nd rfl (by first | exact Or.inl rfl | exact Or.inr rfl) (pe_op (show OpR _ _ (rPlus K) from op_plus) (pe_lc (own := [("rest", 13)]) rfl sc__law_odd.nd (show PI _ _ _ (iAny K _) from pi_any (pv 4)) (blkOk_by (N := ["deck", "machine", "single", "lane", "rests", "words", "ends", "far", "found", "word", "stretch", "low", "high", "rest", "own"]) (sc := defScope s__law_odd) (by decide +kernel)) (fun _ _ _ _ _ => (pg_name (i := 13) sc__law_odd.nd rfl (by first | exact Or.inl rfl | exact Or.inr rfl))) (fun _ _ _ _ _ => pts_nil) (fun _ _ _ _ _ => (pe_op (show OpR _ _ (rPlus K) from op_plus) (pe_op (show OpR _ _ (rPlus K) from op_plus) (pe_slice (show L2.SlR _ (rCut K) from sl_cut) (pv 9) po_none (po_some (pv 3))) (pe_tup (pa_cons (pv 13) pa_nil))) (pe_slice (show L2.SlR _ (rCut K) from sl_cut) (pv 9) (po_some (pe_op (show OpR _ _ (rPlus K) from op_plus) (pv 3) pe_int)) po_none)))) (pe_lst (pa_cons (pe_op (show OpR _ _ (rPlus K) from op_plus) (pv 9) (pe_tup (pa_cons pe_int pa_nil))) (pa_cons (pe_slice (show L2.SlR _ (rCut K) from sl_cut) (pv 9) (po_some pe_int) po_none) (pa_cons (pe_callTy (show CallR _ _ (Sx.rListS K) from call_list_of) (by rfl) T.b_list (by decide +kernel) (pa_cons (pv 9) pa_nil)) (pa_cons (pe_tup pa_nil) (pa_cons pe_non pa_nil))))))))
      (pss_cons (ps_asg (pv 10) (show PG _ _ (gTup K 2 _) from pg_tup rfl (pgs_cons (pg_name (i := 11) sc__law_odd.nd rfl (by first | exact Or.inl rfl | exact Or.inr rfl)) (pgs_cons (pg_name (i := 12) sc__law_odd.nd rfl (by first | exact Or.inl rfl | exact Or.inr rfl)) pgs_nil))))
      (pss_cons (ps_set (i := 6) sc__law_odd.nd rfl (by first | exact Or.inl rfl | exact Or.inr rfl) (pe_lst (pa_cons (pe_tup (pa_cons (pv 12) (pa_cons (pv 11) pa_nil))) (pa_cons (pe_tup (pa_cons (pv 11) pa_nil)) (pa_cons (pe_tup (pa_cons (pv 11) (pa_cons (pv 12) (pa_cons (pv 12) pa_nil)))) (pa_cons (pe_lst (pa_cons (pv 11) (pa_cons (pv 12) pa_nil))) (pa_cons (pe_tup (pa_cons (pv 11) (pa_cons pe_bl pa_nil))) (pa_cons (pe_tup (pa_cons pe_non (pa_cons (pv 12) pa_nil))) (pa_cons (pe_tup (pa_cons (pv 11) (pa_cons pe_str pa_nil))) (pa_cons (pe_tup pa_nil) (pa_cons pe_non (pa_cons pe_int pa_nil))))))))))))
      (pss_cons (ps_expr (show PE _ _ (tBM K "list" _ _ _) from pe_bm PySem.F.plainAttrs_list PySem.F.slot_list_append PySem.F.type_list_append mt_append (pv 6) (pa_cons (pe_tup (pa_cons pe_bl (pa_cons (pe_callB (show CallR _ _ rMax2 from call_max2 rfl) (by rfl) T.b_max (by decide +kernel) (pa_cons pe_int (pa_cons (pv 12) pa_nil))) pa_nil))) pa_nil)))
      (pss_cons (ps_set (i := 7) sc__law_odd.nd rfl (by first | exact Or.inl rfl | exact Or.inr rfl) (pe_op op_pow pe_int pe_int))
      (pss_cons (ps_set (i := 6) sc__law_odd.nd rfl (by first | exact Or.inl rfl | exact Or.inr rfl) (pe_op (show OpR _ _ (rPlus K) from op_plus) (pv 6) (pe_lst (pa_cons (pe_tup (pa_cons (pv 11) (pa_cons (pv 7) pa_nil))) (pa_cons (pe_tup (pa_cons (pv 11) (pa_cons (pe_op (show OpR _ _ (rPlus K) from op_plus) (pv 7) pe_int) pa_nil))) (pa_cons (pe_tup (pa_cons (pe_op op_sub (pe_un un_neg (pv 7)) pe_int) (pa_cons (pv 12) pa_nil))) (pa_cons (pe_tup (pa_cons (pv 11) (pa_cons (pv 11) pa_nil))) (pa_cons (pe_tup (pa_cons (pe_op (show OpR _ _ (rPlus K) from op_plus) (pv 11) pe_int) (pa_cons (pv 11) pa_nil))) (pa_cons (pe_tup (pa_cons (pv 11) (pa_cons (pe_op (show OpR _ _ (rTimes K) from op_times) (pe_op (show OpR _ _ (rTimes K) from op_times) (pv 7) (pv 7)) (pv 7)) pa_nil))) pa_nil)))))))))
      (pss_cons (ps_set (i := 8) sc__law_odd.nd rfl (by first | exact Or.inl rfl | exact Or.inr rfl) (pe_op (show OpR _ _ (rPlus K) from op_plus) (pe_lc (own := [("own", 14)]) rfl sc__law_odd.nd (show PI _ _ _ (iAny K _) from pi_any (pv 5)) (blkOk_by (N := ["deck", "machine", "single", "lane", "rests", "words", "ends", "far", "found", "word", "stretch", "low", "high", "rest", "own"]) (sc := defScope s__law_odd) (by decide +kernel)) (fun _ _ _ _ _ => (pg_name (i := 14) sc__law_odd.nd rfl (by first | exact Or.inl rfl | exact Or.inr rfl))) (fun _ _ _ _ _ => pts_nil) (fun _ _ _ _ _ => (pe_tup (pa_cons (pv 14) (pa_cons (pv 10) pa_nil))))) (pe_lc (own := [("own", 14)]) rfl sc__law_odd.nd (show PI _ _ _ (iAny K _) from pi_any (pv 6)) (blkOk_by (N := ["deck", "machine", "single", "lane", "rests", "words", "ends", "far", "found", "word", "stretch", "low", "high", "rest", "own"]) (sc := defScope s__law_odd) (by decide +kernel)) (fun _ _ _ _ _ => (pg_name (i := 14) sc__law_odd.nd rfl (by first | exact Or.inl rfl | exact Or.inr rfl))) (fun _ _ _ _ _ => pts_nil) (fun _ _ _ _ _ => (pe_tup (pa_cons (pv 9) (pa_cons (pv 14) pa_nil)))))))
      (pss_cons (ps_set (i := 8) sc__law_odd.nd rfl (by first | exact Or.inl rfl | exact Or.inr rfl) (pe_op (show OpR _ _ (rPlus K) from op_plus) (pv 8) (pe_lst (pa_cons (pe_tup (pa_cons (pv 10) (pa_cons (pv 9) pa_nil))) (pa_cons (pe_tup (pa_cons (pv 9) pa_nil)) (pa_cons (pe_tup (pa_cons (pv 9) (pa_cons (pv 10) (pa_cons (pe_tup pa_nil) pa_nil)))) (pa_cons (pe_lst (pa_cons (pv 9) (pa_cons (pv 10) pa_nil))) (pa_cons (pv 9) (pa_cons (pv 10) (pa_cons pe_non (pa_cons pe_dnewK (pa_cons pe_str (pa_cons pe_int pa_nil)))))))))))))
      (pss_one (ps_ret (pe_call G__law_pick hr (by rfl) T._law_pick.m T._law_pick.F.kp T._law_pick.b .nil pass0 (pa_cons (pv 0) (pa_cons (pv 8) pa_nil)))))))))))))))),
    run0 (N := ["deck", "machine", "single", "lane", "rests", "words", "ends", "far", "found", "word", "stretch", "low", "high", "rest", "own"]) (np := 3) (f := b__law_odd) h (sp_len l__law_odd h) (fun dk B hb => (show LS B K Wno _ (b__law_odd dk) from
      (ls_seq (ls_asg (le_var (i := 2)) (lg_tup (lgs_cons (lg_name (i := 9)) (lgs_cons (lg_name (i := 10)) lgs_nil)) (gC_len (gC_len gN_len))))
      (ls_seq (ls_asg (le_call0 (dk := dk) (c := c__law_draw) hb (la_cons (le_var (i := 0)) (la_cons (le_cb cl_len (la_cons (le_var (i := 9)) la_nil)) la_nil))) (lg_name (i := 3)))
      (ls_seq (ls_asg (le_lst (la_cons (le_op ol_ix (le_var (i := 1)) (le_var (i := 3))) (la_cons (le_op (ol_I0 fun _ _ _ => .int _) (le_op ol_ix (le_var (i := 1)) (le_var (i := 3))) (le_c (y := .int 1) fun _ => .int _)) (la_cons (le_un (ul_U fun _ _ => .int _) (le_c (y := .int 1) fun _ => .int _)) (la_cons (le_c (y := .bool true) fun _ => .bl _) (la_cons (le_c (y := .bool false) fun _ => .bl _) (la_cons (le_c (y := .none) fun _ => .non) (la_cons (le_c (y := .str "0") fun _ => .str _) (la_cons (le_tup (la_cons (le_c (y := .int 0) fun _ => .int _) la_nil) (by decide)) (la_cons (le_lst (la_cons (le_c (y := .int 0) fun _ => .int _) la_nil) (by decide)) (la_cons (le_op (ol_I fun _ _ _ => .int _) (le_c (y := .int 10) fun _ => .int _) (le_c (y := .int 60) fun _ => .int _)) la_nil)))))))))) (by decide)) (lg_name (i := 4)))
      (ls_seq (ls_asg (le_op (ol_plus) (le_comp (vs := [13]) (li_any (le_var (i := 4))) (lg_name (i := 13)) (tg_name (by decide)) lt_yes (le_op (ol_plus) (le_op (ol_plus) (le_sl sll_cut (le_var (i := 9)) lo_no (lo_some (le_var (i := 3)))) (le_tup (la_cons (le_var (i := 13)) la_nil) (by decide))) (le_sl sll_cut (le_var (i := 9)) (lo_some (le_op (ol_plus) (le_var (i := 3)) (le_c (y := .int 1) fun _ => .int _))) lo_no))) (le_lst (la_cons (le_op (ol_plus) (le_var (i := 9)) (le_tup (la_cons (le_c (y := .int 0) fun _ => .int _) la_nil) (by decide))) (la_cons (le_sl sll_cut (le_var (i := 9)) (lo_some (le_c (y := .int 1) fun _ => .int _)) lo_no) (la_cons (le_cb cl_list (la_cons (le_var (i := 9)) la_nil)) (la_cons (le_tup la_nil (by decide)) (la_cons (le_c (y := .none) fun _ => .non) la_nil))))) (by decide))) (lg_name (i := 5)))
      (ls_seq (ls_asg (le_var (i := 10)) (lg_tup (lgs_cons (lg_name (i := 11)) (lgs_cons (lg_name (i := 12)) lgs_nil)) (gC_len (gC_len gN_len))))
      (ls_seq (ls_asg (le_lst (la_cons (le_tup (la_cons (le_var (i := 12)) (la_cons (le_var (i := 11)) la_nil)) (by decide)) (la_cons (le_tup (la_cons (le_var (i := 11)) la_nil) (by decide)) (la_cons (le_tup (la_cons (le_var (i := 11)) (la_cons (le_var (i := 12)) (la_cons (le_var (i := 12)) la_nil))) (by decide)) (la_cons (le_lst (la_cons (le_var (i := 11)) (la_cons (le_var (i := 12)) la_nil)) (by decide)) (la_cons (le_tup (la_cons (le_var (i := 11)) (la_cons (le_c (y := .bool true) fun _ => .bl _) la_nil)) (by decide)) (la_cons (le_tup (la_cons (le_c (y := .none) fun _ => .non) (la_cons (le_var (i := 12)) la_nil)) (by decide)) (la_cons (le_tup (la_cons (le_var (i := 11)) (la_cons (le_c (y := .str "9") fun _ => .str _) la_nil)) (by decide)) (la_cons (le_tup la_nil (by decide)) (la_cons (le_c (y := .none) fun _ => .non) (la_cons (le_c (y := .int 5) fun _ => .int _) la_nil)))))))))) (by decide)) (lg_name (i := 6)))
      (ls_seq (ls_drop (le_app (i := 6) (le_tup (la_cons (le_c (y := .bool false) fun _ => .bl _) (la_cons (le_cb cl_max2 (la_cons (le_c (y := .int 0) fun _ => .int _) (la_cons (le_var (i := 12)) la_nil))) la_nil)) (by decide))))
      (ls_seq (ls_asg (le_op (ol_I fun _ _ _ => .int _) (le_c (y := .int 10) fun _ => .int _) (le_c (y := .int 60) fun _ => .int _)) (lg_name (i := 7)))
      (ls_seq (ls_asg (le_op (ol_plus) (le_var (i := 6)) (le_lst (la_cons (le_tup (la_cons (le_var (i := 11)) (la_cons (le_var (i := 7)) la_nil)) (by decide)) (la_cons (le_tup (la_cons (le_var (i := 11)) (la_cons (le_op (ol_plus) (le_var (i := 7)) (le_c (y := .int 1) fun _ => .int _)) la_nil)) (by decide)) (la_cons (le_tup (la_cons (le_op (ol_I0 fun _ _ _ => .int _) (le_un (ul_U fun _ _ => .int _) (le_var (i := 7))) (le_c (y := .int 1) fun _ => .int _)) (la_cons (le_var (i := 12)) la_nil)) (by decide)) (la_cons (le_tup (la_cons (le_var (i := 11)) (la_cons (le_var (i := 11)) la_nil)) (by decide)) (la_cons (le_tup (la_cons (le_op (ol_plus) (le_var (i := 11)) (le_c (y := .int 1) fun _ => .int _)) (la_cons (le_var (i := 11)) la_nil)) (by decide)) (la_cons (le_tup (la_cons (le_var (i := 11)) (la_cons (le_op (ol_times) (le_op (ol_times) (le_var (i := 7)) (le_var (i := 7))) (le_var (i := 7))) la_nil)) (by decide)) la_nil)))))) (by decide))) (lg_name (i := 6)))
      (ls_seq (ls_asg (le_op (ol_plus) (le_comp (vs := [14]) (li_any (le_var (i := 5))) (lg_name (i := 14)) (tg_name (by decide)) lt_yes (le_tup (la_cons (le_var (i := 14)) (la_cons (le_var (i := 10)) la_nil)) (by decide))) (le_comp (vs := [14]) (li_any (le_var (i := 6))) (lg_name (i := 14)) (tg_name (by decide)) lt_yes (le_tup (la_cons (le_var (i := 9)) (la_cons (le_var (i := 14)) la_nil)) (by decide)))) (lg_name (i := 8)))
      (ls_seq (ls_asg (le_op (ol_plus) (le_var (i := 8)) (le_lst (la_cons (le_tup (la_cons (le_var (i := 10)) (la_cons (le_var (i := 9)) la_nil)) (by decide)) (la_cons (le_tup (la_cons (le_var (i := 9)) la_nil) (by decide)) (la_cons (le_tup (la_cons (le_var (i := 9)) (la_cons (le_var (i := 10)) (la_cons (le_tup la_nil (by decide)) la_nil))) (by decide)) (la_cons (le_lst (la_cons (le_var (i := 9)) (la_cons (le_var (i := 10)) la_nil)) (by decide)) (la_cons (le_var (i := 9)) (la_cons (le_var (i := 10)) (la_cons (le_c (y := .none) fun _ => .non) (la_cons le_dnew (la_cons (le_c (y := .str "run") fun _ => .str _) (la_cons (le_c (y := .int 0) fun _ => .int _) la_nil)))))))))) (by decide))) (lg_name (i := 8)))
      (ls_ret (le_call0 (dk := dk) (c := c__law_pick) hb (la_cons (le_var (i := 0)) (la_cons (le_var (i := 8)) la_nil))))))))))))))))) h__law_odd⟩
end
def c_stretch_error : V → Ct := fun _ as R _ => match as with
  | [.d v] => R (.d (stretchD v))
  | _ => False
def b_stretch_error (dk : V) : ASx :=
  (aSeq (aIfS (tOrA (tNotA (aB (aUn (gP tupD) (aVar 0)))) (aB (aOp (gNe) (aCB gLen (aCons (aVar 0) aNil)) (aC (.int 2))))) (aRet (aC (.str "form"))) aNext)
      (aSeq (aAsg (aVar 0) (gT (gCons (gN 1) (gCons (gN 2) gNil))))
      (aSeq (aIfS (tOrA (tNotA (aB (aCall0 (c_is_number dk) (aCons (aVar 1) aNil)))) (tNotA (aB (aCall0 (c_is_number dk) (aCons (aVar 2) aNil))))) (aRet (aC (.str "form"))) aNext)
      (aSeq (aIfS (aB (aOp (gI0 fun i j => .bool (decide (j < i))) (aVar 1) (aVar 2))) (aRet (aC (.str "empty"))) aNext)
      (aRet (aC (.none)))))))
theorem l_stretch_error : ∀ (dk : V) (as : List A) (R : A → Prop) (Z : Ex → Prop), c_stretch_error dk as R Z → as.length = 1 := by
  intro dk as R Z h
  unfold c_stretch_error at h
  split at h
  · rfl
  · exact h.elim
theorem h_stretch_error : ∀ (dk : V) (as : List A) (R : A → Prop) (Z : Ex → Prop), as.length = 1 → c_stretch_error dk as R Z → b_stretch_error dk (ends0 R) (fun _ => R (.d .none)) (as ++ unA ((["value", "low", "high"] : List Str).length - 1)) := by
  intro dk as R Z hl h
  unfold c_stretch_error at h
  split at h
  · rename_i v
    cases v <;> simp only [b_stretch_error, ends0, wipeA, List.map, List.set, List.cons_append, List.nil_append, List.length_cons, List.length_nil, ite_true, ite_false, Bool.not_true, Bool.not_false, Bool.true_and, Bool.and_true, Bool.false_and, Bool.and_false, reduceIte, reduceCtorEq, Bool.false_eq_true, if_true, if_false, Nat.reduceAdd, Nat.reduceLeDiff, ne_eq, not_false_eq_true, eq_self, not_true_eq_false, Nat.reduceSub, Nat.reduceMul, Nat.reduceLT, Nat.reducePow, Int.reduceLE, Int.reduceLT, Int.reduceAdd, Int.reduceSub, Int.reduceMul, Int.reduceNeg, Int.reducePow, Int.reduceToNat, Int.reduceEq, Int.reduceBEq, Option.some.injEq, exists_eq_left', exists_eq_left, true_and, and_true, decide_true, decide_false, Nat.reduceBEq, Bool.or_true, Bool.true_or, Bool.or_false, Bool.false_or, aVar_e, aC_e, aRaw_e, aOp_e, aUn_e, aNot_e, aAnd_e, aOr_e, aChain_e, aTern_e, aNil_e, aCons_e, aTup_e, aLst_e, aB_e, tAndA_e, tOrA_e, tNotA_e, aCB_e, aCall_e, aCallK_e, aSl_e, aNoP_e, aCall0_e, gN_e, aNext_e, aSeq_e, aBrk_e, aCnt_e, aDrop_e, aRet_e, aRetN_e, aIfS_e, aAsg_e, aAug_e, aPar_e, aFor_e, aWhile_e, aYes_e, aIter_e, aEnum_e, aRange1_e, aRange2_e, aZip_e, aZipTL_e, aApp_e, aPopAt_e, aPop_e, aLenV_e, aIxV_e, aEqNilV_e, aTupV_e, aDnew_e, aListRg_e, aComp_e, aZip3T_e, aCallK0_e, gSetV_e, on_d, on_own, bl_b, it_i, ow_o, isOwn_o, seq_t, seq_l, seq_o, lst_l, lst_o, tup_t, same_t, same_l, one_1, fz_d, fz_r, fz_o, look_d, look_r, look_o, unA_0, unA_s, sl_0, sl_s, ons_n, ons_c, gI0_i, gI_i, gU_i, gIsN_n, gNotN_n, isNone_n, isNone_i, isNone_b, isNone_s, isNone_t, isNone_l, gEq_s, gNe_s, gIn_l, gIn_t, gNotIn_l, gNotIn_t, gIx_t, gIx_l, gCat_i, gCat_t, gCat_l, gMul_i, gMul_t, gMul_l, gCut_t, gCut_l, gP_x, intD_n, intD_b, intD_i, intD_s, intD_l, intD_t, intD_d, boolD_n, boolD_b, boolD_i, boolD_s, boolD_l, boolD_t, boolD_d, strD_n, strD_b, strD_i, strD_s, strD_l, strD_t, strD_d, tupD_n, tupD_b, tupD_i, tupD_s, tupD_l, tupD_t, tupD_d, wholeD_n, wholeD_b, wholeD_i, wholeD_s, wholeD_l, wholeD_t, wholeD_d, gLen_1, gTuple_1, gList_1, gInt_i, gInt_b, gAbs_i, gRepr_x, gAll_l, gAny_l, gSum_l, gGcd_i, gSorted_l, cDraw_1, two_1, three_1, cPick_1, gMax2_i, gMin2_i, gEqS_s, isStr_s, gNil_n, gCons_c, gT_t, gL_o, gL_l, at1_0, at2_0, at2_1, at3_0, at3_1, at3_2, cpow_e, cast_lit, abs_lit, aPart_e, gEq_i, gNe_i] <;> try exact h
    rename_i ds
    by_cases h2 : ds.length = 2
    · match ds, h2, h with
      | [x, y], _, h =>
        simp only [c_is_number, ends0, wipeA, List.map, List.set, List.cons_append, List.nil_append, List.length_cons, List.length_nil, ite_true, ite_false, Bool.not_true, Bool.not_false, Bool.true_and, Bool.and_true, Bool.false_and, Bool.and_false, reduceIte, reduceCtorEq, Bool.false_eq_true, if_true, if_false, Nat.reduceAdd, Nat.reduceLeDiff, ne_eq, not_false_eq_true, eq_self, not_true_eq_false, Nat.reduceSub, Nat.reduceMul, Nat.reduceLT, Nat.reducePow, Int.reduceLE, Int.reduceLT, Int.reduceAdd, Int.reduceSub, Int.reduceMul, Int.reduceNeg, Int.reducePow, Int.reduceToNat, Int.reduceEq, Int.reduceBEq, Option.some.injEq, exists_eq_left', exists_eq_left, true_and, and_true, decide_true, decide_false, Nat.reduceBEq, Bool.or_true, Bool.true_or, Bool.or_false, Bool.false_or, aVar_e, aC_e, aRaw_e, aOp_e, aUn_e, aNot_e, aAnd_e, aOr_e, aChain_e, aTern_e, aNil_e, aCons_e, aTup_e, aLst_e, aB_e, tAndA_e, tOrA_e, tNotA_e, aCB_e, aCall_e, aCallK_e, aSl_e, aNoP_e, aCall0_e, gN_e, aNext_e, aSeq_e, aBrk_e, aCnt_e, aDrop_e, aRet_e, aRetN_e, aIfS_e, aAsg_e, aAug_e, aPar_e, aFor_e, aWhile_e, aYes_e, aIter_e, aEnum_e, aRange1_e, aRange2_e, aZip_e, aZipTL_e, aApp_e, aPopAt_e, aPop_e, aLenV_e, aIxV_e, aEqNilV_e, aTupV_e, aDnew_e, aListRg_e, aComp_e, aZip3T_e, aCallK0_e, gSetV_e, on_d, on_own, bl_b, it_i, ow_o, isOwn_o, seq_t, seq_l, seq_o, lst_l, lst_o, tup_t, same_t, same_l, one_1, fz_d, fz_r, fz_o, look_d, look_r, look_o, unA_0, unA_s, sl_0, sl_s, ons_n, ons_c, gI0_i, gI_i, gU_i, gIsN_n, gNotN_n, isNone_n, isNone_i, isNone_b, isNone_s, isNone_t, isNone_l, gEq_s, gNe_s, gIn_l, gIn_t, gNotIn_l, gNotIn_t, gIx_t, gIx_l, gCat_i, gCat_t, gCat_l, gMul_i, gMul_t, gMul_l, gCut_t, gCut_l, gP_x, intD_n, intD_b, intD_i, intD_s, intD_l, intD_t, intD_d, boolD_n, boolD_b, boolD_i, boolD_s, boolD_l, boolD_t, boolD_d, strD_n, strD_b, strD_i, strD_s, strD_l, strD_t, strD_d, tupD_n, tupD_b, tupD_i, tupD_s, tupD_l, tupD_t, tupD_d, wholeD_n, wholeD_b, wholeD_i, wholeD_s, wholeD_l, wholeD_t, wholeD_d, gLen_1, gTuple_1, gList_1, gInt_i, gInt_b, gAbs_i, gRepr_x, gAll_l, gAny_l, gSum_l, gGcd_i, gSorted_l, cDraw_1, two_1, three_1, cPick_1, gMax2_i, gMin2_i, gEqS_s, isStr_s, gNil_n, gCons_c, gT_t, gL_o, gL_l, at1_0, at2_0, at2_1, at3_0, at3_1, at3_2, cpow_e, cast_lit, abs_lit, aPart_e, gEq_i, gNe_i]
        cases n1 : numD x with
        | false =>
          rw [stretch_bad (.inl n1)] at h
          simp only [ends0, wipeA, List.map, List.set, List.cons_append, List.nil_append, List.length_cons, List.length_nil, ite_true, ite_false, Bool.not_true, Bool.not_false, Bool.true_and, Bool.and_true, Bool.false_and, Bool.and_false, reduceIte, reduceCtorEq, Bool.false_eq_true, if_true, if_false, Nat.reduceAdd, Nat.reduceLeDiff, ne_eq, not_false_eq_true, eq_self, not_true_eq_false, Nat.reduceSub, Nat.reduceMul, Nat.reduceLT, Nat.reducePow, Int.reduceLE, Int.reduceLT, Int.reduceAdd, Int.reduceSub, Int.reduceMul, Int.reduceNeg, Int.reducePow, Int.reduceToNat, Int.reduceEq, Int.reduceBEq, Option.some.injEq, exists_eq_left', exists_eq_left, true_and, and_true, decide_true, decide_false, Nat.reduceBEq, Bool.or_true, Bool.true_or, Bool.or_false, Bool.false_or, aVar_e, aC_e, aRaw_e, aOp_e, aUn_e, aNot_e, aAnd_e, aOr_e, aChain_e, aTern_e, aNil_e, aCons_e, aTup_e, aLst_e, aB_e, tAndA_e, tOrA_e, tNotA_e, aCB_e, aCall_e, aCallK_e, aSl_e, aNoP_e, aCall0_e, gN_e, aNext_e, aSeq_e, aBrk_e, aCnt_e, aDrop_e, aRet_e, aRetN_e, aIfS_e, aAsg_e, aAug_e, aPar_e, aFor_e, aWhile_e, aYes_e, aIter_e, aEnum_e, aRange1_e, aRange2_e, aZip_e, aZipTL_e, aApp_e, aPopAt_e, aPop_e, aLenV_e, aIxV_e, aEqNilV_e, aTupV_e, aDnew_e, aListRg_e, aComp_e, aZip3T_e, aCallK0_e, gSetV_e, on_d, on_own, bl_b, it_i, ow_o, isOwn_o, seq_t, seq_l, seq_o, lst_l, lst_o, tup_t, same_t, same_l, one_1, fz_d, fz_r, fz_o, look_d, look_r, look_o, unA_0, unA_s, sl_0, sl_s, ons_n, ons_c, gI0_i, gI_i, gU_i, gIsN_n, gNotN_n, isNone_n, isNone_i, isNone_b, isNone_s, isNone_t, isNone_l, gEq_s, gNe_s, gIn_l, gIn_t, gNotIn_l, gNotIn_t, gIx_t, gIx_l, gCat_i, gCat_t, gCat_l, gMul_i, gMul_t, gMul_l, gCut_t, gCut_l, gP_x, intD_n, intD_b, intD_i, intD_s, intD_l, intD_t, intD_d, boolD_n, boolD_b, boolD_i, boolD_s, boolD_l, boolD_t, boolD_d, strD_n, strD_b, strD_i, strD_s, strD_l, strD_t, strD_d, tupD_n, tupD_b, tupD_i, tupD_s, tupD_l, tupD_t, tupD_d, wholeD_n, wholeD_b, wholeD_i, wholeD_s, wholeD_l, wholeD_t, wholeD_d, gLen_1, gTuple_1, gList_1, gInt_i, gInt_b, gAbs_i, gRepr_x, gAll_l, gAny_l, gSum_l, gGcd_i, gSorted_l, cDraw_1, two_1, three_1, cPick_1, gMax2_i, gMin2_i, gEqS_s, isStr_s, gNil_n, gCons_c, gT_t, gL_o, gL_l, at1_0, at2_0, at2_1, at3_0, at3_1, at3_2, cpow_e, cast_lit, abs_lit, aPart_e, gEq_i, gNe_i]
          exact h
        | true =>
          cases n2 : numD y with
          | false =>
            rw [stretch_bad (.inr n2)] at h
            simp only [ends0, wipeA, List.map, List.set, List.cons_append, List.nil_append, List.length_cons, List.length_nil, ite_true, ite_false, Bool.not_true, Bool.not_false, Bool.true_and, Bool.and_true, Bool.false_and, Bool.and_false, reduceIte, reduceCtorEq, Bool.false_eq_true, if_true, if_false, Nat.reduceAdd, Nat.reduceLeDiff, ne_eq, not_false_eq_true, eq_self, not_true_eq_false, Nat.reduceSub, Nat.reduceMul, Nat.reduceLT, Nat.reducePow, Int.reduceLE, Int.reduceLT, Int.reduceAdd, Int.reduceSub, Int.reduceMul, Int.reduceNeg, Int.reducePow, Int.reduceToNat, Int.reduceEq, Int.reduceBEq, Option.some.injEq, exists_eq_left', exists_eq_left, true_and, and_true, decide_true, decide_false, Nat.reduceBEq, Bool.or_true, Bool.true_or, Bool.or_false, Bool.false_or, aVar_e, aC_e, aRaw_e, aOp_e, aUn_e, aNot_e, aAnd_e, aOr_e, aChain_e, aTern_e, aNil_e, aCons_e, aTup_e, aLst_e, aB_e, tAndA_e, tOrA_e, tNotA_e, aCB_e, aCall_e, aCallK_e, aSl_e, aNoP_e, aCall0_e, gN_e, aNext_e, aSeq_e, aBrk_e, aCnt_e, aDrop_e, aRet_e, aRetN_e, aIfS_e, aAsg_e, aAug_e, aPar_e, aFor_e, aWhile_e, aYes_e, aIter_e, aEnum_e, aRange1_e, aRange2_e, aZip_e, aZipTL_e, aApp_e, aPopAt_e, aPop_e, aLenV_e, aIxV_e, aEqNilV_e, aTupV_e, aDnew_e, aListRg_e, aComp_e, aZip3T_e, aCallK0_e, gSetV_e, on_d, on_own, bl_b, it_i, ow_o, isOwn_o, seq_t, seq_l, seq_o, lst_l, lst_o, tup_t, same_t, same_l, one_1, fz_d, fz_r, fz_o, look_d, look_r, look_o, unA_0, unA_s, sl_0, sl_s, ons_n, ons_c, gI0_i, gI_i, gU_i, gIsN_n, gNotN_n, isNone_n, isNone_i, isNone_b, isNone_s, isNone_t, isNone_l, gEq_s, gNe_s, gIn_l, gIn_t, gNotIn_l, gNotIn_t, gIx_t, gIx_l, gCat_i, gCat_t, gCat_l, gMul_i, gMul_t, gMul_l, gCut_t, gCut_l, gP_x, intD_n, intD_b, intD_i, intD_s, intD_l, intD_t, intD_d, boolD_n, boolD_b, boolD_i, boolD_s, boolD_l, boolD_t, boolD_d, strD_n, strD_b, strD_i, strD_s, strD_l, strD_t, strD_d, tupD_n, tupD_b, tupD_i, tupD_s, tupD_l, tupD_t, tupD_d, wholeD_n, wholeD_b, wholeD_i, wholeD_s, wholeD_l, wholeD_t, wholeD_d, gLen_1, gTuple_1, gList_1, gInt_i, gInt_b, gAbs_i, gRepr_x, gAll_l, gAny_l, gSum_l, gGcd_i, gSorted_l, cDraw_1, two_1, three_1, cPick_1, gMax2_i, gMin2_i, gEqS_s, isStr_s, gNil_n, gCons_c, gT_t, gL_o, gL_l, at1_0, at2_0, at2_1, at3_0, at3_1, at3_2, cpow_e, cast_lit, abs_lit, aPart_e, gEq_i, gNe_i]
            exact h
          | true =>
            obtain ⟨i, rfl, _⟩ := within_num n1
            obtain ⟨j, rfl, _⟩ := within_num n2
            rw [stretch_good n1 n2] at h
            simp only [ends0, wipeA, List.map, List.set, List.cons_append, List.nil_append, List.length_cons, List.length_nil, ite_true, ite_false, Bool.not_true, Bool.not_false, Bool.true_and, Bool.and_true, Bool.false_and, Bool.and_false, reduceIte, reduceCtorEq, Bool.false_eq_true, if_true, if_false, Nat.reduceAdd, Nat.reduceLeDiff, ne_eq, not_false_eq_true, eq_self, not_true_eq_false, Nat.reduceSub, Nat.reduceMul, Nat.reduceLT, Nat.reducePow, Int.reduceLE, Int.reduceLT, Int.reduceAdd, Int.reduceSub, Int.reduceMul, Int.reduceNeg, Int.reducePow, Int.reduceToNat, Int.reduceEq, Int.reduceBEq, Option.some.injEq, exists_eq_left', exists_eq_left, true_and, and_true, decide_true, decide_false, Nat.reduceBEq, Bool.or_true, Bool.true_or, Bool.or_false, Bool.false_or, aVar_e, aC_e, aRaw_e, aOp_e, aUn_e, aNot_e, aAnd_e, aOr_e, aChain_e, aTern_e, aNil_e, aCons_e, aTup_e, aLst_e, aB_e, tAndA_e, tOrA_e, tNotA_e, aCB_e, aCall_e, aCallK_e, aSl_e, aNoP_e, aCall0_e, gN_e, aNext_e, aSeq_e, aBrk_e, aCnt_e, aDrop_e, aRet_e, aRetN_e, aIfS_e, aAsg_e, aAug_e, aPar_e, aFor_e, aWhile_e, aYes_e, aIter_e, aEnum_e, aRange1_e, aRange2_e, aZip_e, aZipTL_e, aApp_e, aPopAt_e, aPop_e, aLenV_e, aIxV_e, aEqNilV_e, aTupV_e, aDnew_e, aListRg_e, aComp_e, aZip3T_e, aCallK0_e, gSetV_e, on_d, on_own, bl_b, it_i, ow_o, isOwn_o, seq_t, seq_l, seq_o, lst_l, lst_o, tup_t, same_t, same_l, one_1, fz_d, fz_r, fz_o, look_d, look_r, look_o, unA_0, unA_s, sl_0, sl_s, ons_n, ons_c, gI0_i, gI_i, gU_i, gIsN_n, gNotN_n, isNone_n, isNone_i, isNone_b, isNone_s, isNone_t, isNone_l, gEq_s, gNe_s, gIn_l, gIn_t, gNotIn_l, gNotIn_t, gIx_t, gIx_l, gCat_i, gCat_t, gCat_l, gMul_i, gMul_t, gMul_l, gCut_t, gCut_l, gP_x, intD_n, intD_b, intD_i, intD_s, intD_l, intD_t, intD_d, boolD_n, boolD_b, boolD_i, boolD_s, boolD_l, boolD_t, boolD_d, strD_n, strD_b, strD_i, strD_s, strD_l, strD_t, strD_d, tupD_n, tupD_b, tupD_i, tupD_s, tupD_l, tupD_t, tupD_d, wholeD_n, wholeD_b, wholeD_i, wholeD_s, wholeD_l, wholeD_t, wholeD_d, gLen_1, gTuple_1, gList_1, gInt_i, gInt_b, gAbs_i, gRepr_x, gAll_l, gAny_l, gSum_l, gGcd_i, gSorted_l, cDraw_1, two_1, three_1, cPick_1, gMax2_i, gMin2_i, gEqS_s, isStr_s, gNil_n, gCons_c, gT_t, gL_o, gL_l, at1_0, at2_0, at2_1, at3_0, at3_1, at3_2, cpow_e, cast_lit, abs_lit, aPart_e, gEq_i, gNe_i]
            by_cases hlt : j < i
            · rw [if_pos hlt] at h
              simp only [hlt, ends0, wipeA, List.map, List.set, List.cons_append, List.nil_append, List.length_cons, List.length_nil, ite_true, ite_false, Bool.not_true, Bool.not_false, Bool.true_and, Bool.and_true, Bool.false_and, Bool.and_false, reduceIte, reduceCtorEq, Bool.false_eq_true, if_true, if_false, Nat.reduceAdd, Nat.reduceLeDiff, ne_eq, not_false_eq_true, eq_self, not_true_eq_false, Nat.reduceSub, Nat.reduceMul, Nat.reduceLT, Nat.reducePow, Int.reduceLE, Int.reduceLT, Int.reduceAdd, Int.reduceSub, Int.reduceMul, Int.reduceNeg, Int.reducePow, Int.reduceToNat, Int.reduceEq, Int.reduceBEq, Option.some.injEq, exists_eq_left', exists_eq_left, true_and, and_true, decide_true, decide_false, Nat.reduceBEq, Bool.or_true, Bool.true_or, Bool.or_false, Bool.false_or, aVar_e, aC_e, aRaw_e, aOp_e, aUn_e, aNot_e, aAnd_e, aOr_e, aChain_e, aTern_e, aNil_e, aCons_e, aTup_e, aLst_e, aB_e, tAndA_e, tOrA_e, tNotA_e, aCB_e, aCall_e, aCallK_e, aSl_e, aNoP_e, aCall0_e, gN_e, aNext_e, aSeq_e, aBrk_e, aCnt_e, aDrop_e, aRet_e, aRetN_e, aIfS_e, aAsg_e, aAug_e, aPar_e, aFor_e, aWhile_e, aYes_e, aIter_e, aEnum_e, aRange1_e, aRange2_e, aZip_e, aZipTL_e, aApp_e, aPopAt_e, aPop_e, aLenV_e, aIxV_e, aEqNilV_e, aTupV_e, aDnew_e, aListRg_e, aComp_e, aZip3T_e, aCallK0_e, gSetV_e, on_d, on_own, bl_b, it_i, ow_o, isOwn_o, seq_t, seq_l, seq_o, lst_l, lst_o, tup_t, same_t, same_l, one_1, fz_d, fz_r, fz_o, look_d, look_r, look_o, unA_0, unA_s, sl_0, sl_s, ons_n, ons_c, gI0_i, gI_i, gU_i, gIsN_n, gNotN_n, isNone_n, isNone_i, isNone_b, isNone_s, isNone_t, isNone_l, gEq_s, gNe_s, gIn_l, gIn_t, gNotIn_l, gNotIn_t, gIx_t, gIx_l, gCat_i, gCat_t, gCat_l, gMul_i, gMul_t, gMul_l, gCut_t, gCut_l, gP_x, intD_n, intD_b, intD_i, intD_s, intD_l, intD_t, intD_d, boolD_n, boolD_b, boolD_i, boolD_s, boolD_l, boolD_t, boolD_d, strD_n, strD_b, strD_i, strD_s, strD_l, strD_t, strD_d, tupD_n, tupD_b, tupD_i, tupD_s, tupD_l, tupD_t, tupD_d, wholeD_n, wholeD_b, wholeD_i, wholeD_s, wholeD_l, wholeD_t, wholeD_d, gLen_1, gTuple_1, gList_1, gInt_i, gInt_b, gAbs_i, gRepr_x, gAll_l, gAny_l, gSum_l, gGcd_i, gSorted_l, cDraw_1, two_1, three_1, cPick_1, gMax2_i, gMin2_i, gEqS_s, isStr_s, gNil_n, gCons_c, gT_t, gL_o, gL_l, at1_0, at2_0, at2_1, at3_0, at3_1, at3_2, cpow_e, cast_lit, abs_lit, aPart_e, gEq_i, gNe_i]
              exact h
            · rw [if_neg hlt] at h
              simp only [hlt, ends0, wipeA, List.map, List.set, List.cons_append, List.nil_append, List.length_cons, List.length_nil, ite_true, ite_false, Bool.not_true, Bool.not_false, Bool.true_and, Bool.and_true, Bool.false_and, Bool.and_false, reduceIte, reduceCtorEq, Bool.false_eq_true, if_true, if_false, Nat.reduceAdd, Nat.reduceLeDiff, ne_eq, not_false_eq_true, eq_self, not_true_eq_false, Nat.reduceSub, Nat.reduceMul, Nat.reduceLT, Nat.reducePow, Int.reduceLE, Int.reduceLT, Int.reduceAdd, Int.reduceSub, Int.reduceMul, Int.reduceNeg, Int.reducePow, Int.reduceToNat, Int.reduceEq, Int.reduceBEq, Option.some.injEq, exists_eq_left', exists_eq_left, true_and, and_true, decide_true, decide_false, Nat.reduceBEq, Bool.or_true, Bool.true_or, Bool.or_false, Bool.false_or, aVar_e, aC_e, aRaw_e, aOp_e, aUn_e, aNot_e, aAnd_e, aOr_e, aChain_e, aTern_e, aNil_e, aCons_e, aTup_e, aLst_e, aB_e, tAndA_e, tOrA_e, tNotA_e, aCB_e, aCall_e, aCallK_e, aSl_e, aNoP_e, aCall0_e, gN_e, aNext_e, aSeq_e, aBrk_e, aCnt_e, aDrop_e, aRet_e, aRetN_e, aIfS_e, aAsg_e, aAug_e, aPar_e, aFor_e, aWhile_e, aYes_e, aIter_e, aEnum_e, aRange1_e, aRange2_e, aZip_e, aZipTL_e, aApp_e, aPopAt_e, aPop_e, aLenV_e, aIxV_e, aEqNilV_e, aTupV_e, aDnew_e, aListRg_e, aComp_e, aZip3T_e, aCallK0_e, gSetV_e, on_d, on_own, bl_b, it_i, ow_o, isOwn_o, seq_t, seq_l, seq_o, lst_l, lst_o, tup_t, same_t, same_l, one_1, fz_d, fz_r, fz_o, look_d, look_r, look_o, unA_0, unA_s, sl_0, sl_s, ons_n, ons_c, gI0_i, gI_i, gU_i, gIsN_n, gNotN_n, isNone_n, isNone_i, isNone_b, isNone_s, isNone_t, isNone_l, gEq_s, gNe_s, gIn_l, gIn_t, gNotIn_l, gNotIn_t, gIx_t, gIx_l, gCat_i, gCat_t, gCat_l, gMul_i, gMul_t, gMul_l, gCut_t, gCut_l, gP_x, intD_n, intD_b, intD_i, intD_s, intD_l, intD_t, intD_d, boolD_n, boolD_b, boolD_i, boolD_s, boolD_l, boolD_t, boolD_d, strD_n, strD_b, strD_i, strD_s, strD_l, strD_t, strD_d, tupD_n, tupD_b, tupD_i, tupD_s, tupD_l, tupD_t, tupD_d, wholeD_n, wholeD_b, wholeD_i, wholeD_s, wholeD_l, wholeD_t, wholeD_d, gLen_1, gTuple_1, gList_1, gInt_i, gInt_b, gAbs_i, gRepr_x, gAll_l, gAny_l, gSum_l, gGcd_i, gSorted_l, cDraw_1, two_1, three_1, cPick_1, gMax2_i, gMin2_i, gEqS_s, isStr_s, gNil_n, gCons_c, gT_t, gL_o, gL_l, at1_0, at2_0, at2_1, at3_0, at3_1, at3_2, cpow_e, cast_lit, abs_lit, aPart_e, gEq_i, gNe_i]
              exact h
    · rw [stretch_not2 h2] at h
      have : ((ds.length : Int) == 2) = false := by simpa using fun z : (ds.length : Int) = 2 => h2 (by omega)
      simp only [this, ends0, wipeA, List.map, List.set, List.cons_append, List.nil_append, List.length_cons, List.length_nil, ite_true, ite_false, Bool.not_true, Bool.not_false, Bool.true_and, Bool.and_true, Bool.false_and, Bool.and_false, reduceIte, reduceCtorEq, Bool.false_eq_true, if_true, if_false, Nat.reduceAdd, Nat.reduceLeDiff, ne_eq, not_false_eq_true, eq_self, not_true_eq_false, Nat.reduceSub, Nat.reduceMul, Nat.reduceLT, Nat.reducePow, Int.reduceLE, Int.reduceLT, Int.reduceAdd, Int.reduceSub, Int.reduceMul, Int.reduceNeg, Int.reducePow, Int.reduceToNat, Int.reduceEq, Int.reduceBEq, Option.some.injEq, exists_eq_left', exists_eq_left, true_and, and_true, decide_true, decide_false, Nat.reduceBEq, Bool.or_true, Bool.true_or, Bool.or_false, Bool.false_or, aVar_e, aC_e, aRaw_e, aOp_e, aUn_e, aNot_e, aAnd_e, aOr_e, aChain_e, aTern_e, aNil_e, aCons_e, aTup_e, aLst_e, aB_e, tAndA_e, tOrA_e, tNotA_e, aCB_e, aCall_e, aCallK_e, aSl_e, aNoP_e, aCall0_e, gN_e, aNext_e, aSeq_e, aBrk_e, aCnt_e, aDrop_e, aRet_e, aRetN_e, aIfS_e, aAsg_e, aAug_e, aPar_e, aFor_e, aWhile_e, aYes_e, aIter_e, aEnum_e, aRange1_e, aRange2_e, aZip_e, aZipTL_e, aApp_e, aPopAt_e, aPop_e, aLenV_e, aIxV_e, aEqNilV_e, aTupV_e, aDnew_e, aListRg_e, aComp_e, aZip3T_e, aCallK0_e, gSetV_e, on_d, on_own, bl_b, it_i, ow_o, isOwn_o, seq_t, seq_l, seq_o, lst_l, lst_o, tup_t, same_t, same_l, one_1, fz_d, fz_r, fz_o, look_d, look_r, look_o, unA_0, unA_s, sl_0, sl_s, ons_n, ons_c, gI0_i, gI_i, gU_i, gIsN_n, gNotN_n, isNone_n, isNone_i, isNone_b, isNone_s, isNone_t, isNone_l, gEq_s, gNe_s, gIn_l, gIn_t, gNotIn_l, gNotIn_t, gIx_t, gIx_l, gCat_i, gCat_t, gCat_l, gMul_i, gMul_t, gMul_l, gCut_t, gCut_l, gP_x, intD_n, intD_b, intD_i, intD_s, intD_l, intD_t, intD_d, boolD_n, boolD_b, boolD_i, boolD_s, boolD_l, boolD_t, boolD_d, strD_n, strD_b, strD_i, strD_s, strD_l, strD_t, strD_d, tupD_n, tupD_b, tupD_i, tupD_s, tupD_l, tupD_t, tupD_d, wholeD_n, wholeD_b, wholeD_i, wholeD_s, wholeD_l, wholeD_t, wholeD_d, gLen_1, gTuple_1, gList_1, gInt_i, gInt_b, gAbs_i, gRepr_x, gAll_l, gAny_l, gSum_l, gGcd_i, gSorted_l, cDraw_1, two_1, three_1, cPick_1, gMax2_i, gMin2_i, gEqS_s, isStr_s, gNil_n, gCons_c, gT_t, gL_o, gL_l, at1_0, at2_0, at2_1, at3_0, at3_1, at3_2, cpow_e, cast_lit, abs_lit, aPart_e, gEq_i, gNe_i]
      exact h
  · exact h.elim
abbrev sp_stretch_error (K : PySem.W.Frag) : Sp := SpL K noBox c_stretch_error
section
variable {P : Program} {w : World} {K : PySem.W.Frag} {mg : Str → Option Value} {base : Heap} {a : Adr}
theorem ok_stretch_error (T : Txt K mg a) : FnOk P w K mg base CX0 4 a.f_stretch_error a.d_stretch_error ["value"] (sp_stretch_error K) := by
  have G_is_number : FnOk P w K mg base CX0 3 a.f_is_number a.d_is_number ["value"] (sp_is_number K) := ok_is_number T
  refine T.stretch_error.F.ok sc_stretch_error (fun vs H Q E h => sp_len l_stretch_error h) (fun cdv A outer s H vs Q E hr h => ?_)
  have hu := hu_of hr
  exact ⟨_, (pss_cons (ps_if (PW.pt (pw_or (pt_not (pt_val (pe_callB (show CallR _ _ (rIsi K) from call_isi) (by rfl) T.b_isinstance (by decide +kernel) (pa_cons (pv 0) (pa_cons (pe_bltn (v := .ty "tuple") rfl T.b_tuple (by decide +kernel) rfl) pa_nil))))) (pw_or1 (pt_cmpR (show OpR _ _ (rNeP K) from op_neP hr.units) (pe_callB (show CallR _ _ (Sx.rLenS K) from call_len_seq) (by rfl) T.b_len (by decide +kernel) (pa_cons (pv 0) pa_nil)) pe_int (nomark _))))) (pss_one (ps_ret pe_str)) pss_nil)
      (pss_cons (ps_asg (pv 0) (show PG _ _ (gTup K 2 _) from pg_tup rfl (pgs_cons (pg_name (i := 1) sc_stretch_error.nd rfl (by first | exact Or.inl rfl | exact Or.inr rfl)) (pgs_cons (pg_name (i := 2) sc_stretch_error.nd rfl (by first | exact Or.inl rfl | exact Or.inr rfl)) pgs_nil))))
      (pss_cons (ps_if (PW.pt (pw_or (pt_not (pt_val (pe_call G_is_number hr (by rfl) T.is_number.m T.is_number.F.kp T.is_number.b .nil pass0 (pa_cons (pv 1) pa_nil)))) (pw_or1 (pt_not (pt_val (pe_call G_is_number hr (by rfl) T.is_number.m T.is_number.F.kp T.is_number.b .nil pass0 (pa_cons (pv 2) pa_nil))))))) (pss_one (ps_ret pe_str)) pss_nil)
      (pss_cons (ps_if (pt_cmpR op_gt (pv 1) (pv 2) (nomark _)) (pss_one (ps_ret pe_str)) pss_nil)
      (pss_one (ps_ret pe_non)))))),
    run0 (N := ["value", "low", "high"]) (np := 1) (f := b_stretch_error) h (sp_len l_stretch_error h) (fun dk B hb => (show LS B K Wno _ (b_stretch_error dk) from
      (ls_seq (ls_if (lt_or (lt_not (lt_b (le_isi (p := tupD) kit_tuple (le_var (i := 0))))) (lt_test (le_op (ol_ne) (le_cb cl_len (la_cons (le_var (i := 0)) la_nil)) (le_c (y := .int 2) fun _ => .int _)))) (ls_ret (le_c (y := .str "form") fun _ => .str _)) ls_next)
      (ls_seq (ls_asg (le_var (i := 0)) (lg_tup (lgs_cons (lg_name (i := 1)) (lgs_cons (lg_name (i := 2)) lgs_nil)) (gC_len (gC_len gN_len))))
      (ls_seq (ls_if (lt_or (lt_not (lt_b (le_call0 (dk := dk) (c := c_is_number) trivial (la_cons (le_var (i := 1)) la_nil)))) (lt_not (lt_b (le_call0 (dk := dk) (c := c_is_number) trivial (la_cons (le_var (i := 2)) la_nil))))) (ls_ret (le_c (y := .str "form") fun _ => .str _)) ls_next)
      (ls_seq (ls_if (lt_test (le_op (ol_I0 fun _ _ _ => .bl _) (le_var (i := 1)) (le_var (i := 2)))) (ls_ret (le_c (y := .str "empty") fun _ => .str _)) ls_next)
      (ls_ret (le_c (y := .none) fun _ => .non)))))))) h_stretch_error⟩
end
def c_is_ledger_run : V → Ct := fun _ as R _ => match as with
  | [.d m, .d v] => ∃ ns : List Int, m = .tuple (ns.map PyData.int) ∧ R (.d (.bool (runD ns v)))
  | _ => False
def b_is_ledger_run (dk : V) : ASx :=
  (aSeq (aIfS (tOrA (tNotA (aB (aUn (gP tupD) (aVar 1)))) (aB (aOp (gNe) (aCB gLen (aCons (aVar 1) aNil)) (aC (.int 2))))) (aRet (aC (.bool false))) aNext)
      (aSeq (aAsg (aVar 1) (gT (gCons (gN 2) (gCons (gN 3) gNil))))
      (aRet (aAnd (aOp (gIsN) (aCall0 (c_word_error dk) (aCons (aVar 0) (aCons (aVar 2) aNil))) (aC (.none))) (aOp (gIsN) (aCall0 (c_stretch_error dk) (aCons (aVar 3) aNil)) (aC (.none)))))))
theorem l_is_ledger_run : ∀ (dk : V) (as : List A) (R : A → Prop) (Z : Ex → Prop), c_is_ledger_run dk as R Z → as.length = 2 := by
  intro dk as R Z h
  unfold c_is_ledger_run at h
  split at h
  · rfl
  · exact h.elim
theorem h_is_ledger_run : ∀ (dk : V) (as : List A) (R : A → Prop) (Z : Ex → Prop), as.length = 2 → c_is_ledger_run dk as R Z → b_is_ledger_run dk (ends0 R) (fun _ => R (.d .none)) (as ++ unA ((["machine", "value", "word", "stretch"] : List Str).length - 2)) := by
  intro dk as R Z hl h
  unfold c_is_ledger_run at h
  split at h
  · rename_i m v
    obtain ⟨ns, rfl, h⟩ := h
    cases v <;> simp only [b_is_ledger_run, ends0, wipeA, List.map, List.set, List.cons_append, List.nil_append, List.length_cons, List.length_nil, ite_true, ite_false, Bool.not_true, Bool.not_false, Bool.true_and, Bool.and_true, Bool.false_and, Bool.and_false, reduceIte, reduceCtorEq, Bool.false_eq_true, if_true, if_false, Nat.reduceAdd, Nat.reduceLeDiff, ne_eq, not_false_eq_true, eq_self, not_true_eq_false, Nat.reduceSub, Nat.reduceMul, Nat.reduceLT, Nat.reducePow, Int.reduceLE, Int.reduceLT, Int.reduceAdd, Int.reduceSub, Int.reduceMul, Int.reduceNeg, Int.reducePow, Int.reduceToNat, Int.reduceEq, Int.reduceBEq, Option.some.injEq, exists_eq_left', exists_eq_left, true_and, and_true, decide_true, decide_false, Nat.reduceBEq, Bool.or_true, Bool.true_or, Bool.or_false, Bool.false_or, aVar_e, aC_e, aRaw_e, aOp_e, aUn_e, aNot_e, aAnd_e, aOr_e, aChain_e, aTern_e, aNil_e, aCons_e, aTup_e, aLst_e, aB_e, tAndA_e, tOrA_e, tNotA_e, aCB_e, aCall_e, aCallK_e, aSl_e, aNoP_e, aCall0_e, gN_e, aNext_e, aSeq_e, aBrk_e, aCnt_e, aDrop_e, aRet_e, aRetN_e, aIfS_e, aAsg_e, aAug_e, aPar_e, aFor_e, aWhile_e, aYes_e, aIter_e, aEnum_e, aRange1_e, aRange2_e, aZip_e, aZipTL_e, aApp_e, aPopAt_e, aPop_e, aLenV_e, aIxV_e, aEqNilV_e, aTupV_e, aDnew_e, aListRg_e, aComp_e, aZip3T_e, aCallK0_e, gSetV_e, on_d, on_own, bl_b, it_i, ow_o, isOwn_o, seq_t, seq_l, seq_o, lst_l, lst_o, tup_t, same_t, same_l, one_1, fz_d, fz_r, fz_o, look_d, look_r, look_o, unA_0, unA_s, sl_0, sl_s, ons_n, ons_c, gI0_i, gI_i, gU_i, gIsN_n, gNotN_n, isNone_n, isNone_i, isNone_b, isNone_s, isNone_t, isNone_l, gEq_s, gNe_s, gIn_l, gIn_t, gNotIn_l, gNotIn_t, gIx_t, gIx_l, gCat_i, gCat_t, gCat_l, gMul_i, gMul_t, gMul_l, gCut_t, gCut_l, gP_x, intD_n, intD_b, intD_i, intD_s, intD_l, intD_t, intD_d, boolD_n, boolD_b, boolD_i, boolD_s, boolD_l, boolD_t, boolD_d, strD_n, strD_b, strD_i, strD_s, strD_l, strD_t, strD_d, tupD_n, tupD_b, tupD_i, tupD_s, tupD_l, tupD_t, tupD_d, wholeD_n, wholeD_b, wholeD_i, wholeD_s, wholeD_l, wholeD_t, wholeD_d, gLen_1, gTuple_1, gList_1, gInt_i, gInt_b, gAbs_i, gRepr_x, gAll_l, gAny_l, gSum_l, gGcd_i, gSorted_l, cDraw_1, two_1, three_1, cPick_1, gMax2_i, gMin2_i, gEqS_s, isStr_s, gNil_n, gCons_c, gT_t, gL_o, gL_l, at1_0, at2_0, at2_1, at3_0, at3_1, at3_2, cpow_e, cast_lit, abs_lit, aPart_e, gEq_i, gNe_i] <;> try exact h
    rename_i ds
    by_cases h2 : ds.length = 2
    · match ds, h2, h with
      | [x, y], _, h =>
        replace h : R (.d (.bool (isNone (wordD ns x) && isNone (stretchD y)))) := h
        simp only [c_word_error, c_stretch_error, ends0, wipeA, List.map, List.set, List.cons_append, List.nil_append, List.length_cons, List.length_nil, ite_true, ite_false, Bool.not_true, Bool.not_false, Bool.true_and, Bool.and_true, Bool.false_and, Bool.and_false, reduceIte, reduceCtorEq, Bool.false_eq_true, if_true, if_false, Nat.reduceAdd, Nat.reduceLeDiff, ne_eq, not_false_eq_true, eq_self, not_true_eq_false, Nat.reduceSub, Nat.reduceMul, Nat.reduceLT, Nat.reducePow, Int.reduceLE, Int.reduceLT, Int.reduceAdd, Int.reduceSub, Int.reduceMul, Int.reduceNeg, Int.reducePow, Int.reduceToNat, Int.reduceEq, Int.reduceBEq, Option.some.injEq, exists_eq_left', exists_eq_left, true_and, and_true, decide_true, decide_false, Nat.reduceBEq, Bool.or_true, Bool.true_or, Bool.or_false, Bool.false_or, aVar_e, aC_e, aRaw_e, aOp_e, aUn_e, aNot_e, aAnd_e, aOr_e, aChain_e, aTern_e, aNil_e, aCons_e, aTup_e, aLst_e, aB_e, tAndA_e, tOrA_e, tNotA_e, aCB_e, aCall_e, aCallK_e, aSl_e, aNoP_e, aCall0_e, gN_e, aNext_e, aSeq_e, aBrk_e, aCnt_e, aDrop_e, aRet_e, aRetN_e, aIfS_e, aAsg_e, aAug_e, aPar_e, aFor_e, aWhile_e, aYes_e, aIter_e, aEnum_e, aRange1_e, aRange2_e, aZip_e, aZipTL_e, aApp_e, aPopAt_e, aPop_e, aLenV_e, aIxV_e, aEqNilV_e, aTupV_e, aDnew_e, aListRg_e, aComp_e, aZip3T_e, aCallK0_e, gSetV_e, on_d, on_own, bl_b, it_i, ow_o, isOwn_o, seq_t, seq_l, seq_o, lst_l, lst_o, tup_t, same_t, same_l, one_1, fz_d, fz_r, fz_o, look_d, look_r, look_o, unA_0, unA_s, sl_0, sl_s, ons_n, ons_c, gI0_i, gI_i, gU_i, gIsN_n, gNotN_n, isNone_n, isNone_i, isNone_b, isNone_s, isNone_t, isNone_l, gEq_s, gNe_s, gIn_l, gIn_t, gNotIn_l, gNotIn_t, gIx_t, gIx_l, gCat_i, gCat_t, gCat_l, gMul_i, gMul_t, gMul_l, gCut_t, gCut_l, gP_x, intD_n, intD_b, intD_i, intD_s, intD_l, intD_t, intD_d, boolD_n, boolD_b, boolD_i, boolD_s, boolD_l, boolD_t, boolD_d, strD_n, strD_b, strD_i, strD_s, strD_l, strD_t, strD_d, tupD_n, tupD_b, tupD_i, tupD_s, tupD_l, tupD_t, tupD_d, wholeD_n, wholeD_b, wholeD_i, wholeD_s, wholeD_l, wholeD_t, wholeD_d, gLen_1, gTuple_1, gList_1, gInt_i, gInt_b, gAbs_i, gRepr_x, gAll_l, gAny_l, gSum_l, gGcd_i, gSorted_l, cDraw_1, two_1, three_1, cPick_1, gMax2_i, gMin2_i, gEqS_s, isStr_s, gNil_n, gCons_c, gT_t, gL_o, gL_l, at1_0, at2_0, at2_1, at3_0, at3_1, at3_2, cpow_e, cast_lit, abs_lit, aPart_e, gEq_i, gNe_i]
        refine ⟨ns, rfl, ?_⟩
        cases e : isNone (wordD ns x) <;> rw [e] at h <;> simp only [ends0, wipeA, List.map, List.set, List.cons_append, List.nil_append, List.length_cons, List.length_nil, ite_true, ite_false, Bool.not_true, Bool.not_false, Bool.true_and, Bool.and_true, Bool.false_and, Bool.and_false, reduceIte, reduceCtorEq, Bool.false_eq_true, if_true, if_false, Nat.reduceAdd, Nat.reduceLeDiff, ne_eq, not_false_eq_true, eq_self, not_true_eq_false, Nat.reduceSub, Nat.reduceMul, Nat.reduceLT, Nat.reducePow, Int.reduceLE, Int.reduceLT, Int.reduceAdd, Int.reduceSub, Int.reduceMul, Int.reduceNeg, Int.reducePow, Int.reduceToNat, Int.reduceEq, Int.reduceBEq, Option.some.injEq, exists_eq_left', exists_eq_left, true_and, and_true, decide_true, decide_false, Nat.reduceBEq, Bool.or_true, Bool.true_or, Bool.or_false, Bool.false_or, aVar_e, aC_e, aRaw_e, aOp_e, aUn_e, aNot_e, aAnd_e, aOr_e, aChain_e, aTern_e, aNil_e, aCons_e, aTup_e, aLst_e, aB_e, tAndA_e, tOrA_e, tNotA_e, aCB_e, aCall_e, aCallK_e, aSl_e, aNoP_e, aCall0_e, gN_e, aNext_e, aSeq_e, aBrk_e, aCnt_e, aDrop_e, aRet_e, aRetN_e, aIfS_e, aAsg_e, aAug_e, aPar_e, aFor_e, aWhile_e, aYes_e, aIter_e, aEnum_e, aRange1_e, aRange2_e, aZip_e, aZipTL_e, aApp_e, aPopAt_e, aPop_e, aLenV_e, aIxV_e, aEqNilV_e, aTupV_e, aDnew_e, aListRg_e, aComp_e, aZip3T_e, aCallK0_e, gSetV_e, on_d, on_own, bl_b, it_i, ow_o, isOwn_o, seq_t, seq_l, seq_o, lst_l, lst_o, tup_t, same_t, same_l, one_1, fz_d, fz_r, fz_o, look_d, look_r, look_o, unA_0, unA_s, sl_0, sl_s, ons_n, ons_c, gI0_i, gI_i, gU_i, gIsN_n, gNotN_n, isNone_n, isNone_i, isNone_b, isNone_s, isNone_t, isNone_l, gEq_s, gNe_s, gIn_l, gIn_t, gNotIn_l, gNotIn_t, gIx_t, gIx_l, gCat_i, gCat_t, gCat_l, gMul_i, gMul_t, gMul_l, gCut_t, gCut_l, gP_x, intD_n, intD_b, intD_i, intD_s, intD_l, intD_t, intD_d, boolD_n, boolD_b, boolD_i, boolD_s, boolD_l, boolD_t, boolD_d, strD_n, strD_b, strD_i, strD_s, strD_l, strD_t, strD_d, tupD_n, tupD_b, tupD_i, tupD_s, tupD_l, tupD_t, tupD_d, wholeD_n, wholeD_b, wholeD_i, wholeD_s, wholeD_l, wholeD_t, wholeD_d, gLen_1, gTuple_1, gList_1, gInt_i, gInt_b, gAbs_i, gRepr_x, gAll_l, gAny_l, gSum_l, gGcd_i, gSorted_l, cDraw_1, two_1, three_1, cPick_1, gMax2_i, gMin2_i, gEqS_s, isStr_s, gNil_n, gCons_c, gT_t, gL_o, gL_l, at1_0, at2_0, at2_1, at3_0, at3_1, at3_2, cpow_e, cast_lit, abs_lit, aPart_e, gEq_i, gNe_i] <;> exact h
    · rw [run_not2 h2] at h
      have : ((ds.length : Int) == 2) = false := by simpa using fun z : (ds.length : Int) = 2 => h2 (by omega)
      simp only [this, ends0, wipeA, List.map, List.set, List.cons_append, List.nil_append, List.length_cons, List.length_nil, ite_true, ite_false, Bool.not_true, Bool.not_false, Bool.true_and, Bool.and_true, Bool.false_and, Bool.and_false, reduceIte, reduceCtorEq, Bool.false_eq_true, if_true, if_false, Nat.reduceAdd, Nat.reduceLeDiff, ne_eq, not_false_eq_true, eq_self, not_true_eq_false, Nat.reduceSub, Nat.reduceMul, Nat.reduceLT, Nat.reducePow, Int.reduceLE, Int.reduceLT, Int.reduceAdd, Int.reduceSub, Int.reduceMul, Int.reduceNeg, Int.reducePow, Int.reduceToNat, Int.reduceEq, Int.reduceBEq, Option.some.injEq, exists_eq_left', exists_eq_left, true_and, and_true, decide_true, decide_false, Nat.reduceBEq, Bool.or_true, Bool.true_or, Bool.or_false, Bool.false_or, aVar_e, aC_e, aRaw_e, aOp_e, aUn_e, aNot_e, aAnd_e, aOr_e, aChain_e, aTern_e, aNil_e, aCons_e, aTup_e, aLst_e, aB_e, tAndA_e, tOrA_e, tNotA_e, aCB_e, aCall_e, aCallK_e, aSl_e, aNoP_e, aCall0_e, gN_e, aNext_e, aSeq_e, aBrk_e, aCnt_e, aDrop_e, aRet_e, aRetN_e, aIfS_e, aAsg_e, aAug_e, aPar_e, aFor_e, aWhile_e, aYes_e, aIter_e, aEnum_e, aRange1_e, aRange2_e, aZip_e, aZipTL_e, aApp_e, aPopAt_e, aPop_e, aLenV_e, aIxV_e, aEqNilV_e, aTupV_e, aDnew_e, aListRg_e, aComp_e, aZip3T_e, aCallK0_e, gSetV_e, on_d, on_own, bl_b, it_i, ow_o, isOwn_o, seq_t, seq_l, seq_o, lst_l, lst_o, tup_t, same_t, same_l, one_1, fz_d, fz_r, fz_o, look_d, look_r, look_o, unA_0, unA_s, sl_0, sl_s, ons_n, ons_c, gI0_i, gI_i, gU_i, gIsN_n, gNotN_n, isNone_n, isNone_i, isNone_b, isNone_s, isNone_t, isNone_l, gEq_s, gNe_s, gIn_l, gIn_t, gNotIn_l, gNotIn_t, gIx_t, gIx_l, gCat_i, gCat_t, gCat_l, gMul_i, gMul_t, gMul_l, gCut_t, gCut_l, gP_x, intD_n, intD_b, intD_i, intD_s, intD_l, intD_t, intD_d, boolD_n, boolD_b, boolD_i, boolD_s, boolD_l, boolD_t, boolD_d, strD_n, strD_b, strD_i, strD_s, strD_l, strD_t, strD_d, tupD_n, tupD_b, tupD_i, tupD_s, tupD_l, tupD_t, tupD_d, wholeD_n, wholeD_b, wholeD_i, wholeD_s, wholeD_l, wholeD_t, wholeD_d, gLen_1, gTuple_1, gList_1, gInt_i, gInt_b, gAbs_i, gRepr_x, gAll_l, gAny_l, gSum_l, gGcd_i, gSorted_l, cDraw_1, two_1, three_1, cPick_1, gMax2_i, gMin2_i, gEqS_s, isStr_s, gNil_n, gCons_c, gT_t, gL_o, gL_l, at1_0, at2_0, at2_1, at3_0, at3_1, at3_2, cpow_e, cast_lit, abs_lit, aPart_e, gEq_i, gNe_i]
      exact h
  · exact h.elim
abbrev sp_is_ledger_run (K : PySem.W.Frag) : Sp := SpL K noBox c_is_ledger_run
section
variable {P : Program} {w : World} {K : PySem.W.Frag} {mg : Str → Option Value} {base : Heap} {a : Adr}
theorem ok_is_ledger_run (T : Txt K mg a) : FnOk P w K mg base CX0 5 a.f_is_ledger_run a.d_is_ledger_run ["machine", "value"] (sp_is_ledger_run K) := by
  have G_word_error : FnOk P w K mg base CX0 3 a.f_word_error a.d_word_error ["machine", "value"] (sp_word_error K) := ok_word_error T
  have G_stretch_error : FnOk P w K mg base CX0 4 a.f_stretch_error a.d_stretch_error ["value"] (sp_stretch_error K) := ok_stretch_error T
  refine T.is_ledger_run.F.ok sc_is_ledger_run (fun vs H Q E h => sp_len l_is_ledger_run h) (fun cdv A outer s H vs Q E hr h => ?_)
  have hu := hu_of hr
  exact ⟨_, (pss_cons (ps_if (PW.pt (pw_or (pt_not (pt_val (pe_callB (show CallR _ _ (rIsi K) from call_isi) (by rfl) T.b_isinstance (by decide +kernel) (pa_cons (pv 1) (pa_cons (pe_bltn (v := .ty "tuple") rfl T.b_tuple (by decide +kernel) rfl) pa_nil))))) (pw_or1 (pt_cmpR (show OpR _ _ (rNeP K) from op_neP hr.units) (pe_callB (show CallR _ _ (Sx.rLenS K) from call_len_seq) (by rfl) T.b_len (by decide +kernel) (pa_cons (pv 1) pa_nil)) pe_int (nomark _))))) (pss_one (ps_ret pe_bl)) pss_nil)
      (pss_cons (ps_asg (pv 1) (show PG _ _ (gTup K 2 _) from pg_tup rfl (pgs_cons (pg_name (i := 2) sc_is_ledger_run.nd rfl (by first | exact Or.inl rfl | exact Or.inr rfl)) (pgs_cons (pg_name (i := 3) sc_is_ledger_run.nd rfl (by first | exact Or.inl rfl | exact Or.inr rfl)) pgs_nil))))
      (pss_one (ps_ret (pe_and (pe_cmpR op_isN (pe_call G_word_error (hr.mono (by decide)) (by rfl) T.word_error.m T.word_error.F.kp T.word_error.b .nil pass0 (pa_cons (pv 0) (pa_cons (pv 2) pa_nil))) pe_non (nomark _)) (pe_one (pe_cmpR op_isN (pe_call G_stretch_error hr (by rfl) T.stretch_error.m T.stretch_error.F.kp T.stretch_error.b .nil pass0 (pa_cons (pv 3) pa_nil)) pe_non (nomark _)))))))),
    run0 (N := ["machine", "value", "word", "stretch"]) (np := 2) (f := b_is_ledger_run) h (sp_len l_is_ledger_run h) (fun dk B hb => (show LS B K Wno _ (b_is_ledger_run dk) from
      (ls_seq (ls_if (lt_or (lt_not (lt_b (le_isi (p := tupD) kit_tuple (le_var (i := 1))))) (lt_test (le_op (ol_ne) (le_cb cl_len (la_cons (le_var (i := 1)) la_nil)) (le_c (y := .int 2) fun _ => .int _)))) (ls_ret (le_c (y := .bool false) fun _ => .bl _)) ls_next)
      (ls_seq (ls_asg (le_var (i := 1)) (lg_tup (lgs_cons (lg_name (i := 2)) (lgs_cons (lg_name (i := 3)) lgs_nil)) (gC_len (gC_len gN_len))))
      (ls_ret (le_and (le_op (ol_isN) (le_call0 (dk := dk) (c := c_word_error) trivial (la_cons (le_var (i := 0)) (la_cons (le_var (i := 2)) la_nil))) (le_c (y := .none) fun _ => .non)) (le_op (ol_isN) (le_call0 (dk := dk) (c := c_stretch_error) trivial (la_cons (le_var (i := 3)) la_nil)) (le_c (y := .none) fun _ => .non)))))))) h_is_ledger_run⟩
end
def c_ledger_error : V → Ct := fun _ as R _ => match as with
  | [.d m, .d v] => ∃ ns : List Int, m = .tuple (ns.map PyData.int) ∧ R (.d (ledgerD ns v))
  | _ => False
def b_ledger_error (dk : V) : ASx :=
  (aSeq (aIfS (tOrA (tNotA (aB (aUn (gP tupD) (aVar 1)))) (tNotA (aB (aChain (gI0 fun i j => .bool (decide (i ≤ j))) (gI0 fun i j => .bool (decide (i ≤ j))) (aC (.int 1)) (aCB gLen (aCons (aVar 1) aNil)) (aC (.int 8)))))) (aRet (aC (.str "form"))) aNext)
      (aCut (aFor (aEnum (aCons (aVar 1) aNil)) (gT (gCons (gN 2) (gCons (gN 3) gNil))) (aIfS (tNotA (aB (aCall0 (c_is_ledger_run dk) (aCons (aVar 0) (aCons (aVar 3) aNil))))) (aRet (aTup (aCons (aC (.str "run")) (aCons (aVar 2) aNil)))) aNext))
      (aRet (aC (.none)))))
theorem l_ledger_error : ∀ (dk : V) (as : List A) (R : A → Prop) (Z : Ex → Prop), c_ledger_error dk as R Z → as.length = 2 := by
  intro dk as R Z h
  unfold c_ledger_error at h
  split at h
  · rfl
  · exact h.elim
theorem h_ledger_error : ∀ (dk : V) (as : List A) (R : A → Prop) (Z : Ex → Prop), as.length = 2 → c_ledger_error dk as R Z → b_ledger_error dk (ends0 R) (fun _ => R (.d .none)) (as ++ unA ((["machine", "value", "place", "item"] : List Str).length - 2)) := by
  intro dk as R Z hl h
  unfold c_ledger_error at h
  split at h
  · rename_i m v
    obtain ⟨ns, rfl, h⟩ := h
    cases v <;> simp only [b_ledger_error, ends0, wipeA, List.map, List.set, List.cons_append, List.nil_append, List.length_cons, List.length_nil, ite_true, ite_false, Bool.not_true, Bool.not_false, Bool.true_and, Bool.and_true, Bool.false_and, Bool.and_false, reduceIte, reduceCtorEq, Bool.false_eq_true, if_true, if_false, Nat.reduceAdd, Nat.reduceLeDiff, ne_eq, not_false_eq_true, eq_self, not_true_eq_false, Nat.reduceSub, Nat.reduceMul, Nat.reduceLT, Nat.reducePow, Int.reduceLE, Int.reduceLT, Int.reduceAdd, Int.reduceSub, Int.reduceMul, Int.reduceNeg, Int.reducePow, Int.reduceToNat, Int.reduceEq, Int.reduceBEq, Option.some.injEq, exists_eq_left', exists_eq_left, true_and, and_true, decide_true, decide_false, Nat.reduceBEq, Bool.or_true, Bool.true_or, Bool.or_false, Bool.false_or, aVar_e, aC_e, aRaw_e, aOp_e, aUn_e, aNot_e, aAnd_e, aOr_e, aChain_e, aTern_e, aNil_e, aCons_e, aTup_e, aLst_e, aB_e, tAndA_e, tOrA_e, tNotA_e, aCB_e, aCall_e, aCallK_e, aSl_e, aNoP_e, aCall0_e, gN_e, aNext_e, aSeq_e, aBrk_e, aCnt_e, aDrop_e, aRet_e, aRetN_e, aIfS_e, aAsg_e, aAug_e, aPar_e, aFor_e, aWhile_e, aYes_e, aIter_e, aEnum_e, aRange1_e, aRange2_e, aZip_e, aZipTL_e, aApp_e, aPopAt_e, aPop_e, aLenV_e, aIxV_e, aEqNilV_e, aTupV_e, aDnew_e, aListRg_e, aComp_e, aZip3T_e, aCallK0_e, gSetV_e, on_d, on_own, bl_b, it_i, ow_o, isOwn_o, seq_t, seq_l, seq_o, lst_l, lst_o, tup_t, same_t, same_l, one_1, fz_d, fz_r, fz_o, look_d, look_r, look_o, unA_0, unA_s, sl_0, sl_s, ons_n, ons_c, gI0_i, gI_i, gU_i, gIsN_n, gNotN_n, isNone_n, isNone_i, isNone_b, isNone_s, isNone_t, isNone_l, gEq_s, gNe_s, gIn_l, gIn_t, gNotIn_l, gNotIn_t, gIx_t, gIx_l, gCat_i, gCat_t, gCat_l, gMul_i, gMul_t, gMul_l, gCut_t, gCut_l, gP_x, intD_n, intD_b, intD_i, intD_s, intD_l, intD_t, intD_d, boolD_n, boolD_b, boolD_i, boolD_s, boolD_l, boolD_t, boolD_d, strD_n, strD_b, strD_i, strD_s, strD_l, strD_t, strD_d, tupD_n, tupD_b, tupD_i, tupD_s, tupD_l, tupD_t, tupD_d, wholeD_n, wholeD_b, wholeD_i, wholeD_s, wholeD_l, wholeD_t, wholeD_d, gLen_1, gTuple_1, gList_1, gInt_i, gInt_b, gAbs_i, gRepr_x, gAll_l, gAny_l, gSum_l, gGcd_i, gSorted_l, cDraw_1, two_1, three_1, cPick_1, gMax2_i, gMin2_i, gEqS_s, isStr_s, gNil_n, gCons_c, gT_t, gL_o, gL_l, at1_0, at2_0, at2_1, at3_0, at3_1, at3_2, cpow_e, cast_lit, abs_lit, aPart_e, gEq_i, gNe_i] <;> try exact h
    rename_i ds
    have hs : ledgerD ns (.tuple ds) = if 1 ≤ ds.length ∧ ds.length ≤ 8 then firstD "run" ds.length (fun i => !runD ns (ds.getD i .none)) else .str "form" := rfl
    rw [hs] at h
    by_cases h1 : 1 ≤ ds.length ∧ ds.length ≤ 8
    · rw [if_pos h1] at h
      simp only [show (1 : Int) ≤ (ds.length : Int) from by omega, show (ds.length : Int) ≤ 8 from by omega, decide_true, ends0, wipeA, List.map, List.set, List.cons_append, List.nil_append, List.length_cons, List.length_nil, ite_true, ite_false, Bool.not_true, Bool.not_false, Bool.true_and, Bool.and_true, Bool.false_and, Bool.and_false, reduceIte, reduceCtorEq, Bool.false_eq_true, if_true, if_false, Nat.reduceAdd, Nat.reduceLeDiff, ne_eq, not_false_eq_true, eq_self, not_true_eq_false, Nat.reduceSub, Nat.reduceMul, Nat.reduceLT, Nat.reducePow, Int.reduceLE, Int.reduceLT, Int.reduceAdd, Int.reduceSub, Int.reduceMul, Int.reduceNeg, Int.reducePow, Int.reduceToNat, Int.reduceEq, Int.reduceBEq, Option.some.injEq, exists_eq_left', exists_eq_left, true_and, and_true, decide_true, decide_false, Nat.reduceBEq, Bool.or_true, Bool.true_or, Bool.or_false, Bool.false_or, aVar_e, aC_e, aRaw_e, aOp_e, aUn_e, aNot_e, aAnd_e, aOr_e, aChain_e, aTern_e, aNil_e, aCons_e, aTup_e, aLst_e, aB_e, tAndA_e, tOrA_e, tNotA_e, aCB_e, aCall_e, aCallK_e, aSl_e, aNoP_e, aCall0_e, gN_e, aNext_e, aSeq_e, aBrk_e, aCnt_e, aDrop_e, aRet_e, aRetN_e, aIfS_e, aAsg_e, aAug_e, aPar_e, aFor_e, aWhile_e, aYes_e, aIter_e, aEnum_e, aRange1_e, aRange2_e, aZip_e, aZipTL_e, aApp_e, aPopAt_e, aPop_e, aLenV_e, aIxV_e, aEqNilV_e, aTupV_e, aDnew_e, aListRg_e, aComp_e, aZip3T_e, aCallK0_e, gSetV_e, on_d, on_own, bl_b, it_i, ow_o, isOwn_o, seq_t, seq_l, seq_o, lst_l, lst_o, tup_t, same_t, same_l, one_1, fz_d, fz_r, fz_o, look_d, look_r, look_o, unA_0, unA_s, sl_0, sl_s, ons_n, ons_c, gI0_i, gI_i, gU_i, gIsN_n, gNotN_n, isNone_n, isNone_i, isNone_b, isNone_s, isNone_t, isNone_l, gEq_s, gNe_s, gIn_l, gIn_t, gNotIn_l, gNotIn_t, gIx_t, gIx_l, gCat_i, gCat_t, gCat_l, gMul_i, gMul_t, gMul_l, gCut_t, gCut_l, gP_x, intD_n, intD_b, intD_i, intD_s, intD_l, intD_t, intD_d, boolD_n, boolD_b, boolD_i, boolD_s, boolD_l, boolD_t, boolD_d, strD_n, strD_b, strD_i, strD_s, strD_l, strD_t, strD_d, tupD_n, tupD_b, tupD_i, tupD_s, tupD_l, tupD_t, tupD_d, wholeD_n, wholeD_b, wholeD_i, wholeD_s, wholeD_l, wholeD_t, wholeD_d, gLen_1, gTuple_1, gList_1, gInt_i, gInt_b, gAbs_i, gRepr_x, gAll_l, gAny_l, gSum_l, gGcd_i, gSorted_l, cDraw_1, two_1, three_1, cPick_1, gMax2_i, gMin2_i, gEqS_s, isStr_s, gNil_n, gCons_c, gT_t, gL_o, gL_l, at1_0, at2_0, at2_1, at3_0, at3_1, at3_2, cpow_e, cast_lit, abs_lit, aPart_e, gEq_i, gNe_i]
      refine ⟨fun ρ => ∀ j, j < ds.length → runD ns (ds.getD j .none) = true, ?_, fun ρ hj => ?_⟩
      · simp only [ends0, wipeA, List.map, List.set, List.cons_append, List.nil_append, List.length_cons, List.length_nil, ite_true, ite_false, Bool.not_true, Bool.not_false, Bool.true_and, Bool.and_true, Bool.false_and, Bool.and_false, reduceIte, reduceCtorEq, Bool.false_eq_true, if_true, if_false, Nat.reduceAdd, Nat.reduceLeDiff, ne_eq, not_false_eq_true, eq_self, not_true_eq_false, Nat.reduceSub, Nat.reduceMul, Nat.reduceLT, Nat.reducePow, Int.reduceLE, Int.reduceLT, Int.reduceAdd, Int.reduceSub, Int.reduceMul, Int.reduceNeg, Int.reducePow, Int.reduceToNat, Int.reduceEq, Int.reduceBEq, Option.some.injEq, exists_eq_left', exists_eq_left, true_and, and_true, decide_true, decide_false, Nat.reduceBEq, Bool.or_true, Bool.true_or, Bool.or_false, Bool.false_or, aVar_e, aC_e, aRaw_e, aOp_e, aUn_e, aNot_e, aAnd_e, aOr_e, aChain_e, aTern_e, aNil_e, aCons_e, aTup_e, aLst_e, aB_e, tAndA_e, tOrA_e, tNotA_e, aCB_e, aCall_e, aCallK_e, aSl_e, aNoP_e, aCall0_e, gN_e, aNext_e, aSeq_e, aBrk_e, aCnt_e, aDrop_e, aRet_e, aRetN_e, aIfS_e, aAsg_e, aAug_e, aPar_e, aFor_e, aWhile_e, aYes_e, aIter_e, aEnum_e, aRange1_e, aRange2_e, aZip_e, aZipTL_e, aApp_e, aPopAt_e, aPop_e, aLenV_e, aIxV_e, aEqNilV_e, aTupV_e, aDnew_e, aListRg_e, aComp_e, aZip3T_e, aCallK0_e, gSetV_e, on_d, on_own, bl_b, it_i, ow_o, isOwn_o, seq_t, seq_l, seq_o, lst_l, lst_o, tup_t, same_t, same_l, one_1, fz_d, fz_r, fz_o, look_d, look_r, look_o, unA_0, unA_s, sl_0, sl_s, ons_n, ons_c, gI0_i, gI_i, gU_i, gIsN_n, gNotN_n, isNone_n, isNone_i, isNone_b, isNone_s, isNone_t, isNone_l, gEq_s, gNe_s, gIn_l, gIn_t, gNotIn_l, gNotIn_t, gIx_t, gIx_l, gCat_i, gCat_t, gCat_l, gMul_i, gMul_t, gMul_l, gCut_t, gCut_l, gP_x, intD_n, intD_b, intD_i, intD_s, intD_l, intD_t, intD_d, boolD_n, boolD_b, boolD_i, boolD_s, boolD_l, boolD_t, boolD_d, strD_n, strD_b, strD_i, strD_s, strD_l, strD_t, strD_d, tupD_n, tupD_b, tupD_i, tupD_s, tupD_l, tupD_t, tupD_d, wholeD_n, wholeD_b, wholeD_i, wholeD_s, wholeD_l, wholeD_t, wholeD_d, gLen_1, gTuple_1, gList_1, gInt_i, gInt_b, gAbs_i, gRepr_x, gAll_l, gAny_l, gSum_l, gGcd_i, gSorted_l, cDraw_1, two_1, three_1, cPick_1, gMax2_i, gMin2_i, gEqS_s, isStr_s, gNil_n, gCons_c, gT_t, gL_o, gL_l, at1_0, at2_0, at2_1, at3_0, at3_1, at3_2, cpow_e, cast_lit, abs_lit, aPart_e, gEq_i, gNe_i]
        refine ⟨fun i ρ => (∃ x y, ρ = [.d (.tuple (ns.map PyData.int)), .d (.tuple ds), x, y]) ∧ ∀ j, j < i → runD ns (ds.getD j .none) = true, ⟨⟨_, _, rfl⟩, fun j z => absurd z (Nat.not_lt_zero _)⟩, ?_, fun ρ hj => by rw [enumD_len] at hj; exact hj.2⟩
        rintro i ρ hi ⟨⟨x, y, rfl⟩, hj⟩
        rw [enumD_len] at hi
        rw [enumD_at hi]
        simp only [c_is_ledger_run, ends0, wipeA, List.map, List.set, List.cons_append, List.nil_append, List.length_cons, List.length_nil, ite_true, ite_false, Bool.not_true, Bool.not_false, Bool.true_and, Bool.and_true, Bool.false_and, Bool.and_false, reduceIte, reduceCtorEq, Bool.false_eq_true, if_true, if_false, Nat.reduceAdd, Nat.reduceLeDiff, ne_eq, not_false_eq_true, eq_self, not_true_eq_false, Nat.reduceSub, Nat.reduceMul, Nat.reduceLT, Nat.reducePow, Int.reduceLE, Int.reduceLT, Int.reduceAdd, Int.reduceSub, Int.reduceMul, Int.reduceNeg, Int.reducePow, Int.reduceToNat, Int.reduceEq, Int.reduceBEq, Option.some.injEq, exists_eq_left', exists_eq_left, true_and, and_true, decide_true, decide_false, Nat.reduceBEq, Bool.or_true, Bool.true_or, Bool.or_false, Bool.false_or, aVar_e, aC_e, aRaw_e, aOp_e, aUn_e, aNot_e, aAnd_e, aOr_e, aChain_e, aTern_e, aNil_e, aCons_e, aTup_e, aLst_e, aB_e, tAndA_e, tOrA_e, tNotA_e, aCB_e, aCall_e, aCallK_e, aSl_e, aNoP_e, aCall0_e, gN_e, aNext_e, aSeq_e, aBrk_e, aCnt_e, aDrop_e, aRet_e, aRetN_e, aIfS_e, aAsg_e, aAug_e, aPar_e, aFor_e, aWhile_e, aYes_e, aIter_e, aEnum_e, aRange1_e, aRange2_e, aZip_e, aZipTL_e, aApp_e, aPopAt_e, aPop_e, aLenV_e, aIxV_e, aEqNilV_e, aTupV_e, aDnew_e, aListRg_e, aComp_e, aZip3T_e, aCallK0_e, gSetV_e, on_d, on_own, bl_b, it_i, ow_o, isOwn_o, seq_t, seq_l, seq_o, lst_l, lst_o, tup_t, same_t, same_l, one_1, fz_d, fz_r, fz_o, look_d, look_r, look_o, unA_0, unA_s, sl_0, sl_s, ons_n, ons_c, gI0_i, gI_i, gU_i, gIsN_n, gNotN_n, isNone_n, isNone_i, isNone_b, isNone_s, isNone_t, isNone_l, gEq_s, gNe_s, gIn_l, gIn_t, gNotIn_l, gNotIn_t, gIx_t, gIx_l, gCat_i, gCat_t, gCat_l, gMul_i, gMul_t, gMul_l, gCut_t, gCut_l, gP_x, intD_n, intD_b, intD_i, intD_s, intD_l, intD_t, intD_d, boolD_n, boolD_b, boolD_i, boolD_s, boolD_l, boolD_t, boolD_d, strD_n, strD_b, strD_i, strD_s, strD_l, strD_t, strD_d, tupD_n, tupD_b, tupD_i, tupD_s, tupD_l, tupD_t, tupD_d, wholeD_n, wholeD_b, wholeD_i, wholeD_s, wholeD_l, wholeD_t, wholeD_d, gLen_1, gTuple_1, gList_1, gInt_i, gInt_b, gAbs_i, gRepr_x, gAll_l, gAny_l, gSum_l, gGcd_i, gSorted_l, cDraw_1, two_1, three_1, cPick_1, gMax2_i, gMin2_i, gEqS_s, isStr_s, gNil_n, gCons_c, gT_t, gL_o, gL_l, at1_0, at2_0, at2_1, at3_0, at3_1, at3_2, cpow_e, cast_lit, abs_lit, aPart_e, gEq_i, gNe_i]
        refine ⟨ns, rfl, ?_⟩
        cases e : runD ns (ds.getD i .none)
        · simp only [ends0, wipeA, List.map, List.set, List.cons_append, List.nil_append, List.length_cons, List.length_nil, ite_true, ite_false, Bool.not_true, Bool.not_false, Bool.true_and, Bool.and_true, Bool.false_and, Bool.and_false, reduceIte, reduceCtorEq, Bool.false_eq_true, if_true, if_false, Nat.reduceAdd, Nat.reduceLeDiff, ne_eq, not_false_eq_true, eq_self, not_true_eq_false, Nat.reduceSub, Nat.reduceMul, Nat.reduceLT, Nat.reducePow, Int.reduceLE, Int.reduceLT, Int.reduceAdd, Int.reduceSub, Int.reduceMul, Int.reduceNeg, Int.reducePow, Int.reduceToNat, Int.reduceEq, Int.reduceBEq, Option.some.injEq, exists_eq_left', exists_eq_left, true_and, and_true, decide_true, decide_false, Nat.reduceBEq, Bool.or_true, Bool.true_or, Bool.or_false, Bool.false_or, aVar_e, aC_e, aRaw_e, aOp_e, aUn_e, aNot_e, aAnd_e, aOr_e, aChain_e, aTern_e, aNil_e, aCons_e, aTup_e, aLst_e, aB_e, tAndA_e, tOrA_e, tNotA_e, aCB_e, aCall_e, aCallK_e, aSl_e, aNoP_e, aCall0_e, gN_e, aNext_e, aSeq_e, aBrk_e, aCnt_e, aDrop_e, aRet_e, aRetN_e, aIfS_e, aAsg_e, aAug_e, aPar_e, aFor_e, aWhile_e, aYes_e, aIter_e, aEnum_e, aRange1_e, aRange2_e, aZip_e, aZipTL_e, aApp_e, aPopAt_e, aPop_e, aLenV_e, aIxV_e, aEqNilV_e, aTupV_e, aDnew_e, aListRg_e, aComp_e, aZip3T_e, aCallK0_e, gSetV_e, on_d, on_own, bl_b, it_i, ow_o, isOwn_o, seq_t, seq_l, seq_o, lst_l, lst_o, tup_t, same_t, same_l, one_1, fz_d, fz_r, fz_o, look_d, look_r, look_o, unA_0, unA_s, sl_0, sl_s, ons_n, ons_c, gI0_i, gI_i, gU_i, gIsN_n, gNotN_n, isNone_n, isNone_i, isNone_b, isNone_s, isNone_t, isNone_l, gEq_s, gNe_s, gIn_l, gIn_t, gNotIn_l, gNotIn_t, gIx_t, gIx_l, gCat_i, gCat_t, gCat_l, gMul_i, gMul_t, gMul_l, gCut_t, gCut_l, gP_x, intD_n, intD_b, intD_i, intD_s, intD_l, intD_t, intD_d, boolD_n, boolD_b, boolD_i, boolD_s, boolD_l, boolD_t, boolD_d, strD_n, strD_b, strD_i, strD_s, strD_l, strD_t, strD_d, tupD_n, tupD_b, tupD_i, tupD_s, tupD_l, tupD_t, tupD_d, wholeD_n, wholeD_b, wholeD_i, wholeD_s, wholeD_l, wholeD_t, wholeD_d, gLen_1, gTuple_1, gList_1, gInt_i, gInt_b, gAbs_i, gRepr_x, gAll_l, gAny_l, gSum_l, gGcd_i, gSorted_l, cDraw_1, two_1, three_1, cPick_1, gMax2_i, gMin2_i, gEqS_s, isStr_s, gNil_n, gCons_c, gT_t, gL_o, gL_l, at1_0, at2_0, at2_1, at3_0, at3_1, at3_2, cpow_e, cast_lit, abs_lit, aPart_e, gEq_i, gNe_i]
          rw [first_at hi (by rw [e] <;> rfl) fun j z => by rw [hj j z] <;> rfl] at h
          exact h
        · simp only [ends0, wipeA, List.map, List.set, List.cons_append, List.nil_append, List.length_cons, List.length_nil, ite_true, ite_false, Bool.not_true, Bool.not_false, Bool.true_and, Bool.and_true, Bool.false_and, Bool.and_false, reduceIte, reduceCtorEq, Bool.false_eq_true, if_true, if_false, Nat.reduceAdd, Nat.reduceLeDiff, ne_eq, not_false_eq_true, eq_self, not_true_eq_false, Nat.reduceSub, Nat.reduceMul, Nat.reduceLT, Nat.reducePow, Int.reduceLE, Int.reduceLT, Int.reduceAdd, Int.reduceSub, Int.reduceMul, Int.reduceNeg, Int.reducePow, Int.reduceToNat, Int.reduceEq, Int.reduceBEq, Option.some.injEq, exists_eq_left', exists_eq_left, true_and, and_true, decide_true, decide_false, Nat.reduceBEq, Bool.or_true, Bool.true_or, Bool.or_false, Bool.false_or, aVar_e, aC_e, aRaw_e, aOp_e, aUn_e, aNot_e, aAnd_e, aOr_e, aChain_e, aTern_e, aNil_e, aCons_e, aTup_e, aLst_e, aB_e, tAndA_e, tOrA_e, tNotA_e, aCB_e, aCall_e, aCallK_e, aSl_e, aNoP_e, aCall0_e, gN_e, aNext_e, aSeq_e, aBrk_e, aCnt_e, aDrop_e, aRet_e, aRetN_e, aIfS_e, aAsg_e, aAug_e, aPar_e, aFor_e, aWhile_e, aYes_e, aIter_e, aEnum_e, aRange1_e, aRange2_e, aZip_e, aZipTL_e, aApp_e, aPopAt_e, aPop_e, aLenV_e, aIxV_e, aEqNilV_e, aTupV_e, aDnew_e, aListRg_e, aComp_e, aZip3T_e, aCallK0_e, gSetV_e, on_d, on_own, bl_b, it_i, ow_o, isOwn_o, seq_t, seq_l, seq_o, lst_l, lst_o, tup_t, same_t, same_l, one_1, fz_d, fz_r, fz_o, look_d, look_r, look_o, unA_0, unA_s, sl_0, sl_s, ons_n, ons_c, gI0_i, gI_i, gU_i, gIsN_n, gNotN_n, isNone_n, isNone_i, isNone_b, isNone_s, isNone_t, isNone_l, gEq_s, gNe_s, gIn_l, gIn_t, gNotIn_l, gNotIn_t, gIx_t, gIx_l, gCat_i, gCat_t, gCat_l, gMul_i, gMul_t, gMul_l, gCut_t, gCut_l, gP_x, intD_n, intD_b, intD_i, intD_s, intD_l, intD_t, intD_d, boolD_n, boolD_b, boolD_i, boolD_s, boolD_l, boolD_t, boolD_d, strD_n, strD_b, strD_i, strD_s, strD_l, strD_t, strD_d, tupD_n, tupD_b, tupD_i, tupD_s, tupD_l, tupD_t, tupD_d, wholeD_n, wholeD_b, wholeD_i, wholeD_s, wholeD_l, wholeD_t, wholeD_d, gLen_1, gTuple_1, gList_1, gInt_i, gInt_b, gAbs_i, gRepr_x, gAll_l, gAny_l, gSum_l, gGcd_i, gSorted_l, cDraw_1, two_1, three_1, cPick_1, gMax2_i, gMin2_i, gEqS_s, isStr_s, gNil_n, gCons_c, gT_t, gL_o, gL_l, at1_0, at2_0, at2_1, at3_0, at3_1, at3_2, cpow_e, cast_lit, abs_lit, aPart_e, gEq_i, gNe_i]
          refine ⟨⟨_, _, rfl⟩, fun j z => ?_⟩
          by_cases hji : j < i
          · exact hj j hji
          · obtain rfl : j = i := by omega
            exact e
      · simp only [ends0, wipeA, List.map, List.set, List.cons_append, List.nil_append, List.length_cons, List.length_nil, ite_true, ite_false, Bool.not_true, Bool.not_false, Bool.true_and, Bool.and_true, Bool.false_and, Bool.and_false, reduceIte, reduceCtorEq, Bool.false_eq_true, if_true, if_false, Nat.reduceAdd, Nat.reduceLeDiff, ne_eq, not_false_eq_true, eq_self, not_true_eq_false, Nat.reduceSub, Nat.reduceMul, Nat.reduceLT, Nat.reducePow, Int.reduceLE, Int.reduceLT, Int.reduceAdd, Int.reduceSub, Int.reduceMul, Int.reduceNeg, Int.reducePow, Int.reduceToNat, Int.reduceEq, Int.reduceBEq, Option.some.injEq, exists_eq_left', exists_eq_left, true_and, and_true, decide_true, decide_false, Nat.reduceBEq, Bool.or_true, Bool.true_or, Bool.or_false, Bool.false_or, aVar_e, aC_e, aRaw_e, aOp_e, aUn_e, aNot_e, aAnd_e, aOr_e, aChain_e, aTern_e, aNil_e, aCons_e, aTup_e, aLst_e, aB_e, tAndA_e, tOrA_e, tNotA_e, aCB_e, aCall_e, aCallK_e, aSl_e, aNoP_e, aCall0_e, gN_e, aNext_e, aSeq_e, aBrk_e, aCnt_e, aDrop_e, aRet_e, aRetN_e, aIfS_e, aAsg_e, aAug_e, aPar_e, aFor_e, aWhile_e, aYes_e, aIter_e, aEnum_e, aRange1_e, aRange2_e, aZip_e, aZipTL_e, aApp_e, aPopAt_e, aPop_e, aLenV_e, aIxV_e, aEqNilV_e, aTupV_e, aDnew_e, aListRg_e, aComp_e, aZip3T_e, aCallK0_e, gSetV_e, on_d, on_own, bl_b, it_i, ow_o, isOwn_o, seq_t, seq_l, seq_o, lst_l, lst_o, tup_t, same_t, same_l, one_1, fz_d, fz_r, fz_o, look_d, look_r, look_o, unA_0, unA_s, sl_0, sl_s, ons_n, ons_c, gI0_i, gI_i, gU_i, gIsN_n, gNotN_n, isNone_n, isNone_i, isNone_b, isNone_s, isNone_t, isNone_l, gEq_s, gNe_s, gIn_l, gIn_t, gNotIn_l, gNotIn_t, gIx_t, gIx_l, gCat_i, gCat_t, gCat_l, gMul_i, gMul_t, gMul_l, gCut_t, gCut_l, gP_x, intD_n, intD_b, intD_i, intD_s, intD_l, intD_t, intD_d, boolD_n, boolD_b, boolD_i, boolD_s, boolD_l, boolD_t, boolD_d, strD_n, strD_b, strD_i, strD_s, strD_l, strD_t, strD_d, tupD_n, tupD_b, tupD_i, tupD_s, tupD_l, tupD_t, tupD_d, wholeD_n, wholeD_b, wholeD_i, wholeD_s, wholeD_l, wholeD_t, wholeD_d, gLen_1, gTuple_1, gList_1, gInt_i, gInt_b, gAbs_i, gRepr_x, gAll_l, gAny_l, gSum_l, gGcd_i, gSorted_l, cDraw_1, two_1, three_1, cPick_1, gMax2_i, gMin2_i, gEqS_s, isStr_s, gNil_n, gCons_c, gT_t, gL_o, gL_l, at1_0, at2_0, at2_1, at3_0, at3_1, at3_2, cpow_e, cast_lit, abs_lit, aPart_e, gEq_i, gNe_i]
        rw [first_no fun j z => by rw [hj j z] <;> rfl] at h
        exact h
    · rw [if_neg h1] at h
      by_cases h2 : (1 : Int) ≤ (ds.length : Int)
      · simp only [h2, show ¬ (ds.length : Int) ≤ 8 from by omega, decide_true, decide_false, ends0, wipeA, List.map, List.set, List.cons_append, List.nil_append, List.length_cons, List.length_nil, ite_true, ite_false, Bool.not_true, Bool.not_false, Bool.true_and, Bool.and_true, Bool.false_and, Bool.and_false, reduceIte, reduceCtorEq, Bool.false_eq_true, if_true, if_false, Nat.reduceAdd, Nat.reduceLeDiff, ne_eq, not_false_eq_true, eq_self, not_true_eq_false, Nat.reduceSub, Nat.reduceMul, Nat.reduceLT, Nat.reducePow, Int.reduceLE, Int.reduceLT, Int.reduceAdd, Int.reduceSub, Int.reduceMul, Int.reduceNeg, Int.reducePow, Int.reduceToNat, Int.reduceEq, Int.reduceBEq, Option.some.injEq, exists_eq_left', exists_eq_left, true_and, and_true, decide_true, decide_false, Nat.reduceBEq, Bool.or_true, Bool.true_or, Bool.or_false, Bool.false_or, aVar_e, aC_e, aRaw_e, aOp_e, aUn_e, aNot_e, aAnd_e, aOr_e, aChain_e, aTern_e, aNil_e, aCons_e, aTup_e, aLst_e, aB_e, tAndA_e, tOrA_e, tNotA_e, aCB_e, aCall_e, aCallK_e, aSl_e, aNoP_e, aCall0_e, gN_e, aNext_e, aSeq_e, aBrk_e, aCnt_e, aDrop_e, aRet_e, aRetN_e, aIfS_e, aAsg_e, aAug_e, aPar_e, aFor_e, aWhile_e, aYes_e, aIter_e, aEnum_e, aRange1_e, aRange2_e, aZip_e, aZipTL_e, aApp_e, aPopAt_e, aPop_e, aLenV_e, aIxV_e, aEqNilV_e, aTupV_e, aDnew_e, aListRg_e, aComp_e, aZip3T_e, aCallK0_e, gSetV_e, on_d, on_own, bl_b, it_i, ow_o, isOwn_o, seq_t, seq_l, seq_o, lst_l, lst_o, tup_t, same_t, same_l, one_1, fz_d, fz_r, fz_o, look_d, look_r, look_o, unA_0, unA_s, sl_0, sl_s, ons_n, ons_c, gI0_i, gI_i, gU_i, gIsN_n, gNotN_n, isNone_n, isNone_i, isNone_b, isNone_s, isNone_t, isNone_l, gEq_s, gNe_s, gIn_l, gIn_t, gNotIn_l, gNotIn_t, gIx_t, gIx_l, gCat_i, gCat_t, gCat_l, gMul_i, gMul_t, gMul_l, gCut_t, gCut_l, gP_x, intD_n, intD_b, intD_i, intD_s, intD_l, intD_t, intD_d, boolD_n, boolD_b, boolD_i, boolD_s, boolD_l, boolD_t, boolD_d, strD_n, strD_b, strD_i, strD_s, strD_l, strD_t, strD_d, tupD_n, tupD_b, tupD_i, tupD_s, tupD_l, tupD_t, tupD_d, wholeD_n, wholeD_b, wholeD_i, wholeD_s, wholeD_l, wholeD_t, wholeD_d, gLen_1, gTuple_1, gList_1, gInt_i, gInt_b, gAbs_i, gRepr_x, gAll_l, gAny_l, gSum_l, gGcd_i, gSorted_l, cDraw_1, two_1, three_1, cPick_1, gMax2_i, gMin2_i, gEqS_s, isStr_s, gNil_n, gCons_c, gT_t, gL_o, gL_l, at1_0, at2_0, at2_1, at3_0, at3_1, at3_2, cpow_e, cast_lit, abs_lit, aPart_e, gEq_i, gNe_i]
        exact h
      · simp only [h2, decide_false, ends0, wipeA, List.map, List.set, List.cons_append, List.nil_append, List.length_cons, List.length_nil, ite_true, ite_false, Bool.not_true, Bool.not_false, Bool.true_and, Bool.and_true, Bool.false_and, Bool.and_false, reduceIte, reduceCtorEq, Bool.false_eq_true, if_true, if_false, Nat.reduceAdd, Nat.reduceLeDiff, ne_eq, not_false_eq_true, eq_self, not_true_eq_false, Nat.reduceSub, Nat.reduceMul, Nat.reduceLT, Nat.reducePow, Int.reduceLE, Int.reduceLT, Int.reduceAdd, Int.reduceSub, Int.reduceMul, Int.reduceNeg, Int.reducePow, Int.reduceToNat, Int.reduceEq, Int.reduceBEq, Option.some.injEq, exists_eq_left', exists_eq_left, true_and, and_true, decide_true, decide_false, Nat.reduceBEq, Bool.or_true, Bool.true_or, Bool.or_false, Bool.false_or, aVar_e, aC_e, aRaw_e, aOp_e, aUn_e, aNot_e, aAnd_e, aOr_e, aChain_e, aTern_e, aNil_e, aCons_e, aTup_e, aLst_e, aB_e, tAndA_e, tOrA_e, tNotA_e, aCB_e, aCall_e, aCallK_e, aSl_e, aNoP_e, aCall0_e, gN_e, aNext_e, aSeq_e, aBrk_e, aCnt_e, aDrop_e, aRet_e, aRetN_e, aIfS_e, aAsg_e, aAug_e, aPar_e, aFor_e, aWhile_e, aYes_e, aIter_e, aEnum_e, aRange1_e, aRange2_e, aZip_e, aZipTL_e, aApp_e, aPopAt_e, aPop_e, aLenV_e, aIxV_e, aEqNilV_e, aTupV_e, aDnew_e, aListRg_e, aComp_e, aZip3T_e, aCallK0_e, gSetV_e, on_d, on_own, bl_b, it_i, ow_o, isOwn_o, seq_t, seq_l, seq_o, lst_l, lst_o, tup_t, same_t, same_l, one_1, fz_d, fz_r, fz_o, look_d, look_r, look_o, unA_0, unA_s, sl_0, sl_s, ons_n, ons_c, gI0_i, gI_i, gU_i, gIsN_n, gNotN_n, isNone_n, isNone_i, isNone_b, isNone_s, isNone_t, isNone_l, gEq_s, gNe_s, gIn_l, gIn_t, gNotIn_l, gNotIn_t, gIx_t, gIx_l, gCat_i, gCat_t, gCat_l, gMul_i, gMul_t, gMul_l, gCut_t, gCut_l, gP_x, intD_n, intD_b, intD_i, intD_s, intD_l, intD_t, intD_d, boolD_n, boolD_b, boolD_i, boolD_s, boolD_l, boolD_t, boolD_d, strD_n, strD_b, strD_i, strD_s, strD_l, strD_t, strD_d, tupD_n, tupD_b, tupD_i, tupD_s, tupD_l, tupD_t, tupD_d, wholeD_n, wholeD_b, wholeD_i, wholeD_s, wholeD_l, wholeD_t, wholeD_d, gLen_1, gTuple_1, gList_1, gInt_i, gInt_b, gAbs_i, gRepr_x, gAll_l, gAny_l, gSum_l, gGcd_i, gSorted_l, cDraw_1, two_1, three_1, cPick_1, gMax2_i, gMin2_i, gEqS_s, isStr_s, gNil_n, gCons_c, gT_t, gL_o, gL_l, at1_0, at2_0, at2_1, at3_0, at3_1, at3_2, cpow_e, cast_lit, abs_lit, aPart_e, gEq_i, gNe_i]
        exact h
  · exact h.elim
abbrev sp_ledger_error (K : PySem.W.Frag) : Sp := SpL K noBox c_ledger_error
section
variable {P : Program} {w : World} {K : PySem.W.Frag} {mg : Str → Option Value} {base : Heap} {a : Adr}
theorem ok_ledger_error (T : Txt K mg a) : FnOk P w K mg base CX0 6 a.f_ledger_error a.d_ledger_error ["machine", "value"] (sp_ledger_error K) := by
  have G_is_ledger_run : FnOk P w K mg base CX0 5 a.f_is_ledger_run a.d_is_ledger_run ["machine", "value"] (sp_is_ledger_run K) := ok_is_ledger_run T
  refine T.ledger_error.F.ok sc_ledger_error (fun vs H Q E h => sp_len l_ledger_error h) (fun cdv A outer s H vs Q E hr h => ?_)
  have hu := hu_of hr
  exact ⟨_, (pss_cons (ps_if (PW.pt (pw_or (pt_not (pt_val (pe_callB (show CallR _ _ (rIsi K) from call_isi) (by rfl) T.b_isinstance (by decide +kernel) (pa_cons (pv 1) (pa_cons (pe_bltn (v := .ty "tuple") rfl T.b_tuple (by decide +kernel) rfl) pa_nil))))) (pw_or1 (pt_not (pt_chain op_le op_le pe_int (pe_callB (show CallR _ _ (Sx.rLenS K) from call_len_seq) (by rfl) T.b_len (by decide +kernel) (pa_cons (pv 1) pa_nil)) (pe_cst T.c_MAX_RUNS rfl)))))) (pss_one (ps_ret pe_str)) pss_nil)
      (pss_cons (ps_for PassesOwn.never rfl (show PI _ _ _ (iEnumA K _) from pi_enumA (by rfl) T.b_enumerate (pa_cons (pv 1) pa_nil)) (show PG _ _ (gTup K 2 _) from pg_tup rfl (pgs_cons (pg_name (i := 2) sc_ledger_error.nd rfl (by first | exact Or.inl rfl | exact Or.inr rfl)) (pgs_cons (pg_name (i := 3) sc_ledger_error.nd rfl (by first | exact Or.inl rfl | exact Or.inr rfl)) pgs_nil))) (pss_one (ps_if (pt_not (pt_val (pe_call G_is_ledger_run hr (by rfl) T.is_ledger_run.m T.is_ledger_run.F.kp T.is_ledger_run.b .nil pass0 (pa_cons (pv 0) (pa_cons (pv 3) pa_nil))))) (pss_one (ps_ret (pe_tup (pa_cons pe_str (pa_cons (pv 2) pa_nil))))) pss_nil)))
      (pss_one (ps_ret pe_non)))),
    run0 (N := ["machine", "value", "place", "item"]) (np := 2) (f := b_ledger_error) h (sp_len l_ledger_error h) (fun dk B hb => (show LS B K Wno _ (b_ledger_error dk) from
      (ls_seq (ls_if (lt_or (lt_not (lt_b (le_isi (p := tupD) kit_tuple (le_var (i := 1))))) (lt_not (lt_test (le_chain (ol_I0 fun _ _ _ => .bl _) (ol_I0 fun _ _ _ => .bl _) (le_c (y := .int 1) fun _ => .int _) (le_cb cl_len (la_cons (le_var (i := 1)) la_nil)) (le_c (y := .int 8) fun _ => .int _))))) (ls_ret (le_c (y := .str "form") fun _ => .str _)) ls_next)
      (ls_cut (ls_for (li_enum (la_cons (le_var (i := 1)) la_nil)) (lg_tup (lgs_cons (lg_name (i := 2)) (lgs_cons (lg_name (i := 3)) lgs_nil)) (gC_len (gC_len gN_len))) (ls_if (lt_not (lt_b (le_call0 (dk := dk) (c := c_is_ledger_run) trivial (la_cons (le_var (i := 0)) (la_cons (le_var (i := 3)) la_nil))))) (ls_ret (le_tup (la_cons (le_c (y := .str "run") fun _ => .str _) (la_cons (le_var (i := 2)) la_nil)) (by decide))) ls_next))
      (ls_ret (le_c (y := .none) fun _ => .non)))))) h_ledger_error⟩
end

def b_law (dk : V) : ASx :=
  (aCut (aFor (aRange1 (aCons (aC (.int 4)) aNil)) (gN 2) (aCut (aAsg (aCall0 (c__law_machine dk) (aCons (aVar 1) (aCons (aOp (gCat) (aC (.int 1)) (aCall0 (c__law_draw dk) (aCons (aVar 1) (aCons (aC (.int 5)) aNil)))) (aCons (aC (.int 12)) aNil)))) (gN 3))
        (aCut (aAsg (aCall0 (c__law_pick dk) (aCons (aVar 1) (aCons (aLst (aCons (aC (.int 1)) (aCons (aC (.int 2)) (aCons (aC (.int 3)) (aCons (aC (.int 8)) aNil))))) aNil))) (gN 4))
        (aCut (aAsg (aCB gTuple (aCons (aComp (aRange1 (aCons (aVar 4) aNil)) (gN 16) aYes (aCall0 (c__law_run dk) (aCons (aVar 1) (aCons (aVar 3) aNil))) [16]) aNil)) (gN 5))
        (aCut (aAsg (aOp (gCat) (aVar 5) (aTup (aCons (aCall0 (c__law_run dk) (aCons (aVar 1) (aCons (aVar 3) aNil))) aNil))) (gN 6))
        (aCut (aAsg (aLst (aCons (aVar 5) (aCons (aVar 6) (aCons (aCB gList (aCons (aVar 5) aNil)) (aCons (aTup aNil) (aCons (aC (.none)) (aCons (aOp gIx (aVar 5) (aC (.int 0))) (aCons (aTup (aCons (aVar 5) aNil)) (aCons aDnew (aCons (aSl gCut (aOp (gMul) (aVar 6) (aC (.int 9))) aNoP (aPart (aC (.int 8)))) (aCons (aSl gCut (aOp (gMul) (aVar 6) (aC (.int 9))) aNoP (aPart (aC (.int 9)))) (aCons (aC (.bool true)) aNil)))))))))))) (gN 7))
        (aCut (aFor (aRange1 (aCons (aC (.int 9)) aNil)) (gN 8) (aCut (aPar 12 13 (aCons (aCall0 (c__law_draw dk) (aCons (aVar 1) (aCons (aCB gLen (aCons (aVar 5) aNil)) aNil))) (aCons (aCall0 (c__law_draw dk) (aCons (aVar 1) (aCons (aCB gLen (aCons (aVar 5) aNil)) aNil))) aNil)))
          (aCut (aAsg (aOp (gCat) (aOp (gCat) (aSl gCut (aVar 5) aNoP (aPart (aVar 12))) (aTup (aCons (aCall0 (c__law_odd dk) (aCons (aVar 1) (aCons (aVar 3) (aCons (aOp gIx (aVar 5) (aVar 12)) aNil)))) aNil))) (aSl gCut (aVar 5) (aPart (aOp (gCat) (aVar 12) (aC (.int 1)))) aNoP)) (gN 9))
          (aCut (aDrop (aApp 7 (aVar 9)))
          (aDrop (aApp 7 (aOp (gCat) (aOp (gCat) (aSl gCut (aVar 9) aNoP (aPart (aVar 13))) (aTup (aCons (aCall0 (c__law_odd dk) (aCons (aVar 1) (aCons (aVar 3) (aCons (aOp gIx (aVar 5) (aVar 13)) aNil)))) aNil))) (aSl gCut (aVar 9) (aPart (aOp (gCat) (aVar 13) (aC (.int 1)))) aNoP))))))))
        (aFor (aEnum (aCons (aVar 7) aNil)) (gT (gCons (gN 8) (gCons (gN 10) gNil))) (aCut (aPar 14 15 (aCons (aCB gRepr (aCons (aLst (aCons (aVar 3) (aCons (aVar 10) aNil))) aNil)) (aCons (aCB gRepr (aCons (aCall0 (c__law_due dk) (aCons (aVar 3) (aCons (aVar 10) aNil))) aNil)) aNil)))
          (aCut (aAsg (aTern (aB (aOp (gEq) (aVar 8) (aC (.int 0)))) (aCallK0 (c_ledger_error dk) g_ledger_error_value_machine aNil (aCons (aVar 10) (aCons (aVar 3) aNil))) (aCall0 (c_ledger_error dk) (aCons (aVar 3) (aCons (aVar 10) aNil)))) (gN 11))
          (aIfS (tOrA (aB (aOp (gNe) (aCB gRepr (aCons (aVar 11) aNil)) (aVar 15))) (tOrA (aB (aOp (gNe) (aCB gRepr (aCons (aCall0 (c_ledger_error dk) (aCons (aVar 3) (aCons (aVar 10) aNil))) aNil)) (aVar 15))) (aB (aOp (gNe) (aCB gRepr (aCons (aLst (aCons (aVar 3) (aCons (aVar 10) aNil))) aNil)) (aVar 14))))) (aRet (aC (.bool false))) aNext)))))))))))
      (aRet (aOp (gEq) (aCall0 (c_ledger_error dk) (aCons (aTup (aCons (aC (.int 7)) (aCons (aC (.int 11)) (aCons (aC (.int 13)) aNil)))) (aCons (aTup (aCons (aTup (aCons (aTup (aCons (aC (.int 6)) (aCons (aC (.int 4)) (aCons (aC (.int 7)) aNil)))) (aCons (aTup (aCons (aC (.int 0)) (aCons (aC (.int 60)) aNil))) aNil))) (aCons (aTup (aCons (aC (.int 3)) (aCons (aC (.int 0)) (aCons (aC (.int 10)) aNil)))) aNil))) aNil))) (aTup (aCons (aC (.str "run")) (aCons (aC (.int 1)) aNil))))))
theorem h_law (dk : V) : b_law dk (ends0 fun a => a = .d (.bool true)) (fun _ => False) (.un :: .raw dk :: unA 15) := by
  unfold b_law
  refine ⟨fun _ => True, ?_, fun ρ _ => ?_⟩
  · simp only [ends0, wipeA, List.map, List.set, List.cons_append, List.nil_append, List.length_cons, List.length_nil, ite_true, ite_false, Bool.not_true, Bool.not_false, Bool.true_and, Bool.and_true, Bool.false_and, Bool.and_false, reduceIte, reduceCtorEq, Bool.false_eq_true, if_true, if_false, Nat.reduceAdd, Nat.reduceLeDiff, ne_eq, not_false_eq_true, eq_self, not_true_eq_false, Nat.reduceSub, Nat.reduceMul, Nat.reduceLT, Nat.reducePow, Int.reduceLE, Int.reduceLT, Int.reduceAdd, Int.reduceSub, Int.reduceMul, Int.reduceNeg, Int.reducePow, Int.reduceToNat, Int.reduceEq, Int.reduceBEq, Option.some.injEq, exists_eq_left', exists_eq_left, true_and, and_true, decide_true, decide_false, Nat.reduceBEq, Bool.or_true, Bool.true_or, Bool.or_false, Bool.false_or, aVar_e, aC_e, aRaw_e, aOp_e, aUn_e, aNot_e, aAnd_e, aOr_e, aChain_e, aTern_e, aNil_e, aCons_e, aTup_e, aLst_e, aB_e, tAndA_e, tOrA_e, tNotA_e, aCB_e, aCall_e, aCallK_e, aSl_e, aNoP_e, aCall0_e, gN_e, aNext_e, aSeq_e, aBrk_e, aCnt_e, aDrop_e, aRet_e, aRetN_e, aIfS_e, aAsg_e, aAug_e, aPar_e, aFor_e, aWhile_e, aYes_e, aIter_e, aEnum_e, aRange1_e, aRange2_e, aZip_e, aZipTL_e, aApp_e, aPopAt_e, aPop_e, aLenV_e, aIxV_e, aEqNilV_e, aTupV_e, aDnew_e, aListRg_e, aComp_e, aZip3T_e, aCallK0_e, gSetV_e, on_d, on_own, bl_b, it_i, ow_o, isOwn_o, seq_t, seq_l, seq_o, lst_l, lst_o, tup_t, same_t, same_l, one_1, fz_d, fz_r, fz_o, look_d, look_r, look_o, unA_0, unA_s, sl_0, sl_s, ons_n, ons_c, gI0_i, gI_i, gU_i, gIsN_n, gNotN_n, isNone_n, isNone_i, isNone_b, isNone_s, isNone_t, isNone_l, gEq_s, gNe_s, gIn_l, gIn_t, gNotIn_l, gNotIn_t, gIx_t, gIx_l, gCat_i, gCat_t, gCat_l, gMul_i, gMul_t, gMul_l, gCut_t, gCut_l, gP_x, intD_n, intD_b, intD_i, intD_s, intD_l, intD_t, intD_d, boolD_n, boolD_b, boolD_i, boolD_s, boolD_l, boolD_t, boolD_d, strD_n, strD_b, strD_i, strD_s, strD_l, strD_t, strD_d, tupD_n, tupD_b, tupD_i, tupD_s, tupD_l, tupD_t, tupD_d, wholeD_n, wholeD_b, wholeD_i, wholeD_s, wholeD_l, wholeD_t, wholeD_d, gLen_1, gTuple_1, gList_1, gInt_i, gInt_b, gAbs_i, gRepr_x, gAll_l, gAny_l, gSum_l, gGcd_i, gSorted_l, cDraw_1, two_1, three_1, cPick_1, gMax2_i, gMin2_i, gEqS_s, isStr_s, gNil_n, gCons_c, gT_t, gL_o, gL_l, at1_0, at2_0, at2_1, at3_0, at3_1, at3_2, cpow_e, cast_lit, abs_lit, aPart_e, gEq_i, gNe_i]
    refine ⟨fun _ ρ => ∃ a0 a1 a2 a3 a4 a5 a6 a7 a8 a9 a10 a11 a12 a13 a14, ρ = [.un, .raw dk, a0, a1, a2, a3, a4, a5, a6, a7, a8, a9, a10, a11, a12, a13, a14], ⟨_, _, _, _, _, _, _, _, _, _, _, _, _, _, _, rfl⟩, ?_, fun _ _ => trivial⟩
    rintro i ρ hi ⟨a0, a1, a2, a3, a4, a5, a6, a7, a8, a9, a10, a11, a12, a13, a14, rfl⟩
    simp only [ends0, wipeA, List.map, List.set, List.cons_append, List.nil_append, List.length_cons, List.length_nil, ite_true, ite_false, Bool.not_true, Bool.not_false, Bool.true_and, Bool.and_true, Bool.false_and, Bool.and_false, reduceIte, reduceCtorEq, Bool.false_eq_true, if_true, if_false, Nat.reduceAdd, Nat.reduceLeDiff, ne_eq, not_false_eq_true, eq_self, not_true_eq_false, Nat.reduceSub, Nat.reduceMul, Nat.reduceLT, Nat.reducePow, Int.reduceLE, Int.reduceLT, Int.reduceAdd, Int.reduceSub, Int.reduceMul, Int.reduceNeg, Int.reducePow, Int.reduceToNat, Int.reduceEq, Int.reduceBEq, Option.some.injEq, exists_eq_left', exists_eq_left, true_and, and_true, decide_true, decide_false, Nat.reduceBEq, Bool.or_true, Bool.true_or, Bool.or_false, Bool.false_or, aVar_e, aC_e, aRaw_e, aOp_e, aUn_e, aNot_e, aAnd_e, aOr_e, aChain_e, aTern_e, aNil_e, aCons_e, aTup_e, aLst_e, aB_e, tAndA_e, tOrA_e, tNotA_e, aCB_e, aCall_e, aCallK_e, aSl_e, aNoP_e, aCall0_e, gN_e, aNext_e, aSeq_e, aBrk_e, aCnt_e, aDrop_e, aRet_e, aRetN_e, aIfS_e, aAsg_e, aAug_e, aPar_e, aFor_e, aWhile_e, aYes_e, aIter_e, aEnum_e, aRange1_e, aRange2_e, aZip_e, aZipTL_e, aApp_e, aPopAt_e, aPop_e, aLenV_e, aIxV_e, aEqNilV_e, aTupV_e, aDnew_e, aListRg_e, aComp_e, aZip3T_e, aCallK0_e, gSetV_e, on_d, on_own, bl_b, it_i, ow_o, isOwn_o, seq_t, seq_l, seq_o, lst_l, lst_o, tup_t, same_t, same_l, one_1, fz_d, fz_r, fz_o, look_d, look_r, look_o, unA_0, unA_s, sl_0, sl_s, ons_n, ons_c, gI0_i, gI_i, gU_i, gIsN_n, gNotN_n, isNone_n, isNone_i, isNone_b, isNone_s, isNone_t, isNone_l, gEq_s, gNe_s, gIn_l, gIn_t, gNotIn_l, gNotIn_t, gIx_t, gIx_l, gCat_i, gCat_t, gCat_l, gMul_i, gMul_t, gMul_l, gCut_t, gCut_l, gP_x, intD_n, intD_b, intD_i, intD_s, intD_l, intD_t, intD_d, boolD_n, boolD_b, boolD_i, boolD_s, boolD_l, boolD_t, boolD_d, strD_n, strD_b, strD_i, strD_s, strD_l, strD_t, strD_d, tupD_n, tupD_b, tupD_i, tupD_s, tupD_l, tupD_t, tupD_d, wholeD_n, wholeD_b, wholeD_i, wholeD_s, wholeD_l, wholeD_t, wholeD_d, gLen_1, gTuple_1, gList_1, gInt_i, gInt_b, gAbs_i, gRepr_x, gAll_l, gAny_l, gSum_l, gGcd_i, gSorted_l, cDraw_1, two_1, three_1, cPick_1, gMax2_i, gMin2_i, gEqS_s, isStr_s, gNil_n, gCons_c, gT_t, gL_o, gL_l, at1_0, at2_0, at2_1, at3_0, at3_1, at3_2, cpow_e, cast_lit, abs_lit, aPart_e, gEq_i, gNe_i]
    -- machine
    refine ⟨fun ρ => ∃ ns : List Int, 1 ≤ ns.length ∧ ns.length ≤ 10 ∧ (∀ n ∈ ns, 2 ≤ n ∧ n ≤ 1000000) ∧ ∃ z, ∃ a0 a1 a2 a3 a4 a5 a6 a7 a8 a9 a10 a11 a12, ρ = [.un, .raw dk, z, .d (.tuple (ns.map PyData.int)), a0, a1, a2, a3, a4, a5, a6, a7, a8, a9, a10, a11, a12], ?_, ?_⟩
    · simp only [c__law_machine, c__law_draw, ends0, wipeA, List.map, List.set, List.cons_append, List.nil_append, List.length_cons, List.length_nil, ite_true, ite_false, Bool.not_true, Bool.not_false, Bool.true_and, Bool.and_true, Bool.false_and, Bool.and_false, reduceIte, reduceCtorEq, Bool.false_eq_true, if_true, if_false, Nat.reduceAdd, Nat.reduceLeDiff, ne_eq, not_false_eq_true, eq_self, not_true_eq_false, Nat.reduceSub, Nat.reduceMul, Nat.reduceLT, Nat.reducePow, Int.reduceLE, Int.reduceLT, Int.reduceAdd, Int.reduceSub, Int.reduceMul, Int.reduceNeg, Int.reducePow, Int.reduceToNat, Int.reduceEq, Int.reduceBEq, Option.some.injEq, exists_eq_left', exists_eq_left, true_and, and_true, decide_true, decide_false, Nat.reduceBEq, Bool.or_true, Bool.true_or, Bool.or_false, Bool.false_or, aVar_e, aC_e, aRaw_e, aOp_e, aUn_e, aNot_e, aAnd_e, aOr_e, aChain_e, aTern_e, aNil_e, aCons_e, aTup_e, aLst_e, aB_e, tAndA_e, tOrA_e, tNotA_e, aCB_e, aCall_e, aCallK_e, aSl_e, aNoP_e, aCall0_e, gN_e, aNext_e, aSeq_e, aBrk_e, aCnt_e, aDrop_e, aRet_e, aRetN_e, aIfS_e, aAsg_e, aAug_e, aPar_e, aFor_e, aWhile_e, aYes_e, aIter_e, aEnum_e, aRange1_e, aRange2_e, aZip_e, aZipTL_e, aApp_e, aPopAt_e, aPop_e, aLenV_e, aIxV_e, aEqNilV_e, aTupV_e, aDnew_e, aListRg_e, aComp_e, aZip3T_e, aCallK0_e, gSetV_e, on_d, on_own, bl_b, it_i, ow_o, isOwn_o, seq_t, seq_l, seq_o, lst_l, lst_o, tup_t, same_t, same_l, one_1, fz_d, fz_r, fz_o, look_d, look_r, look_o, unA_0, unA_s, sl_0, sl_s, ons_n, ons_c, gI0_i, gI_i, gU_i, gIsN_n, gNotN_n, isNone_n, isNone_i, isNone_b, isNone_s, isNone_t, isNone_l, gEq_s, gNe_s, gIn_l, gIn_t, gNotIn_l, gNotIn_t, gIx_t, gIx_l, gCat_i, gCat_t, gCat_l, gMul_i, gMul_t, gMul_l, gCut_t, gCut_l, gP_x, intD_n, intD_b, intD_i, intD_s, intD_l, intD_t, intD_d, boolD_n, boolD_b, boolD_i, boolD_s, boolD_l, boolD_t, boolD_d, strD_n, strD_b, strD_i, strD_s, strD_l, strD_t, strD_d, tupD_n, tupD_b, tupD_i, tupD_s, tupD_l, tupD_t, tupD_d, wholeD_n, wholeD_b, wholeD_i, wholeD_s, wholeD_l, wholeD_t, wholeD_d, gLen_1, gTuple_1, gList_1, gInt_i, gInt_b, gAbs_i, gRepr_x, gAll_l, gAny_l, gSum_l, gGcd_i, gSorted_l, cDraw_1, two_1, three_1, cPick_1, gMax2_i, gMin2_i, gEqS_s, isStr_s, gNil_n, gCons_c, gT_t, gL_o, gL_l, at1_0, at2_0, at2_1, at3_0, at3_1, at3_2, cpow_e, cast_lit, abs_lit, aPart_e, gEq_i, gNe_i]
      refine ⟨small_of (by decide) (by decide), fun r r0 r1 => ⟨1 + r, 12, rfl, rfl, by omega, by omega, by decide, by decide, fun ns hl hn => ?_⟩⟩
      exact ⟨ns, by omega, by omega, fun n h => ⟨(hn n h).1, by have := (hn n h).2; omega⟩, _, ⟨_, _, _, _, _, _, _, _, _, _, _, _, _, rfl⟩⟩
    rintro ρ ⟨ns, l1, l10, hn, z, ⟨a0, a1, a2, a3, a4, a5, a6, a7, a8, a9, a10, a11, a12, rfl⟩⟩
    -- many
    refine ⟨fun ρ => ∃ k : Int, 1 ≤ k ∧ k ≤ 8 ∧ ∃ a0 a1 a2 a3 a4 a5 a6 a7 a8 a9 a10 a11, ρ = [.un, .raw dk, z, .d (.tuple (ns.map PyData.int)), .d (.int k), a0, a1, a2, a3, a4, a5, a6, a7, a8, a9, a10, a11], ?_, ?_⟩
    · simp only [c__law_pick, ends0, wipeA, List.map, List.set, List.cons_append, List.nil_append, List.length_cons, List.length_nil, ite_true, ite_false, Bool.not_true, Bool.not_false, Bool.true_and, Bool.and_true, Bool.false_and, Bool.and_false, reduceIte, reduceCtorEq, Bool.false_eq_true, if_true, if_false, Nat.reduceAdd, Nat.reduceLeDiff, ne_eq, not_false_eq_true, eq_self, not_true_eq_false, Nat.reduceSub, Nat.reduceMul, Nat.reduceLT, Nat.reducePow, Int.reduceLE, Int.reduceLT, Int.reduceAdd, Int.reduceSub, Int.reduceMul, Int.reduceNeg, Int.reducePow, Int.reduceToNat, Int.reduceEq, Int.reduceBEq, Option.some.injEq, exists_eq_left', exists_eq_left, true_and, and_true, decide_true, decide_false, Nat.reduceBEq, Bool.or_true, Bool.true_or, Bool.or_false, Bool.false_or, aVar_e, aC_e, aRaw_e, aOp_e, aUn_e, aNot_e, aAnd_e, aOr_e, aChain_e, aTern_e, aNil_e, aCons_e, aTup_e, aLst_e, aB_e, tAndA_e, tOrA_e, tNotA_e, aCB_e, aCall_e, aCallK_e, aSl_e, aNoP_e, aCall0_e, gN_e, aNext_e, aSeq_e, aBrk_e, aCnt_e, aDrop_e, aRet_e, aRetN_e, aIfS_e, aAsg_e, aAug_e, aPar_e, aFor_e, aWhile_e, aYes_e, aIter_e, aEnum_e, aRange1_e, aRange2_e, aZip_e, aZipTL_e, aApp_e, aPopAt_e, aPop_e, aLenV_e, aIxV_e, aEqNilV_e, aTupV_e, aDnew_e, aListRg_e, aComp_e, aZip3T_e, aCallK0_e, gSetV_e, on_d, on_own, bl_b, it_i, ow_o, isOwn_o, seq_t, seq_l, seq_o, lst_l, lst_o, tup_t, same_t, same_l, one_1, fz_d, fz_r, fz_o, look_d, look_r, look_o, unA_0, unA_s, sl_0, sl_s, ons_n, ons_c, gI0_i, gI_i, gU_i, gIsN_n, gNotN_n, isNone_n, isNone_i, isNone_b, isNone_s, isNone_t, isNone_l, gEq_s, gNe_s, gIn_l, gIn_t, gNotIn_l, gNotIn_t, gIx_t, gIx_l, gCat_i, gCat_t, gCat_l, gMul_i, gMul_t, gMul_l, gCut_t, gCut_l, gP_x, intD_n, intD_b, intD_i, intD_s, intD_l, intD_t, intD_d, boolD_n, boolD_b, boolD_i, boolD_s, boolD_l, boolD_t, boolD_d, strD_n, strD_b, strD_i, strD_s, strD_l, strD_t, strD_d, tupD_n, tupD_b, tupD_i, tupD_s, tupD_l, tupD_t, tupD_d, wholeD_n, wholeD_b, wholeD_i, wholeD_s, wholeD_l, wholeD_t, wholeD_d, gLen_1, gTuple_1, gList_1, gInt_i, gInt_b, gAbs_i, gRepr_x, gAll_l, gAny_l, gSum_l, gGcd_i, gSorted_l, cDraw_1, two_1, three_1, cPick_1, gMax2_i, gMin2_i, gEqS_s, isStr_s, gNil_n, gCons_c, gT_t, gL_o, gL_l, at1_0, at2_0, at2_1, at3_0, at3_1, at3_2, cpow_e, cast_lit, abs_lit, aPart_e, gEq_i, gNe_i, List.mem_cons, List.not_mem_nil, or_false, forall_eq_or_imp, forall_eq]
      repeat' apply And.intro
      all_goals exact ⟨_, by decide, by decide, ⟨_, _, _, _, _, _, _, _, _, _, _, _, rfl⟩⟩
    rintro ρ ⟨k, k1, k8, ⟨a0, a1, a2, a3, a4, a5, a6, a7, a8, a9, a10, a11, rfl⟩⟩
    -- ledger
    refine ⟨fun ρ => ∃ ds, (∀ d ∈ ds, runOk ns d) ∧ 1 ≤ ds.length ∧ ds.length ≤ 8 ∧ ∃ a0 a1 a2 a3 a4 a5 a6 a7 a8 a9 a10, ρ = [.un, .raw dk, z, .d (.tuple (ns.map PyData.int)), .d (.int k), .d (.tuple ds), a0, a1, a2, a3, a4, a5, a6, a7, a8, a9, a10], ?_, ?_⟩
    · simp only [ends0, wipeA, List.map, List.set, List.cons_append, List.nil_append, List.length_cons, List.length_nil, ite_true, ite_false, Bool.not_true, Bool.not_false, Bool.true_and, Bool.and_true, Bool.false_and, Bool.and_false, reduceIte, reduceCtorEq, Bool.false_eq_true, if_true, if_false, Nat.reduceAdd, Nat.reduceLeDiff, ne_eq, not_false_eq_true, eq_self, not_true_eq_false, Nat.reduceSub, Nat.reduceMul, Nat.reduceLT, Nat.reducePow, Int.reduceLE, Int.reduceLT, Int.reduceAdd, Int.reduceSub, Int.reduceMul, Int.reduceNeg, Int.reducePow, Int.reduceToNat, Int.reduceEq, Int.reduceBEq, Option.some.injEq, exists_eq_left', exists_eq_left, true_and, and_true, decide_true, decide_false, Nat.reduceBEq, Bool.or_true, Bool.true_or, Bool.or_false, Bool.false_or, aVar_e, aC_e, aRaw_e, aOp_e, aUn_e, aNot_e, aAnd_e, aOr_e, aChain_e, aTern_e, aNil_e, aCons_e, aTup_e, aLst_e, aB_e, tAndA_e, tOrA_e, tNotA_e, aCB_e, aCall_e, aCallK_e, aSl_e, aNoP_e, aCall0_e, gN_e, aNext_e, aSeq_e, aBrk_e, aCnt_e, aDrop_e, aRet_e, aRetN_e, aIfS_e, aAsg_e, aAug_e, aPar_e, aFor_e, aWhile_e, aYes_e, aIter_e, aEnum_e, aRange1_e, aRange2_e, aZip_e, aZipTL_e, aApp_e, aPopAt_e, aPop_e, aLenV_e, aIxV_e, aEqNilV_e, aTupV_e, aDnew_e, aListRg_e, aComp_e, aZip3T_e, aCallK0_e, gSetV_e, on_d, on_own, bl_b, it_i, ow_o, isOwn_o, seq_t, seq_l, seq_o, lst_l, lst_o, tup_t, same_t, same_l, one_1, fz_d, fz_r, fz_o, look_d, look_r, look_o, unA_0, unA_s, sl_0, sl_s, ons_n, ons_c, gI0_i, gI_i, gU_i, gIsN_n, gNotN_n, isNone_n, isNone_i, isNone_b, isNone_s, isNone_t, isNone_l, gEq_s, gNe_s, gIn_l, gIn_t, gNotIn_l, gNotIn_t, gIx_t, gIx_l, gCat_i, gCat_t, gCat_l, gMul_i, gMul_t, gMul_l, gCut_t, gCut_l, gP_x, intD_n, intD_b, intD_i, intD_s, intD_l, intD_t, intD_d, boolD_n, boolD_b, boolD_i, boolD_s, boolD_l, boolD_t, boolD_d, strD_n, strD_b, strD_i, strD_s, strD_l, strD_t, strD_d, tupD_n, tupD_b, tupD_i, tupD_s, tupD_l, tupD_t, tupD_d, wholeD_n, wholeD_b, wholeD_i, wholeD_s, wholeD_l, wholeD_t, wholeD_d, gLen_1, gTuple_1, gList_1, gInt_i, gInt_b, gAbs_i, gRepr_x, gAll_l, gAny_l, gSum_l, gGcd_i, gSorted_l, cDraw_1, two_1, three_1, cPick_1, gMax2_i, gMin2_i, gEqS_s, isStr_s, gNil_n, gCons_c, gT_t, gL_o, gL_l, at1_0, at2_0, at2_1, at3_0, at3_1, at3_2, cpow_e, cast_lit, abs_lit, aPart_e, gEq_i, gNe_i]
      refine ⟨by omega, by omega, comp_each (fun _ y => runOk ns y) (by rw [rangeD_len]; omega) (fun d hd J hJ => ?_) fun ys hl hy => ?_⟩
      · simp only [c__law_run, ends0, wipeA, List.map, List.set, List.cons_append, List.nil_append, List.length_cons, List.length_nil, ite_true, ite_false, Bool.not_true, Bool.not_false, Bool.true_and, Bool.and_true, Bool.false_and, Bool.and_false, reduceIte, reduceCtorEq, Bool.false_eq_true, if_true, if_false, Nat.reduceAdd, Nat.reduceLeDiff, ne_eq, not_false_eq_true, eq_self, not_true_eq_false, Nat.reduceSub, Nat.reduceMul, Nat.reduceLT, Nat.reducePow, Int.reduceLE, Int.reduceLT, Int.reduceAdd, Int.reduceSub, Int.reduceMul, Int.reduceNeg, Int.reducePow, Int.reduceToNat, Int.reduceEq, Int.reduceBEq, Option.some.injEq, exists_eq_left', exists_eq_left, true_and, and_true, decide_true, decide_false, Nat.reduceBEq, Bool.or_true, Bool.true_or, Bool.or_false, Bool.false_or, aVar_e, aC_e, aRaw_e, aOp_e, aUn_e, aNot_e, aAnd_e, aOr_e, aChain_e, aTern_e, aNil_e, aCons_e, aTup_e, aLst_e, aB_e, tAndA_e, tOrA_e, tNotA_e, aCB_e, aCall_e, aCallK_e, aSl_e, aNoP_e, aCall0_e, gN_e, aNext_e, aSeq_e, aBrk_e, aCnt_e, aDrop_e, aRet_e, aRetN_e, aIfS_e, aAsg_e, aAug_e, aPar_e, aFor_e, aWhile_e, aYes_e, aIter_e, aEnum_e, aRange1_e, aRange2_e, aZip_e, aZipTL_e, aApp_e, aPopAt_e, aPop_e, aLenV_e, aIxV_e, aEqNilV_e, aTupV_e, aDnew_e, aListRg_e, aComp_e, aZip3T_e, aCallK0_e, gSetV_e, on_d, on_own, bl_b, it_i, ow_o, isOwn_o, seq_t, seq_l, seq_o, lst_l, lst_o, tup_t, same_t, same_l, one_1, fz_d, fz_r, fz_o, look_d, look_r, look_o, unA_0, unA_s, sl_0, sl_s, ons_n, ons_c, gI0_i, gI_i, gU_i, gIsN_n, gNotN_n, isNone_n, isNone_i, isNone_b, isNone_s, isNone_t, isNone_l, gEq_s, gNe_s, gIn_l, gIn_t, gNotIn_l, gNotIn_t, gIx_t, gIx_l, gCat_i, gCat_t, gCat_l, gMul_i, gMul_t, gMul_l, gCut_t, gCut_l, gP_x, intD_n, intD_b, intD_i, intD_s, intD_l, intD_t, intD_d, boolD_n, boolD_b, boolD_i, boolD_s, boolD_l, boolD_t, boolD_d, strD_n, strD_b, strD_i, strD_s, strD_l, strD_t, strD_d, tupD_n, tupD_b, tupD_i, tupD_s, tupD_l, tupD_t, tupD_d, wholeD_n, wholeD_b, wholeD_i, wholeD_s, wholeD_l, wholeD_t, wholeD_d, gLen_1, gTuple_1, gList_1, gInt_i, gInt_b, gAbs_i, gRepr_x, gAll_l, gAny_l, gSum_l, gGcd_i, gSorted_l, cDraw_1, two_1, three_1, cPick_1, gMax2_i, gMin2_i, gEqS_s, isStr_s, gNil_n, gCons_c, gT_t, gL_o, gL_l, at1_0, at2_0, at2_1, at3_0, at3_1, at3_2, cpow_e, cast_lit, abs_lit, aPart_e, gEq_i, gNe_i]
        exact ⟨ns, rfl, l1, l10, hn, fun d hd => hJ d hd⟩
      · rw [rangeD_len] at hl hy
        simp only [ends0, wipeA, List.map, List.set, List.cons_append, List.nil_append, List.length_cons, List.length_nil, ite_true, ite_false, Bool.not_true, Bool.not_false, Bool.true_and, Bool.and_true, Bool.false_and, Bool.and_false, reduceIte, reduceCtorEq, Bool.false_eq_true, if_true, if_false, Nat.reduceAdd, Nat.reduceLeDiff, ne_eq, not_false_eq_true, eq_self, not_true_eq_false, Nat.reduceSub, Nat.reduceMul, Nat.reduceLT, Nat.reducePow, Int.reduceLE, Int.reduceLT, Int.reduceAdd, Int.reduceSub, Int.reduceMul, Int.reduceNeg, Int.reducePow, Int.reduceToNat, Int.reduceEq, Int.reduceBEq, Option.some.injEq, exists_eq_left', exists_eq_left, true_and, and_true, decide_true, decide_false, Nat.reduceBEq, Bool.or_true, Bool.true_or, Bool.or_false, Bool.false_or, aVar_e, aC_e, aRaw_e, aOp_e, aUn_e, aNot_e, aAnd_e, aOr_e, aChain_e, aTern_e, aNil_e, aCons_e, aTup_e, aLst_e, aB_e, tAndA_e, tOrA_e, tNotA_e, aCB_e, aCall_e, aCallK_e, aSl_e, aNoP_e, aCall0_e, gN_e, aNext_e, aSeq_e, aBrk_e, aCnt_e, aDrop_e, aRet_e, aRetN_e, aIfS_e, aAsg_e, aAug_e, aPar_e, aFor_e, aWhile_e, aYes_e, aIter_e, aEnum_e, aRange1_e, aRange2_e, aZip_e, aZipTL_e, aApp_e, aPopAt_e, aPop_e, aLenV_e, aIxV_e, aEqNilV_e, aTupV_e, aDnew_e, aListRg_e, aComp_e, aZip3T_e, aCallK0_e, gSetV_e, on_d, on_own, bl_b, it_i, ow_o, isOwn_o, seq_t, seq_l, seq_o, lst_l, lst_o, tup_t, same_t, same_l, one_1, fz_d, fz_r, fz_o, look_d, look_r, look_o, unA_0, unA_s, sl_0, sl_s, ons_n, ons_c, gI0_i, gI_i, gU_i, gIsN_n, gNotN_n, isNone_n, isNone_i, isNone_b, isNone_s, isNone_t, isNone_l, gEq_s, gNe_s, gIn_l, gIn_t, gNotIn_l, gNotIn_t, gIx_t, gIx_l, gCat_i, gCat_t, gCat_l, gMul_i, gMul_t, gMul_l, gCut_t, gCut_l, gP_x, intD_n, intD_b, intD_i, intD_s, intD_l, intD_t, intD_d, boolD_n, boolD_b, boolD_i, boolD_s, boolD_l, boolD_t, boolD_d, strD_n, strD_b, strD_i, strD_s, strD_l, strD_t, strD_d, tupD_n, tupD_b, tupD_i, tupD_s, tupD_l, tupD_t, tupD_d, wholeD_n, wholeD_b, wholeD_i, wholeD_s, wholeD_l, wholeD_t, wholeD_d, gLen_1, gTuple_1, gList_1, gInt_i, gInt_b, gAbs_i, gRepr_x, gAll_l, gAny_l, gSum_l, gGcd_i, gSorted_l, cDraw_1, two_1, three_1, cPick_1, gMax2_i, gMin2_i, gEqS_s, isStr_s, gNil_n, gCons_c, gT_t, gL_o, gL_l, at1_0, at2_0, at2_1, at3_0, at3_1, at3_2, cpow_e, cast_lit, abs_lit, aPart_e, gEq_i, gNe_i]
        exact ⟨ys, mem_at fun i hi => hy i (by omega), by omega, by omega, ⟨_, _, _, _, _, _, _, _, _, _, _, rfl⟩⟩
    rintro ρ ⟨ds, hds, d1, d8, ⟨a0, a1, a2, a3, a4, a5, a6, a7, a8, a9, a10, rfl⟩⟩
    -- more
    refine ⟨fun ρ => ∃ es, (∀ d ∈ es, runOk ns d) ∧ 1 ≤ es.length ∧ es.length ≤ 9 ∧ ∃ a0 a1 a2 a3 a4 a5 a6 a7 a8 a9, ρ = [.un, .raw dk, z, .d (.tuple (ns.map PyData.int)), .d (.int k), .d (.tuple ds), .d (.tuple es), a0, a1, a2, a3, a4, a5, a6, a7, a8, a9], ?_, ?_⟩
    · simp only [c__law_run, ends0, wipeA, List.map, List.set, List.cons_append, List.nil_append, List.length_cons, List.length_nil, ite_true, ite_false, Bool.not_true, Bool.not_false, Bool.true_and, Bool.and_true, Bool.false_and, Bool.and_false, reduceIte, reduceCtorEq, Bool.false_eq_true, if_true, if_false, Nat.reduceAdd, Nat.reduceLeDiff, ne_eq, not_false_eq_true, eq_self, not_true_eq_false, Nat.reduceSub, Nat.reduceMul, Nat.reduceLT, Nat.reducePow, Int.reduceLE, Int.reduceLT, Int.reduceAdd, Int.reduceSub, Int.reduceMul, Int.reduceNeg, Int.reducePow, Int.reduceToNat, Int.reduceEq, Int.reduceBEq, Option.some.injEq, exists_eq_left', exists_eq_left, true_and, and_true, decide_true, decide_false, Nat.reduceBEq, Bool.or_true, Bool.true_or, Bool.or_false, Bool.false_or, aVar_e, aC_e, aRaw_e, aOp_e, aUn_e, aNot_e, aAnd_e, aOr_e, aChain_e, aTern_e, aNil_e, aCons_e, aTup_e, aLst_e, aB_e, tAndA_e, tOrA_e, tNotA_e, aCB_e, aCall_e, aCallK_e, aSl_e, aNoP_e, aCall0_e, gN_e, aNext_e, aSeq_e, aBrk_e, aCnt_e, aDrop_e, aRet_e, aRetN_e, aIfS_e, aAsg_e, aAug_e, aPar_e, aFor_e, aWhile_e, aYes_e, aIter_e, aEnum_e, aRange1_e, aRange2_e, aZip_e, aZipTL_e, aApp_e, aPopAt_e, aPop_e, aLenV_e, aIxV_e, aEqNilV_e, aTupV_e, aDnew_e, aListRg_e, aComp_e, aZip3T_e, aCallK0_e, gSetV_e, on_d, on_own, bl_b, it_i, ow_o, isOwn_o, seq_t, seq_l, seq_o, lst_l, lst_o, tup_t, same_t, same_l, one_1, fz_d, fz_r, fz_o, look_d, look_r, look_o, unA_0, unA_s, sl_0, sl_s, ons_n, ons_c, gI0_i, gI_i, gU_i, gIsN_n, gNotN_n, isNone_n, isNone_i, isNone_b, isNone_s, isNone_t, isNone_l, gEq_s, gNe_s, gIn_l, gIn_t, gNotIn_l, gNotIn_t, gIx_t, gIx_l, gCat_i, gCat_t, gCat_l, gMul_i, gMul_t, gMul_l, gCut_t, gCut_l, gP_x, intD_n, intD_b, intD_i, intD_s, intD_l, intD_t, intD_d, boolD_n, boolD_b, boolD_i, boolD_s, boolD_l, boolD_t, boolD_d, strD_n, strD_b, strD_i, strD_s, strD_l, strD_t, strD_d, tupD_n, tupD_b, tupD_i, tupD_s, tupD_l, tupD_t, tupD_d, wholeD_n, wholeD_b, wholeD_i, wholeD_s, wholeD_l, wholeD_t, wholeD_d, gLen_1, gTuple_1, gList_1, gInt_i, gInt_b, gAbs_i, gRepr_x, gAll_l, gAny_l, gSum_l, gGcd_i, gSorted_l, cDraw_1, two_1, three_1, cPick_1, gMax2_i, gMin2_i, gEqS_s, isStr_s, gNil_n, gCons_c, gT_t, gL_o, gL_l, at1_0, at2_0, at2_1, at3_0, at3_1, at3_2, cpow_e, cast_lit, abs_lit, aPart_e, gEq_i, gNe_i]
      refine ⟨ns, rfl, l1, l10, hn, fun d hd => ⟨by omega, ds ++ [d], fun y hy => ?_, by rw [List.length_append]; omega, by rw [List.length_append, List.length_singleton]; omega, ⟨_, _, _, _, _, _, _, _, _, _, rfl⟩⟩⟩
      rcases List.mem_append.mp hy with h | h
      · exact hds y h
      · rw [List.mem_singleton.mp h]
        exact hd
    rintro ρ ⟨es, hes, e1, e9, ⟨a0, a1, a2, a3, a4, a5, a6, a7, a8, a9, rfl⟩⟩
    -- things
    have oD : ∀ d ∈ ds, Ok 200 8 d := fun d h => (run_ok (hds d h) l10).ge (by decide) (by decide)
    have oE : ∀ d ∈ es, Ok 200 8 d := fun d h => (run_ok (hes d h) l10).ge (by decide) (by decide)
    have row : ∀ {n : Nat} {ds : List PyData}, (∀ d ∈ ds, Ok 200 8 d) → ds.length ≤ n → n ≤ 100 → Ok 20001 9 (.tuple ds) := fun {n ds} h l hn => ((okAll_all h).tup).ge (by have := Nat.mul_le_mul_right 200 l; omega) (by decide)
    refine ⟨fun ρ => ∃ ts, (∀ d ∈ ts, Ok 20002 10 d) ∧ ts.length = 11 ∧ ∃ a0 a1 a2 a3 a4 a5 a6 a7 a8, ρ = [.un, .raw dk, z, .d (.tuple (ns.map PyData.int)), .d (.int k), .d (.tuple ds), .d (.tuple es), .own ts, a0, a1, a2, a3, a4, a5, a6, a7, a8], ?_, ?_⟩
    · simp only [ends0, wipeA, List.map, List.set, List.cons_append, List.nil_append, List.length_cons, List.length_nil, ite_true, ite_false, Bool.not_true, Bool.not_false, Bool.true_and, Bool.and_true, Bool.false_and, Bool.and_false, reduceIte, reduceCtorEq, Bool.false_eq_true, if_true, if_false, Nat.reduceAdd, Nat.reduceLeDiff, ne_eq, not_false_eq_true, eq_self, not_true_eq_false, Nat.reduceSub, Nat.reduceMul, Nat.reduceLT, Nat.reducePow, Int.reduceLE, Int.reduceLT, Int.reduceAdd, Int.reduceSub, Int.reduceMul, Int.reduceNeg, Int.reducePow, Int.reduceToNat, Int.reduceEq, Int.reduceBEq, Option.some.injEq, exists_eq_left', exists_eq_left, true_and, and_true, decide_true, decide_false, Nat.reduceBEq, Bool.or_true, Bool.true_or, Bool.or_false, Bool.false_or, aVar_e, aC_e, aRaw_e, aOp_e, aUn_e, aNot_e, aAnd_e, aOr_e, aChain_e, aTern_e, aNil_e, aCons_e, aTup_e, aLst_e, aB_e, tAndA_e, tOrA_e, tNotA_e, aCB_e, aCall_e, aCallK_e, aSl_e, aNoP_e, aCall0_e, gN_e, aNext_e, aSeq_e, aBrk_e, aCnt_e, aDrop_e, aRet_e, aRetN_e, aIfS_e, aAsg_e, aAug_e, aPar_e, aFor_e, aWhile_e, aYes_e, aIter_e, aEnum_e, aRange1_e, aRange2_e, aZip_e, aZipTL_e, aApp_e, aPopAt_e, aPop_e, aLenV_e, aIxV_e, aEqNilV_e, aTupV_e, aDnew_e, aListRg_e, aComp_e, aZip3T_e, aCallK0_e, gSetV_e, on_d, on_own, bl_b, it_i, ow_o, isOwn_o, seq_t, seq_l, seq_o, lst_l, lst_o, tup_t, same_t, same_l, one_1, fz_d, fz_r, fz_o, look_d, look_r, look_o, unA_0, unA_s, sl_0, sl_s, ons_n, ons_c, gI0_i, gI_i, gU_i, gIsN_n, gNotN_n, isNone_n, isNone_i, isNone_b, isNone_s, isNone_t, isNone_l, gEq_s, gNe_s, gIn_l, gIn_t, gNotIn_l, gNotIn_t, gIx_t, gIx_l, gCat_i, gCat_t, gCat_l, gMul_i, gMul_t, gMul_l, gCut_t, gCut_l, gP_x, intD_n, intD_b, intD_i, intD_s, intD_l, intD_t, intD_d, boolD_n, boolD_b, boolD_i, boolD_s, boolD_l, boolD_t, boolD_d, strD_n, strD_b, strD_i, strD_s, strD_l, strD_t, strD_d, tupD_n, tupD_b, tupD_i, tupD_s, tupD_l, tupD_t, tupD_d, wholeD_n, wholeD_b, wholeD_i, wholeD_s, wholeD_l, wholeD_t, wholeD_d, gLen_1, gTuple_1, gList_1, gInt_i, gInt_b, gAbs_i, gRepr_x, gAll_l, gAny_l, gSum_l, gGcd_i, gSorted_l, cDraw_1, two_1, three_1, cPick_1, gMax2_i, gMin2_i, gEqS_s, isStr_s, gNil_n, gCons_c, gT_t, gL_o, gL_l, at1_0, at2_0, at2_1, at3_0, at3_1, at3_2, cpow_e, cast_lit, abs_lit, aPart_e, gEq_i, gNe_i]
      obtain ⟨x, hx, hx2⟩ := atI_ok (xs := ds) (i := 0) (by decide) (by omega)
      have ne : ¬ es = [] := fun e => by rw [e] at e1; exact absurd e1 (by decide)
      refine ⟨x, hx, ne, by omega, ne, by omega, _, ?_, rfl, ⟨_, _, _, _, _, _, _, _, _, rfl⟩⟩
      have cut : ∀ n : Int, Ok 20002 10 (.tuple (Sx.cutD (List.replicate 9 es).flatten none (some n))) := fun n => by
        refine (row (n := 81) (fun d hd => oE d (mem_rep (mem_cut hd))) ?_ (by decide)).ge (by decide) (by decide)
        have := cutD_len (ds := (List.replicate 9 es).flatten) (lo := none) (hi := some n)
        rw [rep_len] at this
        omega
      have rD := row (n := 8) oD d8 (by decide)
      intro d hd
      simp only [ends0, wipeA, List.map, List.set, List.cons_append, List.nil_append, List.length_cons, List.length_nil, ite_true, ite_false, Bool.not_true, Bool.not_false, Bool.true_and, Bool.and_true, Bool.false_and, Bool.and_false, reduceIte, reduceCtorEq, Bool.false_eq_true, if_true, if_false, Nat.reduceAdd, Nat.reduceLeDiff, ne_eq, not_false_eq_true, eq_self, not_true_eq_false, Nat.reduceSub, Nat.reduceMul, Nat.reduceLT, Nat.reducePow, Int.reduceLE, Int.reduceLT, Int.reduceAdd, Int.reduceSub, Int.reduceMul, Int.reduceNeg, Int.reducePow, Int.reduceToNat, Int.reduceEq, Int.reduceBEq, Option.some.injEq, exists_eq_left', exists_eq_left, true_and, and_true, decide_true, decide_false, Nat.reduceBEq, Bool.or_true, Bool.true_or, Bool.or_false, Bool.false_or, aVar_e, aC_e, aRaw_e, aOp_e, aUn_e, aNot_e, aAnd_e, aOr_e, aChain_e, aTern_e, aNil_e, aCons_e, aTup_e, aLst_e, aB_e, tAndA_e, tOrA_e, tNotA_e, aCB_e, aCall_e, aCallK_e, aSl_e, aNoP_e, aCall0_e, gN_e, aNext_e, aSeq_e, aBrk_e, aCnt_e, aDrop_e, aRet_e, aRetN_e, aIfS_e, aAsg_e, aAug_e, aPar_e, aFor_e, aWhile_e, aYes_e, aIter_e, aEnum_e, aRange1_e, aRange2_e, aZip_e, aZipTL_e, aApp_e, aPopAt_e, aPop_e, aLenV_e, aIxV_e, aEqNilV_e, aTupV_e, aDnew_e, aListRg_e, aComp_e, aZip3T_e, aCallK0_e, gSetV_e, on_d, on_own, bl_b, it_i, ow_o, isOwn_o, seq_t, seq_l, seq_o, lst_l, lst_o, tup_t, same_t, same_l, one_1, fz_d, fz_r, fz_o, look_d, look_r, look_o, unA_0, unA_s, sl_0, sl_s, ons_n, ons_c, gI0_i, gI_i, gU_i, gIsN_n, gNotN_n, isNone_n, isNone_i, isNone_b, isNone_s, isNone_t, isNone_l, gEq_s, gNe_s, gIn_l, gIn_t, gNotIn_l, gNotIn_t, gIx_t, gIx_l, gCat_i, gCat_t, gCat_l, gMul_i, gMul_t, gMul_l, gCut_t, gCut_l, gP_x, intD_n, intD_b, intD_i, intD_s, intD_l, intD_t, intD_d, boolD_n, boolD_b, boolD_i, boolD_s, boolD_l, boolD_t, boolD_d, strD_n, strD_b, strD_i, strD_s, strD_l, strD_t, strD_d, tupD_n, tupD_b, tupD_i, tupD_s, tupD_l, tupD_t, tupD_d, wholeD_n, wholeD_b, wholeD_i, wholeD_s, wholeD_l, wholeD_t, wholeD_d, gLen_1, gTuple_1, gList_1, gInt_i, gInt_b, gAbs_i, gRepr_x, gAll_l, gAny_l, gSum_l, gGcd_i, gSorted_l, cDraw_1, two_1, three_1, cPick_1, gMax2_i, gMin2_i, gEqS_s, isStr_s, gNil_n, gCons_c, gT_t, gL_o, gL_l, at1_0, at2_0, at2_1, at3_0, at3_1, at3_2, cpow_e, cast_lit, abs_lit, aPart_e, gEq_i, gNe_i, List.mem_cons, List.not_mem_nil, or_false, forall_eq_or_imp, forall_eq] at hd
      rcases hd with h | h | h | h | h | h | h | h | h | h | h <;> subst h
      · exact rD.ge (by decide) (by decide)
      · exact (row (n := 9) oE e9 (by decide)).ge (by decide) (by decide)
      · exact ((okAll_all oD).lst).ge (by omega) (by decide)
      · first | exact ⟨by decide +kernel, by decide +kernel, by decide +kernel⟩ | exact ⟨by (simp only [fine_t, fine_l, fine_b, fine_n, fine_d, fine_i, fineAll_c, fineAll_n, decide_true, Bool.and_self, Bool.and_true, Bool.true_and, True.intro] <;> decide +kernel), le_ble rfl, le_ble rfl⟩
      · first | exact ⟨by decide +kernel, by decide +kernel, by decide +kernel⟩ | exact ⟨by (simp only [fine_t, fine_l, fine_b, fine_n, fine_d, fine_i, fineAll_c, fineAll_n, decide_true, Bool.and_self, Bool.and_true, Bool.true_and, True.intro] <;> decide +kernel), le_ble rfl, le_ble rfl⟩
      · exact (oD _ hx2).ge (by decide) (by decide)
      · exact ((OkAll.one rD).tup).ge (by decide) (by decide)
      · first | exact ⟨by decide +kernel, by decide +kernel, by decide +kernel⟩ | exact ⟨by (simp only [fine_t, fine_l, fine_b, fine_n, fine_d, fine_i, fineAll_c, fineAll_n, decide_true, Bool.and_self, Bool.and_true, Bool.true_and, True.intro] <;> decide +kernel), le_ble rfl, le_ble rfl⟩
      · exact cut 8
      · exact cut 9
      · first | exact ⟨by decide +kernel, by decide +kernel, by decide +kernel⟩ | exact ⟨by (simp only [fine_t, fine_l, fine_b, fine_n, fine_d, fine_i, fineAll_c, fineAll_n, decide_true, Bool.and_self, Bool.and_true, Bool.true_and, True.intro] <;> decide +kernel), le_ble rfl, le_ble rfl⟩
    rintro ρ ⟨ts, hts, l11, ⟨a0, a1, a2, a3, a4, a5, a6, a7, a8, rfl⟩⟩
    -- eighteen more
    refine ⟨fun ρ => ∃ ts, (∀ d ∈ ts, Ok 20002 10 d) ∧ ∃ a0 a1 a2 a3 a4 a5 a6 a7 a8, ρ = [.un, .raw dk, z, .d (.tuple (ns.map PyData.int)), .d (.int k), .d (.tuple ds), .d (.tuple es), .own ts, a0, a1, a2, a3, a4, a5, a6, a7, a8], ?_, ?_⟩
    · simp only [ends0, wipeA, List.map, List.set, List.cons_append, List.nil_append, List.length_cons, List.length_nil, ite_true, ite_false, Bool.not_true, Bool.not_false, Bool.true_and, Bool.and_true, Bool.false_and, Bool.and_false, reduceIte, reduceCtorEq, Bool.false_eq_true, if_true, if_false, Nat.reduceAdd, Nat.reduceLeDiff, ne_eq, not_false_eq_true, eq_self, not_true_eq_false, Nat.reduceSub, Nat.reduceMul, Nat.reduceLT, Nat.reducePow, Int.reduceLE, Int.reduceLT, Int.reduceAdd, Int.reduceSub, Int.reduceMul, Int.reduceNeg, Int.reducePow, Int.reduceToNat, Int.reduceEq, Int.reduceBEq, Option.some.injEq, exists_eq_left', exists_eq_left, true_and, and_true, decide_true, decide_false, Nat.reduceBEq, Bool.or_true, Bool.true_or, Bool.or_false, Bool.false_or, aVar_e, aC_e, aRaw_e, aOp_e, aUn_e, aNot_e, aAnd_e, aOr_e, aChain_e, aTern_e, aNil_e, aCons_e, aTup_e, aLst_e, aB_e, tAndA_e, tOrA_e, tNotA_e, aCB_e, aCall_e, aCallK_e, aSl_e, aNoP_e, aCall0_e, gN_e, aNext_e, aSeq_e, aBrk_e, aCnt_e, aDrop_e, aRet_e, aRetN_e, aIfS_e, aAsg_e, aAug_e, aPar_e, aFor_e, aWhile_e, aYes_e, aIter_e, aEnum_e, aRange1_e, aRange2_e, aZip_e, aZipTL_e, aApp_e, aPopAt_e, aPop_e, aLenV_e, aIxV_e, aEqNilV_e, aTupV_e, aDnew_e, aListRg_e, aComp_e, aZip3T_e, aCallK0_e, gSetV_e, on_d, on_own, bl_b, it_i, ow_o, isOwn_o, seq_t, seq_l, seq_o, lst_l, lst_o, tup_t, same_t, same_l, one_1, fz_d, fz_r, fz_o, look_d, look_r, look_o, unA_0, unA_s, sl_0, sl_s, ons_n, ons_c, gI0_i, gI_i, gU_i, gIsN_n, gNotN_n, isNone_n, isNone_i, isNone_b, isNone_s, isNone_t, isNone_l, gEq_s, gNe_s, gIn_l, gIn_t, gNotIn_l, gNotIn_t, gIx_t, gIx_l, gCat_i, gCat_t, gCat_l, gMul_i, gMul_t, gMul_l, gCut_t, gCut_l, gP_x, intD_n, intD_b, intD_i, intD_s, intD_l, intD_t, intD_d, boolD_n, boolD_b, boolD_i, boolD_s, boolD_l, boolD_t, boolD_d, strD_n, strD_b, strD_i, strD_s, strD_l, strD_t, strD_d, tupD_n, tupD_b, tupD_i, tupD_s, tupD_l, tupD_t, tupD_d, wholeD_n, wholeD_b, wholeD_i, wholeD_s, wholeD_l, wholeD_t, wholeD_d, gLen_1, gTuple_1, gList_1, gInt_i, gInt_b, gAbs_i, gRepr_x, gAll_l, gAny_l, gSum_l, gGcd_i, gSorted_l, cDraw_1, two_1, three_1, cPick_1, gMax2_i, gMin2_i, gEqS_s, isStr_s, gNil_n, gCons_c, gT_t, gL_o, gL_l, at1_0, at2_0, at2_1, at3_0, at3_1, at3_2, cpow_e, cast_lit, abs_lit, aPart_e, gEq_i, gNe_i]
      refine ⟨fun j ρ => ∃ ts, (∀ d ∈ ts, Ok 20002 10 d) ∧ ts.length = 11 + 2 * j ∧ ∃ a0 a1 a2 a3 a4 a5 a6 a7 a8, ρ = [.un, .raw dk, z, .d (.tuple (ns.map PyData.int)), .d (.int k), .d (.tuple ds), .d (.tuple es), .own ts, a0, a1, a2, a3, a4, a5, a6, a7, a8], ⟨ts, hts, l11, ⟨_, _, _, _, _, _, _, _, _, rfl⟩⟩, ?_, ?_⟩
      · rintro j ρ hj ⟨ts, hts, lt, ⟨a0, a1, a2, a3, a4, a5, a6, a7, a8, rfl⟩⟩
        simp only [ends0, wipeA, List.map, List.set, List.cons_append, List.nil_append, List.length_cons, List.length_nil, ite_true, ite_false, Bool.not_true, Bool.not_false, Bool.true_and, Bool.and_true, Bool.false_and, Bool.and_false, reduceIte, reduceCtorEq, Bool.false_eq_true, if_true, if_false, Nat.reduceAdd, Nat.reduceLeDiff, ne_eq, not_false_eq_true, eq_self, not_true_eq_false, Nat.reduceSub, Nat.reduceMul, Nat.reduceLT, Nat.reducePow, Int.reduceLE, Int.reduceLT, Int.reduceAdd, Int.reduceSub, Int.reduceMul, Int.reduceNeg, Int.reducePow, Int.reduceToNat, Int.reduceEq, Int.reduceBEq, Option.some.injEq, exists_eq_left', exists_eq_left, true_and, and_true, decide_true, decide_false, Nat.reduceBEq, Bool.or_true, Bool.true_or, Bool.or_false, Bool.false_or, aVar_e, aC_e, aRaw_e, aOp_e, aUn_e, aNot_e, aAnd_e, aOr_e, aChain_e, aTern_e, aNil_e, aCons_e, aTup_e, aLst_e, aB_e, tAndA_e, tOrA_e, tNotA_e, aCB_e, aCall_e, aCallK_e, aSl_e, aNoP_e, aCall0_e, gN_e, aNext_e, aSeq_e, aBrk_e, aCnt_e, aDrop_e, aRet_e, aRetN_e, aIfS_e, aAsg_e, aAug_e, aPar_e, aFor_e, aWhile_e, aYes_e, aIter_e, aEnum_e, aRange1_e, aRange2_e, aZip_e, aZipTL_e, aApp_e, aPopAt_e, aPop_e, aLenV_e, aIxV_e, aEqNilV_e, aTupV_e, aDnew_e, aListRg_e, aComp_e, aZip3T_e, aCallK0_e, gSetV_e, on_d, on_own, bl_b, it_i, ow_o, isOwn_o, seq_t, seq_l, seq_o, lst_l, lst_o, tup_t, same_t, same_l, one_1, fz_d, fz_r, fz_o, look_d, look_r, look_o, unA_0, unA_s, sl_0, sl_s, ons_n, ons_c, gI0_i, gI_i, gU_i, gIsN_n, gNotN_n, isNone_n, isNone_i, isNone_b, isNone_s, isNone_t, isNone_l, gEq_s, gNe_s, gIn_l, gIn_t, gNotIn_l, gNotIn_t, gIx_t, gIx_l, gCat_i, gCat_t, gCat_l, gMul_i, gMul_t, gMul_l, gCut_t, gCut_l, gP_x, intD_n, intD_b, intD_i, intD_s, intD_l, intD_t, intD_d, boolD_n, boolD_b, boolD_i, boolD_s, boolD_l, boolD_t, boolD_d, strD_n, strD_b, strD_i, strD_s, strD_l, strD_t, strD_d, tupD_n, tupD_b, tupD_i, tupD_s, tupD_l, tupD_t, tupD_d, wholeD_n, wholeD_b, wholeD_i, wholeD_s, wholeD_l, wholeD_t, wholeD_d, gLen_1, gTuple_1, gList_1, gInt_i, gInt_b, gAbs_i, gRepr_x, gAll_l, gAny_l, gSum_l, gGcd_i, gSorted_l, cDraw_1, two_1, three_1, cPick_1, gMax2_i, gMin2_i, gEqS_s, isStr_s, gNil_n, gCons_c, gT_t, gL_o, gL_l, at1_0, at2_0, at2_1, at3_0, at3_1, at3_2, cpow_e, cast_lit, abs_lit, aPart_e, gEq_i, gNe_i]
        -- at, to
        refine ⟨fun ρ => ∃ at_ to_ : Int, 0 ≤ at_ ∧ at_ < (ds.length : Int) ∧ 0 ≤ to_ ∧ to_ < (ds.length : Int) ∧ ∃ b0 b1 b2 b3 b4 b5 b6, ρ = [.un, .raw dk, z, .d (.tuple (ns.map PyData.int)), .d (.int k), .d (.tuple ds), .d (.tuple es), .own ts, b0, b1, b2, b3, .d (.int at_), .d (.int to_), b4, b5, b6], ?_, ?_⟩
        · simp only [c__law_draw, ends0, wipeA, List.map, List.set, List.cons_append, List.nil_append, List.length_cons, List.length_nil, ite_true, ite_false, Bool.not_true, Bool.not_false, Bool.true_and, Bool.and_true, Bool.false_and, Bool.and_false, reduceIte, reduceCtorEq, Bool.false_eq_true, if_true, if_false, Nat.reduceAdd, Nat.reduceLeDiff, ne_eq, not_false_eq_true, eq_self, not_true_eq_false, Nat.reduceSub, Nat.reduceMul, Nat.reduceLT, Nat.reducePow, Int.reduceLE, Int.reduceLT, Int.reduceAdd, Int.reduceSub, Int.reduceMul, Int.reduceNeg, Int.reducePow, Int.reduceToNat, Int.reduceEq, Int.reduceBEq, Option.some.injEq, exists_eq_left', exists_eq_left, true_and, and_true, decide_true, decide_false, Nat.reduceBEq, Bool.or_true, Bool.true_or, Bool.or_false, Bool.false_or, aVar_e, aC_e, aRaw_e, aOp_e, aUn_e, aNot_e, aAnd_e, aOr_e, aChain_e, aTern_e, aNil_e, aCons_e, aTup_e, aLst_e, aB_e, tAndA_e, tOrA_e, tNotA_e, aCB_e, aCall_e, aCallK_e, aSl_e, aNoP_e, aCall0_e, gN_e, aNext_e, aSeq_e, aBrk_e, aCnt_e, aDrop_e, aRet_e, aRetN_e, aIfS_e, aAsg_e, aAug_e, aPar_e, aFor_e, aWhile_e, aYes_e, aIter_e, aEnum_e, aRange1_e, aRange2_e, aZip_e, aZipTL_e, aApp_e, aPopAt_e, aPop_e, aLenV_e, aIxV_e, aEqNilV_e, aTupV_e, aDnew_e, aListRg_e, aComp_e, aZip3T_e, aCallK0_e, gSetV_e, on_d, on_own, bl_b, it_i, ow_o, isOwn_o, seq_t, seq_l, seq_o, lst_l, lst_o, tup_t, same_t, same_l, one_1, fz_d, fz_r, fz_o, look_d, look_r, look_o, unA_0, unA_s, sl_0, sl_s, ons_n, ons_c, gI0_i, gI_i, gU_i, gIsN_n, gNotN_n, isNone_n, isNone_i, isNone_b, isNone_s, isNone_t, isNone_l, gEq_s, gNe_s, gIn_l, gIn_t, gNotIn_l, gNotIn_t, gIx_t, gIx_l, gCat_i, gCat_t, gCat_l, gMul_i, gMul_t, gMul_l, gCut_t, gCut_l, gP_x, intD_n, intD_b, intD_i, intD_s, intD_l, intD_t, intD_d, boolD_n, boolD_b, boolD_i, boolD_s, boolD_l, boolD_t, boolD_d, strD_n, strD_b, strD_i, strD_s, strD_l, strD_t, strD_d, tupD_n, tupD_b, tupD_i, tupD_s, tupD_l, tupD_t, tupD_d, wholeD_n, wholeD_b, wholeD_i, wholeD_s, wholeD_l, wholeD_t, wholeD_d, gLen_1, gTuple_1, gList_1, gInt_i, gInt_b, gAbs_i, gRepr_x, gAll_l, gAny_l, gSum_l, gGcd_i, gSorted_l, cDraw_1, two_1, three_1, cPick_1, gMax2_i, gMin2_i, gEqS_s, isStr_s, gNil_n, gCons_c, gT_t, gL_o, gL_l, at1_0, at2_0, at2_1, at3_0, at3_1, at3_2, cpow_e, cast_lit, abs_lit, aPart_e, gEq_i, gNe_i]
          have sm : Small (ds.length : Int) := small_of (by omega) (by omega)
          exact ⟨sm, fun r r0 r1 => ⟨sm, fun r' r0' r1' => ⟨r, r', r0, r1, r0', r1', ⟨_, _, _, _, _, _, _, rfl⟩⟩⟩⟩
        rintro ρ ⟨at_, to_, h1, h2, h3, h4, b0, b1, b2, b3, b4, b5, b6, rfl⟩
        -- once
        refine ⟨fun ρ => ∃ os, (∀ d ∈ os, Ok 200 8 d) ∧ os.length ≤ 17 ∧ ∃ b0 b1 b2 b3 b4 b5, ρ = [.un, .raw dk, z, .d (.tuple (ns.map PyData.int)), .d (.int k), .d (.tuple ds), .d (.tuple es), .own ts, b0, .d (.tuple os), b1, b2, .d (.int at_), .d (.int to_), b3, b4, b5], ?_, ?_⟩
        · simp only [ends0, wipeA, List.map, List.set, List.cons_append, List.nil_append, List.length_cons, List.length_nil, ite_true, ite_false, Bool.not_true, Bool.not_false, Bool.true_and, Bool.and_true, Bool.false_and, Bool.and_false, reduceIte, reduceCtorEq, Bool.false_eq_true, if_true, if_false, Nat.reduceAdd, Nat.reduceLeDiff, ne_eq, not_false_eq_true, eq_self, not_true_eq_false, Nat.reduceSub, Nat.reduceMul, Nat.reduceLT, Nat.reducePow, Int.reduceLE, Int.reduceLT, Int.reduceAdd, Int.reduceSub, Int.reduceMul, Int.reduceNeg, Int.reducePow, Int.reduceToNat, Int.reduceEq, Int.reduceBEq, Option.some.injEq, exists_eq_left', exists_eq_left, true_and, and_true, decide_true, decide_false, Nat.reduceBEq, Bool.or_true, Bool.true_or, Bool.or_false, Bool.false_or, aVar_e, aC_e, aRaw_e, aOp_e, aUn_e, aNot_e, aAnd_e, aOr_e, aChain_e, aTern_e, aNil_e, aCons_e, aTup_e, aLst_e, aB_e, tAndA_e, tOrA_e, tNotA_e, aCB_e, aCall_e, aCallK_e, aSl_e, aNoP_e, aCall0_e, gN_e, aNext_e, aSeq_e, aBrk_e, aCnt_e, aDrop_e, aRet_e, aRetN_e, aIfS_e, aAsg_e, aAug_e, aPar_e, aFor_e, aWhile_e, aYes_e, aIter_e, aEnum_e, aRange1_e, aRange2_e, aZip_e, aZipTL_e, aApp_e, aPopAt_e, aPop_e, aLenV_e, aIxV_e, aEqNilV_e, aTupV_e, aDnew_e, aListRg_e, aComp_e, aZip3T_e, aCallK0_e, gSetV_e, on_d, on_own, bl_b, it_i, ow_o, isOwn_o, seq_t, seq_l, seq_o, lst_l, lst_o, tup_t, same_t, same_l, one_1, fz_d, fz_r, fz_o, look_d, look_r, look_o, unA_0, unA_s, sl_0, sl_s, ons_n, ons_c, gI0_i, gI_i, gU_i, gIsN_n, gNotN_n, isNone_n, isNone_i, isNone_b, isNone_s, isNone_t, isNone_l, gEq_s, gNe_s, gIn_l, gIn_t, gNotIn_l, gNotIn_t, gIx_t, gIx_l, gCat_i, gCat_t, gCat_l, gMul_i, gMul_t, gMul_l, gCut_t, gCut_l, gP_x, intD_n, intD_b, intD_i, intD_s, intD_l, intD_t, intD_d, boolD_n, boolD_b, boolD_i, boolD_s, boolD_l, boolD_t, boolD_d, strD_n, strD_b, strD_i, strD_s, strD_l, strD_t, strD_d, tupD_n, tupD_b, tupD_i, tupD_s, tupD_l, tupD_t, tupD_d, wholeD_n, wholeD_b, wholeD_i, wholeD_s, wholeD_l, wholeD_t, wholeD_d, gLen_1, gTuple_1, gList_1, gInt_i, gInt_b, gAbs_i, gRepr_x, gAll_l, gAny_l, gSum_l, gGcd_i, gSorted_l, cDraw_1, two_1, three_1, cPick_1, gMax2_i, gMin2_i, gEqS_s, isStr_s, gNil_n, gCons_c, gT_t, gL_o, gL_l, at1_0, at2_0, at2_1, at3_0, at3_1, at3_2, cpow_e, cast_lit, abs_lit, aPart_e, gEq_i, gNe_i]
          obtain ⟨x, hx, hx2⟩ := atI_ok h1 h2
          refine ⟨x, hx, ?_⟩
          simp only [c__law_odd, ends0, wipeA, List.map, List.set, List.cons_append, List.nil_append, List.length_cons, List.length_nil, ite_true, ite_false, Bool.not_true, Bool.not_false, Bool.true_and, Bool.and_true, Bool.false_and, Bool.and_false, reduceIte, reduceCtorEq, Bool.false_eq_true, if_true, if_false, Nat.reduceAdd, Nat.reduceLeDiff, ne_eq, not_false_eq_true, eq_self, not_true_eq_false, Nat.reduceSub, Nat.reduceMul, Nat.reduceLT, Nat.reducePow, Int.reduceLE, Int.reduceLT, Int.reduceAdd, Int.reduceSub, Int.reduceMul, Int.reduceNeg, Int.reducePow, Int.reduceToNat, Int.reduceEq, Int.reduceBEq, Option.some.injEq, exists_eq_left', exists_eq_left, true_and, and_true, decide_true, decide_false, Nat.reduceBEq, Bool.or_true, Bool.true_or, Bool.or_false, Bool.false_or, aVar_e, aC_e, aRaw_e, aOp_e, aUn_e, aNot_e, aAnd_e, aOr_e, aChain_e, aTern_e, aNil_e, aCons_e, aTup_e, aLst_e, aB_e, tAndA_e, tOrA_e, tNotA_e, aCB_e, aCall_e, aCallK_e, aSl_e, aNoP_e, aCall0_e, gN_e, aNext_e, aSeq_e, aBrk_e, aCnt_e, aDrop_e, aRet_e, aRetN_e, aIfS_e, aAsg_e, aAug_e, aPar_e, aFor_e, aWhile_e, aYes_e, aIter_e, aEnum_e, aRange1_e, aRange2_e, aZip_e, aZipTL_e, aApp_e, aPopAt_e, aPop_e, aLenV_e, aIxV_e, aEqNilV_e, aTupV_e, aDnew_e, aListRg_e, aComp_e, aZip3T_e, aCallK0_e, gSetV_e, on_d, on_own, bl_b, it_i, ow_o, isOwn_o, seq_t, seq_l, seq_o, lst_l, lst_o, tup_t, same_t, same_l, one_1, fz_d, fz_r, fz_o, look_d, look_r, look_o, unA_0, unA_s, sl_0, sl_s, ons_n, ons_c, gI0_i, gI_i, gU_i, gIsN_n, gNotN_n, isNone_n, isNone_i, isNone_b, isNone_s, isNone_t, isNone_l, gEq_s, gNe_s, gIn_l, gIn_t, gNotIn_l, gNotIn_t, gIx_t, gIx_l, gCat_i, gCat_t, gCat_l, gMul_i, gMul_t, gMul_l, gCut_t, gCut_l, gP_x, intD_n, intD_b, intD_i, intD_s, intD_l, intD_t, intD_d, boolD_n, boolD_b, boolD_i, boolD_s, boolD_l, boolD_t, boolD_d, strD_n, strD_b, strD_i, strD_s, strD_l, strD_t, strD_d, tupD_n, tupD_b, tupD_i, tupD_s, tupD_l, tupD_t, tupD_d, wholeD_n, wholeD_b, wholeD_i, wholeD_s, wholeD_l, wholeD_t, wholeD_d, gLen_1, gTuple_1, gList_1, gInt_i, gInt_b, gAbs_i, gRepr_x, gAll_l, gAny_l, gSum_l, gGcd_i, gSorted_l, cDraw_1, two_1, three_1, cPick_1, gMax2_i, gMin2_i, gEqS_s, isStr_s, gNil_n, gCons_c, gT_t, gL_o, gL_l, at1_0, at2_0, at2_1, at3_0, at3_1, at3_2, cpow_e, cast_lit, abs_lit, aPart_e, gEq_i, gNe_i]
          refine ⟨ns, rfl, l1, l10, hn, hds x hx2, fun d hd => ?_⟩
          have c1 := cutD_len (ds := ds) (lo := none) (hi := some at_)
          have c2 := cutD_len (ds := ds) (lo := some (at_ + 1)) (hi := none)
          refine ⟨by omega, ?_, _, fun y hy => ?_, ?_, ⟨_, _, _, _, _, _, rfl⟩⟩
          · rw [List.length_append, List.length_singleton]
            omega
          · rcases List.mem_append.mp hy with h | h
            · rcases List.mem_append.mp h with h | h
              · exact oD y (mem_cut h)
              · rw [List.mem_singleton.mp h]
                exact hd
            · exact oD y (mem_cut h)
          · rw [List.length_append, List.length_append, List.length_singleton]
            omega
        rintro ρ ⟨os, hos, lo, b0, b1, b2, b3, b4, b5, rfl⟩
        -- the first one
        refine ⟨fun ρ => ∃ us, (∀ d ∈ us, Ok 20002 10 d) ∧ us.length = 12 + 2 * j ∧ ∃ b0 b1 b2 b3 b4 b5, ρ = [.un, .raw dk, z, .d (.tuple (ns.map PyData.int)), .d (.int k), .d (.tuple ds), .d (.tuple es), .own us, b0, .d (.tuple os), b1, b2, .d (.int at_), .d (.int to_), b3, b4, b5], ?_, ?_⟩
        · simp only [ends0, wipeA, List.map, List.set, List.cons_append, List.nil_append, List.length_cons, List.length_nil, ite_true, ite_false, Bool.not_true, Bool.not_false, Bool.true_and, Bool.and_true, Bool.false_and, Bool.and_false, reduceIte, reduceCtorEq, Bool.false_eq_true, if_true, if_false, Nat.reduceAdd, Nat.reduceLeDiff, ne_eq, not_false_eq_true, eq_self, not_true_eq_false, Nat.reduceSub, Nat.reduceMul, Nat.reduceLT, Nat.reducePow, Int.reduceLE, Int.reduceLT, Int.reduceAdd, Int.reduceSub, Int.reduceMul, Int.reduceNeg, Int.reducePow, Int.reduceToNat, Int.reduceEq, Int.reduceBEq, Option.some.injEq, exists_eq_left', exists_eq_left, true_and, and_true, decide_true, decide_false, Nat.reduceBEq, Bool.or_true, Bool.true_or, Bool.or_false, Bool.false_or, aVar_e, aC_e, aRaw_e, aOp_e, aUn_e, aNot_e, aAnd_e, aOr_e, aChain_e, aTern_e, aNil_e, aCons_e, aTup_e, aLst_e, aB_e, tAndA_e, tOrA_e, tNotA_e, aCB_e, aCall_e, aCallK_e, aSl_e, aNoP_e, aCall0_e, gN_e, aNext_e, aSeq_e, aBrk_e, aCnt_e, aDrop_e, aRet_e, aRetN_e, aIfS_e, aAsg_e, aAug_e, aPar_e, aFor_e, aWhile_e, aYes_e, aIter_e, aEnum_e, aRange1_e, aRange2_e, aZip_e, aZipTL_e, aApp_e, aPopAt_e, aPop_e, aLenV_e, aIxV_e, aEqNilV_e, aTupV_e, aDnew_e, aListRg_e, aComp_e, aZip3T_e, aCallK0_e, gSetV_e, on_d, on_own, bl_b, it_i, ow_o, isOwn_o, seq_t, seq_l, seq_o, lst_l, lst_o, tup_t, same_t, same_l, one_1, fz_d, fz_r, fz_o, look_d, look_r, look_o, unA_0, unA_s, sl_0, sl_s, ons_n, ons_c, gI0_i, gI_i, gU_i, gIsN_n, gNotN_n, isNone_n, isNone_i, isNone_b, isNone_s, isNone_t, isNone_l, gEq_s, gNe_s, gIn_l, gIn_t, gNotIn_l, gNotIn_t, gIx_t, gIx_l, gCat_i, gCat_t, gCat_l, gMul_i, gMul_t, gMul_l, gCut_t, gCut_l, gP_x, intD_n, intD_b, intD_i, intD_s, intD_l, intD_t, intD_d, boolD_n, boolD_b, boolD_i, boolD_s, boolD_l, boolD_t, boolD_d, strD_n, strD_b, strD_i, strD_s, strD_l, strD_t, strD_d, tupD_n, tupD_b, tupD_i, tupD_s, tupD_l, tupD_t, tupD_d, wholeD_n, wholeD_b, wholeD_i, wholeD_s, wholeD_l, wholeD_t, wholeD_d, gLen_1, gTuple_1, gList_1, gInt_i, gInt_b, gAbs_i, gRepr_x, gAll_l, gAny_l, gSum_l, gGcd_i, gSorted_l, cDraw_1, two_1, three_1, cPick_1, gMax2_i, gMin2_i, gEqS_s, isStr_s, gNil_n, gCons_c, gT_t, gL_o, gL_l, at1_0, at2_0, at2_1, at3_0, at3_1, at3_2, cpow_e, cast_lit, abs_lit, aPart_e, gEq_i, gNe_i]
          rw [rangeD_len] at hj
          refine ⟨by omega, _, fun y hy => ?_, by rw [List.length_append, List.length_singleton]; omega, ⟨_, _, _, _, _, _, rfl⟩⟩
          rcases List.mem_append.mp hy with h | h
          · exact hts y h
          · rw [List.mem_singleton.mp h]
            exact (row (n := 17) hos lo (by decide)).ge (by decide) (by decide)
        rintro ρ ⟨us, hus, lu, b0, b1, b2, b3, b4, b5, rfl⟩
        -- the second one
        simp only [ends0, wipeA, List.map, List.set, List.cons_append, List.nil_append, List.length_cons, List.length_nil, ite_true, ite_false, Bool.not_true, Bool.not_false, Bool.true_and, Bool.and_true, Bool.false_and, Bool.and_false, reduceIte, reduceCtorEq, Bool.false_eq_true, if_true, if_false, Nat.reduceAdd, Nat.reduceLeDiff, ne_eq, not_false_eq_true, eq_self, not_true_eq_false, Nat.reduceSub, Nat.reduceMul, Nat.reduceLT, Nat.reducePow, Int.reduceLE, Int.reduceLT, Int.reduceAdd, Int.reduceSub, Int.reduceMul, Int.reduceNeg, Int.reducePow, Int.reduceToNat, Int.reduceEq, Int.reduceBEq, Option.some.injEq, exists_eq_left', exists_eq_left, true_and, and_true, decide_true, decide_false, Nat.reduceBEq, Bool.or_true, Bool.true_or, Bool.or_false, Bool.false_or, aVar_e, aC_e, aRaw_e, aOp_e, aUn_e, aNot_e, aAnd_e, aOr_e, aChain_e, aTern_e, aNil_e, aCons_e, aTup_e, aLst_e, aB_e, tAndA_e, tOrA_e, tNotA_e, aCB_e, aCall_e, aCallK_e, aSl_e, aNoP_e, aCall0_e, gN_e, aNext_e, aSeq_e, aBrk_e, aCnt_e, aDrop_e, aRet_e, aRetN_e, aIfS_e, aAsg_e, aAug_e, aPar_e, aFor_e, aWhile_e, aYes_e, aIter_e, aEnum_e, aRange1_e, aRange2_e, aZip_e, aZipTL_e, aApp_e, aPopAt_e, aPop_e, aLenV_e, aIxV_e, aEqNilV_e, aTupV_e, aDnew_e, aListRg_e, aComp_e, aZip3T_e, aCallK0_e, gSetV_e, on_d, on_own, bl_b, it_i, ow_o, isOwn_o, seq_t, seq_l, seq_o, lst_l, lst_o, tup_t, same_t, same_l, one_1, fz_d, fz_r, fz_o, look_d, look_r, look_o, unA_0, unA_s, sl_0, sl_s, ons_n, ons_c, gI0_i, gI_i, gU_i, gIsN_n, gNotN_n, isNone_n, isNone_i, isNone_b, isNone_s, isNone_t, isNone_l, gEq_s, gNe_s, gIn_l, gIn_t, gNotIn_l, gNotIn_t, gIx_t, gIx_l, gCat_i, gCat_t, gCat_l, gMul_i, gMul_t, gMul_l, gCut_t, gCut_l, gP_x, intD_n, intD_b, intD_i, intD_s, intD_l, intD_t, intD_d, boolD_n, boolD_b, boolD_i, boolD_s, boolD_l, boolD_t, boolD_d, strD_n, strD_b, strD_i, strD_s, strD_l, strD_t, strD_d, tupD_n, tupD_b, tupD_i, tupD_s, tupD_l, tupD_t, tupD_d, wholeD_n, wholeD_b, wholeD_i, wholeD_s, wholeD_l, wholeD_t, wholeD_d, gLen_1, gTuple_1, gList_1, gInt_i, gInt_b, gAbs_i, gRepr_x, gAll_l, gAny_l, gSum_l, gGcd_i, gSorted_l, cDraw_1, two_1, three_1, cPick_1, gMax2_i, gMin2_i, gEqS_s, isStr_s, gNil_n, gCons_c, gT_t, gL_o, gL_l, at1_0, at2_0, at2_1, at3_0, at3_1, at3_2, cpow_e, cast_lit, abs_lit, aPart_e, gEq_i, gNe_i]
        obtain ⟨x, hx, hx2⟩ := atI_ok h3 h4
        refine ⟨x, hx, ?_⟩
        simp only [c__law_odd, ends0, wipeA, List.map, List.set, List.cons_append, List.nil_append, List.length_cons, List.length_nil, ite_true, ite_false, Bool.not_true, Bool.not_false, Bool.true_and, Bool.and_true, Bool.false_and, Bool.and_false, reduceIte, reduceCtorEq, Bool.false_eq_true, if_true, if_false, Nat.reduceAdd, Nat.reduceLeDiff, ne_eq, not_false_eq_true, eq_self, not_true_eq_false, Nat.reduceSub, Nat.reduceMul, Nat.reduceLT, Nat.reducePow, Int.reduceLE, Int.reduceLT, Int.reduceAdd, Int.reduceSub, Int.reduceMul, Int.reduceNeg, Int.reducePow, Int.reduceToNat, Int.reduceEq, Int.reduceBEq, Option.some.injEq, exists_eq_left', exists_eq_left, true_and, and_true, decide_true, decide_false, Nat.reduceBEq, Bool.or_true, Bool.true_or, Bool.or_false, Bool.false_or, aVar_e, aC_e, aRaw_e, aOp_e, aUn_e, aNot_e, aAnd_e, aOr_e, aChain_e, aTern_e, aNil_e, aCons_e, aTup_e, aLst_e, aB_e, tAndA_e, tOrA_e, tNotA_e, aCB_e, aCall_e, aCallK_e, aSl_e, aNoP_e, aCall0_e, gN_e, aNext_e, aSeq_e, aBrk_e, aCnt_e, aDrop_e, aRet_e, aRetN_e, aIfS_e, aAsg_e, aAug_e, aPar_e, aFor_e, aWhile_e, aYes_e, aIter_e, aEnum_e, aRange1_e, aRange2_e, aZip_e, aZipTL_e, aApp_e, aPopAt_e, aPop_e, aLenV_e, aIxV_e, aEqNilV_e, aTupV_e, aDnew_e, aListRg_e, aComp_e, aZip3T_e, aCallK0_e, gSetV_e, on_d, on_own, bl_b, it_i, ow_o, isOwn_o, seq_t, seq_l, seq_o, lst_l, lst_o, tup_t, same_t, same_l, one_1, fz_d, fz_r, fz_o, look_d, look_r, look_o, unA_0, unA_s, sl_0, sl_s, ons_n, ons_c, gI0_i, gI_i, gU_i, gIsN_n, gNotN_n, isNone_n, isNone_i, isNone_b, isNone_s, isNone_t, isNone_l, gEq_s, gNe_s, gIn_l, gIn_t, gNotIn_l, gNotIn_t, gIx_t, gIx_l, gCat_i, gCat_t, gCat_l, gMul_i, gMul_t, gMul_l, gCut_t, gCut_l, gP_x, intD_n, intD_b, intD_i, intD_s, intD_l, intD_t, intD_d, boolD_n, boolD_b, boolD_i, boolD_s, boolD_l, boolD_t, boolD_d, strD_n, strD_b, strD_i, strD_s, strD_l, strD_t, strD_d, tupD_n, tupD_b, tupD_i, tupD_s, tupD_l, tupD_t, tupD_d, wholeD_n, wholeD_b, wholeD_i, wholeD_s, wholeD_l, wholeD_t, wholeD_d, gLen_1, gTuple_1, gList_1, gInt_i, gInt_b, gAbs_i, gRepr_x, gAll_l, gAny_l, gSum_l, gGcd_i, gSorted_l, cDraw_1, two_1, three_1, cPick_1, gMax2_i, gMin2_i, gEqS_s, isStr_s, gNil_n, gCons_c, gT_t, gL_o, gL_l, at1_0, at2_0, at2_1, at3_0, at3_1, at3_2, cpow_e, cast_lit, abs_lit, aPart_e, gEq_i, gNe_i]
        refine ⟨ns, rfl, l1, l10, hn, hds x hx2, fun d hd => ?_⟩
        have c1 := cutD_len (ds := os) (lo := none) (hi := some to_)
        have c2 := cutD_len (ds := os) (lo := some (to_ + 1)) (hi := none)
        rw [rangeD_len] at hj
        refine ⟨by omega, ?_, by omega, _, fun y hy => ?_, by rw [List.length_append, List.length_singleton]; omega, ⟨_, _, _, _, _, _, _, _, _, rfl⟩⟩
        · rw [List.length_append, List.length_singleton]
          omega
        rcases List.mem_append.mp hy with h | h
        · exact hus y h
        · rw [List.mem_singleton.mp h]
          refine (row (n := 35) (fun y hy => ?_) ?_ (by decide)).ge (by decide) (by decide)
          · rcases List.mem_append.mp hy with h | h
            · rcases List.mem_append.mp h with h | h
              · exact hos y (mem_cut h)
              · rw [List.mem_singleton.mp h]
                exact hd
            · exact hos y (mem_cut h)
          · rw [List.length_append, List.length_append, List.length_singleton]
            omega
      · rintro ρ ⟨ts, hts, lt, ⟨a0, a1, a2, a3, a4, a5, a6, a7, a8, rfl⟩⟩
        exact ⟨ts, hts, ⟨_, _, _, _, _, _, _, _, _, rfl⟩⟩
    rintro ρ ⟨ts, hts, ⟨a0, a1, a2, a3, a4, a5, a6, a7, a8, rfl⟩⟩
    -- each thing
    simp only [ends0, wipeA, List.map, List.set, List.cons_append, List.nil_append, List.length_cons, List.length_nil, ite_true, ite_false, Bool.not_true, Bool.not_false, Bool.true_and, Bool.and_true, Bool.false_and, Bool.and_false, reduceIte, reduceCtorEq, Bool.false_eq_true, if_true, if_false, Nat.reduceAdd, Nat.reduceLeDiff, ne_eq, not_false_eq_true, eq_self, not_true_eq_false, Nat.reduceSub, Nat.reduceMul, Nat.reduceLT, Nat.reducePow, Int.reduceLE, Int.reduceLT, Int.reduceAdd, Int.reduceSub, Int.reduceMul, Int.reduceNeg, Int.reducePow, Int.reduceToNat, Int.reduceEq, Int.reduceBEq, Option.some.injEq, exists_eq_left', exists_eq_left, true_and, and_true, decide_true, decide_false, Nat.reduceBEq, Bool.or_true, Bool.true_or, Bool.or_false, Bool.false_or, aVar_e, aC_e, aRaw_e, aOp_e, aUn_e, aNot_e, aAnd_e, aOr_e, aChain_e, aTern_e, aNil_e, aCons_e, aTup_e, aLst_e, aB_e, tAndA_e, tOrA_e, tNotA_e, aCB_e, aCall_e, aCallK_e, aSl_e, aNoP_e, aCall0_e, gN_e, aNext_e, aSeq_e, aBrk_e, aCnt_e, aDrop_e, aRet_e, aRetN_e, aIfS_e, aAsg_e, aAug_e, aPar_e, aFor_e, aWhile_e, aYes_e, aIter_e, aEnum_e, aRange1_e, aRange2_e, aZip_e, aZipTL_e, aApp_e, aPopAt_e, aPop_e, aLenV_e, aIxV_e, aEqNilV_e, aTupV_e, aDnew_e, aListRg_e, aComp_e, aZip3T_e, aCallK0_e, gSetV_e, on_d, on_own, bl_b, it_i, ow_o, isOwn_o, seq_t, seq_l, seq_o, lst_l, lst_o, tup_t, same_t, same_l, one_1, fz_d, fz_r, fz_o, look_d, look_r, look_o, unA_0, unA_s, sl_0, sl_s, ons_n, ons_c, gI0_i, gI_i, gU_i, gIsN_n, gNotN_n, isNone_n, isNone_i, isNone_b, isNone_s, isNone_t, isNone_l, gEq_s, gNe_s, gIn_l, gIn_t, gNotIn_l, gNotIn_t, gIx_t, gIx_l, gCat_i, gCat_t, gCat_l, gMul_i, gMul_t, gMul_l, gCut_t, gCut_l, gP_x, intD_n, intD_b, intD_i, intD_s, intD_l, intD_t, intD_d, boolD_n, boolD_b, boolD_i, boolD_s, boolD_l, boolD_t, boolD_d, strD_n, strD_b, strD_i, strD_s, strD_l, strD_t, strD_d, tupD_n, tupD_b, tupD_i, tupD_s, tupD_l, tupD_t, tupD_d, wholeD_n, wholeD_b, wholeD_i, wholeD_s, wholeD_l, wholeD_t, wholeD_d, gLen_1, gTuple_1, gList_1, gInt_i, gInt_b, gAbs_i, gRepr_x, gAll_l, gAny_l, gSum_l, gGcd_i, gSorted_l, cDraw_1, two_1, three_1, cPick_1, gMax2_i, gMin2_i, gEqS_s, isStr_s, gNil_n, gCons_c, gT_t, gL_o, gL_l, at1_0, at2_0, at2_1, at3_0, at3_1, at3_2, cpow_e, cast_lit, abs_lit, aPart_e, gEq_i, gNe_i]
    refine ⟨fun _ ρ => ∃ c0 c1 c2 c3 c4 c5 c6 c7 c8 c9 c10 c11 c12 c13, ρ = [.un, .raw dk, c0, .d (.tuple (ns.map PyData.int)), c1, c2, c3, c4, c5, c6, c7, c8, c9, c10, c11, c12, c13], ⟨_, _, _, _, _, _, _, _, _, _, _, _, _, _, rfl⟩, ?_, ?_⟩
    · rintro j ρ hj ⟨c0, c1, c2, c3, c4, c5, c6, c7, c8, c9, c10, c11, c12, c13, rfl⟩
      rw [enumD_len] at hj
      rw [enumD_at hj]
      have ok := hts _ (List.mem_of_getElem? (getD_some PyData.none hj))
      generalize ts.getD j .none = d at ok
      have oN : Ok 11 1 (.tuple (ns.map PyData.int)) := ((okAll_all (n := 1) (k := 0) fun d hd => by
        obtain ⟨m, hm, rfl⟩ := List.mem_map.mp hd
        exact ⟨decide_eq_true (big_of (by have := hn m hm; omega)), le_ble rfl, le_ble rfl⟩).tup).ge (by rw [List.length_map]; omega) (by decide)
      have s1 : Shows (.list [.tuple (ns.map PyData.int), d]) := (((OkAll.cons (oN.ge (Nat.le_refl _) (by decide)) (OkAll.one ok)).lst).shows (by decide) (by decide))
      have s2 : Shows (ledgerD ns d) := (ledger_ok ns d).shows (by decide) (by decide)
      simp only [ends0, wipeA, List.map, List.set, List.cons_append, List.nil_append, List.length_cons, List.length_nil, ite_true, ite_false, Bool.not_true, Bool.not_false, Bool.true_and, Bool.and_true, Bool.false_and, Bool.and_false, reduceIte, reduceCtorEq, Bool.false_eq_true, if_true, if_false, Nat.reduceAdd, Nat.reduceLeDiff, ne_eq, not_false_eq_true, eq_self, not_true_eq_false, Nat.reduceSub, Nat.reduceMul, Nat.reduceLT, Nat.reducePow, Int.reduceLE, Int.reduceLT, Int.reduceAdd, Int.reduceSub, Int.reduceMul, Int.reduceNeg, Int.reducePow, Int.reduceToNat, Int.reduceEq, Int.reduceBEq, Option.some.injEq, exists_eq_left', exists_eq_left, true_and, and_true, decide_true, decide_false, Nat.reduceBEq, Bool.or_true, Bool.true_or, Bool.or_false, Bool.false_or, aVar_e, aC_e, aRaw_e, aOp_e, aUn_e, aNot_e, aAnd_e, aOr_e, aChain_e, aTern_e, aNil_e, aCons_e, aTup_e, aLst_e, aB_e, tAndA_e, tOrA_e, tNotA_e, aCB_e, aCall_e, aCallK_e, aSl_e, aNoP_e, aCall0_e, gN_e, aNext_e, aSeq_e, aBrk_e, aCnt_e, aDrop_e, aRet_e, aRetN_e, aIfS_e, aAsg_e, aAug_e, aPar_e, aFor_e, aWhile_e, aYes_e, aIter_e, aEnum_e, aRange1_e, aRange2_e, aZip_e, aZipTL_e, aApp_e, aPopAt_e, aPop_e, aLenV_e, aIxV_e, aEqNilV_e, aTupV_e, aDnew_e, aListRg_e, aComp_e, aZip3T_e, aCallK0_e, gSetV_e, on_d, on_own, bl_b, it_i, ow_o, isOwn_o, seq_t, seq_l, seq_o, lst_l, lst_o, tup_t, same_t, same_l, one_1, fz_d, fz_r, fz_o, look_d, look_r, look_o, unA_0, unA_s, sl_0, sl_s, ons_n, ons_c, gI0_i, gI_i, gU_i, gIsN_n, gNotN_n, isNone_n, isNone_i, isNone_b, isNone_s, isNone_t, isNone_l, gEq_s, gNe_s, gIn_l, gIn_t, gNotIn_l, gNotIn_t, gIx_t, gIx_l, gCat_i, gCat_t, gCat_l, gMul_i, gMul_t, gMul_l, gCut_t, gCut_l, gP_x, intD_n, intD_b, intD_i, intD_s, intD_l, intD_t, intD_d, boolD_n, boolD_b, boolD_i, boolD_s, boolD_l, boolD_t, boolD_d, strD_n, strD_b, strD_i, strD_s, strD_l, strD_t, strD_d, tupD_n, tupD_b, tupD_i, tupD_s, tupD_l, tupD_t, tupD_d, wholeD_n, wholeD_b, wholeD_i, wholeD_s, wholeD_l, wholeD_t, wholeD_d, gLen_1, gTuple_1, gList_1, gInt_i, gInt_b, gAbs_i, gRepr_x, gAll_l, gAny_l, gSum_l, gGcd_i, gSorted_l, cDraw_1, two_1, three_1, cPick_1, gMax2_i, gMin2_i, gEqS_s, isStr_s, gNil_n, gCons_c, gT_t, gL_o, gL_l, at1_0, at2_0, at2_1, at3_0, at3_1, at3_2, cpow_e, cast_lit, abs_lit, aPart_e, gEq_i, gNe_i]
      refine ⟨fun ρ => ∃ b0 b1 b2 b3 b4 b5 b6 b7 b8 b9, ρ = [.un, .raw dk, b0, .d (.tuple (ns.map PyData.int)), b1, b2, b3, b4, .d (.int j), b5, .d d, b6, b7, b8, .d (.str (PyData.shown (.list [.tuple (ns.map PyData.int), d]))), .d (.str (ledgerD ns d).shown), b9], ?_, ?_⟩
      · simp only [c__law_due, ends0, wipeA, List.map, List.set, List.cons_append, List.nil_append, List.length_cons, List.length_nil, ite_true, ite_false, Bool.not_true, Bool.not_false, Bool.true_and, Bool.and_true, Bool.false_and, Bool.and_false, reduceIte, reduceCtorEq, Bool.false_eq_true, if_true, if_false, Nat.reduceAdd, Nat.reduceLeDiff, ne_eq, not_false_eq_true, eq_self, not_true_eq_false, Nat.reduceSub, Nat.reduceMul, Nat.reduceLT, Nat.reducePow, Int.reduceLE, Int.reduceLT, Int.reduceAdd, Int.reduceSub, Int.reduceMul, Int.reduceNeg, Int.reducePow, Int.reduceToNat, Int.reduceEq, Int.reduceBEq, Option.some.injEq, exists_eq_left', exists_eq_left, true_and, and_true, decide_true, decide_false, Nat.reduceBEq, Bool.or_true, Bool.true_or, Bool.or_false, Bool.false_or, aVar_e, aC_e, aRaw_e, aOp_e, aUn_e, aNot_e, aAnd_e, aOr_e, aChain_e, aTern_e, aNil_e, aCons_e, aTup_e, aLst_e, aB_e, tAndA_e, tOrA_e, tNotA_e, aCB_e, aCall_e, aCallK_e, aSl_e, aNoP_e, aCall0_e, gN_e, aNext_e, aSeq_e, aBrk_e, aCnt_e, aDrop_e, aRet_e, aRetN_e, aIfS_e, aAsg_e, aAug_e, aPar_e, aFor_e, aWhile_e, aYes_e, aIter_e, aEnum_e, aRange1_e, aRange2_e, aZip_e, aZipTL_e, aApp_e, aPopAt_e, aPop_e, aLenV_e, aIxV_e, aEqNilV_e, aTupV_e, aDnew_e, aListRg_e, aComp_e, aZip3T_e, aCallK0_e, gSetV_e, on_d, on_own, bl_b, it_i, ow_o, isOwn_o, seq_t, seq_l, seq_o, lst_l, lst_o, tup_t, same_t, same_l, one_1, fz_d, fz_r, fz_o, look_d, look_r, look_o, unA_0, unA_s, sl_0, sl_s, ons_n, ons_c, gI0_i, gI_i, gU_i, gIsN_n, gNotN_n, isNone_n, isNone_i, isNone_b, isNone_s, isNone_t, isNone_l, gEq_s, gNe_s, gIn_l, gIn_t, gNotIn_l, gNotIn_t, gIx_t, gIx_l, gCat_i, gCat_t, gCat_l, gMul_i, gMul_t, gMul_l, gCut_t, gCut_l, gP_x, intD_n, intD_b, intD_i, intD_s, intD_l, intD_t, intD_d, boolD_n, boolD_b, boolD_i, boolD_s, boolD_l, boolD_t, boolD_d, strD_n, strD_b, strD_i, strD_s, strD_l, strD_t, strD_d, tupD_n, tupD_b, tupD_i, tupD_s, tupD_l, tupD_t, tupD_d, wholeD_n, wholeD_b, wholeD_i, wholeD_s, wholeD_l, wholeD_t, wholeD_d, gLen_1, gTuple_1, gList_1, gInt_i, gInt_b, gAbs_i, gRepr_x, gAll_l, gAny_l, gSum_l, gGcd_i, gSorted_l, cDraw_1, two_1, three_1, cPick_1, gMax2_i, gMin2_i, gEqS_s, isStr_s, gNil_n, gCons_c, gT_t, gL_o, gL_l, at1_0, at2_0, at2_1, at3_0, at3_1, at3_2, cpow_e, cast_lit, abs_lit, aPart_e, gEq_i, gNe_i]
        exact ⟨s1, ns, rfl, s2, ⟨_, _, _, _, _, _, _, _, _, _, rfl⟩⟩
      rintro ρ ⟨b0, b1, b2, b3, b4, b5, b6, b7, b8, b9, rfl⟩
      refine ⟨fun ρ => ∃ b0 b1 b2 b3 b4 b5 b6 b7 b8, ρ = [.un, .raw dk, b0, .d (.tuple (ns.map PyData.int)), b1, b2, b3, b4, .d (.int j), b5, .d d, .d (ledgerD ns d), b6, b7, .d (.str (PyData.shown (.list [.tuple (ns.map PyData.int), d]))), .d (.str (ledgerD ns d).shown), b8], ?_, ?_⟩
      · simp only [c_ledger_error, g_ledger_error_value_machine, ends0, wipeA, List.map, List.set, List.cons_append, List.nil_append, List.length_cons, List.length_nil, ite_true, ite_false, Bool.not_true, Bool.not_false, Bool.true_and, Bool.and_true, Bool.false_and, Bool.and_false, reduceIte, reduceCtorEq, Bool.false_eq_true, if_true, if_false, Nat.reduceAdd, Nat.reduceLeDiff, ne_eq, not_false_eq_true, eq_self, not_true_eq_false, Nat.reduceSub, Nat.reduceMul, Nat.reduceLT, Nat.reducePow, Int.reduceLE, Int.reduceLT, Int.reduceAdd, Int.reduceSub, Int.reduceMul, Int.reduceNeg, Int.reducePow, Int.reduceToNat, Int.reduceEq, Int.reduceBEq, Option.some.injEq, exists_eq_left', exists_eq_left, true_and, and_true, decide_true, decide_false, Nat.reduceBEq, Bool.or_true, Bool.true_or, Bool.or_false, Bool.false_or, aVar_e, aC_e, aRaw_e, aOp_e, aUn_e, aNot_e, aAnd_e, aOr_e, aChain_e, aTern_e, aNil_e, aCons_e, aTup_e, aLst_e, aB_e, tAndA_e, tOrA_e, tNotA_e, aCB_e, aCall_e, aCallK_e, aSl_e, aNoP_e, aCall0_e, gN_e, aNext_e, aSeq_e, aBrk_e, aCnt_e, aDrop_e, aRet_e, aRetN_e, aIfS_e, aAsg_e, aAug_e, aPar_e, aFor_e, aWhile_e, aYes_e, aIter_e, aEnum_e, aRange1_e, aRange2_e, aZip_e, aZipTL_e, aApp_e, aPopAt_e, aPop_e, aLenV_e, aIxV_e, aEqNilV_e, aTupV_e, aDnew_e, aListRg_e, aComp_e, aZip3T_e, aCallK0_e, gSetV_e, on_d, on_own, bl_b, it_i, ow_o, isOwn_o, seq_t, seq_l, seq_o, lst_l, lst_o, tup_t, same_t, same_l, one_1, fz_d, fz_r, fz_o, look_d, look_r, look_o, unA_0, unA_s, sl_0, sl_s, ons_n, ons_c, gI0_i, gI_i, gU_i, gIsN_n, gNotN_n, isNone_n, isNone_i, isNone_b, isNone_s, isNone_t, isNone_l, gEq_s, gNe_s, gIn_l, gIn_t, gNotIn_l, gNotIn_t, gIx_t, gIx_l, gCat_i, gCat_t, gCat_l, gMul_i, gMul_t, gMul_l, gCut_t, gCut_l, gP_x, intD_n, intD_b, intD_i, intD_s, intD_l, intD_t, intD_d, boolD_n, boolD_b, boolD_i, boolD_s, boolD_l, boolD_t, boolD_d, strD_n, strD_b, strD_i, strD_s, strD_l, strD_t, strD_d, tupD_n, tupD_b, tupD_i, tupD_s, tupD_l, tupD_t, tupD_d, wholeD_n, wholeD_b, wholeD_i, wholeD_s, wholeD_l, wholeD_t, wholeD_d, gLen_1, gTuple_1, gList_1, gInt_i, gInt_b, gAbs_i, gRepr_x, gAll_l, gAny_l, gSum_l, gGcd_i, gSorted_l, cDraw_1, two_1, three_1, cPick_1, gMax2_i, gMin2_i, gEqS_s, isStr_s, gNil_n, gCons_c, gT_t, gL_o, gL_l, at1_0, at2_0, at2_1, at3_0, at3_1, at3_2, cpow_e, cast_lit, abs_lit, aPart_e, gEq_i, gNe_i]
        split <;> exact ⟨ns, rfl, ⟨_, _, _, _, _, _, _, _, _, rfl⟩⟩
      rintro ρ ⟨b0, b1, b2, b3, b4, b5, b6, b7, b8, rfl⟩
      simp only [c_ledger_error, beq_self_eq_true, ends0, wipeA, List.map, List.set, List.cons_append, List.nil_append, List.length_cons, List.length_nil, ite_true, ite_false, Bool.not_true, Bool.not_false, Bool.true_and, Bool.and_true, Bool.false_and, Bool.and_false, reduceIte, reduceCtorEq, Bool.false_eq_true, if_true, if_false, Nat.reduceAdd, Nat.reduceLeDiff, ne_eq, not_false_eq_true, eq_self, not_true_eq_false, Nat.reduceSub, Nat.reduceMul, Nat.reduceLT, Nat.reducePow, Int.reduceLE, Int.reduceLT, Int.reduceAdd, Int.reduceSub, Int.reduceMul, Int.reduceNeg, Int.reducePow, Int.reduceToNat, Int.reduceEq, Int.reduceBEq, Option.some.injEq, exists_eq_left', exists_eq_left, true_and, and_true, decide_true, decide_false, Nat.reduceBEq, Bool.or_true, Bool.true_or, Bool.or_false, Bool.false_or, aVar_e, aC_e, aRaw_e, aOp_e, aUn_e, aNot_e, aAnd_e, aOr_e, aChain_e, aTern_e, aNil_e, aCons_e, aTup_e, aLst_e, aB_e, tAndA_e, tOrA_e, tNotA_e, aCB_e, aCall_e, aCallK_e, aSl_e, aNoP_e, aCall0_e, gN_e, aNext_e, aSeq_e, aBrk_e, aCnt_e, aDrop_e, aRet_e, aRetN_e, aIfS_e, aAsg_e, aAug_e, aPar_e, aFor_e, aWhile_e, aYes_e, aIter_e, aEnum_e, aRange1_e, aRange2_e, aZip_e, aZipTL_e, aApp_e, aPopAt_e, aPop_e, aLenV_e, aIxV_e, aEqNilV_e, aTupV_e, aDnew_e, aListRg_e, aComp_e, aZip3T_e, aCallK0_e, gSetV_e, on_d, on_own, bl_b, it_i, ow_o, isOwn_o, seq_t, seq_l, seq_o, lst_l, lst_o, tup_t, same_t, same_l, one_1, fz_d, fz_r, fz_o, look_d, look_r, look_o, unA_0, unA_s, sl_0, sl_s, ons_n, ons_c, gI0_i, gI_i, gU_i, gIsN_n, gNotN_n, isNone_n, isNone_i, isNone_b, isNone_s, isNone_t, isNone_l, gEq_s, gNe_s, gIn_l, gIn_t, gNotIn_l, gNotIn_t, gIx_t, gIx_l, gCat_i, gCat_t, gCat_l, gMul_i, gMul_t, gMul_l, gCut_t, gCut_l, gP_x, intD_n, intD_b, intD_i, intD_s, intD_l, intD_t, intD_d, boolD_n, boolD_b, boolD_i, boolD_s, boolD_l, boolD_t, boolD_d, strD_n, strD_b, strD_i, strD_s, strD_l, strD_t, strD_d, tupD_n, tupD_b, tupD_i, tupD_s, tupD_l, tupD_t, tupD_d, wholeD_n, wholeD_b, wholeD_i, wholeD_s, wholeD_l, wholeD_t, wholeD_d, gLen_1, gTuple_1, gList_1, gInt_i, gInt_b, gAbs_i, gRepr_x, gAll_l, gAny_l, gSum_l, gGcd_i, gSorted_l, cDraw_1, two_1, three_1, cPick_1, gMax2_i, gMin2_i, gEqS_s, isStr_s, gNil_n, gCons_c, gT_t, gL_o, gL_l, at1_0, at2_0, at2_1, at3_0, at3_1, at3_2, cpow_e, cast_lit, abs_lit, aPart_e, gEq_i, gNe_i]
      refine ⟨s2, ns, rfl, ?_⟩
      simp only [beq_self_eq_true, ends0, wipeA, List.map, List.set, List.cons_append, List.nil_append, List.length_cons, List.length_nil, ite_true, ite_false, Bool.not_true, Bool.not_false, Bool.true_and, Bool.and_true, Bool.false_and, Bool.and_false, reduceIte, reduceCtorEq, Bool.false_eq_true, if_true, if_false, Nat.reduceAdd, Nat.reduceLeDiff, ne_eq, not_false_eq_true, eq_self, not_true_eq_false, Nat.reduceSub, Nat.reduceMul, Nat.reduceLT, Nat.reducePow, Int.reduceLE, Int.reduceLT, Int.reduceAdd, Int.reduceSub, Int.reduceMul, Int.reduceNeg, Int.reducePow, Int.reduceToNat, Int.reduceEq, Int.reduceBEq, Option.some.injEq, exists_eq_left', exists_eq_left, true_and, and_true, decide_true, decide_false, Nat.reduceBEq, Bool.or_true, Bool.true_or, Bool.or_false, Bool.false_or, aVar_e, aC_e, aRaw_e, aOp_e, aUn_e, aNot_e, aAnd_e, aOr_e, aChain_e, aTern_e, aNil_e, aCons_e, aTup_e, aLst_e, aB_e, tAndA_e, tOrA_e, tNotA_e, aCB_e, aCall_e, aCallK_e, aSl_e, aNoP_e, aCall0_e, gN_e, aNext_e, aSeq_e, aBrk_e, aCnt_e, aDrop_e, aRet_e, aRetN_e, aIfS_e, aAsg_e, aAug_e, aPar_e, aFor_e, aWhile_e, aYes_e, aIter_e, aEnum_e, aRange1_e, aRange2_e, aZip_e, aZipTL_e, aApp_e, aPopAt_e, aPop_e, aLenV_e, aIxV_e, aEqNilV_e, aTupV_e, aDnew_e, aListRg_e, aComp_e, aZip3T_e, aCallK0_e, gSetV_e, on_d, on_own, bl_b, it_i, ow_o, isOwn_o, seq_t, seq_l, seq_o, lst_l, lst_o, tup_t, same_t, same_l, one_1, fz_d, fz_r, fz_o, look_d, look_r, look_o, unA_0, unA_s, sl_0, sl_s, ons_n, ons_c, gI0_i, gI_i, gU_i, gIsN_n, gNotN_n, isNone_n, isNone_i, isNone_b, isNone_s, isNone_t, isNone_l, gEq_s, gNe_s, gIn_l, gIn_t, gNotIn_l, gNotIn_t, gIx_t, gIx_l, gCat_i, gCat_t, gCat_l, gMul_i, gMul_t, gMul_l, gCut_t, gCut_l, gP_x, intD_n, intD_b, intD_i, intD_s, intD_l, intD_t, intD_d, boolD_n, boolD_b, boolD_i, boolD_s, boolD_l, boolD_t, boolD_d, strD_n, strD_b, strD_i, strD_s, strD_l, strD_t, strD_d, tupD_n, tupD_b, tupD_i, tupD_s, tupD_l, tupD_t, tupD_d, wholeD_n, wholeD_b, wholeD_i, wholeD_s, wholeD_l, wholeD_t, wholeD_d, gLen_1, gTuple_1, gList_1, gInt_i, gInt_b, gAbs_i, gRepr_x, gAll_l, gAny_l, gSum_l, gGcd_i, gSorted_l, cDraw_1, two_1, three_1, cPick_1, gMax2_i, gMin2_i, gEqS_s, isStr_s, gNil_n, gCons_c, gT_t, gL_o, gL_l, at1_0, at2_0, at2_1, at3_0, at3_1, at3_2, cpow_e, cast_lit, abs_lit, aPart_e, gEq_i, gNe_i]
      exact ⟨s2, s1, ⟨_, _, _, _, _, _, _, _, _, _, _, _, _, _, rfl⟩⟩
    · rintro ρ ⟨c0, c1, c2, c3, c4, c5, c6, c7, c8, c9, c10, c11, c12, c13, rfl⟩
      exact ⟨_, _, _, _, _, _, _, _, _, _, _, _, _, _, _, rfl⟩
  · simp only [c_ledger_error, ends0, wipeA, List.map, List.set, List.cons_append, List.nil_append, List.length_cons, List.length_nil, ite_true, ite_false, Bool.not_true, Bool.not_false, Bool.true_and, Bool.and_true, Bool.false_and, Bool.and_false, reduceIte, reduceCtorEq, Bool.false_eq_true, if_true, if_false, Nat.reduceAdd, Nat.reduceLeDiff, ne_eq, not_false_eq_true, eq_self, not_true_eq_false, Nat.reduceSub, Nat.reduceMul, Nat.reduceLT, Nat.reducePow, Int.reduceLE, Int.reduceLT, Int.reduceAdd, Int.reduceSub, Int.reduceMul, Int.reduceNeg, Int.reducePow, Int.reduceToNat, Int.reduceEq, Int.reduceBEq, Option.some.injEq, exists_eq_left', exists_eq_left, true_and, and_true, decide_true, decide_false, Nat.reduceBEq, Bool.or_true, Bool.true_or, Bool.or_false, Bool.false_or, aVar_e, aC_e, aRaw_e, aOp_e, aUn_e, aNot_e, aAnd_e, aOr_e, aChain_e, aTern_e, aNil_e, aCons_e, aTup_e, aLst_e, aB_e, tAndA_e, tOrA_e, tNotA_e, aCB_e, aCall_e, aCallK_e, aSl_e, aNoP_e, aCall0_e, gN_e, aNext_e, aSeq_e, aBrk_e, aCnt_e, aDrop_e, aRet_e, aRetN_e, aIfS_e, aAsg_e, aAug_e, aPar_e, aFor_e, aWhile_e, aYes_e, aIter_e, aEnum_e, aRange1_e, aRange2_e, aZip_e, aZipTL_e, aApp_e, aPopAt_e, aPop_e, aLenV_e, aIxV_e, aEqNilV_e, aTupV_e, aDnew_e, aListRg_e, aComp_e, aZip3T_e, aCallK0_e, gSetV_e, on_d, on_own, bl_b, it_i, ow_o, isOwn_o, seq_t, seq_l, seq_o, lst_l, lst_o, tup_t, same_t, same_l, one_1, fz_d, fz_r, fz_o, look_d, look_r, look_o, unA_0, unA_s, sl_0, sl_s, ons_n, ons_c, gI0_i, gI_i, gU_i, gIsN_n, gNotN_n, isNone_n, isNone_i, isNone_b, isNone_s, isNone_t, isNone_l, gEq_s, gNe_s, gIn_l, gIn_t, gNotIn_l, gNotIn_t, gIx_t, gIx_l, gCat_i, gCat_t, gCat_l, gMul_i, gMul_t, gMul_l, gCut_t, gCut_l, gP_x, intD_n, intD_b, intD_i, intD_s, intD_l, intD_t, intD_d, boolD_n, boolD_b, boolD_i, boolD_s, boolD_l, boolD_t, boolD_d, strD_n, strD_b, strD_i, strD_s, strD_l, strD_t, strD_d, tupD_n, tupD_b, tupD_i, tupD_s, tupD_l, tupD_t, tupD_d, wholeD_n, wholeD_b, wholeD_i, wholeD_s, wholeD_l, wholeD_t, wholeD_d, gLen_1, gTuple_1, gList_1, gInt_i, gInt_b, gAbs_i, gRepr_x, gAll_l, gAny_l, gSum_l, gGcd_i, gSorted_l, cDraw_1, two_1, three_1, cPick_1, gMax2_i, gMin2_i, gEqS_s, isStr_s, gNil_n, gCons_c, gT_t, gL_o, gL_l, at1_0, at2_0, at2_1, at3_0, at3_1, at3_2, cpow_e, cast_lit, abs_lit, aPart_e, gEq_i, gNe_i]
    refine ⟨[7, 11, 13], rfl, ?_⟩
    exact ⟨rfl, rfl, by decide +kernel, rfl⟩
section
variable {P : Program} {w : World} {K : PySem.W.Frag} {mg : Str → Option Value} {base : Heap} {a : Adr}
theorem ok_law (T : Txt K mg a) : FnG P w K mg base CX0 7 a.f_law a.d_law ["script"] (sp_law K) := by
  have G__law_deck : FnOk P w K mg base CX0 1 a.f__law_deck a.d__law_deck ["script"] (sp__law_deck K) := ok__law_deck T
  have G__law_machine : FnOk P w K mg base CX0 3 a.f__law_machine a.d__law_machine ["deck", "n", "most"] (sp__law_machine K) := ok__law_machine T
  have G__law_pick : FnOk P w K mg base CX0 2 a.f__law_pick a.d__law_pick ["deck", "items"] (sp__law_pick K) := ok__law_pick T
  have G_ledger_error : FnOk P w K mg base CX0 6 a.f_ledger_error a.d_ledger_error ["machine", "value"] (sp_ledger_error K) := ok_ledger_error T
  have G__law_draw : FnOk P w K mg base CX0 1 a.f__law_draw a.d__law_draw ["deck", "many"] (sp__law_draw K) := ok__law_draw T
  have G__law_run : FnOk P w K mg base CX0 3 a.f__law_run a.d__law_run ["deck", "machine"] (sp__law_run K) := ok__law_run T
  have G__law_due : FnOk P w K mg base CX0 3 a.f__law_due a.d__law_due ["machine", "value"] (sp__law_due K) := ok__law_due T
  have G__law_odd : FnOk P w K mg base CX0 3 a.f__law_odd a.d__law_odd ["deck", "machine", "single"] (sp__law_odd K) := ok__law_odd T
  refine Sx.okG T.law.F sc_law (fun vs H Q E h => ?_) (fun cdv A outer s H vs Q E hg hr h => ?_)
  · obtain ⟨_, _, rfl, _⟩ := h
    rfl
  · have hu := hu_of hr
    obtain ⟨s0, ns0, rfl, hS, hlen, q⟩ := h
    refine ⟨_, (pss_cons (ps_set (i := 1) sc_law.nd rfl (by first | exact Or.inl rfl | exact Or.inr rfl) (pe_call G__law_deck (hr.mono (by decide)) (by rfl) T._law_deck.m T._law_deck.F.kp T._law_deck.b .nil pass0 (pa_cons (pv 0) pa_nil)))
      (pss_cons (ps_for PassesOwn.never rfl (pi_range1 rfl T.b_range (pa_cons pe_int pa_nil)) (pg_name (i := 2) sc_law.nd rfl (by first | exact Or.inl rfl | exact Or.inr rfl)) (pss_cons (ps_set (i := 3) sc_law.nd rfl (by first | exact Or.inl rfl | exact Or.inr rfl) (pe_call G__law_machine (hr.mono (by decide)) (by rfl) T._law_machine.m T._law_machine.F.kp T._law_machine.b .nil pass0 (pa_cons (pv 1) (pa_cons (pe_op (show OpR _ _ (rPlus K) from op_plus) pe_int (pe_call G__law_draw (hr.mono (by decide)) (by rfl) T._law_draw.m T._law_draw.F.kp T._law_draw.b .nil pass0 (pa_cons (pv 1) (pa_cons pe_int pa_nil)))) (pa_cons pe_int pa_nil)))))
        (pss_cons (ps_set (i := 4) sc_law.nd rfl (by first | exact Or.inl rfl | exact Or.inr rfl) (pe_call G__law_pick (hr.mono (by decide)) (by rfl) T._law_pick.m T._law_pick.F.kp T._law_pick.b .nil pass0 (pa_cons (pv 1) (pa_cons (pe_lst (pa_cons pe_int (pa_cons pe_int (pa_cons pe_int (pa_cons pe_int pa_nil))))) pa_nil))))
        (pss_cons (ps_set (i := 5) sc_law.nd rfl (by first | exact Or.inl rfl | exact Or.inr rfl) (pe_callTy (show CallR _ _ (rTupS K) from call_tuple_of) (by rfl) T.b_tuple (by decide +kernel) (pa_cons (pe_lc (own := [("single", 16)]) rfl sc_law.nd (pi_range1 rfl T.b_range (pa_cons (pv 4) pa_nil)) (blkOk_by (N := ["script", "deck", "turn", "machine", "many", "ledger", "more", "things", "nth", "once", "thing", "heard", "at", "to", "known", "due", "single"]) (sc := defScope s_law) (by decide +kernel)) (fun _ _ _ _ _ => (pg_name (i := 16) sc_law.nd rfl (by first | exact Or.inl rfl | exact Or.inr rfl))) (fun _ _ _ _ _ => pts_nil) (fun _ _ _ _ _ => (pe_call G__law_run (hr.mono (by decide)) (by rfl) T._law_run.m T._law_run.F.kp T._law_run.b .nil pass0 (pa_cons (pv 1) (pa_cons (pv 3) pa_nil))))) pa_nil)))
        (pss_cons (ps_set (i := 6) sc_law.nd rfl (by first | exact Or.inl rfl | exact Or.inr rfl) (pe_op (show OpR _ _ (rPlus K) from op_plus) (pv 5) (pe_tup (pa_cons (pe_call G__law_run (hr.mono (by decide)) (by rfl) T._law_run.m T._law_run.F.kp T._law_run.b .nil pass0 (pa_cons (pv 1) (pa_cons (pv 3) pa_nil))) pa_nil))))
        (pss_cons (ps_set (i := 7) sc_law.nd rfl (by first | exact Or.inl rfl | exact Or.inr rfl) (pe_lst (pa_cons (pv 5) (pa_cons (pv 6) (pa_cons (pe_callTy (show CallR _ _ (Sx.rListS K) from call_list_of) (by rfl) T.b_list (by decide +kernel) (pa_cons (pv 5) pa_nil)) (pa_cons (pe_tup pa_nil) (pa_cons pe_non (pa_cons (pe_ix (show IxR _ (rIx K) from ix_seq) (pv 5) pe_int (fun _ _ => rfl)) (pa_cons (pe_tup (pa_cons (pv 5) pa_nil)) (pa_cons pe_dnewK (pa_cons (pe_slice (show L2.SlR _ (rCut K) from sl_cut) (pe_op (show OpR _ _ (rTimes K) from op_times) (pv 6) pe_int) po_none (po_some pe_int)) (pa_cons (pe_slice (show L2.SlR _ (rCut K) from sl_cut) (pe_op (show OpR _ _ (rTimes K) from op_times) (pv 6) pe_int) po_none (po_some pe_int)) (pa_cons pe_bl pa_nil)))))))))))))
        (pss_cons (ps_for PassesOwn.never rfl (pi_range1 rfl T.b_range (pa_cons pe_int pa_nil)) (pg_name (i := 8) sc_law.nd rfl (by first | exact Or.inl rfl | exact Or.inr rfl)) (pss_cons (ps_par (i := 12) (j := 13) (by rfl) sc_law.nd rfl rfl (by decide) rfl rfl (pa_cons (pe_call G__law_draw (hr.mono (by decide)) (by rfl) T._law_draw.m T._law_draw.F.kp T._law_draw.b .nil pass0 (pa_cons (pv 1) (pa_cons (pe_callB (show CallR _ _ (Sx.rLenS K) from call_len_seq) (by rfl) T.b_len (by decide +kernel) (pa_cons (pv 5) pa_nil)) pa_nil))) (pa_cons (pe_call G__law_draw (hr.mono (by decide)) (by rfl) T._law_draw.m T._law_draw.F.kp T._law_draw.b .nil pass0 (pa_cons (pv 1) (pa_cons (pe_callB (show CallR _ _ (Sx.rLenS K) from call_len_seq) (by rfl) T.b_len (by decide +kernel) (pa_cons (pv 5) pa_nil)) pa_nil))) pa_nil)) (by rfl))
          (pss_cons (ps_set (i := 9) sc_law.nd rfl (by first | exact Or.inl rfl | exact Or.inr rfl) (pe_op (show OpR _ _ (rPlus K) from op_plus) (pe_op (show OpR _ _ (rPlus K) from op_plus) (pe_slice (show L2.SlR _ (rCut K) from sl_cut) (pv 5) po_none (po_some (pv 12))) (pe_tup (pa_cons (pe_call G__law_odd (hr.mono (by decide)) (by rfl) T._law_odd.m T._law_odd.F.kp T._law_odd.b .nil pass0 (pa_cons (pv 1) (pa_cons (pv 3) (pa_cons (pe_ix (show IxR _ (rIx K) from ix_seq) (pv 5) (pv 12) (fun _ _ => rfl)) pa_nil)))) pa_nil))) (pe_slice (show L2.SlR _ (rCut K) from sl_cut) (pv 5) (po_some (pe_op (show OpR _ _ (rPlus K) from op_plus) (pv 12) pe_int)) po_none)))
          (pss_cons (ps_expr (show PE _ _ (tBM K "list" _ _ _) from pe_bm PySem.F.plainAttrs_list PySem.F.slot_list_append PySem.F.type_list_append mt_append (pv 7) (pa_cons (pv 9) pa_nil)))
          (pss_one (ps_expr (show PE _ _ (tBM K "list" _ _ _) from pe_bm PySem.F.plainAttrs_list PySem.F.slot_list_append PySem.F.type_list_append mt_append (pv 7) (pa_cons (pe_op (show OpR _ _ (rPlus K) from op_plus) (pe_op (show OpR _ _ (rPlus K) from op_plus) (pe_slice (show L2.SlR _ (rCut K) from sl_cut) (pv 9) po_none (po_some (pv 13))) (pe_tup (pa_cons (pe_call G__law_odd (hr.mono (by decide)) (by rfl) T._law_odd.m T._law_odd.F.kp T._law_odd.b .nil pass0 (pa_cons (pv 1) (pa_cons (pv 3) (pa_cons (pe_ix (show IxR _ (rIx K) from ix_seq) (pv 5) (pv 13) (fun _ _ => rfl)) pa_nil)))) pa_nil))) (pe_slice (show L2.SlR _ (rCut K) from sl_cut) (pv 9) (po_some (pe_op (show OpR _ _ (rPlus K) from op_plus) (pv 13) pe_int)) po_none)) pa_nil))))))))
        (pss_one (ps_for PassesOwn.never rfl (show PI _ _ _ (iEnumA K _) from pi_enumA (by rfl) T.b_enumerate (pa_cons (pv 7) pa_nil)) (show PG _ _ (gTup K 2 _) from pg_tup rfl (pgs_cons (pg_name (i := 8) sc_law.nd rfl (by first | exact Or.inl rfl | exact Or.inr rfl)) (pgs_cons (pg_name (i := 10) sc_law.nd rfl (by first | exact Or.inl rfl | exact Or.inr rfl)) pgs_nil))) (pss_cons (ps_par (i := 14) (j := 15) (by rfl) sc_law.nd rfl rfl (by decide) rfl rfl (pa_cons (pe_callB (show CallR _ _ (rShowD K) from call_showD hg hr.units) (by rfl) T.b_repr (by decide +kernel) (pa_cons (pe_lst (pa_cons (pv 3) (pa_cons (pv 10) pa_nil))) pa_nil)) (pa_cons (pe_callB (show CallR _ _ (rShowD K) from call_showD hg hr.units) (by rfl) T.b_repr (by decide +kernel) (pa_cons (pe_call G__law_due (hr.mono (by decide)) (by rfl) T._law_due.m T._law_due.F.kp T._law_due.b .nil pass0 (pa_cons (pv 3) (pa_cons (pv 10) pa_nil))) pa_nil)) pa_nil)) (by rfl))
          (pss_cons (ps_set (i := 11) sc_law.nd rfl (by first | exact Or.inl rfl | exact Or.inr rfl) (pe_ifExp (pt_cmpR (show OpR _ _ (rEqP K) from op_eqP hr.units) (pv 8) pe_int (nomark _)) (pe_callKs G_ledger_error hr (by rfl) T.ledger_error.m T.ledger_error.F.kp (kb_ledger_error_value_machine T) pass0 (pk_cons (pv 10) (pk_cons (pv 3) pk_nil))) (pe_call G_ledger_error hr (by rfl) T.ledger_error.m T.ledger_error.F.kp T.ledger_error.b .nil pass0 (pa_cons (pv 3) (pa_cons (pv 10) pa_nil)))))
          (pss_one (ps_if (PW.pt (pw_or (pt_cmpR (show OpR _ _ (rNeP K) from op_neP hr.units) (pe_callB (show CallR _ _ (rShowD K) from call_showD hg hr.units) (by rfl) T.b_repr (by decide +kernel) (pa_cons (pv 11) pa_nil)) (pv 15) (nomark _)) (pw_or (pt_cmpR (show OpR _ _ (rNeP K) from op_neP hr.units) (pe_callB (show CallR _ _ (rShowD K) from call_showD hg hr.units) (by rfl) T.b_repr (by decide +kernel) (pa_cons (pe_call G_ledger_error hr (by rfl) T.ledger_error.m T.ledger_error.F.kp T.ledger_error.b .nil pass0 (pa_cons (pv 3) (pa_cons (pv 10) pa_nil))) pa_nil)) (pv 15) (nomark _)) (pw_or1 (pt_cmpR (show OpR _ _ (rNeP K) from op_neP hr.units) (pe_callB (show CallR _ _ (rShowD K) from call_showD hg hr.units) (by rfl) T.b_repr (by decide +kernel) (pa_cons (pe_lst (pa_cons (pv 3) (pa_cons (pv 10) pa_nil))) pa_nil)) (pv 14) (nomark _)))))) (pss_one (ps_ret pe_bl)) pss_nil)))))))))))))
      (pss_one (ps_ret (pe_cmpR (show OpR _ _ (rEqP K) from op_eqP hr.units) (pe_call G_ledger_error hr (by rfl) T.ledger_error.m T.ledger_error.F.kp T.ledger_error.b .nil pass0 (pa_cons (pe_tup (pa_cons pe_int (pa_cons pe_int (pa_cons pe_int pa_nil)))) (pa_cons (pe_tup (pa_cons (pe_tup (pa_cons (pe_tup (pa_cons pe_int (pa_cons pe_int (pa_cons pe_int pa_nil)))) (pa_cons (pe_tup (pa_cons pe_int (pa_cons pe_int pa_nil))) pa_nil))) (pa_cons (pe_tup (pa_cons pe_int (pa_cons pe_int (pa_cons pe_int pa_nil)))) pa_nil))) pa_nil))) (pe_tup (pa_cons pe_str (pa_cons pe_int pa_nil))) (nomark _)))))), ?_⟩
    refine ⟨_, rfl, s0, ns0, rfl, hS, hlen, fun b g H1 B0 => ?_⟩
    have hb : deckOf boxV (.ref b) (boxV b g) := ⟨b, g, rfl, rfl⟩
    generalize hdk : V.ref b = dk at hb ⊢
    exact law_go (B := boxV b g) B0 (show LS (boxV b g) K Wno _ (b_law dk) from
      (ls_cut (ls_for (li_range1 (la_cons (le_c (y := .int 4) fun _ => .int _) la_nil)) (lg_name (i := 2)) (ls_cut (ls_asg (le_call0 (dk := dk) (c := c__law_machine) hb (la_cons (le_var (i := 1)) (la_cons (le_op (ol_plus) (le_c (y := .int 1) fun _ => .int _) (le_call0 (dk := dk) (c := c__law_draw) hb (la_cons (le_var (i := 1)) (la_cons (le_c (y := .int 5) fun _ => .int _) la_nil)))) (la_cons (le_c (y := .int 12) fun _ => .int _) la_nil)))) (lg_name (i := 3)))
        (ls_cut (ls_asg (le_call0 (dk := dk) (c := c__law_pick) hb (la_cons (le_var (i := 1)) (la_cons (le_lst (la_cons (le_c (y := .int 1) fun _ => .int _) (la_cons (le_c (y := .int 2) fun _ => .int _) (la_cons (le_c (y := .int 3) fun _ => .int _) (la_cons (le_c (y := .int 8) fun _ => .int _) la_nil)))) (by decide)) la_nil))) (lg_name (i := 4)))
        (ls_cut (ls_asg (le_cb cl_tuple (la_cons (le_comp (vs := [16]) (li_range1 (la_cons (le_var (i := 4)) la_nil)) (lg_name (i := 16)) (tg_name (by decide)) lt_yes (le_call0 (dk := dk) (c := c__law_run) hb (la_cons (le_var (i := 1)) (la_cons (le_var (i := 3)) la_nil)))) la_nil)) (lg_name (i := 5)))
        (ls_cut (ls_asg (le_op (ol_plus) (le_var (i := 5)) (le_tup (la_cons (le_call0 (dk := dk) (c := c__law_run) hb (la_cons (le_var (i := 1)) (la_cons (le_var (i := 3)) la_nil))) la_nil) (by decide))) (lg_name (i := 6)))
        (ls_cut (ls_asg (le_lst (la_cons (le_var (i := 5)) (la_cons (le_var (i := 6)) (la_cons (le_cb cl_list (la_cons (le_var (i := 5)) la_nil)) (la_cons (le_tup la_nil (by decide)) (la_cons (le_c (y := .none) fun _ => .non) (la_cons (le_op ol_ix (le_var (i := 5)) (le_c (y := .int 0) fun _ => .int _)) (la_cons (le_tup (la_cons (le_var (i := 5)) la_nil) (by decide)) (la_cons le_dnew (la_cons (le_sl sll_cut (le_op (ol_times) (le_var (i := 6)) (le_c (y := .int 9) fun _ => .int _)) lo_no (lo_some (le_c (y := .int 8) fun _ => .int _))) (la_cons (le_sl sll_cut (le_op (ol_times) (le_var (i := 6)) (le_c (y := .int 9) fun _ => .int _)) lo_no (lo_some (le_c (y := .int 9) fun _ => .int _))) (la_cons (le_c (y := .bool true) fun _ => .bl _) la_nil))))))))))) (by decide)) (lg_name (i := 7)))
        (ls_cut (ls_for (li_range1 (la_cons (le_c (y := .int 9) fun _ => .int _) la_nil)) (lg_name (i := 8)) (ls_cut (ls_par (la_cons (le_call0 (dk := dk) (c := c__law_draw) hb (la_cons (le_var (i := 1)) (la_cons (le_cb cl_len (la_cons (le_var (i := 5)) la_nil)) la_nil))) (la_cons (le_call0 (dk := dk) (c := c__law_draw) hb (la_cons (le_var (i := 1)) (la_cons (le_cb cl_len (la_cons (le_var (i := 5)) la_nil)) la_nil))) la_nil)) (by decide))
          (ls_cut (ls_asg (le_op (ol_plus) (le_op (ol_plus) (le_sl sll_cut (le_var (i := 5)) lo_no (lo_some (le_var (i := 12)))) (le_tup (la_cons (le_call0 (dk := dk) (c := c__law_odd) hb (la_cons (le_var (i := 1)) (la_cons (le_var (i := 3)) (la_cons (le_op ol_ix (le_var (i := 5)) (le_var (i := 12))) la_nil)))) la_nil) (by decide))) (le_sl sll_cut (le_var (i := 5)) (lo_some (le_op (ol_plus) (le_var (i := 12)) (le_c (y := .int 1) fun _ => .int _))) lo_no)) (lg_name (i := 9)))
          (ls_cut (ls_drop (le_app (i := 7) (le_var (i := 9))))
          (ls_drop (le_app (i := 7) (le_op (ol_plus) (le_op (ol_plus) (le_sl sll_cut (le_var (i := 9)) lo_no (lo_some (le_var (i := 13)))) (le_tup (la_cons (le_call0 (dk := dk) (c := c__law_odd) hb (la_cons (le_var (i := 1)) (la_cons (le_var (i := 3)) (la_cons (le_op ol_ix (le_var (i := 5)) (le_var (i := 13))) la_nil)))) la_nil) (by decide))) (le_sl sll_cut (le_var (i := 9)) (lo_some (le_op (ol_plus) (le_var (i := 13)) (le_c (y := .int 1) fun _ => .int _))) lo_no))))))))
        (ls_for (li_enum (la_cons (le_var (i := 7)) la_nil)) (lg_tup (lgs_cons (lg_name (i := 8)) (lgs_cons (lg_name (i := 10)) lgs_nil)) (gC_len (gC_len gN_len))) (ls_cut (ls_par (la_cons (le_cb cl_repr (la_cons (le_lst (la_cons (le_var (i := 3)) (la_cons (le_var (i := 10)) la_nil)) (by decide)) la_nil)) (la_cons (le_cb cl_repr (la_cons (le_call0 (dk := dk) (c := c__law_due) trivial (la_cons (le_var (i := 3)) (la_cons (le_var (i := 10)) la_nil))) la_nil)) la_nil)) (by decide))
          (ls_cut (ls_asg (le_tern (lt_test (le_op (ol_eq) (le_var (i := 8)) (le_c (y := .int 0) fun _ => .int _))) (le_callK0 (dk := dk) (c := c_ledger_error) trivial kw_ledger_error_value_machine la_nil (la_cons (le_var (i := 10)) (la_cons (le_var (i := 3)) la_nil))) (le_call0 (dk := dk) (c := c_ledger_error) trivial (la_cons (le_var (i := 3)) (la_cons (le_var (i := 10)) la_nil)))) (lg_name (i := 11)))
          (ls_if (lt_or (lt_test (le_op (ol_ne) (le_cb cl_repr (la_cons (le_var (i := 11)) la_nil)) (le_var (i := 15)))) (lt_or (lt_test (le_op (ol_ne) (le_cb cl_repr (la_cons (le_call0 (dk := dk) (c := c_ledger_error) trivial (la_cons (le_var (i := 3)) (la_cons (le_var (i := 10)) la_nil))) la_nil)) (le_var (i := 15)))) (lt_test (le_op (ol_ne) (le_cb cl_repr (la_cons (le_lst (la_cons (le_var (i := 3)) (la_cons (le_var (i := 10)) la_nil)) (by decide)) la_nil)) (le_var (i := 14)))))) (ls_ret (le_c (y := .bool false) fun _ => .bl _)) ls_next)))))))))))
      (ls_ret (le_op (ol_eq) (le_call0 (dk := dk) (c := c_ledger_error) trivial (la_cons (le_tup (la_cons (le_c (y := .int 7) fun _ => .int _) (la_cons (le_c (y := .int 11) fun _ => .int _) (la_cons (le_c (y := .int 13) fun _ => .int _) la_nil))) (by decide)) (la_cons (le_tup (la_cons (le_tup (la_cons (le_tup (la_cons (le_c (y := .int 6) fun _ => .int _) (la_cons (le_c (y := .int 4) fun _ => .int _) (la_cons (le_c (y := .int 7) fun _ => .int _) la_nil))) (by decide)) (la_cons (le_tup (la_cons (le_c (y := .int 0) fun _ => .int _) (la_cons (le_c (y := .int 60) fun _ => .int _) la_nil)) (by decide)) la_nil)) (by decide)) (la_cons (le_tup (la_cons (le_c (y := .int 3) fun _ => .int _) (la_cons (le_c (y := .int 0) fun _ => .int _) (la_cons (le_c (y := .int 10) fun _ => .int _) la_nil))) (by decide)) la_nil)) (by decide)) la_nil))) (le_tup (la_cons (le_c (y := .str "run") fun _ => .str _) (la_cons (le_c (y := .int 1) fun _ => .int _) la_nil)) (by decide)))))) (h_law dk) q
end
theorem all_mk {l : PySem.W.OpenLaw} {w : World} {K : PySem.W.Frag} {h : Heap} {mg : Str → Option Value} {fa f1 f2 f3 f4 f5 f6 f7 f8 f9 f10 f11 f12 f13 f14 f15 f16 f17 f18 : Addr} (X : K.In h) (G : h.Ns mainGlobals mg) (hfa : mg "law" = some (.ref fa))
    {od1 an1 od2 an2 od3 an3 od4 an4 od5 an5 od6 an6 od7 an7 od8 an8 od9 an9 od10 an10 od11 an11 od12 an12 od13 an13 od14 an14 od15 an15 od16 an16 od17 an17 od18 an18 : Option Addr} {sl1 sl2 sl3 sl4 sl5 sl6 sl7 sl8 sl9 sl10 sl11 sl12 sl13 sl14 sl15 sl16 sl17 sl18 : Array (Option Value)} {oc1 kV1 dc1 pm1 cd1 ct1 oc2 kV2 dc2 pm2 cd2 ct2 oc3 kV3 dc3 pm3 cd3 ct3 oc4 kV4 dc4 pm4 cd4 ct4 oc5 kV5 dc5 pm5 cd5 ct5 oc6 kV6 dc6 pm6 cd6 ct6 oc7 kV7 dc7 pm7 cd7 ct7 oc8 kV8 dc8 pm8 cd8 ct8 oc9 kV9 dc9 pm9 cd9 ct9 oc10 kV10 dc10 pm10 cd10 ct10 oc11 kV11 dc11 pm11 cd11 ct11 oc12 kV12 dc12 pm12 cd12 ct12 oc13 kV13 dc13 pm13 cd13 ct13 oc14 kV14 dc14 pm14 cd14 ct14 oc15 kV15 dc15 pm15 cd15 ct15 oc16 kV16 dc16 pm16 cd16 ct16 oc17 kV17 dc17 pm17 cd17 ct17 oc18 kV18 dc18 pm18 cd18 ct18 : Value} {u_MAX_NUMBER u_MAX_RUNS : Value}
    (a1 : PySem.W.nsIn K mainGlobals "is_whole" = some (some (.ref f1))) (l1 : K.lookup f1 = some ⟨oc1, od1, .func (PySem.W.fnOf "is_whole" "is_whole" (defArgs s_is_whole) (defBody s_is_whole) (defScope s_is_whole) .none kV1 dc1 pm1 an1 cd1 ct1), sl1⟩) (c1 : PySem.W.codeIn K cd1 "is_whole" = true) (k1 : PySem.W.keepIn K (.ref f1) = true)
    (a2 : PySem.W.nsIn K mainGlobals "is_within" = some (some (.ref f2))) (l2 : K.lookup f2 = some ⟨oc2, od2, .func (PySem.W.fnOf "is_within" "is_within" (defArgs s_is_within) (defBody s_is_within) (defScope s_is_within) .none kV2 dc2 pm2 an2 cd2 ct2), sl2⟩) (c2 : PySem.W.codeIn K cd2 "is_within" = true) (k2 : PySem.W.keepIn K (.ref f2) = true)
    (a3 : PySem.W.nsIn K mainGlobals "is_number" = some (some (.ref f3))) (l3 : K.lookup f3 = some ⟨oc3, od3, .func (PySem.W.fnOf "is_number" "is_number" (defArgs s_is_number) (defBody s_is_number) (defScope s_is_number) .none kV3 dc3 pm3 an3 cd3 ct3), sl3⟩) (c3 : PySem.W.codeIn K cd3 "is_number" = true) (k3 : PySem.W.keepIn K (.ref f3) = true)
    (a4 : PySem.W.nsIn K mainGlobals "word_error" = some (some (.ref f4))) (l4 : K.lookup f4 = some ⟨oc4, od4, .func (PySem.W.fnOf "word_error" "word_error" (defArgs s_word_error) (defBody s_word_error) (defScope s_word_error) .none kV4 dc4 pm4 an4 cd4 ct4), sl4⟩) (c4 : PySem.W.codeIn K cd4 "word_error" = true) (k4 : PySem.W.keepIn K (.ref f4) = true)
    (a5 : PySem.W.nsIn K mainGlobals "stretch_error" = some (some (.ref f5))) (l5 : K.lookup f5 = some ⟨oc5, od5, .func (PySem.W.fnOf "stretch_error" "stretch_error" (defArgs s_stretch_error) (defBody s_stretch_error) (defScope s_stretch_error) .none kV5 dc5 pm5 an5 cd5 ct5), sl5⟩) (c5 : PySem.W.codeIn K cd5 "stretch_error" = true) (k5 : PySem.W.keepIn K (.ref f5) = true)
    (a6 : PySem.W.nsIn K mainGlobals "ledger_error" = some (some (.ref f6))) (l6 : K.lookup f6 = some ⟨oc6, od6, .func (PySem.W.fnOf "ledger_error" "ledger_error" (defArgs s_ledger_error) (defBody s_ledger_error) (defScope s_ledger_error) .none kV6 dc6 pm6 an6 cd6 ct6), sl6⟩) (c6 : PySem.W.codeIn K cd6 "ledger_error" = true) (k6 : PySem.W.keepIn K (.ref f6) = true)
    (a7 : PySem.W.nsIn K mainGlobals "is_ledger_run" = some (some (.ref f7))) (l7 : K.lookup f7 = some ⟨oc7, od7, .func (PySem.W.fnOf "is_ledger_run" "is_ledger_run" (defArgs s_is_ledger_run) (defBody s_is_ledger_run) (defScope s_is_ledger_run) .none kV7 dc7 pm7 an7 cd7 ct7), sl7⟩) (c7 : PySem.W.codeIn K cd7 "is_ledger_run" = true) (k7 : PySem.W.keepIn K (.ref f7) = true)
    (a8 : PySem.W.nsIn K mainGlobals "_law_deck" = some (some (.ref f8))) (l8 : K.lookup f8 = some ⟨oc8, od8, .func (PySem.W.fnOf "_law_deck" "_law_deck" (defArgs s__law_deck) (defBody s__law_deck) (defScope s__law_deck) .none kV8 dc8 pm8 an8 cd8 ct8), sl8⟩) (c8 : PySem.W.codeIn K cd8 "_law_deck" = true) (k8 : PySem.W.keepIn K (.ref f8) = true)
    (a9 : PySem.W.nsIn K mainGlobals "_law_draw" = some (some (.ref f9))) (l9 : K.lookup f9 = some ⟨oc9, od9, .func (PySem.W.fnOf "_law_draw" "_law_draw" (defArgs s__law_draw) (defBody s__law_draw) (defScope s__law_draw) .none kV9 dc9 pm9 an9 cd9 ct9), sl9⟩) (c9 : PySem.W.codeIn K cd9 "_law_draw" = true) (k9 : PySem.W.keepIn K (.ref f9) = true)
    (a10 : PySem.W.nsIn K mainGlobals "_law_pick" = some (some (.ref f10))) (l10 : K.lookup f10 = some ⟨oc10, od10, .func (PySem.W.fnOf "_law_pick" "_law_pick" (defArgs s__law_pick) (defBody s__law_pick) (defScope s__law_pick) .none kV10 dc10 pm10 an10 cd10 ct10), sl10⟩) (c10 : PySem.W.codeIn K cd10 "_law_pick" = true) (k10 : PySem.W.keepIn K (.ref f10) = true)
    (a11 : PySem.W.nsIn K mainGlobals "_law_mixed" = some (some (.ref f11))) (l11 : K.lookup f11 = some ⟨oc11, od11, .func (PySem.W.fnOf "_law_mixed" "_law_mixed" (defArgs s__law_mixed) (defBody s__law_mixed) (defScope s__law_mixed) .none kV11 dc11 pm11 an11 cd11 ct11), sl11⟩) (c11 : PySem.W.codeIn K cd11 "_law_mixed" = true) (k11 : PySem.W.keepIn K (.ref f11) = true)
    (a12 : PySem.W.nsIn K mainGlobals "_law_machine" = some (some (.ref f12))) (l12 : K.lookup f12 = some ⟨oc12, od12, .func (PySem.W.fnOf "_law_machine" "_law_machine" (defArgs s__law_machine) (defBody s__law_machine) (defScope s__law_machine) .none kV12 dc12 pm12 an12 cd12 ct12), sl12⟩) (c12 : PySem.W.codeIn K cd12 "_law_machine" = true) (k12 : PySem.W.keepIn K (.ref f12) = true)
    (a13 : PySem.W.nsIn K mainGlobals "_law_is_integer" = some (some (.ref f13))) (l13 : K.lookup f13 = some ⟨oc13, od13, .func (PySem.W.fnOf "_law_is_integer" "_law_is_integer" (defArgs s__law_is_integer) (defBody s__law_is_integer) (defScope s__law_is_integer) .none kV13 dc13 pm13 an13 cd13 ct13), sl13⟩) (c13 : PySem.W.codeIn K cd13 "_law_is_integer" = true) (k13 : PySem.W.keepIn K (.ref f13) = true)
    (a14 : PySem.W.nsIn K mainGlobals "_law_is_run" = some (some (.ref f14))) (l14 : K.lookup f14 = some ⟨oc14, od14, .func (PySem.W.fnOf "_law_is_run" "_law_is_run" (defArgs s__law_is_run) (defBody s__law_is_run) (defScope s__law_is_run) .none kV14 dc14 pm14 an14 cd14 ct14), sl14⟩) (c14 : PySem.W.codeIn K cd14 "_law_is_run" = true) (k14 : PySem.W.keepIn K (.ref f14) = true)
    (a15 : PySem.W.nsIn K mainGlobals "_law_due" = some (some (.ref f15))) (l15 : K.lookup f15 = some ⟨oc15, od15, .func (PySem.W.fnOf "_law_due" "_law_due" (defArgs s__law_due) (defBody s__law_due) (defScope s__law_due) .none kV15 dc15 pm15 an15 cd15 ct15), sl15⟩) (c15 : PySem.W.codeIn K cd15 "_law_due" = true) (k15 : PySem.W.keepIn K (.ref f15) = true)
    (a16 : PySem.W.nsIn K mainGlobals "_law_run" = some (some (.ref f16))) (l16 : K.lookup f16 = some ⟨oc16, od16, .func (PySem.W.fnOf "_law_run" "_law_run" (defArgs s__law_run) (defBody s__law_run) (defScope s__law_run) .none kV16 dc16 pm16 an16 cd16 ct16), sl16⟩) (c16 : PySem.W.codeIn K cd16 "_law_run" = true) (k16 : PySem.W.keepIn K (.ref f16) = true)
    (a17 : PySem.W.nsIn K mainGlobals "_law_odd" = some (some (.ref f17))) (l17 : K.lookup f17 = some ⟨oc17, od17, .func (PySem.W.fnOf "_law_odd" "_law_odd" (defArgs s__law_odd) (defBody s__law_odd) (defScope s__law_odd) .none kV17 dc17 pm17 an17 cd17 ct17), sl17⟩) (c17 : PySem.W.codeIn K cd17 "_law_odd" = true) (k17 : PySem.W.keepIn K (.ref f17) = true)
    (a18 : PySem.W.nsIn K mainGlobals "law" = some (some (.ref f18))) (l18 : K.lookup f18 = some ⟨oc18, od18, .func (PySem.W.fnOf "law" "law" (defArgs s_law) (defBody s_law) (defScope s_law) .none kV18 dc18 pm18 an18 cd18 ct18), sl18⟩) (c18 : PySem.W.codeIn K cd18 "law" = true) (k18 : PySem.W.keepIn K (.ref f18) = true)
    (z_bool : PySem.W.nsIn K mainGlobals "bool" = some none)
    (z_enumerate : PySem.W.nsIn K mainGlobals "enumerate" = some none)
    (z_int : PySem.W.nsIn K mainGlobals "int" = some none)
    (z_isinstance : PySem.W.nsIn K mainGlobals "isinstance" = some none)
    (z_len : PySem.W.nsIn K mainGlobals "len" = some none)
    (z_list : PySem.W.nsIn K mainGlobals "list" = some none)
    (z_max : PySem.W.nsIn K mainGlobals "max" = some none)
    (z_range : PySem.W.nsIn K mainGlobals "range" = some none)
    (z_repr : PySem.W.nsIn K mainGlobals "repr" = some none)
    (z_tuple : PySem.W.nsIn K mainGlobals "tuple" = some none)
    (z_zip : PySem.W.nsIn K mainGlobals "zip" = some none)
    (y_MAX_NUMBER : PySem.W.nsIn K mainGlobals "MAX_NUMBER" = some (some u_MAX_NUMBER)) (r_MAX_NUMBER : RelV v_MAX_NUMBER u_MAX_NUMBER)
    (y_MAX_RUNS : PySem.W.nsIn K mainGlobals "MAX_RUNS" = some (some u_MAX_RUNS)) (r_MAX_RUNS : RelV v_MAX_RUNS u_MAX_RUNS)
    : ∃ fd : FuncData, (∀ (s : Shared) (v : Value), BindsTo s fd ⟨[v], []⟩ [("script", v)]) ∧ ∀ base : Heap, K.In base → base.Ns mainGlobals mg → FnG l.prog w K mg base CX0 7 fa fd ["script"] (sp_law K) := by
  have e := hfa.symm.trans (PySem.W.mg_of X G a18)
  cases e
  have F1 := fun_mk (st := s_is_whole) l1 c1 k1
  have b1 := F1.binds (ps := ["value"]) fun _ _ _ _ _ _ us hl => match us, hl with | [_], _ => rfl
  have F2 := fun_mk (st := s_is_within) l2 c2 k2
  have b2 := F2.binds (ps := ["value", "low", "high"]) fun _ _ _ _ _ _ us hl => match us, hl with | [_, _, _], _ => rfl
  have F3 := fun_mk (st := s_is_number) l3 c3 k3
  have b3 := F3.binds (ps := ["value"]) fun _ _ _ _ _ _ us hl => match us, hl with | [_], _ => rfl
  have F4 := fun_mk (st := s_word_error) l4 c4 k4
  have b4 := F4.binds (ps := ["machine", "value"]) fun _ _ _ _ _ _ us hl => match us, hl with | [_, _], _ => rfl
  have F5 := fun_mk (st := s_stretch_error) l5 c5 k5
  have b5 := F5.binds (ps := ["value"]) fun _ _ _ _ _ _ us hl => match us, hl with | [_], _ => rfl
  have F6 := fun_mk (st := s_ledger_error) l6 c6 k6
  have b6 := F6.binds (ps := ["machine", "value"]) fun _ _ _ _ _ _ us hl => match us, hl with | [_, _], _ => rfl
  have F7 := fun_mk (st := s_is_ledger_run) l7 c7 k7
  have b7 := F7.binds (ps := ["machine", "value"]) fun _ _ _ _ _ _ us hl => match us, hl with | [_, _], _ => rfl
  have F8 := fun_mk (st := s__law_deck) l8 c8 k8
  have b8 := F8.binds (ps := ["script"]) fun _ _ _ _ _ _ us hl => match us, hl with | [_], _ => rfl
  have F9 := fun_mk (st := s__law_draw) l9 c9 k9
  have b9 := F9.binds (ps := ["deck", "many"]) fun _ _ _ _ _ _ us hl => match us, hl with | [_, _], _ => rfl
  have F10 := fun_mk (st := s__law_pick) l10 c10 k10
  have b10 := F10.binds (ps := ["deck", "items"]) fun _ _ _ _ _ _ us hl => match us, hl with | [_, _], _ => rfl
  have F11 := fun_mk (st := s__law_mixed) l11 c11 k11
  have b11 := F11.binds (ps := ["deck", "items"]) fun _ _ _ _ _ _ us hl => match us, hl with | [_, _], _ => rfl
  have F12 := fun_mk (st := s__law_machine) l12 c12 k12
  have b12 := F12.binds (ps := ["deck", "n", "most"]) fun _ _ _ _ _ _ us hl => match us, hl with | [_, _, _], _ => rfl
  have F13 := fun_mk (st := s__law_is_integer) l13 c13 k13
  have b13 := F13.binds (ps := ["value"]) fun _ _ _ _ _ _ us hl => match us, hl with | [_], _ => rfl
  have F14 := fun_mk (st := s__law_is_run) l14 c14 k14
  have b14 := F14.binds (ps := ["machine", "value"]) fun _ _ _ _ _ _ us hl => match us, hl with | [_, _], _ => rfl
  have F15 := fun_mk (st := s__law_due) l15 c15 k15
  have b15 := F15.binds (ps := ["machine", "value"]) fun _ _ _ _ _ _ us hl => match us, hl with | [_, _], _ => rfl
  have F16 := fun_mk (st := s__law_run) l16 c16 k16
  have b16 := F16.binds (ps := ["deck", "machine"]) fun _ _ _ _ _ _ us hl => match us, hl with | [_, _], _ => rfl
  have F17 := fun_mk (st := s__law_odd) l17 c17 k17
  have b17 := F17.binds (ps := ["deck", "machine", "single"]) fun _ _ _ _ _ _ us hl => match us, hl with | [_, _, _], _ => rfl
  have F18 := fun_mk (st := s_law) l18 c18 k18
  have b18 := F18.binds (ps := ["script"]) fun _ _ _ _ _ _ us hl => match us, hl with | [_], _ => rfl
  have T : Txt K mg ⟨f1, _, f2, _, f3, _, f4, _, f5, _, f6, _, f7, _, f8, _, f9, _, f10, _, f11, _, f12, _, f13, _, f14, _, f15, _, f16, _, f17, _, fa, _⟩ := ⟨⟨F1, b1, PySem.W.mg_of X G a1⟩, ⟨F2, b2, PySem.W.mg_of X G a2⟩, ⟨F3, b3, PySem.W.mg_of X G a3⟩, ⟨F4, b4, PySem.W.mg_of X G a4⟩, ⟨F5, b5, PySem.W.mg_of X G a5⟩, ⟨F6, b6, PySem.W.mg_of X G a6⟩, ⟨F7, b7, PySem.W.mg_of X G a7⟩, ⟨F8, b8, PySem.W.mg_of X G a8⟩, ⟨F9, b9, PySem.W.mg_of X G a9⟩, ⟨F10, b10, PySem.W.mg_of X G a10⟩, ⟨F11, b11, PySem.W.mg_of X G a11⟩, ⟨F12, b12, PySem.W.mg_of X G a12⟩, ⟨F13, b13, PySem.W.mg_of X G a13⟩, ⟨F14, b14, PySem.W.mg_of X G a14⟩, ⟨F15, b15, PySem.W.mg_of X G a15⟩, ⟨F16, b16, PySem.W.mg_of X G a16⟩, ⟨F17, b17, PySem.W.mg_of X G a17⟩, ⟨F18, b18, PySem.W.mg_of X G a18⟩, PySem.W.mg_none_of X G z_bool, PySem.W.mg_none_of X G z_enumerate, PySem.W.mg_none_of X G z_int, PySem.W.mg_none_of X G z_isinstance, PySem.W.mg_none_of X G z_len, PySem.W.mg_none_of X G z_list, PySem.W.mg_none_of X G z_max, PySem.W.mg_none_of X G z_range, PySem.W.mg_none_of X G z_repr, PySem.W.mg_none_of X G z_tuple, PySem.W.mg_none_of X G z_zip, ⟨_, PySem.W.mg_of X G y_MAX_NUMBER, r_MAX_NUMBER⟩, ⟨_, PySem.W.mg_of X G y_MAX_RUNS, r_MAX_RUNS⟩⟩
  exact ⟨_, fun s v => .of_eq rfl, fun base _ _ => ok_law T⟩
end K46
open PySem PySem.W PyProof.Rows
set_option maxHeartbeats 0 in
theorem PySem.Challenge.cw_straylanes_k46_what_is_a_ledger_holds : PySem.Challenge.rw_straylanes_k46_what_is_a_ledger.Holds := by
  w_on; o_law; k_head; (case hw => w_witness2)
  k_fill
  refine Sx.walkG (l := PySem.Challenge.rw_straylanes_k46_what_is_a_ledger) (n := 63) (k := 7) (x := "script") (sp := Sx.sp_law) rfl (by decide) rfl ⟨rfl, by decide, by decide⟩ (fun w h Y => PySem.W.kIn_of Y) ?F (fun _ _ a ns hl _ hS => ⟨a, ns, rfl, hS, hl, fun _ => rfl⟩)
  case F =>
    intro w mg fa h KX G hmg
    refine' K46.all_mk KX G hmg ?a1 ?l1 ?c1 ?k1 ?a2 ?l2 ?c2 ?k2 ?a3 ?l3 ?c3 ?k3 ?a4 ?l4 ?c4 ?k4 ?a5 ?l5 ?c5 ?k5 ?a6 ?l6 ?c6 ?k6 ?a7 ?l7 ?c7 ?k7 ?a8 ?l8 ?c8 ?k8 ?a9 ?l9 ?c9 ?k9 ?a10 ?l10 ?c10 ?k10 ?a11 ?l11 ?c11 ?k11 ?a12 ?l12 ?c12 ?k12 ?a13 ?l13 ?c13 ?k13 ?a14 ?l14 ?c14 ?k14 ?a15 ?l15 ?c15 ?k15 ?a16 ?l16 ?c16 ?k16 ?a17 ?l17 ?c17 ?k17 ?a18 ?l18 ?c18 ?k18 ?z_bool ?z_enumerate ?z_int ?z_isinstance ?z_len ?z_list ?z_max ?z_range ?z_repr ?z_tuple ?z_zip ?y_MAX_NUMBER ?r_MAX_NUMBER ?y_MAX_RUNS ?r_MAX_RUNS
    (case a1 => k_is)
    (case l1 => k_is)
    (case c1 => k_is)
    (case k1 => k_is)
    (case a2 => k_is)
    (case l2 => k_is)
    (case c2 => k_is)
    (case k2 => k_is)
    (case a3 => k_is)
    (case l3 => k_is)
    (case c3 => k_is)
    (case k3 => k_is)
    (case a4 => k_is)
    (case l4 => k_is)
    (case c4 => k_is)
    (case k4 => k_is)
    (case a5 => k_is)
    (case l5 => k_is)
    (case c5 => k_is)
    (case k5 => k_is)
    (case a6 => k_is)
    (case l6 => k_is)
    (case c6 => k_is)
    (case k6 => k_is)
    (case a7 => k_is)
    (case l7 => k_is)
    (case c7 => k_is)
    (case k7 => k_is)
    (case a8 => k_is)
    (case l8 => k_is)
    (case c8 => k_is)
    (case k8 => k_is)
    (case a9 => k_is)
    (case l9 => k_is)
    (case c9 => k_is)
    (case k9 => k_is)
    (case a10 => k_is)
    (case l10 => k_is)
    (case c10 => k_is)
    (case k10 => k_is)
    (case a11 => k_is)
    (case l11 => k_is)
    (case c11 => k_is)
    (case k11 => k_is)
    (case a12 => k_is)
    (case l12 => k_is)
    (case c12 => k_is)
    (case k12 => k_is)
    (case a13 => k_is)
    (case l13 => k_is)
    (case c13 => k_is)
    (case k13 => k_is)
    (case a14 => k_is)
    (case l14 => k_is)
    (case c14 => k_is)
    (case k14 => k_is)
    (case a15 => k_is)
    (case l15 => k_is)
    (case c15 => k_is)
    (case k15 => k_is)
    (case a16 => k_is)
    (case l16 => k_is)
    (case c16 => k_is)
    (case k16 => k_is)
    (case a17 => k_is)
    (case l17 => k_is)
    (case c17 => k_is)
    (case k17 => k_is)
    (case a18 => k_is)
    (case l18 => k_is)
    (case c18 => k_is)
    (case k18 => k_is)
    (case z_bool => k_is)
    (case z_enumerate => k_is)
    (case z_int => k_is)
    (case z_isinstance => k_is)
    (case z_len => k_is)
    (case z_list => k_is)
    (case z_max => k_is)
    (case z_range => k_is)
    (case z_repr => k_is)
    (case z_tuple => k_is)
    (case z_zip => k_is)
    (case y_MAX_NUMBER => k_is)
    (case r_MAX_NUMBER => exact ⟨_, rfl⟩)
    (case y_MAX_RUNS => k_is)
    (case r_MAX_RUNS => exact ⟨_, rfl⟩)
