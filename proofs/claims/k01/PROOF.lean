import PyProof.Rows.All
import Wide.All
import OpenK.AllK
import Wide.FinOn
import PyProof.ReprRoads
import PyProof.ReprLen
import HandS.ForMost
import HandS.Wide
import HandS.IsInst
import HandS.Walk
import HandS.Zip
import HandS.TupAny
import HandS.TupMul
import HandS.SortInts
import HandS.Flow
import HandS.Evl
import KE.GoesEnum
import KE.GoesMore
import KE.GoesZip
import KE.DataMinMax
import HandS.Conv
import PyProof.ReprReads
import PyProof.ReprDict
import HandS.TupLe
import HandS.Style
import PyProof.NeKinds
import KE.KUnpack
import PySem.Challenge.RW_straylanes_k01_what_is_a_machine_a_word
set_option maxHeartbeats 4000000
set_option Elab.async false
set_option linter.all false
set_option maxRecDepth 100000
/-! The layer below: defs whose call knows that no repr is under way, repr of data, calls by keywords alone, rules of either kind. -/
namespace Sx
open PySem PySem.Spec PyProof.Rows L2

/-! ### a def that shows data: called where no repr is under way -/
structure FnG (P : Program) (w : World) (K : PySem.W.Frag) (mg : Str → Option Value) (B : Heap) (CX : CXT) (n : Nat) (f : Addr) (fd : FuncData) (ps : List Str) (sp : Sp) : Prop where
  lenG : ∀ vs H Q E, sp vs H Q E → vs.length = ps.length
  runG : ∀ (A : Around) (out : List Env) (s : Shared) (H : Hp) (as : Args) (us : List Value) (vs : List V) (Q : VK) (E : XK), A.guards = some [] → Room n A →
    Env0 P w K mg B A out s H → BindsTo s fd as (ps.zip us) → Vals vs us → sp vs H Q E → codeAny (model P w) A (.call (.ref f) as) (CR CX out P w H s Q E) s

section
variable {P : Program} {w : World} {K : PySem.W.Frag} {mg : Str → Option Value} {B : Heap} {CX : CXT}
theorem FnG.up {n m : Nat} {f : Addr} {fd : FuncData} {ps : List Str} {sp : Sp} (F : FnG P w K mg B CX n f fd ps sp) (h : n ≤ m) : FnG P w K mg B CX m f fd ps sp :=
  ⟨F.lenG, fun A out s H as us vs Q E hg hr => F.runG A out s H as us vs Q E hg (hr.mono h)⟩
/-- from the body, for a def that may raise -/
theorem okGX {x qual : Str} {st : Stmt} {f : Addr} {fd : FuncData} {N ps : List Str} {n : Nat} {sp : Sp} (F : Fun K x qual st f fd) (S : FnScope N ps (defScope st)) (hlen : ∀ vs H Q E, sp vs H Q E → vs.length = ps.length)
    (body : ∀ (cd : Value) (A : Around) (out : List Env) (s : Shared) (H : Hp) (vs : List V) (Q : VK) (E : XK), A.guards = some [] → Room n (A.deeper (envOfC qual (defScope st) s.heap.objs.size f cd)) → sp vs H Q E →
      ∃ t, PSs (cxOf CX P w K mg B N qual (defScope st) f cd A out s H E) (defBody st) t ∧ t { nx := fun _ H1 => Q .non H1, rt := Q } (start N vs) H) : FnG P w K mg B CX (n + 1) f fd ps sp := by
  obtain ⟨oc, od, kV, doc, pm, an, cd, ct, osl, rfl, lk, hcd⟩ := F.ex
  refine ⟨hlen, ?_⟩
  intro A out s H as us vs Q E hg hr e0 hb rel hsp
  have hl := hlen vs H Q E hsp
  have kin : K.In s.heap := e0.mod.kin.keeps (fun b o e => (e0.bs b o e).1)
  have nol : s.heap.NoLimit := e0.mod.nolimit.keeps (fun b o e => (e0.bs b o e).1)
  refine codeAny_call_function hr.depth (kin _ _ lk) rfl S.co S.gen rfl (PySem.W.codeRec_of kin hcd)
    (hb _ _ _ _ ?_)
  refine wpAny_newFunctionEnv_cells S.kind (fun y hy => (S.par y.1 (List.of_mem_zip (a := y.1) (b := y.2) hy).1).elim (fun q => Or.inl q) fun q => Or.inr ⟨q, PySem.W.cellsFrom_some _ _ _ (Or.inl q)⟩) ?_
  intro env he s1 x
  subst he
  refine ⟨nol.keeps x.toInCall.keep, codeAny_func ?_⟩
  obtain ⟨t, ht, hq⟩ := body cd A out s H vs Q E hg (hr.deeper _) hsp
  have I := inv_start (CX := CX) (E := E) S hr.hd e0 hl rel x
  refine wpAny_mono (ht.run [] s1 (start N vs) H _ I hq) ?_ (fun _ _ z => z)
  intro fl s' hs
  cases fl with
  | ret u =>
    obtain ⟨v, σ1, H1, J, rv, q⟩ := hs
    exact (show CE out P w H s Q u s' from ⟨v, H1, J.os, J.bare, J.base, J.hok, rv, q⟩)
  | next =>
    obtain ⟨σ1, H1, J, q⟩ := hs
    exact (show CE out P w H s Q Value.none s' from ⟨V.non, H1, J.os, J.bare, J.base, J.hok, rfl, q⟩)
  | brk =>
    obtain ⟨_, _, _, q⟩ := hs
    exact q.elim
  | cont =>
    obtain ⟨_, _, _, q⟩ := hs
    exact q.elim
theorem okG {x qual : Str} {st : Stmt} {f : Addr} {fd : FuncData} {N ps : List Str} {n : Nat} {sp : Sp} (F : Fun K x qual st f fd) (S : FnScope N ps (defScope st)) (hlen : ∀ vs H Q E, sp vs H Q E → vs.length = ps.length)
    (body : ∀ (cd : Value) (A : Around) (out : List Env) (s : Shared) (H : Hp) (vs : List V) (Q : VK) (E : XK), A.guards = some [] → Room n (A.deeper (envOfC qual (defScope st) s.heap.objs.size f cd)) → sp vs H Q E →
      ∃ t, PSs (cxOf CX0 P w K mg B N qual (defScope st) f cd A out s H E).nox (defBody st) t ∧ t { nx := fun _ H1 => Q .non H1, rt := Q } (start N vs) H) : FnG P w K mg B CX0 (n + 1) f fd ps sp :=
  okGX F S hlen fun cd A out s H vs Q E hg hr hsp => let ⟨t, h, q⟩ := body cd A out s H vs Q E hg hr hsp; ⟨t, h.nox, q⟩
end

section
variable {X : Cx} {CX : CXT} {n : Nat} {f : Addr} {fd : FuncData} {ps : List Str} {sp : Sp} {dvs : List V} {ds : List Value} {E : XK} {x : Str} {p pos : Pos} {e : Expr} {es : List Expr} {t : TA}
theorem run_fnG {pins : List (Addr × Obj)} {σ : L2.St} {H : Hp} {s : Shared} {Q : VK} {us : List Value} {vs : List V} (hg : X.A.guards = some []) (F : FnG X.prog X.w X.K X.mg X.base CX n f fd ps sp) (hr : Room n X.A) (hb : Binds X.K fd ps [])
    (hx : Passes CX X E) (I : Inv X pins σ H s) (r : Vals vs us) (h : sp vs H Q E) : wpAny (model X.prog X.w) X.A (call (.ref f) us) (EP X pins σ Q) X.xe s := by
  have hl : (us ++ []).length = ps.length := by
    rw [List.append_nil, ← r.length]
    exact F.lenG _ _ _ _ h
  have bb := hb s us I.kIn hl
  rw [List.append_nil] at bb
  refine wpAny_call (codeAny_mono (F.runG X.A X.stack s H ⟨us, []⟩ us vs Q E hg hr I.env0 bb r h) ?_)
  intro res s' hq
  match res, hq with
  | .error e, hq => exact hx pins σ H s e s' I hq
  | .ok (.ret u), hq => exact I.after hq
  | .ok .next, hq => exact False.elim hq
  | .ok .brk, hq => exact False.elim hq
  | .ok .cont, hq => exact False.elim hq
theorem pe_callG (hg : X.A.guards = some []) (F : FnG X.prog X.w X.K X.mg X.base CX n f fd ps sp) (hr : Room n X.A) (hgl : Gl X x) (hm : X.mg x = some (.ref f)) (hk : PySem.W.keepIn X.K (.ref f) = true) (hb : Binds X.K fd ps [])
    (hx : Passes CX X E) (ha : PA X (e :: es) t) (hdb : (x == ("__debug__" : Str)) = false := by decide) (he : starEach (e :: es) X.env = (false, eval e X.env) :: starEach es X.env := by rfl)
    (hpl : (backTo pos (starEach es X.env)).any (·.1) = false := by rfl) : PE X (.Call (.Name x p) (e :: es) [] pos) (tCall sp [] E t) := by
  refine ⟨fun pins s σ H Q I h => wpAny_Call_Name_kw (ld_glob I hgl hm ?_ hdb)⟩
  refine PySem.W.callWith_K (h₀ := X.base) I.ok.mod.kin hk (thn (ha.run pos pins s σ H _ I h) ?_) he hpl
  rintro us s1 ⟨vs, H1, I1, r, q⟩
  have q' : sp (vs ++ []) H1 Q E := q
  rw [List.append_nil] at q'
  exact ⟨I1.kIn, run_fnG hg F hr hb hx I1 r q'⟩
/-- f(k = v, ..), no positional argument -/
theorem pe_callKs {ks : List Str} {kws : List Keyword} {tk : TA} {g : List Value → List Value → List Value} {gV : List V → List V → List V} (F : FnOk X.prog X.w X.K X.mg X.base CX n f fd ps sp) (hr : Room n X.A) (hgl : Gl X x) (hm : X.mg x = some (.ref f))
    (hk : PySem.W.keepIn X.K (.ref f) = true) (hb : KBinds X.K fd ps ks g gV) (hx : Passes CX X E) (hkw : PK X kws tk) (hall : (backToKw pos (keywordEach kws X.env)).all (·.1.isSome) = true := by rfl)
    (hks : (backToKw pos (keywordEach kws X.env)).filterMap (·.1) = ks := by rfl) (hdb : (x == ("__debug__" : Str)) = false := by decide)
    (hpl : ((backTo pos (starEach [] X.env)).any (·.1) || (backToKw pos (keywordEach kws X.env)).any (·.1.isNone)) = false := by rfl) : PE X (.Call (.Name x p) [] kws pos) (tCallK sp gV E tNil tk) := by
  refine ⟨fun pins s σ H Q I h => wpAny_Call_Name_kw (ld_glob I hgl hm ?_ hdb)⟩
  refine PySem.W.callWith_KW0 (h₀ := X.base) I.ok.mod.kin hk hall (thn (hkw.run pos pins s σ H _ I h) ?_) hpl
  rintro ws s2 ⟨zs, H2, I2, rz, q2⟩
  refine ⟨I2.kIn, ?_⟩
  rw [hks]
  exact run_fnk (us := []) (vs := []) F hr hb hx I2 .nil rz q2
end

/-! ### how keywords bind, by the parameters' names alone -/
theorem Fun.kb {K : PySem.W.Frag} {x qual : Str} {st : Stmt} {f : Addr} {fd : FuncData} {ps ks : List Str} {g : List Value → List Value → List Value} {gV : List V → List V → List V} (F : Fun K x qual st f fd)
    (h : ∀ (kV doc pm : Value) (an : Option Addr) (cd ct : Value) (us ws : List Value), (g us ws).length = ps.length → bindArgs (PySem.W.fnOf x qual (defArgs st) (defBody st) (defScope st) .none kV doc pm an cd ct) ⟨us, ks.zip ws⟩ = pure (ps.zip (g us ws)))
    (rel : ∀ {vs : List V} {us : List Value} {zs : List V} {ws : List Value}, Vals vs us → Vals zs ws → Vals (gV vs zs) (g us ws)) : KBinds K fd ps ks g gV := by
  obtain ⟨oc, od, kV, doc, pm, an, cd, ct, osl, rfl, lk, hcd⟩ := F.ex
  exact ⟨fun s us ws _ hl => .of_eq (h kV doc pm an cd ct us ws hl), rel⟩

/-! ### repr of data -/
mutual
theorem dp_plain {K : PySem.W.Frag} {H : Hp} : ∀ (d : PyData) (v : V), Dp K H v d → d.hasDict = false
  | .none, _, _ => by simp only [PyData.hasDict]
  | .bool _, _, _ => by simp only [PyData.hasDict]
  | .int _, _, _ => by simp only [PyData.hasDict]
  | .str _, _, _ => by simp only [PyData.hasDict]
  | .list ds, _, h => by
    cases h with
    | lst _ ha =>
      simp only [PyData.hasDict]
      exact dp_plainAll ds _ ha
  | .tuple ds, _, h => by
    cases h with
    | tup _ ha =>
      simp only [PyData.hasDict]
      exact dp_plainAll ds _ ha
  | .dict _, _, h => by cases h
theorem dp_plainAll {K : PySem.W.Frag} {H : Hp} : ∀ (ds : List PyData) (vs : List V), DpAll K H vs ds → PyData.hasDictAll ds = false
  | [], _, _ => by simp only [PyData.hasDictAll]
  | d :: ds, _, h => by
    cases h with
    | cons h1 h2 =>
      simp only [PyData.hasDictAll, dp_plain d _ h1, dp_plainAll ds _ h2, Bool.or_self]
end
/-- what may be shown -/
structure Shows (d : PyData) : Prop where
  ok : d.showable = true
  sz : d.shown.length ≤ sizeLine
  dp : d.depth ≤ 60
def rShow (K : PySem.W.Frag) : List V → Hp → VK → Prop := fun xs H Q => ∃ v d, xs = [v] ∧ Dp K H v d ∧ Shows d ∧ Q (.str d.shown) H
theorem call_show {X : Cx} (hg : X.A.guards = some []) (hu : X.A.units + 64 < cLine) : CallR X (.builtin "repr") (rShow X.K) := by
  intro pins s σ H xs us Q I r h
  obtain ⟨v, d, rfl, hd, S, q⟩ := h
  obtain ⟨u, rfl, r1⟩ := vals1 r
  have q0 : (PyData.shown d) = d.shown := rfl
  cases hd with
  | non =>
    obtain rfl : u = Value.none := r1
    simp only [PyData.shown] at q
    exact PySem.P.repr_of_none ⟨.str _, H, I.tok _, ⟨_, rfl⟩, q⟩
  | bl b =>
    obtain rfl : u = Value.bool b := r1
    simp only [PyData.shown] at q
    exact PySem.P.repr_of_bool ⟨.str _, H, I.tok _, ⟨_, rfl⟩, by cases b <;> exact q⟩
  | int i =>
    obtain ⟨t, rfl⟩ := r1
    have hs := S.ok
    simp only [PyData.shown] at q
    exact PySem.P.repr_of_int (by simpa [PyData.showable] using hs) ⟨.str _, H, I.tok _, ⟨_, rfl⟩, q⟩
  | str y =>
    obtain ⟨t, rfl⟩ := r1
    have hz := S.sz
    simp only [PyData.shown] at q hz
    exact PySem.P.repr_of_str ⟨.str _, H, I.tok _, ⟨_, rfl⟩, q⟩ hz
  | @lst a ys ds h1 h2 =>
    obtain rfl : u = Value.ref a := r1
    have hp := dp_plain _ _ (Dp.lst h1 h2)
    obtain ⟨as, rd⟩ := Dp.reads I _ (V.ref a) (Value.ref a) (Dp.lst h1 h2) rfl
    exact repr_of_reads' rd S.ok (PyData.noDict_hsm hp) hg (by have := S.dp; omega) (fun _ _ e => e) (fun h' tu tk hk => ⟨.str _, H, I.kept hk, ⟨_, rfl⟩, q⟩) S.sz
  | @tup a ys ds h1 h2 =>
    obtain rfl : u = Value.ref a := r1
    have hp := dp_plain _ _ (Dp.tup h1 h2)
    obtain ⟨as, rd⟩ := Dp.reads I _ (V.ref a) (Value.ref a) (Dp.tup h1 h2) rfl
    exact repr_of_reads' rd S.ok (PyData.noDict_hsm hp) hg (by have := S.dp; omega) (fun _ _ e => e) (fun h' tu tk hk => ⟨.str _, H, I.kept hk, ⟨_, rfl⟩, q⟩) S.sz
end Sx
namespace Sx
open PySem PySem.Spec PyProof.Rows L2

/-! ### the law's end, for a law that shows data -/
section
variable {P : Program} {w : World} {K : PySem.W.Frag} {mg mb : Str → Option Value} {n : Nat} {fa a : Addr} {fd : FuncData} {x : Str} {sp : Sp} {s : Shared} {us : List Value} {ns : List Int}
abbrev Good (s : Shared) : Result → Shared → Prop := fun r s' => r = .ok (.ret (.bool true)) ∧ OldK s.heap s'.heap ∧ s'.os = s.os ∧ AllBare s'.gens
/-- from an abstract heap in which the script alone may stand -/
theorem law_from (kin : K.In s.heap) (hns : s.heap.Ns mainGlobals mg) (hb : s.heap.Ns builtinsNs mb) (hbb : ∀ x : Str, x ≠ "__name__" → mb x = bootBuiltins x) (hlim : s.heap.NoLimit) (hgens : s.gens = #[])
    (ha : s.heap.get? a = some { cls := .type "list", data := .seq us.toArray }) (hr : Room n callerA)
    (F : ∀ B : Heap, K.In B → B.Ns mainGlobals mg → FnG P w K mg B CX0 n fa fd [x] sp) (hbind : ∀ (s : Shared) (u : Value), BindsTo s fd ⟨[u], []⟩ [(x, u)]) (H : Hp)
    (hsp : sp [.ref a] H (fun v _ => v = .bl true) fun _ _ _ => False) (only : Only H) (ok : HOk P w H s.heap) (one : ∀ b, H b ≠ none → b = a) (apart : H a ≠ none → K.lookup a = none) :
    codeAny (model P w) callerA (.call (.ref fa) ⟨[.ref a], []⟩) (Good s) s := by
  have free : ∀ {b : Addr} {o : Obj} {es : Array DictEntry} {ep : Nat}, s.heap.get? b = some o → o.data = .dict es ep → H b = none := by
    intro b o es ep e d
    cases q : H b with
    | none => rfl
    | some z =>
      obtain rfl : b = a := one b (by rw [q]; exact fun z => nomatch z)
      rw [ha] at e
      cases e
      exact nomatch (show Data.seq us.toArray _ = Data.dict es ep from d)
  have hidN : ∀ {b : Addr} {m : Str → Option Value}, s.heap.Ns b m → (hidT s.heap H).Ns b m := by
    rintro b m ⟨o, es, ep, e, d, r⟩
    exact ⟨o, es, ep, hidT_get e (free e d), d, r⟩
  have hidK : K.In (hidT s.heap H) := by
    intro b o e
    refine hidT_get (kin b o e) ?_
    cases q : H b with
    | none => rfl
    | some z =>
      obtain rfl : b = a := one b (by rw [q]; exact fun z => nomatch z)
      rw [apart (by rw [q]; exact fun z => nomatch z)] at e
      cases e
  have M : Mod K mg (hidT s.heap H) := by
    obtain ⟨mc, h1, h2⟩ := hlim
    exact ⟨hidK, hidN hns, ⟨mb, hidN hb, hbb⟩, ⟨mc, hidN h1, h2⟩⟩
  have e0 : Env0 P w K mg (hidT s.heap H) callerA [] s H :=
    ⟨rfl, M, fun b o e => of_hidT e, Nat.le_of_eq (hidT_size _ _), trivial, fun b z => (List.not_mem_nil (a := b) z).elim, ok, .of_eq hgens⟩
  refine codeAny_mono ((F _ hidK (hidN hns)).runG callerA [] s H ⟨[.ref a], []⟩ [.ref a] [.ref a] _ _ rfl hr e0 (hbind s (.ref a)) (.cons rfl .nil) hsp) ?_
  intro r s' h
  match r, h with
  | .error e, h => exact (show False from h).elim
  | .ok .next, h => exact (show False from h).elim
  | .ok .brk, h => exact (show False from h).elim
  | .ok .cont, h => exact (show False from h).elim
  | .ok (.ret u), h =>
    obtain ⟨v, H1, os, bare, un, ok1, rv, q⟩ := h
    obtain rfl : v = .bl true := q
    obtain rfl : u = Value.bool true := rv
    refine ⟨rfl, OldK.of_keep ?_, os, bare⟩
    intro b o e
    cases q : H b with
    | none => exact un.keep b o e q (List.not_mem_nil (a := b)) (List.not_mem_nil (a := b))
    | some z =>
      rcases only b with h | ⟨ob, xs, h⟩
      · rw [q] at h
        cases h
      · obtain ⟨e1, _⟩ := ok b _ h
        obtain ⟨e2, _⟩ := ok1 b _ (un.frzs b ob _ h)
        rw [e] at e1
        cases e1
        exact e2
theorem law_callG (kin : K.In s.heap) (hns : s.heap.Ns mainGlobals mg) (hb : s.heap.Ns builtinsNs mb) (hbb : ∀ x : Str, x ≠ "__name__" → mb x = bootBuiltins x) (hlim : s.heap.NoLimit) (hgens : s.gens = #[])
    (ha : s.heap.get? a = some { cls := .type "list", data := .seq us.toArray }) (hi : IntsAre us ns) (hl : ns.length ≤ sizeLine) (hr : Room n callerA)
    (F : ∀ B : Heap, K.In B → B.Ns mainGlobals mg → FnG P w K mg B CX0 n fa fd [x] sp) (hbind : ∀ (s : Shared) (u : Value), BindsTo s fd ⟨[u], []⟩ [(x, u)])
    (hsp : ∀ H : Hp, Only H → SqL K H a (ns.map V.int) → sp [.ref a] H (fun v _ => v = .bl true) fun _ _ _ => False) : codeAny (model P w) callerA (.call (.ref fa) ⟨[.ref a], []⟩) (Good s) s := by
  have rv := vals_ints hi
  cases hk : K.lookup a with
  | some o =>
    have e := kin a o hk
    rw [ha] at e
    cases e
    have hO : Only (fun _ => none) := fun _ => Or.inl rfl
    refine law_from kin hns hb hbb hlim hgens ha hr F hbind (fun _ => none) (hsp _ hO (.inr ⟨_, us.toArray, _, hk, rfl, rfl, rfl, ?_, ?_⟩)) hO (fun b z h => nomatch h) (fun b z => absurd rfl z) (fun z => absurd rfl z)
    · rw [List.size_toArray, hi.length]
      exact hl
    · simpa using rv
  | none =>
    let ob : Obj := { cls := .type "list", data := .seq us.toArray }
    let H0 : Hp := fun b => if b = a then some (.frz ob (.lst (ns.map V.int))) else none
    have at_a : H0 a = some (.frz ob (.lst (ns.map V.int))) := if_pos rfl
    have off_a : ∀ b, b ≠ a → H0 b = none := fun b h => if_neg h
    have hO : Only H0 := by
      intro b
      by_cases h : b = a
      · rw [h]
        exact Or.inr ⟨_, _, at_a⟩
      · exact Or.inl (off_a b h)
    refine law_from kin hns hb hbb hlim hgens ha hr F hbind H0 (hsp _ hO (.inl (.inr ⟨ob, at_a⟩))) hO ?_ ?_ (fun _ => hk)
    · intro b z h
      by_cases hb : b = a
      · subst hb
        rw [at_a] at h
        cases h
        refine ⟨ha, ?_, us, _, rv, ha⟩
        rw [List.length_map]
        exact hl
      · rw [off_a b hb] at h
        cases h
    · intro b z
      by_cases h : b = a
      · exact h
      · exact absurd (off_a b h) z
end
/-- what k_head leaves of such a law -/
theorem walkG {l : PySem.W.OpenLaw} {n k : Nat} {q : Program} {loose : List Str} {XP : (Str → Option Value) → Heap → Prop} {YP : World → Heap → Prop} {d : DefRec} {K : Params → PySem.W.Frag} {sp : PySem.W.Frag → Sp} {x : Str}
    (hn : l.most = some n) (hz : n ≤ sizeLine) (hdf : d.params.defaults = []) (hr : Room k callerA) (hY : ∀ (w : World) (h : Heap), YP w h → (K w.params).In h)
    (F : ∀ (w : World) (mg : Str → Option Value) (fa : Addr) (h : Heap), (K w.params).In h → h.Ns mainGlobals mg → mg d.name = some (.ref fa) →
      ∃ fd : FuncData, (∀ (s : Shared) (u : Value), BindsTo s fd ⟨[u], []⟩ [(x, u)]) ∧ ∀ B : Heap, (K w.params).In B → B.Ns mainGlobals mg → FnG l.prog w (K w.params) mg B CX0 k fa fd [x] (sp (K w.params)))
    (hsp : ∀ (K : PySem.W.Frag) (H : Hp) (a : Addr) (ns : List Int), ns.length ≤ n → Only H → SqL K H a (ns.map V.int) → sp K [.ref a] H (fun v _ => v = .bl true) fun _ _ _ => False) :
    PySem.W.WalkO q loose XP YP l.row.toRowW d [] (fun f vs => PySem.call f vs) := by
  refine Att.attach_call hn hdf ?_
  intro w s₀ s₁ mg mb fa o pm cd doc a vs ns G Y ho hd hcd hmg hobj hints hlen hg
  have kin := hY w _ Y
  obtain ⟨fd, hb, hF⟩ := F w mg fa _ kin G.T.g hmg
  exact law_callG kin G.T.g G.T.b G.T.builtins G.T.nolimit hg hobj hints (Nat.le_trans hlen hz) hr hF hb fun H hO hS => hsp _ H a ns hlen hO hS
end Sx
namespace Sx
open PySem PySem.Spec PyProof.Rows L2


/-! ### rules of either kind -/
theorem OpR.or {X : Cx} {f : Value → Value → Sem Value} {r r' : R2} (h : OpR X f r) (h' : OpR X f r') : OpR X f (fun x y H Q => r x y H Q ∨ r' x y H Q) := by
  intro pins s σ H x y v u Q I rx ry q
  rcases q with q | q
  · exact h pins s σ H x y v u Q I rx ry q
  · exact h' pins s σ H x y v u Q I rx ry q
theorem PI.or {X : Cx} {tg it : Expr} {wi wi' : TI} (h : PI X tg it wi) (h' : PI X tg it wi') : PI X tg it (fun σ H R => wi σ H R ∨ wi' σ H R) := by
  refine ⟨fun pins s σ H R I q => ?_⟩
  rcases q with q | q
  · exact h.run pins s σ H R I q
  · exact h'.run pins s σ H R I q
def iSeq (K : PySem.W.Frag) (tl : TE) : TI := fun σ H R => iList K tl σ H R ∨ iTup K tl σ H R
theorem pi_seq {X : Cx} {tg l : Expr} {tl : TE} (h : PE X l tl) : PI X tg l (iSeq X.K tl) := PI.or (pi_list h) (pi_tup h)
/-- a name of the module that holds a value -/
structure Cst (mg : Str → Option Value) (x : Str) (v : V) : Prop where
  ex : ∃ u, mg x = some u ∧ RelV v u
theorem pe_cst {X : Cx} {x : Str} {v : V} {pos : Pos} (c : Cst X.mg x v) (hg : Gl X x) (hd : (x == ("__debug__" : Str)) = false := by decide) : PE X (.Name x pos) (tC v) := by
  obtain ⟨u, h, r⟩ := c.ex
  exact pe_glob hg h r hd
/-- where a def of the text stands -/
structure At (K : PySem.W.Frag) (mg : Str → Option Value) (x : Str) (st : Stmt) (ps : List Str) (f : Addr) (fd : FuncData) : Prop where
  F : Fun K x x st f fd
  b : Binds K fd ps []
  m : mg x = some (.ref f)

def rLenS (K : PySem.W.Frag) : List V → Hp → VK → Prop := fun xs H Q => ∃ p ys, xs = [.ref p] ∧ (SqL K H p ys ∨ SqT K H p ys) ∧ Q (.int (ys.length : Nat)) H
def rListS (K : PySem.W.Frag) : List V → Hp → VK → Prop := fun xs H Q => ∃ p ys, xs = [.ref p] ∧ (SqL K H p ys ∨ SqT K H p ys) ∧ ∀ l, H l = none → Q (.ref l) (upd H l (.lst ys))
def rTupS (K : PySem.W.Frag) : List V → Hp → VK → Prop := fun xs H Q => ∃ p ys, xs = [.ref p] ∧ ((SqL K H p ys ∧ ∀ l, H l = none → Q (.ref l) (upd H l (.tup ys))) ∨ (SqT K H p ys ∧ Q (.ref p) H))

/-! ### heaps -/
theorem same_new {H : Hp} {p : Addr} {o : HO} (h : H p = none) : Same H (upd H p o) := by
  intro b x e
  rw [upd_ne (ne_of_none e h)]
  exact e
theorem Same.tup {K : PySem.W.Frag} {H H' : Hp} {a : Addr} {xs : List V} (e : Same H H') (h : SqT K H a xs) : SqT K H' a xs := by
  rcases h with (h | ⟨o, h⟩) | h
  · exact .inl (.inl (e _ _ h))
  · exact .inl (.inr ⟨o, e _ _ h⟩)
  · exact .inr h
mutual
theorem dp_same {K : PySem.W.Frag} {H H' : Hp} (e : Same H H') : ∀ (d : PyData) (v : V), Dp K H v d → Dp K H' v d
  | .none, _, h => by
    cases h
    exact .non
  | .bool _, _, h => by
    cases h
    exact .bl _
  | .int _, _, h => by
    cases h
    exact .int _
  | .str _, _, h => by
    cases h
    exact .str _
  | .list ds, _, h => by
    cases h with
    | lst h1 h2 => exact .lst (L2.Same.seq e h1) (dpa_same e ds _ h2)
  | .tuple ds, _, h => by
    cases h with
    | tup h1 h2 => exact .tup (Same.tup e h1) (dpa_same e ds _ h2)
  | .dict _, _, h => by cases h
theorem dpa_same {K : PySem.W.Frag} {H H' : Hp} (e : Same H H') : ∀ (ds : List PyData) (vs : List V), DpAll K H vs ds → DpAll K H' vs ds
  | [], _, h => by
    cases h
    exact .nil
  | d :: ds, _, h => by
    cases h with
    | cons h1 h2 => exact .cons (dp_same e d _ h1) (dpa_same e ds _ h2)
end
theorem dpa_ints {K : PySem.W.Frag} {H : Hp} : ∀ ns : List Int, DpAll K H (ns.map V.int) (ns.map PyData.int)
  | [] => .nil
  | n :: ns => .cons (.int n) (dpa_ints ns)

/-! ### shapes of flat data -/
theorem canAll_ints : ∀ ns : List Int, PyData.canLayAll0 (ns.map PyData.int) = true
  | [] => by simp [PyData.canLayAll0]
  | n :: ns => by simp [PyData.canLayAll0, PyData.canLay0, canAll_ints ns]
theorem depthAll_ints : ∀ ns : List Int, PyData.depthAll (ns.map PyData.int) ≤ 1
  | [] => by simp [PyData.depthAll]
  | n :: ns => by
    have := depthAll_ints ns
    simp only [List.map_cons, PyData.depthAll, PyData.depth]
    exact Nat.max_le.mpr ⟨Nat.zero_le _, this⟩
theorem shaped_ints (ns : List Int) : SeqAt.shaped (.list (ns.map PyData.int)) = true := by
  have h1 := canAll_ints ns
  have h2 := depthAll_ints ns
  unfold SeqAt.shaped
  simp only [PyData.canLay0, PyData.depth, Bool.and_eq_true, decide_eq_true_eq]
  exact ⟨h1, decide_eq_true (by omega)⟩
theorem eqv_nil_ints (ns : List Int) : PyData.eqv (.list (ns.map PyData.int)) (.list []) = ns.isEmpty := by
  cases ns <;> simp [PyData.eqv, PyData.eqvAll]

/-! ### the law's box: a dict with a list and two ints, and nothing of it in H0 -/
def boxKv (g : Addr) (st ct : Int) : List (Key × V) := [(Sum.inr "great", .ref g), (Sum.inr "stirred", .int st), (Sum.inr "count", .int ct)]
structure Bs (H0 H : Hp) (b g : Addr) : Prop where
  sub : Same H0 H
  nb : H0 b = none
  ng : H0 g = none
  ls : ∃ ms : List Int, H g = some (.lst (ms.map V.int)) ∧ ms.length ≤ 63
  dc : ∃ st ct : Int, H b = some (.dK (boxKv g st ct))
namespace Bs
variable {H0 H H1 : Hp} {b g p : Addr} {o u : HO} {K : PySem.W.Frag}
theorem bg (B : Bs H0 H b g) : b ≠ g := by
  obtain ⟨ms, h1, _⟩ := B.ls
  obtain ⟨st, ct, h2⟩ := B.dc
  exact ne_of h2 h1 (fun z => nomatch z)
theorem pb (B : Bs H0 H b g) (n : H p = none) : p ≠ b := by
  obtain ⟨st, ct, h2⟩ := B.dc
  exact (ne_of_none h2 n).symm
theorem pg (B : Bs H0 H b g) (n : H p = none) : p ≠ g := by
  obtain ⟨ms, h2, _⟩ := B.ls
  exact (ne_of_none h2 n).symm
/-- the heap grows by what H0 does not know -/
theorem more (B : Bs H0 H b g) (s : Same H H1) : Bs H0 H1 b g := by
  obtain ⟨ms, h1, h2⟩ := B.ls
  obtain ⟨st, ct, h3⟩ := B.dc
  exact ⟨B.sub.trans s, B.nb, B.ng, ⟨ms, s _ _ h1, h2⟩, ⟨st, ct, s _ _ h3⟩⟩
/-- a new object, known to H0 from now on -/
theorem new (B : Bs H0 H b g) (n : H p = none) : Bs (upd H0 p o) (upd H p o) b g := by
  have n0 := B.sub.free n
  have B1 := B.more (same_new (o := o) n)
  refine ⟨?_, by rw [upd_ne (B.pb n).symm]; exact B.nb, by rw [upd_ne (B.pg n).symm]; exact B.ng, B1.ls, B1.dc⟩
  intro c x e
  by_cases h : c = p
  · subst h
    rw [upd_same] at e ⊢
    exact e
  · rw [upd_ne h] at e ⊢
    exact B.sub c x e
/-- what came behind a call, known to H0 from now on -/
theorem keep (B : Bs H0 H b g) (s : Same H H1) (n : H p = none) (e : H1 p = some o) : Bs (upd H0 p o) H1 b g := by
  have B1 := B.more s
  refine ⟨?_, by rw [upd_ne (B.pb n).symm]; exact B.nb, by rw [upd_ne (B.pg n).symm]; exact B.ng, B1.ls, B1.dc⟩
  intro c x h
  by_cases hc : c = p
  · subst hc
    rw [upd_same] at h
    cases h
    exact e
  · rw [upd_ne hc] at h
    exact B1.sub c x h
/-- an object that H0 knows is changed -/
theorem put (B : Bs H0 H b g) (e : H0 p = some u) : Bs (upd H0 p o) (upd H p o) b g := by
  have pb : p ≠ b := ne_of_none e B.nb
  have pg : p ≠ g := ne_of_none e B.ng
  obtain ⟨ms, h1, h2⟩ := B.ls
  obtain ⟨st, ct, h3⟩ := B.dc
  refine ⟨?_, by rw [upd_ne pb.symm]; exact B.nb, by rw [upd_ne pg.symm]; exact B.ng, ⟨ms, by rw [upd_ne pg.symm]; exact h1, h2⟩, ⟨st, ct, by rw [upd_ne pb.symm]; exact h3⟩⟩
  intro c x h
  by_cases hc : c = p
  · subst hc
    rw [upd_same] at h ⊢
    exact h
  · rw [upd_ne hc] at h ⊢
    exact B.sub c x h
/-- less is known -/
theorem less {H2 : Hp} (B : Bs H0 H b g) (s : Same H2 H0) : Bs H2 H b g := ⟨s.trans B.sub, s.free B.nb, s.free B.ng, B.ls, B.dc⟩
end Bs
theorem key_s {x : Str} {kvs : List (Key × V)} {H : Hp} {a : Addr} {v : V} (h : H a = some (.dK kvs)) (e : valV kvs (Sum.inr x) = some v) : DGet H a (.str x) (some v) := by
  have q := DGet.k (k := Sum.inr x) h
  rw [e] at q
  exact q

theorem ixN_zero (n : Nat) : ixN (n + 1) 0 = some 0 := by
  unfold ixN
  rw [if_pos (by decide), if_pos (by omega)] <;> rfl
theorem seqIx_zero (n : Nat) : seqIndex? 0 (n + 1) = some 0 := PySem.StrLaws.seqIndex_nonneg (by decide) (by omega)

/-! ### what the law's own draws promise -/
def Small (m : Int) : Prop := 0 < m ∧ m.natAbs.log2 < 9000
theorem small_of {m : Int} (h0 : 0 < m) (h1 : m < 2 ^ 60) : Small m := ⟨h0, Nat.lt_trans (PySem.Flt.log2_lt_of (k := 60) (by decide) (by omega)) (by decide)⟩
def sp__law_draw (_ : PySem.W.Frag) : Sp := fun vs H Q _ => ∃ (H0 : Hp) (b g : Addr) (m : Int), vs = [.ref b, .int m] ∧ Bs H0 H b g ∧ Small m ∧ ∀ (r : Int) (H' : Hp), 0 ≤ r → r < m → Bs H0 H' b g → Q (.int r) H'
/-- the list given stands at a; any of its items comes back -/
def sp__law_pick (K : PySem.W.Frag) : Sp := fun vs H Q _ => ∃ (H0 : Hp) (b g a : Addr) (xs : List V), vs = [.ref b, .ref a] ∧ Bs H0 H b g ∧ (SqL K H0 a xs ∨ SqT K H0 a xs) ∧ xs ≠ [] ∧ xs.length ≤ 100000 ∧
  ∀ (i : Nat) (x : V) (H' : Hp), xs[i]? = some x → Bs H0 H' b g → Q x H'
def sp__law_great (_ : PySem.W.Frag) : Sp := fun vs H Q _ => ∃ (H0 : Hp) (b g : Addr) (m : Int), vs = [.ref b, .int m] ∧ Bs H0 H b g ∧ 0 ≤ m ∧ m ≤ 40 ∧ ∀ (r : Int) (H' : Hp), 0 ≤ r → r < 1000000 ^ m.toNat → Bs H0 H' b g → Q (.int r) H'
/-- some number -/
def IsNum (n : Int) : Prop := -(10 ^ 60) ≤ n ∧ n ≤ 10 ^ 60
def sp__law_number (_ : PySem.W.Frag) : Sp := fun vs H Q _ => ∃ (H0 : Hp) (b g : Addr), vs = [.ref b] ∧ Bs H0 H b g ∧ ∀ (r : Int) (H' : Hp), IsNum r → Bs H0 H' b g → Q (.int r) H'
/-- the moduli of some machine -/
structure IsMach (ns : List Int) : Prop where
  one : 1 ≤ ns.length
  ten : ns.length ≤ 10
  mod : ∀ n ∈ ns, 2 ≤ n ∧ n ≤ 1000000
def sp__law_machine (_ : PySem.W.Frag) : Sp := fun vs H Q _ => ∃ (H0 : Hp) (b g : Addr), vs = [.ref b] ∧ Bs H0 H b g ∧ ∀ (ns : List Int) (p : Addr) (H' : Hp), IsMach ns → H0 p = none → H' p = some (.tup (ns.map V.int)) → p ≠ b → p ≠ g → Bs H0 H' b g → Q (.ref p) H'
def sp__law_box (K : PySem.W.Frag) : Sp := fun vs H Q _ => ∃ (a : Addr) (ns : List Int), vs = [.ref a] ∧ SqL K H a (ns.map V.int) ∧ ns.length ≤ 63 ∧ ∀ (b g : Addr) (H' : Hp), Bs H H' b g → Q (.ref b) H'
def sp__law_rest (_ : PySem.W.Frag) : Sp := fun vs H Q _ => ∃ (n m : Int), vs = [.int n, .int m] ∧ 0 < m ∧ m < 2 ^ 60 ∧ Q (.int (n % m)) H
def sp_law (K : PySem.W.Frag) : Sp := fun vs H Q _ => ∃ (a : Addr) (ns : List Int), vs = [.ref a] ∧ SqL K H a (ns.map V.int) ∧ ns.length ≤ 63 ∧ ∀ H', Q (.bl true) H'
end Sx
namespace Sx
open PySem PySem.Spec PyProof.Rows L2

/-! ### t * 1 is t itself -/
theorem tuple_mul1 (l : Addr) (items : Array Value) (n : Nat) (dd : Option Addr) (sl : Array (Option Value)) (u : Tok) :
    Meets (Builtin.«tuple.__mul__» ⟨[.ref l, .int 1 u], []⟩) (fun _ R s => s.heap.get? l = some { cls := .type "tuple", dict := dd, data := .seq items n, slots := sl } ∧ R (.ok (.ret (.ref l))) s) :=
  .of_wp fun prog w A R s h => by
    obtain ⟨hp, g, d, tk, os⟩ := s
    obtain ⟨hl, h⟩ := h
    have f1 := AutoSeq1.idx_int
    have c1 : (items.isEmpty || (1 : Int) == 1) = true := by simp
    wp_walk using wpAny_loadPart' hl
    repeat (first
      | (refine wpAny_ite_true (decide_eq_true (by rw [c1])) ?_; wp_walk using wpAny_loadPart' hl)
      | (refine wpAny_ite_false (by decide) ?_; wp_walk using wpAny_loadPart' hl))
    exact ⟨_, rfl, h⟩
def rRep1 (K : PySem.W.Frag) : R2 := fun x y H Q => ∃ l xs, x = .ref l ∧ y = .int 1 ∧ SqT K H l xs ∧ Q (.ref l) H
theorem op_rep1 {X : Cx} : OpR X (binaryOp .Mult) (rRep1 X.K) := by
  intro pins s σ H x y v u Q I rx ry h
  obtain ⟨l, xs, rfl, rfl, hT, q⟩ := h
  obtain rfl : v = Value.ref l := rx
  obtain ⟨t, rfl⟩ := ry
  obtain ⟨its, r, ⟨⟨cls, dd, data, sl⟩, ho, hc, n, hd⟩, hs⟩ := I.tuple hT
  simp only at hc hd
  subst hc hd
  exact wpAny_binaryOp_repeat_ref (T := "tuple") (U := "int") (by decide) ⟨_, ho, rfl⟩ (fun s' => typeIs_int s' 1 t) noFill_tuple_mul F.fills_int_mul F.slot_int_rmul repeat_tuple F.slot_int_index.lookup
    (call_meets F.slot_int_rmul (typeIs_int s 1 t) F.entry_int_rmul (F.args_int_rmul_2 _ _) (int_rmul_tuple 1 t l its.toArray n dd sl)
      ⟨ho, rfl, ⟨_, ho, rfl⟩, call_meets F.slot_tuple_mul ⟨_, ho, rfl⟩ F.entry_tuple_mul (F.args_tuple_mul_2 _ _) (tuple_mul1 l its.toArray n dd sl t) ⟨ho, ⟨.ref l, H, I, rfl, q⟩⟩⟩)
/-- t * k, 1 ≤ k -/
def rRepAny (K : PySem.W.Frag) : R2 := fun x y H Q => rRepT K x y H Q ∨ rRep1 K x y H Q
theorem op_repAny {X : Cx} : OpR X (binaryOp .Mult) (rRepAny X.K) := OpR.or op_repT op_rep1

/-! ### a word between an expression and what follows -/
def tCutE (t : TE) : TE := fun σ H Q => ∃ M : V → Hp → Prop, t σ H M ∧ ∀ v H', M v H' → Q v H'
theorem pe_cut {X : Cx} {e : Expr} {t : TE} (h : PE X e t) : PE X e (tCutE t) := by
  refine ⟨fun pins s σ H Q I q => ?_⟩
  obtain ⟨M, q1, q2⟩ := q
  exact thn (h.run pins s σ H M I q1) fun u s1 ⟨v, H1, I1, r, m⟩ => ⟨v, H1, I1, r, q2 v H1 m⟩

theorem pow_mono {n m : Nat} (h : n ≤ m) : (1000000 : Int) ^ n ≤ 1000000 ^ m := by
  have e : ∀ k : Nat, (1000000 : Int) ^ k = ((1000000 ^ k : Nat) : Int) := fun k => (Int.natCast_pow 1000000 k).symm
  rw [e, e]
  exact Int.ofNat_le.mpr (Nat.pow_le_pow_right (by decide) h)

/-! ### comprehensions whose items are drawn, one int each -/
section
variable {H0 H1 : Hp} {b g D : Addr}
/-- over range(n): each item an int with the property R -/
theorem lc_drawn {n j : Nat} {te : TE} {vs : List Nat} {σ : L2.St} {Qd : Hp → Prop} (R : Int → Prop) (B : Bs H0 H1 b g) (hD : H1 D = none) (hn : n ≤ 100000) (hw : ∀ x, wipe ((wipe σ vs).set j (some x)) vs = wipe σ vs)
    (he : ∀ (i : Nat) (H2 H3 : Hp) (Q : VK), i < n → Same H0 H2 → Bs H2 H3 b g → (∀ (m : Int) (H4 : Hp), R m → Bs H2 H4 b g → Q (.int m) H4) → te ((wipe σ vs).set j (some (.int (0 + (i : Int))))) H3 Q)
    (hd : ∀ (ms : List Int) (H3 : Hp), ms.length = n → (∀ m ∈ ms, R m) → Bs (upd H0 D (.lst (ms.map V.int))) H3 b g → Qd H3) :
    ∃ W : Nat → Nat → Hp → Prop, (∃ m, W 0 m (upd H1 D (.lst []))) ∧ ∀ i m H, W i m H →
      ((Itr 0 n).stop i H ∧ Qd H) ∨ ((Itr 0 n).go i H ∧ ∃ Nx : Hp → Prop, (∀ H', Nx H' → ∃ m', m' < m ∧ W (i + 1) m' H') ∧ ∀ x H', (Itr 0 n).yld i H x H' → gName j x (wipe σ vs) H' fun σ2 H2 => wipe σ2 vs = wipe σ vs ∧ tYes σ2 H2 fun b H3 =>
        if b = true then te σ2 H3 fun y H4 => ∃ acc, H4 D = some (.lst acc) ∧ acc.length < sizeLine ∧ Nx (upd H4 D (.lst (acc ++ [y]))) else Nx H3) := by
  have n0 : H0 D = none := B.sub.free hD
  have s0 : ∀ o, Same H0 (upd H0 D o) := fun o => same_new n0
  refine lc_range (lo := 0) (n := n) (fun i H => ∃ ms : List Int, ms.length = i ∧ (∀ m ∈ ms, R m) ∧ Bs (upd H0 D (.lst (ms.map V.int))) H b g) ⟨[], rfl, (fun _ z => nomatch z), B.new hD⟩ ?_ ?_
  · rintro i H hi ⟨ms, hl, hr, B3⟩
    refine ⟨hw _, ?_⟩
    unfold tYes
    dsimp only
    refine iteT (he i (upd H0 D (.lst (ms.map V.int))) H _ hi (s0 _) B3 fun m H4 hm B4 => ?_)
    refine ⟨ms.map V.int, B4.sub _ _ upd_same, ?_, ms ++ [m], ?_, ?_, ?_⟩
    · rw [List.length_map, hl]
      exact Nat.lt_of_lt_of_le hi (Nat.le_trans hn (by decide))
    · rw [List.length_append, hl, List.length_singleton]
    · intro x hx
      rcases List.mem_append.mp hx with h | h
      · exact hr x h
      · rw [List.mem_singleton.mp h]
        exact hm
    · have B5 := B4.put (o := .lst ((ms ++ [m]).map V.int)) upd_same
      rw [upd_upd] at B5
      rw [List.map_append] at B5 ⊢
      exact B5
  · rintro H ⟨ms, hl, hr, B3⟩
    exact hd ms H hl hr B3
end
/-! ### what the program's defs promise -/
def rests (ns : List Int) (n : Int) : List Int := ns.map fun m => n % m
def sp_rests_of (K : PySem.W.Frag) : Sp := fun vs H Q _ => ∃ (t : Addr) (ns : List Int) (n : Int), vs = [.ref t, .int n] ∧ SqT K H t (ns.map V.int) ∧ IsMach ns ∧
  ∀ (p : Addr) (H' : Hp), Same H H' → H p = none → H' p = some (.tup ((rests ns n).map V.int)) → Q (.ref p) H'
end Sx
namespace Sx
open PySem PySem.Spec PyProof.Rows L2

/-! ### enumerate of a tuple -/
section
variable {prog : Program} {w : World} {A : Around} {E : Value → Shared → Prop} {s : Shared}
set_option maxHeartbeats 1000000 in
theorem meets_enum_one {v : Value} {o : Obj} {H : Heap → Prop} (B : Begins v o H) :
    Meets (Builtin.«enumerate.__new__» ⟨[.type "enumerate", v], []⟩) (fun _ R s => H s.heap ∧
      R (.ok (.ret (.ref (s.heap.push o).objs.size))) { s with heap := (s.heap.push o).push { cls := .type "enumerate", data := .fields #[.none, .bool false, .ref s.heap.objs.size, rawInt 0, .none, .none] } }) :=
  .of_wp fun prog w A R s h => by
    obtain ⟨hp, g, d, tk, os⟩ := s
    obtain ⟨h1, h⟩ := h
    have hsub := sub_enumerate
    have q1 : ∀ {A' : Around} {E Q : Value → Shared → Prop}, Q (.ref hp.objs.size) ⟨hp.push o, g, d, tk, os⟩ → wpAny (model prog w) A' (pyIter v) Q E ⟨hp, g, d, tk, os⟩ :=
      fun q => B.iter prog w _ _ ⟨hp, g, d, tk, os⟩ _ h1 q
    wp_walk using q1
    refine wpAny_stack_any fun st => wpAny_pure ?_
    split
    · rename_i c _ _ _ _ _
      cases (c == Value.type "enumerate")
      all_goals
        wp_walk using q1
        exact ⟨_, rfl, h⟩
    · wp_walk using q1
      exact ⟨_, rfl, h⟩
theorem call_enum_one {v : Value} {o : Obj} {H : Heap → Prop} {Q : Value → Shared → Prop} (B : Begins v o H) (h1 : H s.heap)
    (h : ∀ h1 : Heap, IsEnum h1 (s.heap.objs.size + 1) s.heap.objs.size 0 .none → h1.get? s.heap.objs.size = some o → h1.objs.size = s.heap.objs.size + 2 →
      (∀ b o, s.heap.get? b = some o → h1.get? b = some o) → Q (.ref (s.heap.objs.size + 1)) { s with heap := h1 }) : wpAny (model prog w) A (call (.type "enumerate") [v]) Q E s := by
  refine callType_new F.called_enumerate (by decide) (F.typeCall_enumerate_1 _) (F.newCall_enumerate_1 _) (fun obj => F.args_object_init_2 obj _) F.entry_enumerate_new (meets_enum_one B) ⟨h1, ?_⟩
  have hz : (s.heap.push o).objs.size = s.heap.objs.size + 1 := Heap.size_push ..
  show _ ∧ _
  rw [hz]
  have hnew : IsEnum ((s.heap.push o).push { cls := .type "enumerate", data := .fields #[.none, .bool false, .ref s.heap.objs.size, rawInt 0, .none, .none] }) (s.heap.objs.size + 1) s.heap.objs.size 0 .none := by
    have q := Heap.get?_push_size (s.heap.push o) (o := { cls := .type "enumerate", data := .fields #[.none, .bool false, .ref s.heap.objs.size, rawInt 0, .none, .none] }) rfl
    rw [hz] at q
    exact q
  exact ⟨⟨_, hnew, rfl⟩, h _ hnew (Heap.get?_push_of_some _ (Heap.get?_push_size _ B.free)) (by rw [Heap.size_push, hz]) (fun b o x => Heap.get?_push_of_some _ (Heap.get?_push_of_some _ x))⟩
end
/-- the tuple at a, each item in a new pair with its place -/
def IteT (K : PySem.W.Frag) (a : Addr) : It where
  go := fun i H => ∃ (xs : List V) (x : V), SqT K H a xs ∧ xs[i]? = some x
  yld := fun i H v H1 => ∃ T x, v = .ref T ∧ H T = none ∧ H1 = upd H T (.tup [.int (i : Nat), x]) ∧ ∀ xs, SqT K H a xs → xs[i]? = some x
  stop := fun i H => ∃ xs : List V, SqT K H a xs ∧ xs.length ≤ i
theorem turn_enumT {P : Program} {w : World} {K : PySem.W.Frag} {elts : List Expr} {kk : Nat} {tpos : Pos} (a e it : Addr) :
    Turn P w K (.Tuple elts kk tpos) (IteT K a) [e, it] e (fun i h => (∃ old, IsEnum h e it ((i : Nat) : Int) old) ∧ h.IsTupleIter it a i ∧ e ≠ it ∧ e ≠ a ∧ a ≠ it) where
  mem := List.mem_cons_self
  obj := by
    rintro i h ⟨⟨old, he⟩, ⟨o, ho, hc, hd⟩, _⟩ b hb
    rcases List.mem_cons.mp hb with z | z
    · rw [z]
      exact ⟨_, he, fun v q => nomatch q⟩
    · rw [List.mem_singleton.mp z]
      refine ⟨o, ho, fun v q => ?_⟩
      rw [hd] at q
      cases q
  keep := by
    rintro i h h' ⟨⟨old, he⟩, hi, ne⟩ k
    exact ⟨⟨old, k e (by simp) _ he⟩, hi.at fun o q => k it (by simp) o q, ne⟩
  item := by
    intro X hP hw hK hc i pins s σ H E I hf st hg
    subst hP hw hK
    obtain ⟨⟨old, he⟩, hit, n1, n2, n3⟩ := st
    obtain ⟨xs, x, hq, hx⟩ := hg
    obtain ⟨its, rv, p, hz⟩ := I.tuple hq
    obtain ⟨u, hu, ru⟩ := rv.get hx
    have hel : e < s.heap.objs.size := Heap.lt_size he
    have hil : it < s.heap.objs.size := by
      obtain ⟨_, q, _⟩ := hit
      exact Heap.lt_size q
    have hlt : i < its.toArray.size := by
      have := (List.getElem?_eq_some_iff.mp hu).1
      simpa using this
    refine wpAny_pyNext_enum_itemC (Draws.tuple (A := X.A.in1) (I.ok.hd hc) it a n3 its.toArray) he ⟨hit, p⟩ hlt n1 (by simp [n1, n2]) fun y h' tk hy ho hs' hT hsz hk => ?_
    obtain rfl : y = u := by
      have hu' : its.toArray[i]? = some u := by simpa using hu
      exact Option.some.inj (hy.symm.trans hu')
    refine ⟨_, rfl, wpAny_letOwnedTupleGo_enum (s := { s with heap := h', toks := tk + 1 }) ho fun h2 he' sb => ?_⟩
    have hT2 : h2.get? s.heap.objs.size = some { cls := .type "tuple", data := .seq #[.int i tk, y] } := (sb.2 _ (Nat.ne_of_gt hel)).trans hT
    have new : ObjOk X.prog X.w (upd H s.heap.objs.size (.tup [.int (i : Nat), x])) h2 s.heap.objs.size (.tup [.int (i : Nat), x]) :=
      ⟨(show 2 ≤ sizeLine by decide), [.int i tk, y], .cons ⟨_, rfl⟩ (.cons ru .nil), ⟨_, hT2, rfl, _, rfl⟩⟩
    have I1 : Inv X pins σ (upd H s.heap.objs.size (.tup [.int (i : Nat), x])) { s with heap := h2, toks := tk + 1 } :=
      I.turnedNew (ch := [e, it]) (fun b ob hb q => (sb.2 b (fun z => hb (by simp [z]))).trans (hk b ob (fun z => hb (by simp [z])) (fun z => hb (by simp [z])) q)) hf (Nat.le_refl _) new
    refine ⟨.ref s.heap.objs.size, _, I1, rfl, ⟨_, x, rfl, I.hok.fresh (Nat.le_refl _), rfl, fun ys hy => by rw [I.tuple_inj hy hq]; exact hx⟩, ⟨⟨y, ?_⟩, hs'.1.at fun o q => (sb.2 it (Ne.symm n1)).trans q, n1, n2, n3⟩, fun b hb => ?_⟩
    · rw [show ((i + 1 : Nat) : Int) = (i : Int) + 1 by omega]
      exact he'
    · have hb' : b < s.heap.objs.size := by
        rcases List.mem_cons.mp hb with z | z
        · rw [z]
          exact hel
        · rw [List.mem_singleton.mp z]
          exact hil
      rw [upd_ne (Nat.ne_of_lt hb')]
      exact (hf b hb).1
  done := by
    intro X hP hw hK hc i pins s σ H E I hf st hg
    subst hP hw hK
    obtain ⟨⟨old, he⟩, hit, n1, n2, n3⟩ := st
    obtain ⟨xs, hq, hx⟩ := hg
    obtain ⟨its, rv, p, hz⟩ := I.tuple hq
    obtain ⟨f0, f1, f2, f3, f4, f5⟩ := hf it (by simp)
    have hl := rv.length
    have hT : s.TypeIs (.ref e) "enumerate" := ⟨_, he, rfl⟩
    unfold pyNext
    refine wpAny_bind (wpAny_attempt (wpAny_callSpecial?_slot (name := Str.ofString "__next__") hT F.slot_enumerate_next
      (wpAny_call_entry F.slot_enumerate_next hT F.entry_enumerate_next ?_ (F.args_enumerate_next_1 _))))
    show wpAny _ _ (field (.ref e) 2 >>= _) _ _ _
    refine wpAny_bind (wpAny_field he rfl (x := .ref it) rfl ?_)
    refine wpAny_bind (wpAny_nextOf_tuple_end (A := X.A.in1) (I.ok.hd hc) hit p (by simp; omega) fun h' x he' hx' => ?_)
    obtain ⟨o, ho, hc'⟩ := hx'
    refine wpAny_bind (wpAny_isInstance (T := "StopIteration") (b := true) ⟨o, ho, hc'⟩ isSubtype_stop ?_)
    exact wpAny_pure ⟨rfl, I.turned (t' := s.toks) (fun b o hb q => he' b o hb q) f0 f1 f3 f4 f5⟩
  self := by
    rintro A i s Q E ⟨⟨_, he⟩, _⟩ h
    exact wpAny_pyIter_enum he h
def iEnumT (K : PySem.W.Frag) (ta : TA) : TI := fun σ H R => ta σ H fun vs H1 => ∃ a xs, vs = [.ref a] ∧ SqT K H1 a xs ∧ R (IteT K a) H1
theorem pi_enumT {X : Cx} {e : Expr} {ta : TA} {p pos tpos : Pos} {elts : List Expr} {kk : Nat} (hg : Gl X "enumerate") (hm : X.mg "enumerate" = none) (ha : PA X [e] ta) (hs : starEach [e] X.env = [(false, eval e X.env)] := by rfl) :
    PI X (.Tuple elts kk tpos) (.Call (.Name "enumerate" p) [e] [] pos) (iEnumT X.K ta) := by
  refine ⟨fun pins s σ H R I h => Call_ (ld_blt I hg hm boot_enumerate (PyProof.Rows.callWith_type1 (thn (ha.run pos pins s σ H _ I h) ?_) hs rfl))⟩
  rintro us s1 ⟨vs, H1, I1, r1, a, xs, rfl, hq, q⟩
  obtain ⟨u, rfl, rr⟩ := vals1 r1
  obtain rfl : u = Value.ref a := rr
  obtain ⟨its, rv, tp, hz⟩ := I1.tuple hq
  have hal : a < s1.heap.objs.size := tp.lt
  refine call_enum_one (begins_tuple a its.toArray) tp fun h1 he hit hsz hk => wpAny_pyIter_enum he ?_
  have I2 : Inv X pins σ H1 { s1 with heap := h1 } := I1.kept (t' := s1.toks) hk
  have n1 : s1.heap.objs.size + 1 ≠ a := Nat.ne_of_gt (Nat.lt_succ_of_lt hal)
  have n2 : a ≠ s1.heap.objs.size := Nat.ne_of_lt hal
  refine ⟨s1.heap.objs.size + 1, [s1.heap.objs.size + 1, s1.heap.objs.size], _, _, H1, rfl, I2, turn_enumT a (s1.heap.objs.size + 1) s1.heap.objs.size, ⟨⟨.none, he⟩, ⟨_, hit, rfl, rfl⟩, Nat.succ_ne_self _, n1, n2⟩, fun b hb => ?_, q⟩
  have hle : s1.heap.objs.size ≤ b := by
    rcases List.mem_cons.mp hb with z | z
    · rw [z]
      exact Nat.le_add_right _ _
    · rw [List.mem_singleton.mp z]
      exact Nat.le_refl _
  exact I1.fpOk hle (I1.hok.fresh hle)
theorem walk_enumT {K : PySem.W.Frag} {a : Addr} {xs : List V} : Walk (IteT K a) xs.length (fun H => SqT K H a xs) (YPair (fun i => some (.int (i : Nat))) (fun i => xs[i]?)) := by
  refine ⟨fun i _ hi q => ⟨xs, xs[i], q, List.getElem?_eq_getElem hi⟩, fun _ q => ⟨xs, q, Nat.le_refl _⟩, ?_⟩
  rintro i H v H1 _ q ⟨T, x, h1, h2, h3, h4⟩
  exact ⟨T, .int (i : Nat), x, h1, h2, h3, rfl, h4 xs q⟩

/-! ### comprehensions that reckon: what a turn gives hangs on its item alone -/
theorem lc_reckon {β : Type} {J : It} {n : Nat} {zs : List β} {G : Hp → Prop} {Y : Nat → Hp → V → Hp → Prop} (w : Walk J n G Y) (hzn : zs.length = n) {g : TG} {tt : TT} {te : TE} {vs : List Nat} {σ : L2.St} {H1 : Hp} {D : Addr} {Qd : Hp → Prop} (f : β → Bool) (v : β → V) (hn : zs.length ≤ 100000)
    (hD : H1 D = none) (hG : ∀ H, Same H1 H → G H)
    (hs : ∀ i z x H H2, zs[i]? = some z → Same H1 H → Y i H x H2 → Same H H2 ∧ ∃ σ2, (∀ Q : L2.St → Hp → Prop, Q σ2 H2 → g x (wipe σ vs) H2 Q) ∧ wipe σ2 vs = wipe σ vs ∧
      (∀ Q : Bool → Hp → Prop, (∀ H3, Same H2 H3 → Q (f z) H3) → tt σ2 H2 Q) ∧ (f z = true → ∀ H3 (Q : VK), Same H1 H3 → Same H2 H3 → (∀ H4, Same H3 H4 → Q (v z) H4) → te σ2 H3 Q))
    (hd : ∀ H, Same H1 H → H D = some (.lst ((zs.filter f).map v)) → Qd H) :
    ∃ W : Nat → Nat → Hp → Prop, (∃ m, W 0 m (upd H1 D (.lst []))) ∧ ∀ i m H, W i m H →
      (J.stop i H ∧ Qd H) ∨ (J.go i H ∧ ∃ Nx : Hp → Prop, (∀ H', Nx H' → ∃ m', m' < m ∧ W (i + 1) m' H') ∧ ∀ x H', J.yld i H x H' → g x (wipe σ vs) H' fun σ2 H2 => wipe σ2 vs = wipe σ vs ∧ tt σ2 H2 fun b H3 =>
        if b = true then te σ2 H3 fun y H4 => ∃ acc, H4 D = some (.lst acc) ∧ acc.length < sizeLine ∧ Nx (upd H4 D (.lst (acc ++ [y]))) else Nx H3) := by
  subst hzn
  refine lc_it w (fun i H => Same H1 H ∧ H D = some (.lst (((zs.take i).filter f).map v))) ⟨same_new hD, upd_same⟩ (fun i H _ p => hG H p.1) ?_ ?_
  · rintro i x H H2 hi ⟨s1, e1⟩ y
    have hz : zs[i]? = some zs[i] := List.getElem?_eq_getElem hi
    obtain ⟨s2, σ2, h1, h2, h3, h4⟩ := hs i zs[i] x H H2 hz s1 y
    have tk : zs.take (i + 1) = zs.take i ++ [zs[i]] := by
      rw [List.take_add_one, hz] <;> rfl
    refine h1 _ ⟨h2, h3 _ fun H3 s3 => ?_⟩
    by_cases hf : f zs[i] = true
    · rw [hf]
      refine iteT (h4 hf H3 _ ((s1.trans s2).trans s3) s3 fun H4 s4 => ?_)
      have e4 : H4 D = some (.lst (((zs.take i).filter f).map v)) := s4 _ _ (s3 _ _ (s2 _ _ e1))
      refine ⟨_, e4, ?_, ?_, ?_⟩
      · rw [List.length_map]
        have l1 := List.length_filter_le f (zs.take i)
        rw [List.length_take] at l1
        exact Nat.lt_of_lt_of_le (show _ < 100000 by omega) (by decide)
      · intro c o h
        rw [upd_ne (ne_of_none h hD)]
        exact s4 _ _ (s3 _ _ (s2 _ _ (s1 _ _ h)))
      · rw [upd_same, tk, List.filter_append, List.map_append, List.filter_cons_of_pos hf] <;> rfl
    · rw [Bool.not_eq_true] at hf
      rw [hf]
      refine iteF ⟨(s1.trans s2).trans s3, ?_⟩
      rw [tk, List.filter_append, List.filter_cons_of_neg (by rw [hf]; decide)]
      show H3 D = some (.lst (((zs.take i).filter f ++ []).map v))
      rw [List.append_nil]
      exact s3 _ _ (s2 _ _ e1)
  · rintro H ⟨s1, e1⟩
    rw [List.take_length] at e1
    exact hd H s1 e1
end Sx
namespace Sx
open PySem PySem.Spec PyProof.Rows L2

/-! ### what may be shown, by a count of its parts -/
mutual
def nod : PyData → Nat
  | .none | .bool _ | .int _ => 1
  | .str x => 1 + x.length
  | .list xs | .tuple xs => 1 + nodAll xs
  | .dict _ => 1
def nodAll : List PyData → Nat
  | [] => 0
  | x :: xs => nod x + nodAll xs
end
def big : Nat := 10 ^ 130
mutual
/-- ints below 10 ** 130, texts of plain signs, no dicts -/
def fine : PyData → Bool
  | .none | .bool _ => true
  | .int i => decide (i.natAbs < big)
  | .str x => x.cps.toList.all fun c => decide (c < 16 ^ 8)
  | .list xs | .tuple xs => fineAll xs
  | .dict kvs => kvs.isEmpty
def fineAll : List PyData → Bool
  | [] => true
  | x :: xs => fine x && fineAll xs
end
theorem big_log {i : Nat} (h : i < big) : i.log2 < 1920 := by
  have h2 : i < 2 ^ 1920 := Nat.lt_trans h (by decide +kernel)
  exact PySem.Flt.log2_lt_of (by decide) h2
theorem big_len {i : Int} (h : i.natAbs < big) : (PyData.shown (.int i)).length ≤ 131 := by
  have e := int_text_length_le10 (k := 130) (by decide) h
  show (Str.ofString (toString i)).length ≤ 131
  rw [PySem.ofString_length]
  exact e
mutual
theorem fine_show : ∀ d : PyData, fine d = true → d.showable = true ∧ d.shown.length + 3 ≤ 300 * nod d
  | .none, _ => ⟨rfl, by decide +kernel⟩
  | .bool b, _ => by
    cases b
    · exact ⟨rfl, by decide +kernel⟩
    · exact ⟨rfl, by decide +kernel⟩
  | .int i, h => by
    have h1 : i.natAbs < big := by simpa [fine] using h
    have e := big_len h1
    refine ⟨by simpa [PyData.showable] using big_log h1, ?_⟩
    show _ ≤ 300 * 1
    omega
  | .str x, h => by
    have h1 : ∀ c ∈ x.cps.toList, c < 16 ^ 8 := by
      have h' := h
      simp only [fine, List.all_eq_true, decide_eq_true_eq] at h'
      exact h'
    have e := StrLaws.reprText_len x h1
    refine ⟨rfl, ?_⟩
    simp only [PyData.shown]
    show _ ≤ 300 * (1 + x.length)
    omega
  | .list xs, h => by
    obtain ⟨h1, h2⟩ := fineAll_show xs (by simpa [fine] using h)
    have e := listText_len_le (PyData.shownAll xs)
    rw [PyData.shownAll_length] at e
    refine ⟨by simpa [PyData.showable] using h1, ?_⟩
    simp only [PyData.shown]
    show _ ≤ 300 * (1 + nodAll xs)
    omega
  | .tuple xs, h => by
    obtain ⟨h1, h2⟩ := fineAll_show xs (by simpa [fine] using h)
    have e := tupleText_len_le (PyData.shownAll xs)
    rw [PyData.shownAll_length] at e
    refine ⟨by simpa [PyData.showable] using h1, ?_⟩
    simp only [PyData.shown]
    show _ ≤ 300 * (1 + nodAll xs)
    omega
  | .dict kvs, h => by
    cases kvs with
    | nil => exact ⟨by simp [PyData.showable, PyData.showableKv], by decide +kernel⟩
    | cons _ _ => exact nomatch h
theorem fineAll_show : ∀ xs : List PyData, fineAll xs = true → PyData.showableAll xs = true ∧ ((PyData.shownAll xs).map (·.length)).sum + 3 * xs.length ≤ 300 * nodAll xs
  | [], _ => ⟨rfl, by decide⟩
  | x :: xs, h => by
    have h' : fine x = true ∧ fineAll xs = true := by simpa [fineAll] using h
    obtain ⟨a1, a2⟩ := fine_show x h'.1
    obtain ⟨b1, b2⟩ := fineAll_show xs h'.2
    refine ⟨by simp [PyData.showableAll, a1, b1], ?_⟩
    simp only [PyData.shownAll, List.map_cons, List.sum_cons, List.length_cons]
    show _ ≤ 300 * (nod x + nodAll xs)
    omega
end
mutual
theorem depth_nod : ∀ d : PyData, d.hasDict = false → d.depth ≤ nod d
  | .none, _ => Nat.zero_le _
  | .bool _, _ => Nat.zero_le _
  | .int _, _ => Nat.zero_le _
  | .str _, _ => Nat.zero_le _
  | .list xs, h => by
    have q := depthAll_nod xs (by simpa [PyData.hasDict] using h)
    show PyData.depthAll xs + 1 ≤ 1 + nodAll xs
    omega
  | .tuple xs, h => by
    have q := depthAll_nod xs (by simpa [PyData.hasDict] using h)
    show PyData.depthAll xs + 1 ≤ 1 + nodAll xs
    omega
  | .dict _, h => by simp [PyData.hasDict] at h
theorem depthAll_nod : ∀ xs : List PyData, PyData.hasDictAll xs = false → PyData.depthAll xs ≤ nodAll xs
  | [], _ => Nat.zero_le _
  | x :: xs, h => by
    have h' : x.hasDict = false ∧ PyData.hasDictAll xs = false := by simpa [PyData.hasDictAll] using h
    have a := depth_nod x h'.1
    have b := depthAll_nod xs h'.2
    show max x.depth (PyData.depthAll xs) ≤ nod x + nodAll xs
    omega
end
theorem shows_of {d : PyData} (h : fine d = true) (hn : nod d ≤ 50000) (hd : d.depth ≤ 60) : Shows d := by
  obtain ⟨a, b⟩ := fine_show d h
  refine ⟨a, ?_, hd⟩
  rw [sizeLine_eq]
  omega

/-! ### flat lists of data -/
/-- an int, or None -/
def vO : Option Int → V
  | none => .non
  | some i => .int i
def dO : Option Int → PyData
  | none => .none
  | some i => .int i
theorem dpa_opts {K : PySem.W.Frag} {H : Hp} : ∀ ws : List (Option Int), DpAll K H (ws.map vO) (ws.map dO)
  | [] => .nil
  | none :: ws => .cons .non (dpa_opts ws)
  | some i :: ws => .cons (.int i) (dpa_opts ws)
theorem nodAll_map {α : Type} {f : α → PyData} (h : ∀ x, nod (f x) = 1) : ∀ xs : List α, nodAll (xs.map f) = xs.length
  | [] => rfl
  | x :: xs => by
    show nod (f x) + nodAll (xs.map f) = xs.length + 1
    rw [h x, nodAll_map h xs]
    omega
theorem fineAll_map {α : Type} {f : α → PyData} : ∀ xs : List α, (∀ x ∈ xs, fine (f x) = true) → fineAll (xs.map f) = true
  | [], _ => rfl
  | x :: xs, h => by
    show (fine (f x) && fineAll (xs.map f)) = true
    rw [h x List.mem_cons_self, fineAll_map xs fun y hy => h y (List.mem_cons_of_mem _ hy)] <;> rfl
theorem depthAll_map {α : Type} {f : α → PyData} {k : Nat} : ∀ xs : List α, (∀ x ∈ xs, (f x).depth ≤ k) → PyData.depthAll (xs.map f) ≤ k
  | [], _ => Nat.zero_le _
  | x :: xs, h => by
    show max (f x).depth (PyData.depthAll (xs.map f)) ≤ k
    exact Nat.max_le.mpr ⟨h x List.mem_cons_self, depthAll_map xs fun y hy => h y (List.mem_cons_of_mem _ hy)⟩
theorem canAll_map {α : Type} {f : α → PyData} : ∀ xs : List α, (∀ x ∈ xs, (f x).canLay0 = true) → PyData.canLayAll0 (xs.map f) = true
  | [], _ => by simp [PyData.canLayAll0]
  | x :: xs, h => by simp [PyData.canLayAll0, h x List.mem_cons_self, canAll_map xs fun y hy => h y (List.mem_cons_of_mem _ hy)]
theorem dO_depth (o : Option Int) : (dO o).depth = 0 := by cases o <;> rfl
theorem dO_nod (o : Option Int) : nod (dO o) = 1 := by cases o <;> rfl

/-! ### what agreeing and straying tell -/
def agree (ns : List Int) (ws : List (Option Int)) (n : Int) : List Nat := (List.range ws.length).filter fun i => decide (vO (ws.getD i none) = .int ((rests ns n).getD i 0))
def stray (ns : List Int) (ws : List (Option Int)) (n : Int) : List Nat := (List.range ws.length).filter fun i => (!decide (vO (ws.getD i none) = .non)) && !decide (vO (ws.getD i none) = .int ((rests ns n).getD i 0))
def sp_lanes (r : List Int → List (Option Int) → Int → List Nat) (K : PySem.W.Frag) : Sp := fun vs H Q _ => ∃ (t p : Addr) (ns : List Int) (ws : List (Option Int)) (n : Int), vs = [.ref t, .ref p, .int n] ∧ SqT K H t (ns.map V.int) ∧ SqT K H p (ws.map vO) ∧
  IsMach ns ∧ ws.length = ns.length ∧ ∀ (l : Addr) (H' : Hp), Same H H' → H l = none → H' l = some (.tup ((r ns ws n).map fun i => V.int (i : Nat))) → Q (.ref l) H'
def sp_agreeing (K : PySem.W.Frag) : Sp := sp_lanes agree K
def sp_straying (K : PySem.W.Frag) : Sp := sp_lanes stray K
end Sx
namespace Sx
open PySem PySem.Spec PyProof.Rows L2

/-! ### zip of three tuples -/
def ItzT3 (K : PySem.W.Frag) (a b c : Addr) : It where
  go := fun i H => ∃ (xs ys zs : List V) (x y z : V), SqT K H a xs ∧ SqT K H b ys ∧ SqT K H c zs ∧ xs[i]? = some x ∧ ys[i]? = some y ∧ zs[i]? = some z
  yld := fun i H v H1 => ∃ T x y z, v = .ref T ∧ H T = none ∧ H1 = upd H T (.tup [x, y, z]) ∧ (∀ xs, SqT K H a xs → xs[i]? = some x) ∧ (∀ ys, SqT K H b ys → ys[i]? = some y) ∧ ∀ zs, SqT K H c zs → zs[i]? = some z
  stop := fun i H => ∃ n : Nat, i = n ∧ ∃ xs ys zs : List V, SqT K H a xs ∧ SqT K H b ys ∧ SqT K H c zs ∧ xs.length = n ∧ ys.length = n ∧ zs.length = n
abbrev cells3 (z TI TO i1 i2 i3 : Addr) : List Addr := [z, TI, TO, i1, i2, i3]
theorem in_cells3 {z TI TO i1 i2 i3 b : Addr} (h : b ∈ cells3 z TI TO i1 i2 i3) : b = z ∨ b = TI ∨ b = TO ∨ b = i1 ∨ b = i2 ∨ b = i3 := by simpa using h
theorem turn_zip3 {P : Program} {w : World} {K : PySem.W.Frag} {elts : List Expr} {kk : Nat} {tpos : Pos} {a b c z TI TO i1 i2 i3 : Addr} (S : ZipSep3 z TI TO i1 i2 i3 [i1, a] [i2, b] [i3, c]) (n1 : a ≠ i1) (n2 : b ≠ i2) (n3 : c ≠ i3) :
    Turn P w K (.Tuple elts kk tpos) (ItzT3 K a b c) (cells3 z TI TO i1 i2 i3) z
      (fun i h => IsZip h z TI TO .none ∧ IsTupOf3 h TI (.ref i1) (.ref i2) (.ref i3) ∧ (∃ x y u, IsTupOf3 h TO x y u) ∧ h.IsTupleIter i1 a i ∧ h.IsTupleIter i2 b i ∧ h.IsTupleIter i3 c i) where
  mem := List.mem_cons_self
  obj := by
    rintro i h ⟨hz, hTI, ⟨x, y, u, hTO⟩, ⟨o1, e1, _, d1⟩, ⟨o2, e2, _, d2⟩, ⟨o3, e3, _, d3⟩⟩ b hb
    rcases in_cells3 hb with q | q | q | q | q | q <;> subst q
    · exact ⟨_, hz, fun v q => nomatch q⟩
    · exact ⟨_, hTI, fun v q => nomatch q⟩
    · exact ⟨_, hTO, fun v q => nomatch q⟩
    · exact ⟨o1, e1, fun v q => by rw [d1] at q; cases q⟩
    · exact ⟨o2, e2, fun v q => by rw [d2] at q; cases q⟩
    · exact ⟨o3, e3, fun v q => by rw [d3] at q; cases q⟩
  keep := by
    rintro i h h' ⟨hz, hTI, ⟨x, y, u, hTO⟩, h1, h2, h3⟩ k
    exact ⟨k z (by simp) _ hz, k TI (by simp) _ hTI, ⟨x, y, u, k TO (by simp) _ hTO⟩, h1.at fun o q => k i1 (by simp) o q, h2.at fun o q => k i2 (by simp) o q, h3.at fun o q => k i3 (by simp) o q⟩
  item := by
    intro X hP hw hK hc i pins s σ H E I hf st hg
    subst hP hw hK
    obtain ⟨hz, hTI, ⟨x0, y0, z0, hTO⟩, h1, h2, h3⟩ := st
    obtain ⟨xs, ys, zs, x, y, u, qx, qy, qz, hx, hy, hu⟩ := hg
    obtain ⟨l1, r1, p1, _⟩ := I.tuple qx
    obtain ⟨l2, r2, p2, _⟩ := I.tuple qy
    obtain ⟨l3, r3, p3, _⟩ := I.tuple qz
    obtain ⟨v1, e1, rv1⟩ := r1.get hx
    obtain ⟨v2, e2, rv2⟩ := r2.get hy
    obtain ⟨v3, e3, rv3⟩ := r3.get hu
    have hh : X.A.in1.handled = none := I.ok.hd hc
    have g1 : l1.toArray[i]? = some v1 := by simpa using e1
    have g2 : l2.toArray[i]? = some v2 := by simpa using e2
    have g3 : l3.toArray[i]? = some v3 := by simpa using e3
    have t1 := (Array.getElem?_eq_some_iff.mp g1).1
    have t2 := (Array.getElem?_eq_some_iff.mp g2).1
    have t3 := (Array.getElem?_eq_some_iff.mp g3).1
    have hzl : z < s.heap.objs.size := Heap.lt_size hz
    refine wpAny_pyNext_zipD3_item S (Draws.tuple hh i1 a n1 l1.toArray) (Draws.tuple hh i2 b n2 l2.toArray) (Draws.tuple hh i3 c n3 l3.toArray) hz hTI hTO ⟨h1, p1⟩ ⟨h2, p2⟩ ⟨h3, p3⟩ t1 t2 t3 fun w1 w2 w3 h' tk y1 y2 y3 b1 b2 d1 d2 d3 hT hsz hk => ?_
    obtain rfl : w1 = v1 := Option.some.inj (y1.symm.trans g1)
    obtain rfl : w2 = v2 := Option.some.inj (y2.symm.trans g2)
    obtain rfl : w3 = v3 := Option.some.inj (y3.symm.trans g3)
    refine ⟨_, rfl, wpAny_letOwnedTupleGo_zip (s := { s with heap := h', toks := tk }) b1 fun h'' z'' sb => ?_⟩
    have hT2 : h''.get? s.heap.objs.size = some { cls := .type "tuple", data := .seq #[w1, w2, w3] } := (sb.2 _ (Nat.ne_of_gt hzl)).trans hT
    have new : ObjOk X.prog X.w (upd H s.heap.objs.size (.tup [x, y, u])) h'' s.heap.objs.size (.tup [x, y, u]) :=
      ⟨(show 3 ≤ sizeLine by decide), [w1, w2, w3], .cons rv1 (.cons rv2 (.cons rv3 .nil)), ⟨_, hT2, rfl, _, rfl⟩⟩
    have I1 : Inv X pins σ (upd H s.heap.objs.size (.tup [x, y, u])) { s with heap := h'', toks := tk } :=
      I.turnedNew (ch := cells3 z TI TO i1 i2 i3) (fun e o hb q => (sb.2 e (fun q' => hb (by simp [q']))).trans (hk e o (fun q' => hb (by simp [q'])) (fun q' => hb (by simp [q'])) (fun q' => hb (by simp [q'])) (fun q' => hb (by simp [q'])) (fun q' => hb (by simp [q'])) q)) hf (Nat.le_refl _) new
    refine ⟨.ref s.heap.objs.size, _, I1, rfl, ⟨_, x, y, u, rfl, I.hok.fresh (Nat.le_refl _), rfl, fun l hl => by rw [I.tuple_inj hl qx]; exact hx, fun l hl => by rw [I.tuple_inj hl qy]; exact hy, fun l hl => by rw [I.tuple_inj hl qz]; exact hu⟩, ⟨z'', ?_, ⟨w1, w2, w3, ?_⟩, ?_, ?_, ?_⟩, fun e hcm => ?_⟩
    · exact (sb.2 _ S.TIz).trans (hk _ _ S.TIz S.TITO S.TIi1 S.TIi2 S.TIi3 hTI)
    · exact (sb.2 _ S.TOz).trans b2
    · exact d1.1.at fun o q => (sb.2 _ (Ne.symm S.zi1)).trans q
    · exact d2.1.at fun o q => (sb.2 _ (Ne.symm S.zi2)).trans q
    · exact d3.1.at fun o q => (sb.2 _ (Ne.symm S.zi3)).trans q
    · have hlt : e < s.heap.objs.size := by
        rcases in_cells3 hcm with q | q | q | q | q | q <;> subst q
        · exact hzl
        · exact Heap.lt_size hTI
        · exact Heap.lt_size hTO
        · obtain ⟨_, q, _⟩ := h1
          exact Heap.lt_size q
        · obtain ⟨_, q, _⟩ := h2
          exact Heap.lt_size q
        · obtain ⟨_, q, _⟩ := h3
          exact Heap.lt_size q
      rw [upd_ne (Nat.ne_of_lt hlt)]
      exact (hf e hcm).1
  done := by
    intro X hP hw hK hc i pins s σ H E I hf st hg
    subst hP hw hK
    obtain ⟨hz, hTI, ⟨x0, y0, z0, hTO⟩, h1, h2, h3⟩ := st
    obtain ⟨n, rfl, xs, ys, zs, qx, qy, qz, e1, e2, e3⟩ := hg
    obtain ⟨l1, r1, p1, _⟩ := I.tuple qx
    obtain ⟨l2, r2, p2, _⟩ := I.tuple qy
    obtain ⟨l3, r3, p3, _⟩ := I.tuple qz
    have hh : X.A.in1.handled = none := I.ok.hd hc
    have f1 : i = l1.toArray.size := by rw [List.size_toArray, ← r1.length, e1]
    have f2 : i = l2.toArray.size := by rw [List.size_toArray, ← r2.length, e2]
    have f3 : i = l3.toArray.size := by rw [List.size_toArray, ← r3.length, e3]
    exact wpAny_pyNext_zipD3_end S (Draws.tuple hh i1 a n1 l1.toArray) (Draws.tuple hh i2 b n2 l2.toArray) (Draws.tuple hh i3 c n3 l3.toArray) hz hTI hTO ⟨h1, p1⟩ ⟨h2, p2⟩ ⟨h3, p3⟩ (Nat.le_of_eq f1) (Nat.le_of_eq f2) (Nat.le_of_eq f3) (.inl f1) fun h' tk hk =>
      ⟨rfl, I.turnedL (t' := tk) (ch := cells3 z TI TO i1 i2 i3) (fun e o hb q => hk e o (fun q' => hb (by simp [q'])) (fun q' => hb (by simp [q'])) (fun q' => hb (by simp [q'])) (fun q' => hb (by simp [q'])) (fun q' => hb (by simp [q'])) q) hf⟩
  self := fun A i s Q E st h => wpAny_pyIter_zip st.1 h
def iZip3T (K : PySem.W.Frag) (ta : TA) : TI := fun σ H R => ta σ H fun vs H1 => ∃ a b c xs ys zs, vs = [.ref a, .ref b, .ref c] ∧ SqT K H1 a xs ∧ SqT K H1 b ys ∧ SqT K H1 c zs ∧ R (ItzT3 K a b c) H1
theorem pi_zip3T {X : Cx} {e e2 e3 : Expr} {ta : TA} {p pos tpos : Pos} {elts : List Expr} {kk : Nat} (hg : Gl X "zip") (hm : X.mg "zip" = none) (ha : PA X [e, e2, e3] ta)
    (hs : starEach [e, e2, e3] X.env = (false, eval e X.env) :: starEach [e2, e3] X.env := by rfl) (hpl : (backTo pos (starEach [e2, e3] X.env)).any (·.1) = false := by rfl) :
    PI X (.Tuple elts kk tpos) (.Call (.Name "zip" p) [e, e2, e3] [] pos) (iZip3T X.K ta) := by
  refine ⟨fun pins s σ H R I h => Call_ (ld_blt I hg hm PyProof.Rows.boot_zip (PyProof.Rows.callWith_type1 (thn (ha.run pos pins s σ H _ I h) ?_) hs hpl))⟩
  rintro us s1 ⟨vs, H1, I1, r1, a, b, c, xs, ys, zs, rfl, qx, qy, qz, q⟩
  cases r1 with
  | cons ra r1 =>
    cases r1 with
    | cons rb r1 =>
      cases r1 with
      | cons rc r1 =>
        cases r1
        cases ra
        cases rb
        cases rc
        obtain ⟨l1, r1, p1, _⟩ := I1.tuple qx
        obtain ⟨l2, r2, p2, _⟩ := I1.tuple qy
        obtain ⟨l3, r3, p3, _⟩ := I1.tuple qz
        refine zip_begins3 (begins_tuple a l1.toArray) (begins_tuple b l2.toArray) (begins_tuple c l3.toArray) p1 p2 p3 fun h' hz hTI hTO g1 g2 g3 hsz hk => wpAny_pyIter_zip hz ?_
        have I2 : Inv X pins σ H1 { s1 with heap := h' } := I1.kept (t' := s1.toks) hk
        have lo : ∀ {t : Addr}, t < s1.heap.objs.size → ∀ b ∈ [t], b < s1.heap.objs.size := fun h b hb => by
          rw [List.mem_singleton.mp hb]
          exact h
        refine ⟨s1.heap.objs.size + 5, cells3 (s1.heap.objs.size + 5) (s1.heap.objs.size + 3) (s1.heap.objs.size + 4) s1.heap.objs.size (s1.heap.objs.size + 1) (s1.heap.objs.size + 2), _, _, H1, rfl, I2,
          turn_zip3 (zip_sep3 (lo p1.lt) (lo p2.lt) (lo p3.lt)) (Nat.ne_of_lt p1.lt) (Nat.ne_of_lt (Nat.lt_succ_of_lt p2.lt)) (Nat.ne_of_lt (Nat.lt_succ_of_lt (Nat.lt_succ_of_lt p3.lt))), ⟨hz, hTI, ⟨_, _, _, hTO⟩, ⟨_, g1, rfl, rfl⟩, ⟨_, g2, rfl, rfl⟩, ⟨_, g3, rfl, rfl⟩⟩, fun e he => ?_, q⟩
        have hle : s1.heap.objs.size ≤ e := by
          rcases in_cells3 he with q | q | q | q | q | q <;> rw [q]
          all_goals first | exact Nat.le_refl _ | exact Nat.le_add_right _ _
        exact I1.fpOk hle (I1.hok.fresh hle)
theorem walk_zip3T {K : PySem.W.Frag} {a b c : Addr} {xs ys zs : List V} {n : Nat} (h1 : xs.length = n) (h2 : ys.length = n) (h3 : zs.length = n) : Walk (ItzT3 K a b c) n (fun H => SqT K H a xs ∧ SqT K H b ys ∧ SqT K H c zs)
    (fun i H v H1 => ∃ T x y z, v = .ref T ∧ H T = none ∧ H1 = upd H T (.tup [x, y, z]) ∧ xs[i]? = some x ∧ ys[i]? = some y ∧ zs[i]? = some z) := by
  refine ⟨fun i H hi q => ⟨xs, ys, zs, xs[i], ys[i], zs[i], q.1, q.2.1, q.2.2, List.getElem?_eq_getElem (by omega), List.getElem?_eq_getElem (by omega), List.getElem?_eq_getElem (by omega)⟩, fun H q => ⟨n, rfl, xs, ys, zs, q.1, q.2.1, q.2.2, h1, h2, h3⟩, ?_⟩
  rintro i H v H1 _ q ⟨T, x, y, z, e1, e2, e3, e4, e5, e6⟩
  exact ⟨T, x, y, z, e1, e2, e3, e4 xs q.1, e5 ys q.2.1, e6 zs q.2.2⟩
def sp__law_is_split (K : PySem.W.Frag) : Sp := fun vs H Q _ => ∃ (H0 : Hp) (b g t : Addr) (ns : List Int) (n : Int), vs = [.ref b, .ref t, .int n] ∧ Bs H0 H b g ∧ SqT K H0 t (ns.map V.int) ∧ IsMach ns ∧ ∀ H', Bs H0 H' b g → Q (.bl true) H'
end Sx
namespace Sx
open PySem PySem.Spec PyProof.Rows L2

/-! ### lists of places -/
def nI (l : List Nat) : List V := l.map fun i => V.int (i : Nat)
def dI (l : List Nat) : List PyData := l.map fun i => PyData.int (i : Nat)
theorem dpa_nI {K : PySem.W.Frag} {H : Hp} : ∀ l : List Nat, DpAll K H (nI l) (dI l)
  | [] => .nil
  | i :: l => .cons (.int _) (dpa_nI l)
theorem fine_int {i : Int} (h : i.natAbs < 10 ^ 120) : fine (.int i) = true := by
  have h2 : i.natAbs < big := Nat.lt_trans h (by decide +kernel)
  simpa [fine] using h2
theorem fineAll_dI {l : List Nat} (h : ∀ i ∈ l, i < 1000000) : fineAll (dI l) = true := fineAll_map l fun i hi => fine_int (by
  have := h i hi
  show i < 10 ^ 120
  exact Nat.lt_trans this (by decide +kernel))
theorem nodAll_dI (l : List Nat) : nodAll (dI l) = l.length := nodAll_map (fun _ => rfl) l
theorem depthAll_dI (l : List Nat) : PyData.depthAll (dI l) ≤ 0 := depthAll_map l fun _ _ => Nat.le_refl 0
theorem inV_nI (i : Nat) : ∀ l : List Nat, inV (.int (i : Nat)) (nI l) = decide (i ∈ l)
  | [] => by simp [inV, nI]
  | j :: l => by
    have e := inV_nI i l
    have h : inV (.int (i : Nat)) (nI (j :: l)) = (eqV (.int (j : Nat)) (.int (i : Nat)) || inV (.int (i : Nat)) (nI l)) := rfl
    rw [h, e]
    have e2 : eqV (.int (j : Nat)) (.int (i : Nat)) = decide (i = j) := by
      by_cases q : i = j
      · subst q
        simp [eqV]
      · have q2 : ¬ ((j : Nat) : Int) = ((i : Nat) : Int) := by omega
        simp [eqV, q, q2]
    rw [e2]
    simp
theorem flat_nI (l : List Nat) : (nI l).all flatV = true := by
  unfold nI
  rw [List.all_map, List.all_eq_true]
  intro i _
  rfl

/-! ### data of two rows -/
theorem shows1 {ds : List PyData} (h : fineAll ds = true) (hn : nodAll ds ≤ 10000) (hd : PyData.depthAll ds ≤ 9) : Shows (.tuple ds) ∧ Shows (.list ds) := by
  have e1 : nod (.tuple ds) = 1 + nodAll ds := rfl
  have e2 : PyData.depth (.tuple ds) = PyData.depthAll ds + 1 := rfl
  have e3 : nod (.list ds) = 1 + nodAll ds := rfl
  have e4 : PyData.depth (.list ds) = PyData.depthAll ds + 1 := rfl
  exact ⟨shows_of h (by omega) (by omega), shows_of h (by omega) (by omega)⟩
theorem shows2 {d1 d2 : PyData} (h1 : fine d1 = true) (h2 : fine d2 = true) (n1 : nod d1 ≤ 10000) (n2 : nod d2 ≤ 10000) (e1 : d1.depth ≤ 9) (e2 : d2.depth ≤ 9) : Shows (.list [d1, d2]) := by
  refine shows_of ?_ ?_ ?_
  · show (fine d1 && (fine d2 && true)) = true
    rw [h1, h2] <;> rfl
  · show 1 + (nod d1 + (nod d2 + 0)) ≤ 50000
    omega
  · show max d1.depth (max d2.depth 0) + 1 ≤ 60
    omega
/-- a row's facts, for shows2 -/
structure Row (d : PyData) : Prop where
  f : fine d = true
  n : nod d ≤ 10000
  d : d.depth ≤ 9
theorem Row.one {d : PyData} (a : Row d) : Shows d := shows_of a.f (by have := a.n; omega) (by have := a.d; omega)
theorem Row.tup {ds : List PyData} (h : fineAll ds = true) (hn : nodAll ds ≤ 9000) (hd : PyData.depthAll ds ≤ 8) : Row (.tuple ds) :=
  ⟨h, (by show 1 + nodAll ds ≤ 10000; omega), (by show PyData.depthAll ds + 1 ≤ 9; omega)⟩
theorem Row.lst {ds : List PyData} (h : fineAll ds = true) (hn : nodAll ds ≤ 9000) (hd : PyData.depthAll ds ≤ 8) : Row (.list ds) :=
  ⟨h, (by show 1 + nodAll ds ≤ 10000; omega), (by show PyData.depthAll ds + 1 ≤ 9; omega)⟩
theorem Row.two {d1 d2 : PyData} (a : Row d1) (b : Row d2) : Shows (.list [d1, d2]) := shows2 a.f b.f a.n b.n a.d b.d
theorem Row.mach {ns : List Int} (hm : IsMach ns) : Row (.tuple (ns.map PyData.int)) := by
  refine .tup (fineAll_map ns fun n hn => fine_int ?_) ?_ (depthAll_map ns fun _ _ => Nat.zero_le _)
  · have := hm.mod n hn
    exact Nat.lt_trans (show n.natAbs < 1000001 by omega) (by decide +kernel)
  · rw [nodAll_map (fun _ => rfl)]
    have := hm.ten
    omega
theorem Row.ints {ns : List Int} (h : ∀ n ∈ ns, n.natAbs < 10 ^ 120) (hl : ns.length ≤ 9000) : Row (.tuple (ns.map PyData.int)) := by
  refine .tup (fineAll_map ns fun n hn => fine_int (h n hn)) ?_ (depthAll_map ns fun _ _ => Nat.zero_le _)
  rw [nodAll_map (fun _ => rfl)]
  exact hl
/-- a word's items -/
def IsWord (ws : List (Option Int)) : Prop := ws.length ≤ 10 ∧ ∀ r, some r ∈ ws → 0 ≤ r ∧ r < 1000000
theorem Row.word {ws : List (Option Int)} (h : IsWord ws) : Row (.tuple (ws.map dO)) := by
  refine .tup (fineAll_map ws fun o ho => ?_) ?_ (depthAll_map ws fun o _ => by rw [dO_depth]; exact Nat.zero_le _)
  · cases o with
    | none => rfl
    | some r =>
      have := h.2 r ho
      exact fine_int (Nat.lt_trans (show r.natAbs < 1000000 by omega) (by decide +kernel))
  · rw [nodAll_map dO_nod]
    have := h.1
    omega
theorem Row.places {l : List Nat} (h : ∀ i ∈ l, i < 10) (hl : l.length ≤ 10) : Row (.tuple (dI l)) := by
  refine .tup (fineAll_dI fun i hi => by have := h i hi; omega) ?_ (Nat.le_trans (depthAll_dI l) (by decide))
  rw [nodAll_dI]
  omega

/-! ### the lanes that speak, agree, stray -/
def spoke (ws : List (Option Int)) (k : Nat) : List Nat := (List.range k).filter fun i => !decide (vO (ws.getD i none) = .non)
def fitOf (ns : List Int) (ws : List (Option Int)) (n : Int) (l : List Nat) : List Nat := l.filter fun i => decide (vO (ws.getD i none) = .int (n % ns.getD i 0))
def unfitOf (l f : List Nat) : List Nat := l.filter fun i => !inV (.int (i : Nat)) (nI f)
theorem rests_at {ns : List Int} {n : Int} {i : Nat} (h : i < ns.length) : (rests ns n).getD i 0 = n % ns.getD i 0 := by
  unfold rests
  rw [List.getD_eq_getElem?_getD, List.getD_eq_getElem?_getD, List.getElem?_map, List.getElem?_eq_getElem h] <;> rfl
theorem fit_eq {ns : List Int} {ws : List (Option Int)} {n : Int} (h : ws.length = ns.length) : fitOf ns ws n (spoke ws ns.length) = agree ns ws n := by
  unfold fitOf spoke agree
  rw [List.filter_filter, h]
  refine List.filter_congr fun i hi => ?_
  rw [rests_at (List.mem_range.mp hi)]
  generalize ws.getD i none = o
  cases o <;> simp [vO]
theorem unfit_eq {ns : List Int} {ws : List (Option Int)} {n : Int} (h : ws.length = ns.length) : unfitOf (spoke ws ns.length) (agree ns ws n) = stray ns ws n := by
  unfold unfitOf spoke
  rw [List.filter_filter]
  unfold stray
  rw [h]
  refine List.filter_congr fun i hi => ?_
  rw [inV_nI]
  have e : decide (i ∈ agree ns ws n) = decide (vO (ws.getD i none) = .int ((rests ns n).getD i 0)) := by
    unfold agree
    rw [h]
    rw [Bool.eq_iff_iff]
    simp only [decide_eq_true_eq, List.mem_filter]
    exact ⟨fun q => q.2, fun q => ⟨hi, q⟩⟩
  rw [e, Bool.and_comm]
theorem lanes_small {p : Nat → Bool} {k : Nat} (hk : k ≤ 10) : (∀ i ∈ (List.range k).filter p, i < 10) ∧ ((List.range k).filter p).length ≤ 10 := by
  constructor
  · intro i hi
    have := List.mem_range.mp (List.mem_filter.mp hi).1
    omega
  · have := List.length_filter_le p (List.range k)
    rw [List.length_range] at this
    omega
theorem getD_some {α : Type} {xs : List α} {i : Nat} (d : α) (h : i < xs.length) : xs[i]? = some (xs.getD i d) := by
  rw [List.getD_eq_getElem?_getD, List.getElem?_eq_getElem h] <;> rfl
theorem walk_range0 {n : Nat} : Walk (Itr 0 n) n (fun _ => True) (fun i H x H1 => H1 = H ∧ x = .int (i : Nat)) := by
  refine Walk.mono walk_range (fun _ h => h) ?_
  rintro i H x H1 _ _ ⟨rfl, rfl⟩
  exact ⟨rfl, congrArg V.int (Int.zero_add _)⟩
theorem range_at {k i z : Nat} (h : (List.range k)[i]? = some z) : i = z ∧ i < k := by
  have hi := (List.getElem?_eq_some_iff.mp h).1
  rw [List.length_range] at hi
  rw [List.getElem?_range hi] at h
  exact ⟨Option.some.inj h, hi⟩

/-- what stands in H and is no part of the box, known to H0 from now on -/
theorem Bs.own {H0 H : Hp} {b g p : Addr} {o : HO} (B : Bs H0 H b g) (e : H p = some o) (pb : p ≠ b) (pg : p ≠ g) : Bs (upd H0 p o) H b g := by
  refine ⟨?_, by rw [upd_ne pb.symm]; exact B.nb, by rw [upd_ne pg.symm]; exact B.ng, B.ls, B.dc⟩
  intro c x h
  by_cases hc : c = p
  · subst hc
    rw [upd_same] at h
    cases h
    exact e
  · rw [upd_ne hc] at h
    exact B.sub c x h

/-! ### equal rows of ints -/
theorem eqvAll_ints : ∀ xs ys : List Int, PyData.eqvAll (xs.map PyData.int) (ys.map PyData.int) = decide (xs = ys)
  | [], [] => by simp [PyData.eqvAll]
  | [], _ :: _ => by simp [PyData.eqvAll]
  | _ :: _, [] => by simp [PyData.eqvAll]
  | x :: xs, y :: ys => by
    have e := eqvAll_ints xs ys
    simp only [List.map_cons, PyData.eqvAll, PyData.eqv, e]
    by_cases h : x = y <;> simp [h]
theorem eqv_tup_ints (xs ys : List Int) : PyData.eqv (.tuple (xs.map PyData.int)) (.tuple (ys.map PyData.int)) = decide (xs = ys) := by
  simp only [PyData.eqv, eqvAll_ints]
theorem shaped_tup_ints (ns : List Int) : SeqAt.shaped (.tuple (ns.map PyData.int)) = true := shaped_ints ns
theorem rests_alike (ns : List Int) (a b : Int) : decide (rests ns a = rests ns b) = (ns.filter fun m => !decide (V.int ((b - a) % m) = V.int 0)).isEmpty := by
  rw [Bool.eq_iff_iff, decide_eq_true_eq, List.isEmpty_iff, List.filter_eq_nil_iff]
  have key : ∀ m : Int, (a % m = b % m) ↔ (b - a) % m = 0 := by
    intro m
    constructor
    · intro h
      exact Int.emod_eq_zero_of_dvd (Int.dvd_of_emod_eq_zero (Int.emod_eq_emod_iff_emod_sub_eq_zero.mp h.symm))
    · intro h
      exact (Int.emod_eq_emod_iff_emod_sub_eq_zero.mpr h).symm
  unfold rests
  constructor
  · intro h m hm
    have h2 := List.map_inj_left.mp h m hm
    simp [(key m).mp h2]
  · intro h
    refine List.map_inj_left.mpr fun m hm => (key m).mpr ?_
    have := h m hm
    simpa using this
theorem rSlA_of {K : PySem.W.Frag} {lo hi : Option Int} {H : Hp} {Q : VK} {a : Addr} {xs : List V} (h : SqT K H a xs) (k : ∀ (o : Addr) (H1 : Hp), SqT K H1 o (cutV xs lo hi) → Same H H1 → Q (.ref o) H1) : rSlA K (.ref a) lo hi H Q := by
  refine ⟨a, xs, rfl, h, fun hw => k a H ?_ (Same.refl H), fun _ p np => k p _ (.of upd_same) (same_new np)⟩
  have e : cutV xs lo hi = xs := by
    unfold cutV
    rw [hw.1, hw.2, List.drop_zero, Nat.sub_zero, List.take_length]
  rw [e]
  exact h
theorem mem_cutV {xs : List V} {lo hi : Option Int} {x : V} (h : x ∈ cutV xs lo hi) : x ∈ xs := List.mem_of_mem_drop (List.mem_of_mem_take h)
def op3 (j : Nat) (a b : Int) : Int := match j with | 0 => a + b | 1 => a - b | _ => a * b
theorem op3_rests (ns : List Int) (j : Nat) (a b : Int) : rests ns (op3 j a b) = ns.map fun m => op3 j (a % m) (b % m) % m := by
  unfold rests
  refine List.map_congr_left fun m _ => ?_
  match j with
  | 0 => exact Int.add_emod a b m
  | 1 => exact Int.sub_emod a b m
  | _ + 2 => exact Int.mul_emod a b m
theorem op3_at (j : Nat) (hj : j < 3) (a b : Int) : [V.int (a + b), V.int (a - b), V.int (a * b)][j]? = some (V.int (op3 j a b)) := by
  match j, hj with
  | 0, _ => rfl
  | 1, _ => rfl
  | 2, _ => rfl
end Sx
namespace Sx
open PySem PySem.Spec PyProof.Rows L2

/-! ### min, max of a tuple of ints -/
theorem alike_ints (ns : List Int) : PySem.W.AlikeAll (ns.map PyData.int) := by
  constructor
  · intro x hx y hy
    obtain ⟨a, _, rfl⟩ := List.mem_map.mp hx
    obtain ⟨b, _, rfl⟩ := List.mem_map.mp hy
    rfl
  · intro x hx
    obtain ⟨a, _, rfl⟩ := List.mem_map.mp hx
    exact fun z => nomatch z
def rMinT (K : PySem.W.Frag) : List V → Hp → VK → Prop := fun vs H Q => ∃ (a : Addr) (n : Int) (ns : List Int), vs = [V.ref a] ∧ SqT K H a ((n :: ns).map V.int) ∧ Q (.int (ns.foldl min n)) H
def rMaxT (K : PySem.W.Frag) : List V → Hp → VK → Prop := fun vs H Q => ∃ (a : Addr) (n : Int) (ns : List Int), vs = [V.ref a] ∧ SqT K H a ((n :: ns).map V.int) ∧ Q (.int (ns.foldl max n)) H
theorem cr_minT {X : Cx} (hc : X.calm = true) (hu : X.A.units + 64 < cLine) : CallR X (.builtin "min") (rMinT X.K) := by
  intro pins s σ H vs us Q I r h
  obtain ⟨a, n, ns, rfl, hs, q⟩ := h
  obtain ⟨its, rv, tp, _⟩ := I.tuple hs
  obtain ⟨as, rd⟩ := Dp.readsAll I ((n :: ns).map PyData.int) _ its (dpa_ints (n :: ns)) rv
  rw [Vals.ref1 r]
  have hd := depthAll_ints (n :: ns)
  refine PySem.W.min_tuple_data (x := .int n) (xs := ns.map PyData.int) (I.ok.hd hc) (show s.heap.IsTuple a its.toArray from tp) (by simpa using rd) (alike_ints (n :: ns)) (by
    show X.A.units + 1 + PyData.depthAll ((n :: ns).map PyData.int) < cLine
    omega) fun i v h' tk bs hv hr hk => ?_
  rw [PySem.W.minD_ints] at hr
  cases hr with
  | int _ t => exact ⟨.int (ns.foldl min n), H, I.kept hk, ⟨_, rfl⟩, q⟩
theorem cr_maxT {X : Cx} (hc : X.calm = true) (hu : X.A.units + 64 < cLine) : CallR X (.builtin "max") (rMaxT X.K) := by
  intro pins s σ H vs us Q I r h
  obtain ⟨a, n, ns, rfl, hs, q⟩ := h
  obtain ⟨its, rv, tp, _⟩ := I.tuple hs
  obtain ⟨as, rd⟩ := Dp.readsAll I ((n :: ns).map PyData.int) _ its (dpa_ints (n :: ns)) rv
  rw [Vals.ref1 r]
  have hd := depthAll_ints (n :: ns)
  refine PySem.W.max_tuple_data (x := .int n) (xs := ns.map PyData.int) (I.ok.hd hc) (show s.heap.IsTuple a its.toArray from tp) (by simpa using rd) (alike_ints (n :: ns)) (by
    show X.A.units + 1 + PyData.depthAll ((n :: ns).map PyData.int) < cLine
    omega) fun i v h' tk bs hv hr hk => ?_
  rw [PySem.W.maxD_ints] at hr
  cases hr with
  | int _ t => exact ⟨.int (ns.foldl max n), H, I.kept hk, ⟨_, rfl⟩, q⟩

/-! ### steps -/
inductive Stp where
  | inn (lo hi : Int)
  | num (c : Int)
  | op (k i j : Nat)
instance : Inhabited Stp := ⟨.num 0⟩
def opw : Nat → Str
  | 0 => "sum"
  | 1 => "less"
  | _ => "times"
def stepV : Stp → List V
  | .inn lo hi => [.str "in", .int lo, .int hi]
  | .num c => [.str "is", .int c]
  | .op k i j => [.str (opw k), .int (i : Nat), .int (j : Nat)]
def stepD : Stp → List PyData
  | .inn lo hi => [.str "in", .int lo, .int hi]
  | .num c => [.str "is", .int c]
  | .op k i j => [.str (opw k), .int (i : Nat), .int (j : Nat)]
def StepOk (n : Nat) : Stp → Prop
  | .inn lo hi => IsNum lo ∧ IsNum hi ∧ lo ≤ hi
  | .num c => IsNum c
  | .op k i j => k ≤ 2 ∧ i < n ∧ j < n
theorem wne {a b : Str} (h : (a == b) = false) : decide (V.str a = V.str b) = false := by
  refine decide_eq_false fun e => ?_
  rw [V.str.inj e] at h
  simp at h
/-! ### hulls -/
def min4 (a b c d : Int) : Int := min (min (min a b) c) d
def max4 (a b c d : Int) : Int := max (max (max a b) c) d
def hullOp (k : Nat) (x y : Int × Int) : Int × Int := match k with
  | 0 => (x.1 + y.1, x.2 + y.2)
  | 1 => (x.1 - y.2, x.2 - y.1)
  | _ => (min4 (x.1 * y.1) (x.1 * y.2) (x.2 * y.1) (x.2 * y.2), max4 (x.1 * y.1) (x.1 * y.2) (x.2 * y.1) (x.2 * y.2))
def hullS (E : List (Int × Int)) : Stp → Int × Int
  | .inn lo hi => (lo, hi)
  | .num c => (c, c)
  | .op k i j => hullOp k (E.getD i (0, 0)) (E.getD j (0, 0))
def hullsN (ss : List Stp) : Nat → List (Int × Int)
  | 0 => []
  | i + 1 => hullsN ss i ++ [hullS (hullsN ss i) (ss.getD i default)]
theorem hullsN_len (ss : List Stp) : ∀ i, (hullsN ss i).length = i
  | 0 => rfl
  | i + 1 => by
    show (hullsN ss i ++ [_]).length = i + 1
    rw [List.length_append, hullsN_len ss i] <;> rfl
def hullMost : Int := 10 ^ 120
def Bnd (e : Int × Int) : Prop := e.1.natAbs ≤ 10 ^ 120 ∧ e.2.natAbs ≤ 10 ^ 120
structure IsProg (ss : List Stp) : Prop where
  one : 1 ≤ ss.length
  most : ss.length ≤ 30
  ok : ∀ i s, ss[i]? = some s → StepOk i s
  bnd : ∀ i, i ≤ ss.length → ∀ e ∈ hullsN ss i, Bnd e
theorem bnd_wide {a b : Int} (ha : a.natAbs ≤ 10 ^ 120) (hb : b.natAbs ≤ 10 ^ 120) : CMulW a b :=
  wide_mul (a := 400) (b := 400) (Nat.lt_of_le_of_lt ha (by decide +kernel)) (Nat.lt_of_le_of_lt hb (by decide +kernel)) (by decide) (by decide) (by decide)
theorem num_bnd {n : Int} (h : IsNum n) : n.natAbs ≤ 10 ^ 120 := by
  have h2 : n.natAbs ≤ 10 ^ 60 := by
    have a := h.1
    have b := h.2
    omega
  exact Nat.le_trans h2 (by decide +kernel)
/-! ### where hulls, programs stand -/
abbrev PairAt (H : Hp) (a : Addr) (e : Int × Int) : Prop := H a = some (.tup [.int e.1, .int e.2])
def HlsAt (H : Hp) (l : Addr) (E : List (Int × Int)) : Prop := ∃ as : List Addr, H l = some (.lst (as.map V.ref)) ∧ Paired (PairAt H) as E
def HltAt (H : Hp) (t : Addr) (E : List (Int × Int)) : Prop := ∃ as : List Addr, H t = some (.tup (as.map V.ref)) ∧ Paired (PairAt H) as E
abbrev StepAt (H : Hp) (a : Addr) (s : Stp) : Prop := H a = some (.tup (stepV s))
def ProgAt (H : Hp) (t : Addr) (ss : List Stp) : Prop := ∃ as : List Addr, H t = some (.tup (as.map V.ref)) ∧ Paired (StepAt H) as ss
theorem paired_same {β : Type} {R : Hp → Addr → β → Prop} {H H1 : Hp} (h : ∀ a x, R H a x → R H1 a x) : ∀ {as : List Addr} {xs : List β}, Paired (R H) as xs → Paired (R H1) as xs
  | _, _, .nil => .nil
  | _, _, .cons r t => .cons (h _ _ r) (paired_same h t)
theorem HlsAt.same {H H1 : Hp} {l : Addr} {E : List (Int × Int)} (s : Same H H1) (h : HlsAt H l E) : HlsAt H1 l E := by
  obtain ⟨as, e, p⟩ := h
  exact ⟨as, s _ _ e, paired_same (fun a x r => s _ _ r) p⟩
theorem HltAt.same {H H1 : Hp} {l : Addr} {E : List (Int × Int)} (s : Same H H1) (h : HltAt H l E) : HltAt H1 l E := by
  obtain ⟨as, e, p⟩ := h
  exact ⟨as, s _ _ e, paired_same (fun a x r => s _ _ r) p⟩
theorem ProgAt.same {H H1 : Hp} {t : Addr} {ss : List Stp} (s : Same H H1) (h : ProgAt H t ss) : ProgAt H1 t ss := by
  obtain ⟨as, e, p⟩ := h
  exact ⟨as, s _ _ e, paired_same (fun a x r => s _ _ r) p⟩
theorem paired_at {β : Type} {R : Addr → β → Prop} : ∀ {as : List Addr} {xs : List β} {i : Nat} {x : β}, Paired R as xs → xs[i]? = some x → ∃ a, as[i]? = some a ∧ R a x
  | _, _, _, _, .nil, h => by simp at h
  | _, _, 0, x, .cons r t, h => ⟨_, rfl, by rw [← Option.some.inj h]; exact r⟩
  | _, _, i + 1, x, .cons r t, h => paired_at (i := i) t (by simpa using h)
theorem paired_len {β : Type} {R : Addr → β → Prop} {as : List Addr} {xs : List β} (h : Paired R as xs) : as.length = xs.length := Paired.length h
theorem paired_snoc {β : Type} {R : Addr → β → Prop} {a : Addr} {x : β} : ∀ {as : List Addr} {xs : List β}, Paired R as xs → R a x → Paired R (as ++ [a]) (xs ++ [x])
  | _, _, .nil, h => .cons h .nil
  | _, _, .cons r t, h => .cons r (paired_snoc t h)
/-- rows of data at once -/
theorem dpa_paired {β : Type} {K : PySem.W.Frag} {H : Hp} {R : Addr → β → Prop} {f : β → PyData} (h : ∀ a x, R a x → Dp K H (.ref a) (f x)) : ∀ {as : List Addr} {xs : List β}, Paired R as xs → DpAll K H (as.map V.ref) (xs.map f)
  | _, _, .nil => .nil
  | _, _, .cons r t => .cons (h _ _ r) (dpa_paired h t)
theorem dpa_step {K : PySem.W.Frag} {H : Hp} (s : Stp) : DpAll K H (stepV s) (stepD s) := by
  cases s with
  | inn lo hi => exact .cons (.str _) (.cons (.int _) (.cons (.int _) .nil))
  | num c => exact .cons (.str _) (.cons (.int _) .nil)
  | op k i j => exact .cons (.str _) (.cons (.int _) (.cons (.int _) .nil))
theorem dp_prog {K : PySem.W.Frag} {H : Hp} {t : Addr} {ss : List Stp} (h : ProgAt H t ss) : Dp K H (.ref t) (.tuple (ss.map fun s => .tuple (stepD s))) := by
  obtain ⟨as, e, p⟩ := h
  exact .tup (.of e) (dpa_paired (fun a s r => .tup (.of r) (dpa_step s)) p)
def hullD (e : Int × Int) : PyData := .tuple [.int e.1, .int e.2]
theorem dp_hlt {K : PySem.W.Frag} {H : Hp} {t : Addr} {E : List (Int × Int)} (h : HltAt H t E) : Dp K H (.ref t) (.tuple (E.map hullD)) := by
  obtain ⟨as, e, p⟩ := h
  exact .tup (.of e) (dpa_paired (f := hullD) (fun a x r => .tup (.of r) (.cons (.int _) (.cons (.int _) .nil))) p)
/-! ### the promises -/
abbrev HullEnd (H : Hp) (Q : VK) (e : Int × Int) : Prop := ∀ (a : Addr) (H' : Hp), Same H H' → H a = none → PairAt H' a e → Q (.ref a) H'
def sp_hull_of (_ : PySem.W.Frag) : Sp := fun vs H Q _ => ∃ (p l : Addr) (s : Stp) (E : List (Int × Int)), vs = [.ref p, .ref l] ∧ StepAt H p s ∧ HlsAt H l E ∧ StepOk E.length s ∧ (∀ e ∈ E, Bnd e) ∧ HullEnd H Q (hullS E s)
def sp__law_hull (_ : PySem.W.Frag) : Sp := fun vs H Q _ => ∃ (p l : Addr) (s : Stp) (E : List (Int × Int)), vs = [.ref l, .ref p] ∧ StepAt H p s ∧ HlsAt H l E ∧ StepOk E.length s ∧ (∀ e ∈ E, Bnd e) ∧ HullEnd H Q (hullS E s)
theorem min4_of {p q r s m : Int} (h : m ∈ [p, q, r, s]) (hl : ∀ y, y ∈ [p, q, r, s] → m ≤ y) : m = min4 p q r s := by
  have h1 := hl p (by simp)
  have h2 := hl q (by simp)
  have h3 := hl r (by simp)
  have h4 := hl s (by simp)
  have h' : m = p ∨ m = q ∨ m = r ∨ m = s := by simpa using h
  unfold min4
  omega
theorem max4_of {p q r s m : Int} (h : m ∈ [p, q, r, s]) (hl : ∀ y, y ∈ [p, q, r, s] → y ≤ m) : m = max4 p q r s := by
  have h1 := hl p (by simp)
  have h2 := hl q (by simp)
  have h3 := hl r (by simp)
  have h4 := hl s (by simp)
  have h' : m = p ∨ m = q ∨ m = r ∨ m = s := by simpa using h
  unfold max4
  omega
theorem hl_at {H : Hp} {l : Addr} {E : List (Int × Int)} {i : Nat} (h : HlsAt H l E) (hi : i < E.length) : ∃ (as : List Addr) (a : Addr), H l = some (.lst (as.map V.ref)) ∧ (as.map V.ref)[i]? = some (.ref a) ∧ PairAt H a (E.getD i (0, 0)) ∧ (E.getD i (0, 0)) ∈ E := by
  obtain ⟨as, e, p⟩ := h
  have hx : E[i]? = some (E.getD i (0, 0)) := getD_some _ hi
  obtain ⟨a, h1, h2⟩ := paired_at p hx
  exact ⟨as, a, e, by rw [List.getElem?_map, h1]; rfl, h2, List.mem_of_getElem? hx⟩
end Sx
namespace Sx
open PySem PySem.Spec PyProof.Rows L2
def sp__law_stretch (_ : PySem.W.Frag) : Sp := fun vs H Q _ => ∃ (H0 : Hp) (b g : Addr), vs = [.ref b] ∧ Bs H0 H b g ∧ ∀ (lo hi : Int) (p : Addr) (H1 H' : Hp), IsNum lo → IsNum hi → lo ≤ hi → Same H0 H1 → H0 p = none → PairAt H1 p (lo, hi) → Bs H1 H' b g → Q (.ref p) H'
def sp__law_step (_ : PySem.W.Frag) : Sp := fun vs H Q _ => ∃ (H0 : Hp) (b g : Addr) (i : Nat), vs = [.ref b, .int (i : Nat)] ∧ Bs H0 H b g ∧ i < 1000 ∧ ∀ (s : Stp) (p : Addr) (H1 H' : Hp), StepOk i s → Same H0 H1 → H0 p = none → StepAt H1 p s → Bs H1 H' b g → Q (.ref p) H'
end Sx
namespace Sx
open PySem PySem.Spec PyProof.Rows L2
def sp__law_program (_ : PySem.W.Frag) : Sp := fun vs H Q _ => ∃ (H0 : Hp) (b g : Addr) (most : Int), vs = [.ref b, .int most] ∧ Bs H0 H b g ∧ 1 ≤ most ∧ most ≤ 30 ∧
  ∀ (ss : List Stp) (p : Addr) (H1 H' : Hp), IsProg ss → Same H0 H1 → H0 p = none → ProgAt H1 p ss → Bs H1 H' b g → Q (.ref p) H'
theorem tup_put {H : Hp} {p a : Addr} {xs ys : List V} {o : HO} (hp : H p = some (.lst xs)) (h : H a = some (.tup ys)) : (upd H p o) a = some (.tup ys) := by
  rw [upd_ne (ne_of h hp (fun z => nomatch z))]
  exact h
theorem hullsN_app {ss : List Stp} {s : Stp} : ∀ {i : Nat}, i ≤ ss.length → hullsN (ss ++ [s]) i = hullsN ss i
  | 0, _ => rfl
  | i + 1, h => by
    have e := hullsN_app (ss := ss) (s := s) (i := i) (by omega)
    show hullsN (ss ++ [s]) i ++ [hullS (hullsN (ss ++ [s]) i) ((ss ++ [s]).getD i default)] = hullsN ss i ++ [hullS (hullsN ss i) (ss.getD i default)]
    rw [e]
    have h2 : (ss ++ [s]).getD i default = ss.getD i default := by
      rw [List.getD_eq_getElem?_getD, List.getD_eq_getElem?_getD, List.getElem?_append_left (by omega)]
    rw [h2]
theorem hullsN_snoc {ss : List Stp} {s : Stp} : hullsN (ss ++ [s]) (ss.length + 1) = hullsN ss ss.length ++ [hullS (hullsN ss ss.length) s] := by
  show hullsN (ss ++ [s]) ss.length ++ [hullS (hullsN (ss ++ [s]) ss.length) ((ss ++ [s]).getD ss.length default)] = _
  rw [hullsN_app (Nat.le_refl _)]
  have h2 : (ss ++ [s]).getD ss.length default = s := by
    rw [List.getD_eq_getElem?_getD, List.getElem?_append_right (Nat.le_refl _), Nat.sub_self] <;> rfl
  rw [h2]
/-- what a program under way is -/
structure Part (ss : List Stp) : Prop where
  ok : ∀ i s, ss[i]? = some s → StepOk i s
  bnd : ∀ i, i ≤ ss.length → ∀ e ∈ hullsN ss i, Bnd e
theorem Part.nil : Part [] := by
  refine ⟨fun i s h => by simp at h, fun i h e he => ?_⟩
  obtain rfl : i = 0 := Nat.le_zero.mp h
  exact nomatch he
theorem Part.snoc {ss : List Stp} {s : Stp} (P : Part ss) (h : StepOk ss.length s) (hb : Bnd (hullS (hullsN ss ss.length) s)) : Part (ss ++ [s]) := by
  constructor
  · intro i x hx
    by_cases hi : i < ss.length
    · rw [List.getElem?_append_left hi] at hx
      exact P.ok i x hx
    · rw [List.getElem?_append_right (by omega)] at hx
      have e : i - ss.length = 0 := by
        have := (List.getElem?_eq_some_iff.mp hx).1
        rw [List.length_singleton] at this
        omega
      rw [e] at hx
      have e2 : i = ss.length := by omega
      rw [e2, ← Option.some.inj hx]
      exact h
  · intro i hi e he
    rw [List.length_append, List.length_singleton] at hi
    by_cases h2 : i ≤ ss.length
    · rw [hullsN_app h2] at he
      exact P.bnd i h2 e he
    · obtain rfl : i = ss.length + 1 := by omega
      rw [hullsN_snoc] at he
      rcases List.mem_append.mp he with h3 | h3
      · exact P.bnd _ (Nat.le_refl _) e h3
      · rw [List.mem_singleton.mp h3]
        exact hb
end Sx
namespace Sx
open PySem PySem.Spec PyProof.Rows L2
theorem same_put {H0 H : Hp} {p : Addr} {o : HO} (s : Same H0 H) (n : H0 p = none) : Same H0 (upd H p o) := by
  intro c x e
  rw [upd_ne (ne_of_none e n)]
  exact s c x e
end Sx
namespace Sx
open PySem PySem.Spec PyProof.Rows L2

/-! ### zip of a tuple and a list -/
def ItzTL (K : PySem.W.Frag) (a b : Addr) : It where
  go := fun i H => ∃ (xs ys : List V) (x y : V), SqT K H a xs ∧ SqL K H b ys ∧ xs[i]? = some x ∧ ys[i]? = some y
  yld := fun i H v H1 => ∃ T x y, v = .ref T ∧ H T = none ∧ H1 = upd H T (.tup [x, y]) ∧ (∀ xs, SqT K H a xs → xs[i]? = some x) ∧ (∀ ys, SqL K H b ys → ys[i]? = some y)
  stop := fun i H => ∃ n : Nat, i = n ∧ ∃ xs ys : List V, SqT K H a xs ∧ SqL K H b ys ∧ xs.length = n ∧ ys.length = n
abbrev cells2 (z TI TO i1 i2 : Addr) : List Addr := [z, TI, TO, i1, i2]
theorem in_cells2 {z TI TO i1 i2 b : Addr} (h : b ∈ cells2 z TI TO i1 i2) : b = z ∨ b = TI ∨ b = TO ∨ b = i1 ∨ b = i2 := by simpa using h
theorem turn_zipTL {P : Program} {w : World} {K : PySem.W.Frag} {elts : List Expr} {kk : Nat} {tpos : Pos} {a b z TI TO i1 i2 : Addr} (S : ZipSep2 z TI TO i1 i2 [i1, a] [i2, b]) (n1 : a ≠ i1) (n2 : b ≠ i2) :
    Turn P w K (.Tuple elts kk tpos) (ItzTL K a b) (cells2 z TI TO i1 i2) z
      (fun i h => IsZip h z TI TO .none ∧ IsTupOf2 h TI (.ref i1) (.ref i2) ∧ (∃ x y, IsTupOf2 h TO x y) ∧ h.IsTupleIter i1 a i ∧ h.IsListIter i2 b i) where
  mem := List.mem_cons_self
  obj := by
    rintro i h ⟨hz, hTI, ⟨x, y, hTO⟩, ⟨o1, e1, _, d1⟩, ⟨o2, e2, _, d2⟩⟩ b hb
    rcases in_cells2 hb with q | q | q | q | q <;> subst q
    · exact ⟨_, hz, fun v q => nomatch q⟩
    · exact ⟨_, hTI, fun v q => nomatch q⟩
    · exact ⟨_, hTO, fun v q => nomatch q⟩
    · exact ⟨o1, e1, fun v q => by rw [d1] at q; cases q⟩
    · exact ⟨o2, e2, fun v q => by rw [d2] at q; cases q⟩
  keep := by
    rintro i h h' ⟨hz, hTI, ⟨x, y, hTO⟩, h1, h2⟩ k
    exact ⟨k z (by simp) _ hz, k TI (by simp) _ hTI, ⟨x, y, k TO (by simp) _ hTO⟩, h1.at fun o q => k i1 (by simp) o q, h2.at fun o q => k i2 (by simp) o q⟩
  item := by
    intro X hP hw hK hc i pins s σ H E I hf st hg
    subst hP hw hK
    obtain ⟨hz, hTI, ⟨x0, y0, hTO⟩, h1, h2⟩ := st
    obtain ⟨xs, ys, x, y, qx, qy, hx, hy⟩ := hg
    obtain ⟨l1, r1, p1, _⟩ := I.tuple qx
    obtain ⟨l2, r2, p2, _⟩ := I.list qy
    obtain ⟨v1, e1, rv1⟩ := r1.get hx
    obtain ⟨v2, e2, rv2⟩ := r2.get hy
    have hh : X.A.in1.handled = none := I.ok.hd hc
    have g1 : l1.toArray[i]? = some v1 := by simpa using e1
    have g2 : l2.toArray[i]? = some v2 := by simpa using e2
    have t1 := (Array.getElem?_eq_some_iff.mp g1).1
    have t2 := (Array.getElem?_eq_some_iff.mp g2).1
    have hzl : z < s.heap.objs.size := Heap.lt_size hz
    refine wpAny_pyNext_zipD2_item S (Draws.tuple hh i1 a n1 l1.toArray) (Draws.list hh i2 b n2 l2.toArray) hz hTI hTO ⟨h1, p1⟩ ⟨h2, p2.isList⟩ t1 t2 fun w1 w2 h' tk y1 y2 b1 b2 d1 d2 hT hsz hk => ?_
    obtain rfl : w1 = v1 := Option.some.inj (y1.symm.trans g1)
    obtain rfl : w2 = v2 := Option.some.inj (y2.symm.trans g2)
    refine ⟨_, rfl, wpAny_letOwnedTupleGo_zip (s := { s with heap := h', toks := tk }) b1 fun h'' z'' sb => ?_⟩
    have hT2 : h''.get? s.heap.objs.size = some { cls := .type "tuple", data := .seq #[w1, w2] } := (sb.2 _ (Nat.ne_of_gt hzl)).trans hT
    have new : ObjOk X.prog X.w (upd H s.heap.objs.size (.tup [x, y])) h'' s.heap.objs.size (.tup [x, y]) :=
      ⟨(show 2 ≤ sizeLine by decide), [w1, w2], .cons rv1 (.cons rv2 .nil), ⟨_, hT2, rfl, _, rfl⟩⟩
    have I1 : Inv X pins σ (upd H s.heap.objs.size (.tup [x, y])) { s with heap := h'', toks := tk } :=
      I.turnedNew (ch := cells2 z TI TO i1 i2) (fun e o hb q => (sb.2 e (fun q' => hb (by simp [q']))).trans (hk e o (fun q' => hb (by simp [q'])) (fun q' => hb (by simp [q'])) (fun q' => hb (by simp [q'])) (fun q' => hb (by simp [q'])) q)) hf (Nat.le_refl _) new
    refine ⟨.ref s.heap.objs.size, _, I1, rfl, ⟨_, x, y, rfl, I.hok.fresh (Nat.le_refl _), rfl, fun l hl => by rw [I.tuple_inj hl qx]; exact hx, fun l hl => by rw [I.list_inj hl qy]; exact hy⟩, ⟨z'', ?_, ⟨w1, w2, ?_⟩, ?_, ?_⟩, fun e hcm => ?_⟩
    · exact (sb.2 _ S.TIz).trans (hk _ _ S.TIz S.TITO S.TIi1 S.TIi2 hTI)
    · exact (sb.2 _ S.TOz).trans b2
    · exact d1.1.at fun o q => (sb.2 _ (Ne.symm S.zi1)).trans q
    · exact d2.1.at fun o q => (sb.2 _ (Ne.symm S.zi2)).trans q
    · have hlt : e < s.heap.objs.size := by
        rcases in_cells2 hcm with q | q | q | q | q <;> subst q
        · exact hzl
        · exact Heap.lt_size hTI
        · exact Heap.lt_size hTO
        · obtain ⟨_, q, _⟩ := h1
          exact Heap.lt_size q
        · obtain ⟨_, q, _⟩ := h2
          exact Heap.lt_size q
      rw [upd_ne (Nat.ne_of_lt hlt)]
      exact (hf e hcm).1
  done := by
    intro X hP hw hK hc i pins s σ H E I hf st hg
    subst hP hw hK
    obtain ⟨hz, hTI, ⟨x0, y0, hTO⟩, h1, h2⟩ := st
    obtain ⟨n, rfl, xs, ys, qx, qy, e1, e2⟩ := hg
    obtain ⟨l1, r1, p1, _⟩ := I.tuple qx
    obtain ⟨l2, r2, p2, _⟩ := I.list qy
    have hh : X.A.in1.handled = none := I.ok.hd hc
    have f1 : i = l1.toArray.size := by rw [List.size_toArray, ← r1.length, e1]
    have f2 : i = l2.toArray.size := by rw [List.size_toArray, ← r2.length, e2]
    exact wpAny_pyNext_zipD2_end S (Draws.tuple hh i1 a n1 l1.toArray) (Draws.list hh i2 b n2 l2.toArray) hz hTI hTO ⟨h1, p1⟩ ⟨h2, p2.isList⟩ (Nat.le_of_eq f1) (Nat.le_of_eq f2) (.inl f1) fun h' tk hk =>
      ⟨rfl, I.turnedL (t' := tk) (ch := cells2 z TI TO i1 i2) (fun e o hb q => hk e o (fun q' => hb (by simp [q'])) (fun q' => hb (by simp [q'])) (fun q' => hb (by simp [q'])) (fun q' => hb (by simp [q'])) q) hf⟩
  self := fun A i s Q E st h => wpAny_pyIter_zip st.1 h
def iZipTL (K : PySem.W.Frag) (ta : TA) : TI := fun σ H R => ta σ H fun vs H1 => ∃ a b xs ys, vs = [.ref a, .ref b] ∧ SqT K H1 a xs ∧ SqL K H1 b ys ∧ R (ItzTL K a b) H1
theorem pi_zipTL {X : Cx} {e e2 : Expr} {ta : TA} {p pos tpos : Pos} {elts : List Expr} {kk : Nat} (hg : Gl X "zip") (hm : X.mg "zip" = none) (ha : PA X [e, e2] ta)
    (hs : starEach [e, e2] X.env = (false, eval e X.env) :: starEach [e2] X.env := by rfl) (hpl : (backTo pos (starEach [e2] X.env)).any (·.1) = false := by rfl) :
    PI X (.Tuple elts kk tpos) (.Call (.Name "zip" p) [e, e2] [] pos) (iZipTL X.K ta) := by
  refine ⟨fun pins s σ H R I h => Call_ (ld_blt I hg hm PyProof.Rows.boot_zip (PyProof.Rows.callWith_type1 (thn (ha.run pos pins s σ H _ I h) ?_) hs hpl))⟩
  rintro us s1 ⟨vs, H1, I1, r1, a, b, xs, ys, rfl, qx, qy, q⟩
  cases r1 with
  | cons ra r1 =>
    cases r1 with
    | cons rb r1 =>
      cases r1
      cases ra
      cases rb
      obtain ⟨l1, r1, p1, _⟩ := I1.tuple qx
      obtain ⟨l2, r2, p2, _⟩ := I1.list qy
      have lb : b < s1.heap.objs.size := by
        obtain ⟨o, ho, _⟩ := p2.isList
        exact Heap.lt_size ho
      refine zip_begins2 (begins_tuple a l1.toArray) (begins_list b l2.toArray) p1 p2.isList fun h' hz hTI hTO g1 g2 hsz hk => wpAny_pyIter_zip hz ?_
      have I2 : Inv X pins σ H1 { s1 with heap := h' } := I1.kept (t' := s1.toks) hk
      have lo : ∀ {t : Addr}, t < s1.heap.objs.size → ∀ b ∈ [t], b < s1.heap.objs.size := fun h b hb => by
        rw [List.mem_singleton.mp hb]
        exact h
      refine ⟨s1.heap.objs.size + 4, cells2 (s1.heap.objs.size + 4) (s1.heap.objs.size + 2) (s1.heap.objs.size + 3) s1.heap.objs.size (s1.heap.objs.size + 1), _, _, H1, rfl, I2,
        turn_zipTL (zip_sep2 (lo p1.lt) (lo lb)) (Nat.ne_of_lt p1.lt) (Nat.ne_of_lt (Nat.lt_succ_of_lt lb)), ⟨hz, hTI, ⟨_, _, hTO⟩, ⟨_, g1, rfl, rfl⟩, ⟨_, g2, rfl, rfl⟩⟩, fun e he => ?_, q⟩
      have hle : s1.heap.objs.size ≤ e := by
        rcases in_cells2 he with q | q | q | q | q <;> rw [q]
        all_goals first | exact Nat.le_refl _ | exact Nat.le_add_right _ _
      exact I1.fpOk hle (I1.hok.fresh hle)
theorem walk_zipTL {K : PySem.W.Frag} {a b : Addr} {xs ys : List V} {n : Nat} (h1 : xs.length = n) (h2 : ys.length = n) : Walk (ItzTL K a b) n (fun H => SqT K H a xs ∧ SqL K H b ys)
    (fun i H v H1 => ∃ T x y, v = .ref T ∧ H T = none ∧ H1 = upd H T (.tup [x, y]) ∧ xs[i]? = some x ∧ ys[i]? = some y) := by
  refine ⟨fun i H hi q => ⟨xs, ys, xs[i], ys[i], q.1, q.2, List.getElem?_eq_getElem (by omega), List.getElem?_eq_getElem (by omega)⟩, fun H q => ⟨n, rfl, xs, ys, q.1, q.2, h1, h2⟩, ?_⟩
  rintro i H v H1 _ q ⟨T, x, y, e1, e2, e3, e4, e5⟩
  exact ⟨T, x, y, e1, e2, e3, e4 xs q.1, e5 ys q.2⟩

/-! ### what a program comes to -/
def isIn : Stp → Bool
  | .inn _ _ => true
  | _ => false
/-- how many inputs stand ahead of the place i -/
def cnt (ss : List Stp) (i : Nat) : Nat := (ss.take i).countP isIn
def givOf (ss : List Stp) (ins : List Int) (i : Nat) : Option Int := match ss.getD i default with
  | .inn _ _ => some (ins.getD (cnt ss i) 0)
  | .num c => some c
  | .op _ _ _ => none
def giv (ss : List Stp) (ins : List Int) : List (Option Int) := (List.range ss.length).map (givOf ss ins)
def valOf (acc : List Int) (o : Option Int) (s : Stp) : Int := match o, s with
  | some x, _ => x
  | none, .op k i j => op3 k (acc.getD i 0) (acc.getD j 0)
  | none, _ => 0
def valsN (ss : List Stp) (ins : List Int) : Nat → List Int
  | 0 => []
  | i + 1 => valsN ss ins i ++ [valOf (valsN ss ins i) (givOf ss ins i) (ss.getD i default)]
abbrev vals (ss : List Stp) (ins : List Int) : List Int := valsN ss ins ss.length
theorem valsN_len (ss : List Stp) (ins : List Int) : ∀ i, (valsN ss ins i).length = i
  | 0 => rfl
  | i + 1 => by
    show (valsN ss ins i ++ [_]).length = i + 1
    rw [List.length_append, valsN_len ss ins i] <;> rfl
theorem cnt_succ {ss : List Stp} {i : Nat} (h : i < ss.length) : cnt ss (i + 1) = cnt ss i + (if isIn (ss.getD i default) then 1 else 0) := by
  unfold cnt
  rw [List.take_add_one, getD_some default h, List.countP_append]
  show _ + List.countP isIn [ss.getD i default] = _
  rw [List.countP_cons, List.countP_nil, Nat.zero_add]
/-- fitting inputs -/
structure InpOk (ss : List Stp) (ins : List Int) : Prop where
  len : ins.length = cnt ss ss.length
  fit : ∀ i lo hi, ss[i]? = some (.inn lo hi) → lo ≤ ins.getD (cnt ss i) 0 ∧ ins.getD (cnt ss i) 0 ≤ hi
theorem cnt_mono {ss : List Stp} : ∀ {i j : Nat}, i ≤ j → j ≤ ss.length → cnt ss i ≤ cnt ss j
  | i, 0, h, _ => by
    obtain rfl : i = 0 := Nat.le_zero.mp h
    exact Nat.le_refl _
  | i, j + 1, h, hj => by
    by_cases e : i = j + 1
    · rw [e]
      exact Nat.le_refl _
    · rw [cnt_succ (by omega)]
      exact Nat.le_trans (cnt_mono (show i ≤ j by omega) (by omega)) (Nat.le_add_right _ _)
theorem cnt_lt {ss : List Stp} {ins : List Int} (I : InpOk ss ins) {i : Nat} (h : i < ss.length) (hi : isIn (ss.getD i default) = true) : cnt ss i < ins.length := by
  rw [I.len]
  have e := cnt_succ h
  rw [hi] at e
  have m := cnt_mono (ss := ss) (show i + 1 ≤ ss.length from h) (Nat.le_refl _)
  rw [e] at m
  exact m
theorem getD_append_left {α : Type} {xs ys : List α} {i : Nat} (d : α) (h : i < xs.length) : (xs ++ ys).getD i d = xs.getD i d := by
  rw [List.getD_eq_getElem?_getD, List.getD_eq_getElem?_getD, List.getElem?_append_left h]
theorem getD_append_last {α : Type} {xs : List α} {x : α} (d : α) : (xs ++ [x]).getD xs.length d = x := by
  rw [List.getD_eq_getElem?_getD, List.getElem?_append_right (Nat.le_refl _), Nat.sub_self] <;> rfl
/-! ### values lie in hulls -/
theorem mul_between {a b x y : Int} (h1 : a ≤ x) (h2 : x ≤ b) : (a * y ≤ x * y ∧ x * y ≤ b * y) ∨ (b * y ≤ x * y ∧ x * y ≤ a * y) := by
  by_cases h : 0 ≤ y
  · exact .inl ⟨Int.mul_le_mul_of_nonneg_right h1 h, Int.mul_le_mul_of_nonneg_right h2 h⟩
  · exact .inr ⟨Int.mul_le_mul_of_nonpos_right h2 (by omega), Int.mul_le_mul_of_nonpos_right h1 (by omega)⟩
theorem mul_hull {a b c d x y : Int} (h1 : a ≤ x) (h2 : x ≤ b) (h3 : c ≤ y) (h4 : y ≤ d) : min4 (a * c) (a * d) (b * c) (b * d) ≤ x * y ∧ x * y ≤ max4 (a * c) (a * d) (b * c) (b * d) := by
  have k1 := mul_between (y := y) h1 h2
  have k2 : (c * a ≤ y * a ∧ y * a ≤ d * a) ∨ (d * a ≤ y * a ∧ y * a ≤ c * a) := mul_between h3 h4
  have k3 : (c * b ≤ y * b ∧ y * b ≤ d * b) ∨ (d * b ≤ y * b ∧ y * b ≤ c * b) := mul_between h3 h4
  rw [Int.mul_comm c a, Int.mul_comm y a, Int.mul_comm d a] at k2
  rw [Int.mul_comm c b, Int.mul_comm y b, Int.mul_comm d b] at k3
  unfold min4 max4
  omega
def InHull (e : Int × Int) (x : Int) : Prop := e.1 ≤ x ∧ x ≤ e.2
theorem hullOp_in {k : Nat} {e f : Int × Int} {x y : Int} (h1 : InHull e x) (h2 : InHull f y) : InHull (hullOp k e f) (op3 k x y) := by
  obtain ⟨a1, a2⟩ := h1
  obtain ⟨b1, b2⟩ := h2
  match k with
  | 0 => exact ⟨by show e.1 + f.1 ≤ x + y; omega, by show x + y ≤ e.2 + f.2; omega⟩
  | 1 => exact ⟨by show e.1 - f.2 ≤ x - y; omega, by show x - y ≤ e.2 - f.1; omega⟩
  | _ + 2 => exact mul_hull a1 a2 b1 b2
theorem vals_in {ss : List Stp} {ins : List Int} (P : IsProg ss) (I : InpOk ss ins) : ∀ i, i ≤ ss.length → ∀ j, j < i → InHull ((hullsN ss i).getD j (0, 0)) ((valsN ss ins i).getD j 0)
  | 0, _, _, h => absurd h (Nat.not_lt_zero _)
  | i + 1, hi, j, hj => by
    have ih := vals_in P I i (by omega)
    have l1 := hullsN_len ss i
    have l2 := valsN_len ss ins i
    show InHull ((hullsN ss i ++ [hullS (hullsN ss i) (ss.getD i default)]).getD j (0, 0)) ((valsN ss ins i ++ [valOf (valsN ss ins i) (givOf ss ins i) (ss.getD i default)]).getD j 0)
    by_cases h : j < i
    · rw [getD_append_left _ (by omega), getD_append_left _ (by omega)]
      exact ih j h
    · obtain rfl : j = i := by omega
      have e1 := getD_append_last (xs := hullsN ss j) (x := hullS (hullsN ss j) (ss.getD j default)) (0, 0)
      have e2 := getD_append_last (xs := valsN ss ins j) (x := valOf (valsN ss ins j) (givOf ss ins j) (ss.getD j default)) 0
      rw [l1] at e1
      rw [l2] at e2
      rw [e1, e2]
      have hs := getD_some (default : Stp) (show j < ss.length by omega)
      have ok := P.ok j _ hs
      unfold givOf
      generalize ss.getD j default = s at hs ok
      cases s with
      | inn lo hi' => exact I.fit j lo hi' hs
      | num c => exact ⟨Int.le_refl _, Int.le_refl _⟩
      | op k a b => exact hullOp_in (ih a ok.2.1) (ih b ok.2.2)
theorem in_bnd {e : Int × Int} {x : Int} (h : InHull e x) (b : Bnd e) : x.natAbs ≤ 10 ^ 120 := by
  obtain ⟨h1, h2⟩ := h
  obtain ⟨b1, b2⟩ := b
  omega
theorem vals_bnd {ss : List Stp} {ins : List Int} (P : IsProg ss) (I : InpOk ss ins) {i j : Nat} (hi : i ≤ ss.length) (hj : j < i) : ((valsN ss ins i).getD j 0).natAbs ≤ 10 ^ 120 :=
  in_bnd (vals_in P I i hi j hj) (P.bnd i hi _ (List.mem_of_getElem? (getD_some (0, 0) (by rw [hullsN_len]; exact hj))))
theorem mem_getD {α : Type} {xs : List α} {x : α} (d : α) (h : x ∈ xs) : ∃ i, i < xs.length ∧ xs.getD i d = x := by
  obtain ⟨i, hi, e⟩ := List.mem_iff_getElem.mp h
  exact ⟨i, hi, by rw [List.getD_eq_getElem?_getD, List.getElem?_eq_getElem hi]; exact e⟩
theorem vals_bndAll {ss : List Stp} {ins : List Int} (P : IsProg ss) (I : InpOk ss ins) : ∀ x ∈ vals ss ins, x.natAbs ≤ 10 ^ 120 := by
  intro x hx
  obtain ⟨i, hi, rfl⟩ := mem_getD 0 hx
  rw [valsN_len] at hi
  exact vals_bnd P I (Nat.le_refl _) hi

/-! ### the promises -/
def sp_given_integers (K : PySem.W.Frag) : Sp := fun vs H Q _ => ∃ (t p : Addr) (ss : List Stp) (ins : List Int), vs = [.ref t, .ref p] ∧ ProgAt H t ss ∧ SqT K H p (ins.map V.int) ∧ IsProg ss ∧ InpOk ss ins ∧
  ∀ (l : Addr) (H' : Hp), Same H H' → H l = none → H' l = some (.lst ((giv ss ins).map vO)) → Q (.ref l) H'
def sp_reckoned (K : PySem.W.Frag) : Sp := fun vs H Q _ => ∃ (p l : Addr) (k i j : Nat) (acc : List Int), vs = [.ref p, .ref l] ∧ StepAt H p (.op k i j) ∧ SqL K H l (acc.map V.int) ∧ k ≤ 2 ∧ i < acc.length ∧ j < acc.length ∧ (∀ x ∈ acc, x.natAbs ≤ 10 ^ 120) ∧
  Q (.int (op3 k (acc.getD i 0) (acc.getD j 0))) H
def sp_run (K : PySem.W.Frag) : Sp := fun vs H Q _ => ∃ (t p : Addr) (ss : List Stp) (ins : List Int), vs = [.ref t, .ref p] ∧ ProgAt H t ss ∧ SqT K H p (ins.map V.int) ∧ IsProg ss ∧ InpOk ss ins ∧
  ∀ (l : Addr) (H' : Hp), Same H H' → H l = none → H' l = some (.tup ((vals ss ins).map V.int)) → Q (.ref l) H'
def sp_result (K : PySem.W.Frag) : Sp := fun vs H Q _ => ∃ (t p : Addr) (ss : List Stp) (ins : List Int), vs = [.ref t, .ref p] ∧ ProgAt H t ss ∧ SqT K H p (ins.map V.int) ∧ IsProg ss ∧ InpOk ss ins ∧
  ∀ (H' : Hp), Same H H' → Q (.int ((vals ss ins).getD (ss.length - 1) 0)) H'
def sp_hulls (K : PySem.W.Frag) : Sp := fun vs H Q _ => ∃ (t : Addr) (ss : List Stp), vs = [.ref t] ∧ ProgAt H t ss ∧ IsProg ss ∧
  ∀ (l : Addr) (H' : Hp), Same H H' → H l = none → HltAt H' l (hullsN ss ss.length) → Q (.ref l) H'
def sp__law_values (K : PySem.W.Frag) : Sp := fun vs H Q _ => ∃ (t p : Addr) (ss : List Stp) (ins : List Int), vs = [.ref t, .ref p] ∧ ProgAt H t ss ∧ SqT K H p (ins.map V.int) ∧ IsProg ss ∧ InpOk ss ins ∧
  ∀ (l : Addr) (H' : Hp), Same H H' → H l = none → H' l = some (.lst ((vals ss ins).map V.int)) → Q (.ref l) H'
def sp__law_inputs (_ : PySem.W.Frag) : Sp := fun vs H Q _ => ∃ (H0 : Hp) (b g t : Addr) (ss : List Stp), vs = [.ref b, .ref t] ∧ Bs H0 H b g ∧ ProgAt H0 t ss ∧ IsProg ss ∧
  ∀ (ins : List Int) (p : Addr) (H1 H' : Hp), InpOk ss ins → Same H0 H1 → H0 p = none → H1 p = some (.tup (ins.map V.int)) → Bs H1 H' b g → Q (.ref p) H'
end Sx
namespace Sx
open PySem PySem.Spec PyProof.Rows L2
def sw : Stp → Str
  | .inn _ _ => "in"
  | .num _ => "is"
  | .op k _ _ => opw k
theorem sw_at (s : Stp) : atI (stepV s) 0 = some (.str (sw s)) := by cases s <;> exact atI_nat (j := 0) rfl
def isNumS : Stp → Bool
  | .num _ => true
  | _ => false
theorem opw_in {k : Nat} (h : k ≤ 2) : decide (V.str (opw k) = V.str "in") = false ∧ decide (V.str (opw k) = V.str "is") = false := by
  match k, h with
  | 0, _ => exact ⟨wne (by decide +kernel), wne (by decide +kernel)⟩
  | 1, _ => exact ⟨wne (by decide +kernel), wne (by decide +kernel)⟩
  | 2, _ => exact ⟨wne (by decide +kernel), wne (by decide +kernel)⟩
theorem sw_in {n : Nat} {s : Stp} (h : StepOk n s) : decide (V.str (sw s) = V.str "in") = isIn s := by
  cases s with
  | inn lo hi => exact decide_eq_true rfl
  | num c => exact wne (a := "is") (b := "in") (by decide +kernel)
  | op k i j => exact (opw_in h.1).1
theorem sw_is {n : Nat} {s : Stp} (h : StepOk n s) (hi : isIn s = false) : decide (V.str (sw s) = V.str "is") = isNumS s := by
  cases s with
  | inn lo hi => exact nomatch hi
  | num c => exact decide_eq_true rfl
  | op k i j => exact (opw_in h.1).2
theorem giv_len (ss : List Stp) (ins : List Int) : (giv ss ins).length = ss.length := by
  unfold giv
  rw [List.length_map, List.length_range]
theorem giv_at {ss : List Stp} {ins : List Int} {i : Nat} (h : i < ss.length) : (giv ss ins)[i]? = some (givOf ss ins i) := by
  unfold giv
  rw [List.getElem?_map, List.getElem?_range h] <;> rfl
theorem giv_take {ss : List Stp} {ins : List Int} {i : Nat} (h : i < ss.length) : (giv ss ins).take (i + 1) = (giv ss ins).take i ++ [givOf ss ins i] := by
  rw [List.take_add_one, giv_at h] <;> rfl
theorem stps_at {R : Addr → Stp → Prop} {as : List Addr} {ss : List Stp} {i : Nat} {x : V} (p : Paired R as ss) (h : (as.map V.ref)[i]? = some x) : i < ss.length ∧ ∃ a, x = .ref a ∧ ss[i]? = some (ss.getD i default) ∧ R a (ss.getD i default) := by
  have hi : i < ss.length := by
    have := (List.getElem?_eq_some_iff.mp h).1
    rw [List.length_map, paired_len p] at this
    exact this
  have hs := getD_some (default : Stp) hi
  obtain ⟨a, h1, h2⟩ := paired_at p hs
  rw [List.getElem?_map, h1] at h
  exact ⟨hi, a, (Option.some.inj h).symm, hs, h2⟩
theorem prs_at {as : List Addr} {E : List (Int × Int)} {R : Addr → Int × Int → Prop} {i : Nat} {x : V} (p : Paired R as E) (h : (as.map V.ref)[i]? = some x) : i < E.length ∧ ∃ a, x = .ref a ∧ R a (E.getD i (0, 0)) := by
  have hi : i < E.length := by
    have := (List.getElem?_eq_some_iff.mp h).1
    rw [List.length_map, paired_len p] at this
    exact this
  obtain ⟨a, h1, h2⟩ := paired_at p (getD_some (0, 0) hi)
  rw [List.getElem?_map, h1] at h
  exact ⟨hi, a, (Option.some.inj h).symm, h2⟩
/-- a new list, appended to -/
theorem lst_put {H H1 : Hp} {l : Addr} {o : HO} (s : Same H H1) (n : H l = none) : Same H (upd H1 l o) := same_put s n
end Sx

namespace Sx
open PySem PySem.Spec PyProof.Rows L2
theorem vals_last {ss : List Stp} {ins : List Int} (h : 1 ≤ ss.length) : atI ((vals ss ins).map V.int) (-1) = some (.int ((vals ss ins).getD (ss.length - 1) 0)) := by
  obtain ⟨k, hk⟩ : ∃ k, ss.length = k + 1 := ⟨ss.length - 1, by omega⟩
  have e : vals ss ins = valsN ss ins k ++ [valOf (valsN ss ins k) (givOf ss ins k) (ss.getD k default)] := by
    unfold vals
    rw [hk] <;> rfl
  have e2 := getD_append_last (xs := valsN ss ins k) (x := valOf (valsN ss ins k) (givOf ss ins k) (ss.getD k default)) 0
  rw [valsN_len] at e2
  rw [hk, Nat.add_sub_cancel, e, e2, List.map_append]
  exact atI_last _ _
end Sx

namespace Sx
open PySem PySem.Spec PyProof.Rows L2
def opKv (x y : Int) : List (Key × V) := [(Sum.inr "sum", .int (x + y)), (Sum.inr "less", .int (x - y)), (Sum.inr "times", .int (x * y))]
theorem opKv_at {k : Nat} (h : k ≤ 2) (x y : Int) : valV (opKv x y) (Sum.inr (opw k) : Key) = some (.int (op3 k x y)) := by
  match k, h with
  | 0, _ => rfl
  | 1, _ => rfl
  | 2, _ => rfl
theorem opKv_merge (x y : Int) : mergeK [] (opKv x y) = opKv x y := rfl
end Sx
namespace Sx
open PySem PySem.Spec PyProof.Rows L2

/-! ### rows of tuples of ints -/
abbrev TupAt (K : PySem.W.Frag) (H : Hp) (a : Addr) (ns : List Int) : Prop := SqT K H a (ns.map V.int)
theorem SqT.put {K : PySem.W.Frag} {H : Hp} {p a : Addr} {xs ys : List V} {o : HO} (hp : H p = some (.lst xs)) (h : SqT K H a ys) : SqT K (upd H p o) a ys := by
  rcases h with (h | ⟨ob, h⟩) | h
  · exact .inl (.inl (by rw [upd_ne (ne_of h hp (fun z => nomatch z))]; exact h))
  · exact .inl (.inr ⟨ob, by rw [upd_ne (ne_of h hp (fun z => nomatch z))]; exact h⟩)
  · exact .inr h
/-- comprehensions whose items are new tuples -/
theorem lc_tups {K : PySem.W.Frag} {β : Type} {J : It} {n : Nat} {zs : List β} {G : Hp → Prop} {Y : Nat → Hp → V → Hp → Prop} (w : Walk J n G Y) (hzn : zs.length = n) {g : TG} {te : TE} {vs : List Nat} {σ : L2.St} {H1 : Hp} {D : Addr} {Qd : Hp → Prop} (v : β → List Int) (hn : zs.length ≤ 100000)
    (hD : H1 D = none) (hG : ∀ H, Same H1 H → G H)
    (hs : ∀ i z x H H2, zs[i]? = some z → Same H1 H → Y i H x H2 → Same H H2 ∧ ∃ σ2, (∀ Q : L2.St → Hp → Prop, Q σ2 H2 → g x (wipe σ vs) H2 Q) ∧ wipe σ2 vs = wipe σ vs ∧
      (∀ Q : VK, Same H1 H2 → (∀ a H4, Same H2 H4 → TupAt K H4 a (v z) → Q (.ref a) H4) → te σ2 H2 Q))
    (hd : ∀ (H : Hp) (as : List Addr), Same H1 H → H D = some (.lst (as.map V.ref)) → Paired (TupAt K H) as (zs.map v) → Qd H) :
    ∃ W : Nat → Nat → Hp → Prop, (∃ m, W 0 m (upd H1 D (.lst []))) ∧ ∀ i m H, W i m H →
      (J.stop i H ∧ Qd H) ∨ (J.go i H ∧ ∃ Nx : Hp → Prop, (∀ H', Nx H' → ∃ m', m' < m ∧ W (i + 1) m' H') ∧ ∀ x H', J.yld i H x H' → g x (wipe σ vs) H' fun σ2 H2 => wipe σ2 vs = wipe σ vs ∧ tYes σ2 H2 fun b H3 =>
        if b = true then te σ2 H3 fun y H4 => ∃ acc, H4 D = some (.lst acc) ∧ acc.length < sizeLine ∧ Nx (upd H4 D (.lst (acc ++ [y]))) else Nx H3) := by
  subst hzn
  refine lc_it w (fun i H => Same H1 H ∧ ∃ as : List Addr, H D = some (.lst (as.map V.ref)) ∧ Paired (TupAt K H) as ((zs.take i).map v)) ⟨same_new hD, [], upd_same, .nil⟩ (fun i H _ p => hG H p.1) ?_ ?_
  · rintro i x H H2 hi ⟨s1, as, e1, p1⟩ y
    have hz : zs[i]? = some zs[i] := List.getElem?_eq_getElem hi
    obtain ⟨s2, σ2, h1, h2, h3⟩ := hs i zs[i] x H H2 hz s1 y
    have tk : zs.take (i + 1) = zs.take i ++ [zs[i]] := by
      rw [List.take_add_one, hz] <;> rfl
    refine h1 _ ⟨h2, ?_⟩
    unfold tYes
    refine iteT (h3 _ (s1.trans s2) fun a H4 s4 ha => ?_)
    have e4 : H4 D = some (.lst (as.map V.ref)) := s4 _ _ (s2 _ _ e1)
    refine ⟨_, e4, ?_, ?_, as ++ [a], ?_, ?_⟩
    · rw [List.length_map, paired_len p1, List.length_map, List.length_take]
      exact Nat.lt_of_lt_of_le (show _ < 100000 by omega) (by decide)
    · exact same_put ((s1.trans s2).trans s4) hD
    · rw [upd_same, List.map_append] <;> rfl
    · rw [tk, List.map_append]
      exact paired_snoc (paired_same (R := fun H a ns => TupAt K H a ns) (fun b c r => SqT.put e4 (Sx.Same.tup (s2.trans s4) r)) p1) (SqT.put e4 ha)
  · rintro H ⟨s1, as, e1, p1⟩
    rw [List.take_length] at p1
    exact hd H as s1 e1 p1
theorem paired_app {β : Type} {R : Addr → β → Prop} : ∀ {as bs : List Addr} {xs ys : List β}, Paired R as xs → Paired R bs ys → Paired R (as ++ bs) (xs ++ ys)
  | _, _, _, _, .nil, h => h
  | _, _, _, _, .cons r t, h => .cons r (paired_app t h)

/-! ### all inputs of a small program -/
def rg (lo hi : Int) : List Int := (List.range (hi + 1 - lo).toNat).map fun i => lo + (i : Nat)
theorem mem_rg {lo hi z : Int} : z ∈ rg lo hi ↔ lo ≤ z ∧ z ≤ hi := by
  unfold rg
  rw [List.mem_map]
  constructor
  · rintro ⟨i, hi', rfl⟩
    have := List.mem_range.mp hi'
    omega
  · rintro ⟨h1, h2⟩
    exact ⟨(z - lo).toNat, List.mem_range.mpr (by omega), by omega⟩
theorem rg_len (lo hi : Int) : (rg lo hi).length = (hi + 1 - lo).toNat := by
  unfold rg
  rw [List.length_map, List.length_range]
theorem rgV_rg (lo hi : Int) : rgV lo (hi + 1) = (rg lo hi).map V.int := by
  unfold rgV rg
  rw [List.map_map] <;> rfl
def grow (L : List (List Int)) (zs : List Int) : List (List Int) := zs.flatMap fun z => L.map (· ++ [z])
theorem grow_len (L : List (List Int)) : ∀ zs : List Int, (grow L zs).length = zs.length * L.length
  | [] => by simp [grow]
  | z :: zs => by
    have e := grow_len L zs
    unfold grow at e ⊢
    rw [List.flatMap_cons, List.length_append, e, List.length_map, List.length_cons, Nat.succ_mul, Nat.add_comm]
theorem grow_snoc (L : List (List Int)) (zs : List Int) (z : Int) : grow L (zs ++ [z]) = grow L zs ++ L.map (· ++ [z]) := by
  unfold grow
  rw [List.flatMap_append]
  simp
def allStep (L : List (List Int)) : Stp → List (List Int)
  | .inn lo hi => grow L (rg lo hi)
  | _ => L
def numsOf : Stp → List Int
  | .inn lo hi => rg lo hi
  | _ => []
def allN (ss : List Stp) : Nat → List (List Int)
  | 0 => [[]]
  | i + 1 => allStep (allN ss i) (ss.getD i default)
theorem allN_item : ∀ {ss : List Stp} (i : Nat), ∀ ns ∈ allN ss i, ns.length ≤ i
  | ss, 0, ns, h => by
    rw [List.mem_singleton.mp (show ns ∈ [[]] from h)]
    exact Nat.le_refl _
  | ss, i + 1, ns, h => by
    have h : ns ∈ allStep (allN ss i) (ss.getD i default) := h
    generalize ss.getD i default = s at h
    cases s with
    | inn lo hi =>
      obtain ⟨z, _, h2⟩ := List.mem_flatMap.mp (show ns ∈ (rg lo hi).flatMap fun z => (allN ss i).map (· ++ [z]) from h)
      obtain ⟨l, hl, rfl⟩ := List.mem_map.mp h2
      have := allN_item i l hl
      rw [List.length_append, List.length_singleton]
      omega
    | num c =>
      have := allN_item i ns h
      omega
    | op k a b =>
      have := allN_item i ns h
      omega
structure Tiny (ss : List Stp) : Prop where
  most : ss.length ≤ 3
  ok : ∀ (i : Nat) (s : Stp), ss[i]? = some s → StepOk i s
  near : ∀ (i : Nat) (lo hi : Int), ss[i]? = some (Stp.inn lo hi) → -100 ≤ lo ∧ lo ≤ hi ∧ hi < lo + 5 ∧ lo ≤ 100
theorem allN_len {ss : List Stp} (T : Tiny ss) : ∀ i, i ≤ ss.length → (allN ss i).length ≤ 5 ^ i
  | 0, _ => Nat.le_refl _
  | i + 1, h => by
    have ih := allN_len T i (by omega)
    have hs := getD_some (default : Stp) (show i < ss.length by omega)
    have n := T.near i
    show (allStep (allN ss i) (ss.getD i default)).length ≤ 5 ^ (i + 1)
    have h5 : 5 ^ (i + 1) = 5 ^ i * 5 := Nat.pow_succ 5 i
    generalize ss.getD i default = s at *
    cases s with
    | inn lo hi =>
      obtain ⟨n1, n2, n3, n4⟩ := n lo hi hs
      show (grow _ _).length ≤ _
      rw [grow_len, rg_len, h5, Nat.mul_comm]
      exact Nat.mul_le_mul ih (by omega)
    | num c =>
      show (allN ss i).length ≤ _
      omega
    | op k a b =>
      show (allN ss i).length ≤ _
      omega
theorem allN_small {ss : List Stp} (T : Tiny ss) {i : Nat} (h : i ≤ ss.length) : (allN ss i).length ≤ 125 := by
  have h1 := allN_len T i h
  have h2 : 5 ^ i ≤ 5 ^ 3 := Nat.pow_le_pow_right (by decide) (Nat.le_trans h T.most)
  omega
def sp__law_all_inputs (K : PySem.W.Frag) : Sp := fun vs H Q _ => ∃ (t : Addr) (ss : List Stp), vs = [.ref t] ∧ ProgAt H t ss ∧ Tiny ss ∧
  ∀ (l : Addr) (H' : Hp) (as : List Addr), Same H H' → H l = none → H' l = some (.lst (as.map V.ref)) → Paired (TupAt K H') as (allN ss ss.length) → Q (.ref l) H'
def sp__law_is_filled (_ : PySem.W.Frag) : Sp := fun vs H Q _ => ∃ (H0 : Hp) (b g : Addr), vs = [.ref b] ∧ Bs H0 H b g ∧ ∀ H' : Hp, Bs H0 H' b g → Q (.bl true) H'

/-! ### a program of two inputs and one op -/
/-- its two places -/
def tri (a b c d : Int) (k : Nat) (sw : Bool) : List Stp := [.inn a b, .inn c d, if sw then .op k 1 0 else .op k 0 1]
def hullTri (a b c d : Int) (k : Nat) (sw : Bool) : Int × Int := if sw then hullOp k (c, d) (a, b) else hullOp k (a, b) (c, d)
def valTri (k : Nat) (sw : Bool) (x y : Int) : Int := if sw then op3 k y x else op3 k x y
theorem hulls_tri (a b c d : Int) (k : Nat) (sw : Bool) : hullsN (tri a b c d k sw) 3 = [(a, b), (c, d), hullTri a b c d k sw] := by cases sw <;> rfl
theorem vals_tri (a b c d : Int) (k : Nat) (sw : Bool) (x y : Int) : vals (tri a b c d k sw) [x, y] = [x, y, valTri k sw x y] := by cases sw <;> rfl
theorem all_tri (a b c d : Int) (k : Nat) (sw : Bool) (ins : List Int) : ins ∈ allN (tri a b c d k sw) 3 ↔ ∃ x y, ins = [x, y] ∧ a ≤ x ∧ x ≤ b ∧ c ≤ y ∧ y ≤ d := by
  have e : allN (tri a b c d k sw) 3 = grow (grow [[]] (rg a b)) (rg c d) := by cases sw <;> rfl
  rw [e]
  unfold grow
  simp only [List.mem_flatMap, List.mem_map, mem_rg, List.mem_singleton]
  constructor
  · rintro ⟨y, hy, l, ⟨x, hx, l2, rfl, rfl⟩, rfl⟩
    exact ⟨x, y, rfl, hx.1, hx.2, hy.1, hy.2⟩
  · rintro ⟨x, y, rfl, h1, h2, h3, h4⟩
    exact ⟨y, ⟨h3, h4⟩, [x], ⟨x, ⟨h1, h2⟩, [], rfl, rfl⟩, rfl⟩
theorem mul_abs {x y : Int} (hx : x.natAbs ≤ 100) (hy : y.natAbs ≤ 100) : (x * y).natAbs ≤ 10000 := by
  rw [Int.natAbs_mul]
  exact Nat.mul_le_mul hx hy
theorem hullOp_small {k : Nat} {e f : Int × Int} (h1 : e.1.natAbs ≤ 100) (h2 : e.2.natAbs ≤ 100) (h3 : f.1.natAbs ≤ 100) (h4 : f.2.natAbs ≤ 100) : (hullOp k e f).1.natAbs ≤ 10000 ∧ (hullOp k e f).2.natAbs ≤ 10000 := by
  match k with
  | 0 => exact ⟨by show (e.1 + f.1).natAbs ≤ _; omega, by show (e.2 + f.2).natAbs ≤ _; omega⟩
  | 1 => exact ⟨by show (e.1 - f.2).natAbs ≤ _; omega, by show (e.2 - f.1).natAbs ≤ _; omega⟩
  | k + 2 =>
    have m1 := mul_abs h1 h3
    have m2 := mul_abs h1 h4
    have m3 := mul_abs h2 h3
    have m4 := mul_abs h2 h4
    constructor
    · show (min4 _ _ _ _).natAbs ≤ _
      unfold min4
      omega
    · show (max4 _ _ _ _).natAbs ≤ _
      unfold max4
      omega
structure TriOk (a b c d : Int) (k : Nat) : Prop where
  ab : a ≤ b
  b5 : b < a + 5
  cd : c ≤ d
  d5 : d < c + 5
  al : -50 ≤ a
  ah : a ≤ 50
  cl : -50 ≤ c
  ch : c ≤ 50
  k2 : k ≤ 2
theorem tri_ok {a b c d : Int} {k : Nat} (T : TriOk a b c d k) (sw : Bool) : ∀ i s, (tri a b c d k sw)[i]? = some s → StepOk i s := by
  have t1 := T.ab
  have t2 := T.b5
  have t3 := T.cd
  have t4 := T.d5
  have t5 := T.al
  have t6 := T.ah
  have t7 := T.cl
  have t8 := T.ch
  intro i s h
  match i with
  | 0 =>
    cases h
    exact ⟨⟨by omega, by omega⟩, ⟨by omega, by omega⟩, t1⟩
  | 1 =>
    cases h
    exact ⟨⟨by omega, by omega⟩, ⟨by omega, by omega⟩, t3⟩
  | 2 =>
    cases sw with
    | true =>
      cases h
      exact ⟨T.k2, by decide, by decide⟩
    | false =>
      cases h
      exact ⟨T.k2, by decide, by decide⟩
  | i + 3 => simp [tri] at h
theorem tri_tiny {a b c d : Int} {k : Nat} (T : TriOk a b c d k) (sw : Bool) : Tiny (tri a b c d k sw) := by
  refine ⟨Nat.le_refl 3, tri_ok T sw, fun i lo hi h => ?_⟩
  have t1 := T.ab
  have t2 := T.b5
  have t3 := T.cd
  have t4 := T.d5
  have t5 := T.al
  have t6 := T.ah
  have t7 := T.cl
  have t8 := T.ch
  match i with
  | 0 =>
    cases h
    exact ⟨by omega, by omega, by omega, by omega⟩
  | 1 =>
    cases h
    exact ⟨by omega, by omega, by omega, by omega⟩
  | 2 => cases sw <;> exact nomatch h
  | i + 3 => simp [tri] at h
theorem tri_prog {a b c d : Int} {k : Nat} (T : TriOk a b c d k) (sw : Bool) : IsProg (tri a b c d k sw) := by
  have t1 := T.ab
  have t2 := T.b5
  have t3 := T.cd
  have t4 := T.d5
  have t5 := T.al
  have t6 := T.ah
  have t7 := T.cl
  have t8 := T.ch
  have big : 10000 ≤ 10 ^ 120 := by decide +kernel
  have b1 : Bnd (a, b) := ⟨Nat.le_trans (show a.natAbs ≤ 10000 by omega) big, Nat.le_trans (show b.natAbs ≤ 10000 by omega) big⟩
  have b2 : Bnd (c, d) := ⟨Nat.le_trans (show c.natAbs ≤ 10000 by omega) big, Nat.le_trans (show d.natAbs ≤ 10000 by omega) big⟩
  have b3 : Bnd (hullTri a b c d k sw) := by
    unfold hullTri
    have h1 : a.natAbs ≤ 100 := by omega
    have h2 : b.natAbs ≤ 100 := by omega
    have h3 : c.natAbs ≤ 100 := by omega
    have h4 : d.natAbs ≤ 100 := by omega
    cases sw with
    | true =>
      have q := hullOp_small (k := k) (e := (c, d)) (f := (a, b)) h3 h4 h1 h2
      exact ⟨Nat.le_trans q.1 big, Nat.le_trans q.2 big⟩
    | false =>
      have q := hullOp_small (k := k) (e := (a, b)) (f := (c, d)) h1 h2 h3 h4
      exact ⟨Nat.le_trans q.1 big, Nat.le_trans q.2 big⟩
  refine ⟨by show 1 ≤ 3; decide, by show 3 ≤ 30; decide, tri_ok T sw, fun i hi e he => ?_⟩
  have e3 : ∀ e ∈ hullsN (tri a b c d k sw) 3, Bnd e := by
    rw [hulls_tri]
    intro e he
    simp only [List.mem_cons, List.mem_nil_iff, or_false] at he
    rcases he with h | h | h <;> rw [h]
    · exact b1
    · exact b2
    · exact b3
  match i, (show i ≤ 3 from hi) with
  | 0, _ => exact nomatch he
  | 1, _ => exact e3 e (List.mem_append_left _ (List.mem_append_left _ he))
  | 2, _ => exact e3 e (List.mem_append_left _ he)
  | 3, _ => exact e3 e he
theorem inp_tri {a b c d x y : Int} {k : Nat} {sw : Bool} (h1 : a ≤ x) (h2 : x ≤ b) (h3 : c ≤ y) (h4 : y ≤ d) : InpOk (tri a b c d k sw) [x, y] := by
  constructor
  · cases sw <;> rfl
  · intro i lo hi h
    match i with
    | 0 =>
      cases h
      exact ⟨h1, h2⟩
    | 1 =>
      cases h
      exact ⟨h3, h4⟩
    | 2 => cases sw <;> exact nomatch h
    | i + 3 => simp [tri] at h
theorem ends_op {k : Nat} (hk : k ≤ 2) {a b c d : Int} (h1 : a ≤ b) (h2 : c ≤ d) : (∃ x y, (x = a ∨ x = b) ∧ (y = c ∨ y = d) ∧ op3 k x y = (hullOp k (a, b) (c, d)).1) ∧ (∃ x y, (x = a ∨ x = b) ∧ (y = c ∨ y = d) ∧ op3 k x y = (hullOp k (a, b) (c, d)).2) := by
  match k, hk with
  | 0, _ => exact ⟨⟨a, c, .inl rfl, .inl rfl, rfl⟩, ⟨b, d, .inr rfl, .inr rfl, rfl⟩⟩
  | 1, _ => exact ⟨⟨a, d, .inl rfl, .inr rfl, rfl⟩, ⟨b, c, .inr rfl, .inl rfl, rfl⟩⟩
  | 2, _ =>
    constructor
    · have h : min4 (a * c) (a * d) (b * c) (b * d) = a * c ∨ min4 (a * c) (a * d) (b * c) (b * d) = a * d ∨ min4 (a * c) (a * d) (b * c) (b * d) = b * c ∨ min4 (a * c) (a * d) (b * c) (b * d) = b * d := by
        unfold min4
        omega
      rcases h with h | h | h | h
      · exact ⟨a, c, .inl rfl, .inl rfl, h.symm⟩
      · exact ⟨a, d, .inl rfl, .inr rfl, h.symm⟩
      · exact ⟨b, c, .inr rfl, .inl rfl, h.symm⟩
      · exact ⟨b, d, .inr rfl, .inr rfl, h.symm⟩
    · have h : max4 (a * c) (a * d) (b * c) (b * d) = a * c ∨ max4 (a * c) (a * d) (b * c) (b * d) = a * d ∨ max4 (a * c) (a * d) (b * c) (b * d) = b * c ∨ max4 (a * c) (a * d) (b * c) (b * d) = b * d := by
        unfold max4
        omega
      rcases h with h | h | h | h
      · exact ⟨a, c, .inl rfl, .inl rfl, h.symm⟩
      · exact ⟨a, d, .inl rfl, .inr rfl, h.symm⟩
      · exact ⟨b, c, .inr rfl, .inl rfl, h.symm⟩
      · exact ⟨b, d, .inr rfl, .inr rfl, h.symm⟩
/-- the ends of the hull are the least and the greatest value -/
theorem tri_min {a b c d : Int} {k : Nat} (T : TriOk a b c d k) (sw : Bool) {m M : Int} {vs : List Int} (hv : vs = (allN (tri a b c d k sw) 3).map fun ins => (vals (tri a b c d k sw) ins).getD 2 0)
    (hm : m ∈ vs) (hml : ∀ y, y ∈ vs → m ≤ y) (hM : M ∈ vs) (hMg : ∀ y, y ∈ vs → y ≤ M) : hullTri a b c d k sw = (m, M) := by
  subst hv
  have mem : ∀ z : Int, z ∈ ((allN (tri a b c d k sw) 3).map fun ins => (vals (tri a b c d k sw) ins).getD 2 0) ↔ ∃ x y, (a ≤ x ∧ x ≤ b ∧ c ≤ y ∧ y ≤ d) ∧ z = valTri k sw x y := by
    intro z
    rw [List.mem_map]
    constructor
    · rintro ⟨ins, h, rfl⟩
      obtain ⟨x, y, rfl, h1⟩ := (all_tri a b c d k sw ins).mp h
      exact ⟨x, y, h1, by rw [vals_tri] <;> rfl⟩
    · rintro ⟨x, y, h1, rfl⟩
      exact ⟨[x, y], (all_tri a b c d k sw _).mpr ⟨x, y, rfl, h1⟩, by rw [vals_tri] <;> rfl⟩
  have ab := T.ab
  have cd := T.cd
  have inn : ∀ x y, a ≤ x → x ≤ b → c ≤ y → y ≤ d → InHull (hullTri a b c d k sw) (valTri k sw x y) := by
    intro x y h1 h2 h3 h4
    unfold hullTri valTri
    cases sw with
    | true => exact hullOp_in (e := (c, d)) (f := (a, b)) ⟨h3, h4⟩ ⟨h1, h2⟩
    | false => exact hullOp_in (e := (a, b)) (f := (c, d)) ⟨h1, h2⟩ ⟨h3, h4⟩
  have att : (∃ x y, (a ≤ x ∧ x ≤ b ∧ c ≤ y ∧ y ≤ d) ∧ (hullTri a b c d k sw).1 = valTri k sw x y) ∧ (∃ x y, (a ≤ x ∧ x ≤ b ∧ c ≤ y ∧ y ≤ d) ∧ (hullTri a b c d k sw).2 = valTri k sw x y) := by
    unfold hullTri valTri
    cases sw with
    | true =>
      obtain ⟨⟨x, y, hx, hy, e⟩, ⟨x2, y2, hx2, hy2, e2⟩⟩ := ends_op T.k2 (a := c) (b := d) (c := a) (d := b) cd ab
      exact ⟨⟨y, x, ⟨by omega, by omega, by omega, by omega⟩, e.symm⟩, ⟨y2, x2, ⟨by omega, by omega, by omega, by omega⟩, e2.symm⟩⟩
    | false =>
      obtain ⟨⟨x, y, hx, hy, e⟩, ⟨x2, y2, hx2, hy2, e2⟩⟩ := ends_op T.k2 (a := a) (b := b) (c := c) (d := d) ab cd
      exact ⟨⟨x, y, ⟨by omega, by omega, by omega, by omega⟩, e.symm⟩, ⟨x2, y2, ⟨by omega, by omega, by omega, by omega⟩, e2.symm⟩⟩
  obtain ⟨⟨x1, y1, r1, e1⟩, ⟨x2, y2, r2, e2⟩⟩ := att
  obtain ⟨x3, y3, r3, e3⟩ := (mem m).mp hm
  obtain ⟨x4, y4, r4, e4⟩ := (mem M).mp hM
  have k1 := hml _ ((mem _).mpr ⟨x1, y1, r1, rfl⟩)
  have k2 := hMg _ ((mem _).mpr ⟨x2, y2, r2, rfl⟩)
  have k3 := (inn x3 y3 r3.1 r3.2.1 r3.2.2.1 r3.2.2.2).1
  have k4 := (inn x4 y4 r4.1 r4.2.1 r4.2.2.1 r4.2.2.2).2
  refine Prod.ext ?_ ?_
  · show (hullTri a b c d k sw).1 = m
    omega
  · show (hullTri a b c d k sw).2 = M
    omega
theorem tri_small {a b c d : Int} {k : Nat} (T : TriOk a b c d k) (sw : Bool) : (hullTri a b c d k sw).1.natAbs ≤ 10000 ∧ (hullTri a b c d k sw).2.natAbs ≤ 10000 := by
  have t1 := T.ab
  have t2 := T.b5
  have t3 := T.cd
  have t4 := T.d5
  have t5 := T.al
  have t6 := T.ah
  have t7 := T.cl
  have t8 := T.ch
  have h1 : a.natAbs ≤ 100 := by omega
  have h2 : b.natAbs ≤ 100 := by omega
  have h3 : c.natAbs ≤ 100 := by omega
  have h4 : d.natAbs ≤ 100 := by omega
  unfold hullTri
  cases sw with
  | true => exact hullOp_small (k := k) (e := (c, d)) (f := (a, b)) h3 h4 h1 h2
  | false => exact hullOp_small (k := k) (e := (a, b)) (f := (c, d)) h1 h2 h3 h4
theorem row_two {x y : Int} (h1 : x.natAbs ≤ 10000) (h2 : y.natAbs ≤ 10000) : Shows (.tuple [.int x, .int y]) :=
  (Row.ints (ns := [x, y]) (fun n hn => by
    rcases List.mem_cons.mp hn with h | h
    · rw [h]
      exact Nat.lt_of_le_of_lt h1 (by decide +kernel)
    · rw [List.mem_singleton.mp h]
      exact Nat.lt_of_le_of_lt h2 (by decide +kernel)) (by show 2 ≤ 9000; decide)).one
end Sx
namespace Sx
open PySem PySem.Spec PyProof.Rows L2
theorem fine_int' {i : Int} (h : i.natAbs ≤ 10 ^ 120) : fine (.int i) = true := by
  have h2 : i.natAbs < big := Nat.lt_of_le_of_lt h (by decide +kernel)
  simpa [fine] using h2
theorem nodAll_le {α : Type} {f : α → PyData} {k : Nat} (h : ∀ x, nod (f x) ≤ k) : ∀ xs : List α, nodAll (xs.map f) ≤ k * xs.length
  | [] => Nat.le_refl _
  | x :: xs => by
    show nod (f x) + nodAll (xs.map f) ≤ k * (xs.length + 1)
    have := nodAll_le h xs
    have := h x
    rw [Nat.mul_succ]
    omega
theorem stepD_nod (s : Stp) : nod (.tuple (stepD s)) ≤ 12 := by
  cases s with
  | inn lo hi => exact (by decide +kernel : nod (.tuple [.str "in", .int 0, .int 0]) ≤ 12)
  | num c => exact (by decide +kernel : nod (.tuple [.str "is", .int 0]) ≤ 12)
  | op k i j =>
    match k with
    | 0 => exact (by decide +kernel : nod (.tuple [.str "sum", .int 0, .int 0]) ≤ 12)
    | 1 => exact (by decide +kernel : nod (.tuple [.str "less", .int 0, .int 0]) ≤ 12)
    | _ + 2 => exact (by decide +kernel : nod (.tuple [.str "times", .int 0, .int 0]) ≤ 12)
theorem stepD_depth (s : Stp) : PyData.depth (.tuple (stepD s)) ≤ 1 := by
  cases s with
  | inn lo hi => exact (by decide +kernel : PyData.depth (.tuple [.str "in", .int 0, .int 0]) ≤ 1)
  | num c => exact (by decide +kernel : PyData.depth (.tuple [.str "is", .int 0]) ≤ 1)
  | op k i j => exact (by decide +kernel : PyData.depth (.tuple [.str "", .int 0, .int 0]) ≤ 1)
theorem fine3 {x y z : PyData} (h1 : fine x = true) (h2 : fine y = true) (h3 : fine z = true) : fine (.tuple [x, y, z]) = true := by
  show (fine x && (fine y && (fine z && true))) = true
  rw [h1, h2, h3] <;> rfl
theorem fine2 {x y : PyData} (h1 : fine x = true) (h2 : fine y = true) : fine (.tuple [x, y]) = true := by
  show (fine x && (fine y && true)) = true
  rw [h1, h2] <;> rfl
theorem stepD_fine {n : Nat} {s : Stp} (h : StepOk n s) (hn : n ≤ 1000) : fine (.tuple (stepD s)) = true := by
  cases s with
  | inn lo hi =>
    obtain ⟨h1, h2, _⟩ := h
    exact fine3 (by decide +kernel : fine (.str "in") = true) (fine_int' (num_bnd h1)) (fine_int' (num_bnd h2))
  | num c =>
    exact fine2 (by decide +kernel : fine (.str "is") = true) (fine_int' (num_bnd h))
  | op k i j =>
    obtain ⟨_, h1, h2⟩ := h
    have hw : fine (.str (opw k)) = true := by
      match k with
      | 0 => decide +kernel
      | 1 => decide +kernel
      | _ + 2 => exact (by decide +kernel : fine (.str "times") = true)
    have big : 1000 ≤ 10 ^ 120 := by decide +kernel
    exact fine3 hw (fine_int' (Nat.le_trans (show ((i : Nat) : Int).natAbs ≤ 1000 by omega) big)) (fine_int' (Nat.le_trans (show ((j : Nat) : Int).natAbs ≤ 1000 by omega) big))
theorem Row.prog {ss : List Stp} (P : IsProg ss) : Row (.tuple (ss.map fun s => .tuple (stepD s))) := by
  have h30 := P.most
  refine .tup (fineAll_map ss fun s hs => ?_) ?_ (Nat.le_trans (depthAll_map (k := 1) ss fun s _ => stepD_depth s) (by decide))
  · obtain ⟨i, hi, e⟩ := List.mem_iff_getElem.mp hs
    exact stepD_fine (P.ok i s (by rw [List.getElem?_eq_getElem hi, e])) (by omega)
  · have := nodAll_le (f := fun s => PyData.tuple (stepD s)) (k := 12) stepD_nod ss
    omega
theorem Row.hlt {E : List (Int × Int)} (hb : ∀ e ∈ E, Bnd e) (hl : E.length ≤ 1000) : Row (.tuple (E.map hullD)) := by
  refine .tup (fineAll_map E fun e he => ?_) ?_ (Nat.le_trans (depthAll_map (k := 1) E fun e _ => Nat.le_refl _) (by decide))
  · obtain ⟨h1, h2⟩ := hb e he
    exact fine2 (fine_int' h1) (fine_int' h2)
  · have := nodAll_le (f := hullD) (k := 3) (fun e => Nat.le_refl _) E
    omega
theorem Row.nums {ns : List Int} (h : ∀ n ∈ ns, n.natAbs ≤ 10 ^ 120) (hl : ns.length ≤ 9000) : Row (.tuple (ns.map PyData.int)) := by
  refine .tup (fineAll_map ns fun n hn => fine_int' (h n hn)) ?_ (depthAll_map ns fun _ _ => Nat.zero_le _)
  rw [nodAll_map (fun _ => rfl)]
  exact hl
theorem Row.int {n : Int} (h : n.natAbs ≤ 10 ^ 120) : Row (.int n) := ⟨fine_int' h, by show 1 ≤ 10000; decide, Nat.zero_le _⟩
end Sx
namespace Sx
open PySem PySem.Spec PyProof.Rows L2

/-! ### data of all kinds, the empty dict among it -/
mutual
inductive Dt (K : PySem.W.Frag) (H : Hp) : V → PyData → Prop
  | non : Dt K H .non .none
  | bl (b : Bool) : Dt K H (.bl b) (.bool b)
  | int (i : Int) : Dt K H (.int i) (.int i)
  | str (x : Str) : Dt K H (.str x) (.str x)
  | lst {a : Addr} {xs : List V} {ds : List PyData} (e : SqL K H a xs) (h : DtAll K H xs ds) : Dt K H (.ref a) (.list ds)
  | tup {a : Addr} {xs : List V} {ds : List PyData} (e : SqT K H a xs) (h : DtAll K H xs ds) : Dt K H (.ref a) (.tuple ds)
  | dct {a : Addr} (e : H a = some (.dK [])) : Dt K H (.ref a) (.dict [])
inductive DtAll (K : PySem.W.Frag) (H : Hp) : List V → List PyData → Prop
  | nil : DtAll K H [] []
  | cons {v : V} {vs : List V} {d : PyData} {ds : List PyData} : Dt K H v d → DtAll K H vs ds → DtAll K H (v :: vs) (d :: ds)
end
mutual
theorem dt_same {K : PySem.W.Frag} {H H' : Hp} (e : Same H H') : ∀ (d : PyData) (v : V), Dt K H v d → Dt K H' v d
  | .none, _, h => by
    cases h
    exact .non
  | .bool _, _, h => by
    cases h
    exact .bl _
  | .int _, _, h => by
    cases h
    exact .int _
  | .str _, _, h => by
    cases h
    exact .str _
  | .list ds, _, h => by
    cases h with
    | lst h1 h2 => exact .lst (L2.Same.seq e h1) (dta_same e ds _ h2)
  | .tuple ds, _, h => by
    cases h with
    | tup h1 h2 => exact .tup (Same.tup e h1) (dta_same e ds _ h2)
  | .dict _, _, h => by
    cases h with
    | dct h1 => exact .dct (e _ _ h1)
theorem dta_same {K : PySem.W.Frag} {H H' : Hp} (e : Same H H') : ∀ (ds : List PyData) (vs : List V), DtAll K H vs ds → DtAll K H' vs ds
  | [], _, h => by
    cases h
    exact .nil
  | d :: ds, _, h => by
    cases h with
    | cons h1 h2 => exact .cons (dt_same e d _ h1) (dta_same e ds _ h2)
end
mutual
theorem dt_of {K : PySem.W.Frag} {H : Hp} : ∀ (d : PyData) (v : V), Dp K H v d → Dt K H v d
  | .none, _, h => by
    cases h
    exact .non
  | .bool _, _, h => by
    cases h
    exact .bl _
  | .int _, _, h => by
    cases h
    exact .int _
  | .str _, _, h => by
    cases h
    exact .str _
  | .list ds, _, h => by
    cases h with
    | lst h1 h2 => exact .lst h1 (dta_of ds _ h2)
  | .tuple ds, _, h => by
    cases h with
    | tup h1 h2 => exact .tup h1 (dta_of ds _ h2)
  | .dict _, _, h => by cases h
theorem dta_of {K : PySem.W.Frag} {H : Hp} : ∀ (ds : List PyData) (vs : List V), DpAll K H vs ds → DtAll K H vs ds
  | [], _, h => by
    cases h
    exact .nil
  | d :: ds, _, h => by
    cases h with
    | cons h1 h2 => exact .cons (dt_of d _ h1) (dta_of ds _ h2)
end
section
variable {X : Cx} {pins : List (Addr × Obj)} {σ : L2.St} {H : Hp} {s : Shared}
theorem empty_dict {a : Addr} (I : Inv X pins σ H s) (e : H a = some (.dK [])) : (a == sysModules) = false ∧ ∃ o n, s.heap.get? a = some o ∧ o.cls = .type "dict" ∧ o.data = .dict #[] n := by
  obtain ⟨_, hd, vs, rel, o, es, ep, h1, h2, h3, h4⟩ := dk_of I.hok e
  cases rel
  obtain ⟨_, hp, _⟩ := h4
  have he : es = #[] := by
    have := hp.length
    simpa using this
  subst he
  exact ⟨hd, o, ep, h1, h2.1, h3⟩
/-- each part, and how it shows -/
def Sh (X : Cx) (s : Shared) (u : Value) (d : PyData) : Prop := (∃ as, Reads s.heap u d as) ∧ ∃ bs, ReadAtMost s.heap d.depth bs ∧ ReprK X.prog X.w bs s.heap d.depth u d.shown
def ShAll (X : Cx) (s : Shared) (us : List Value) (ds : List PyData) : Prop := (∃ as, ReadsAll s.heap us ds as) ∧ ∃ bs, ReadAtMost s.heap (PyData.depthAll ds) bs ∧ ReprAllK X.prog X.w bs s.heap (PyData.depthAll ds) us (PyData.shownAll ds)
mutual
theorem Dt.sh (I : Inv X pins σ H s) : ∀ (d : PyData) (v : V) (u : Value), Dt X.K H v d → RelV v u → d.showable = true → d.shown.length ≤ sizeLine → Sh X s u d
  | .none, _, _, h, r, _, _ => by
    cases h
    cases r
    exact ⟨⟨_, .none⟩, [], (fun _ z => nomatch z), by simp only [PyData.shown]; exact .of_is ReprIs.none _ _ _⟩
  | .bool b, _, _, h, r, _, _ => by
    cases h
    cases r
    exact ⟨⟨_, .bool b⟩, [], (fun _ z => nomatch z), by simp only [PyData.shown]; exact .of_is (ReprIs.bool b) _ _ _⟩
  | .int i, _, _, h, r, hs, _ => by
    cases h
    obtain ⟨t, rfl⟩ := r
    exact ⟨⟨_, .int i t⟩, [], (fun _ z => nomatch z), by simp only [PyData.shown]; exact .of_is (ReprIs.int t (by simpa [PyData.showable] using hs)) _ _ _⟩
  | .str x, _, _, h, r, _, hz => by
    cases h
    obtain ⟨t, rfl⟩ := r
    exact ⟨⟨_, .str x t⟩, [], (fun _ z => nomatch z), by simp only [PyData.shown]; exact .of_is (ReprIs.str x t (by simpa only [PyData.shown] using hz)) _ _ _⟩
  | .list ds, _, _, h, r, hs, hz => by
    cases h with
    | lst e ha =>
      cases r
      obtain ⟨its, rv, ⟨o, n, ho, hc, _, hd⟩, _⟩ := I.list e
      have hz' : (listText (PyData.shownAll ds)).length ≤ sizeLine := by simpa only [PyData.shown] using hz
      obtain ⟨⟨as, ra⟩, bs, hb, hk⟩ := DtAll.sh I ds _ its ha rv (by simpa [PyData.showable] using hs) fun t ht => Nat.le_trans (listText_mem_le ht) hz'
      have r0 := Reads.list ho hc hd ra
      have hna := not_mem_of_deeper r0 (by simp only [PyData.depth]; omega) hb
      refine ⟨⟨_, r0⟩, _, ReadAtMost.cons r0 (by simp only [PyData.depth]; omega) hb, ?_⟩
      simp only [PyData.depth, PyData.shown]
      cases its with
      | nil =>
        cases ra
        simp only [PyData.shownAll, listText_nil]
        exact ReprK.listEmpty ho hc hd
      | cons x l => exact ReprK.list ho hc hd hna (by simpa using hk.length_eq) fun i y z => hk.item i y (by simpa using z)
  | .tuple ds, _, _, h, r, hs, hz => by
    cases h with
    | tup e ha =>
      cases r
      obtain ⟨its, rv, ⟨o, ho, hc, n, hd⟩, _⟩ := I.tuple e
      have hz' : (tupleText (PyData.shownAll ds)).length ≤ sizeLine := by simpa only [PyData.shown] using hz
      obtain ⟨⟨as, ra⟩, bs, hb, hk⟩ := DtAll.sh I ds _ its ha rv (by simpa [PyData.showable] using hs) fun t ht => Nat.le_trans (tupleText_mem_le ht) hz'
      have r0 := Reads.tuple ho hc hd ra
      have hna := not_mem_of_deeper r0 (by simp only [PyData.depth]; omega) hb
      refine ⟨⟨_, r0⟩, _, ReadAtMost.cons r0 (by simp only [PyData.depth]; omega) hb, ?_⟩
      simp only [PyData.depth, PyData.shown]
      exact ReprK.tuple ho hc hd hna hk
  | .dict kvs, _, _, h, r, hs, hz => by
    cases h with
    | dct e =>
      cases r
      obtain ⟨hsys, o, n, ho, hc, hd⟩ := empty_dict I e
      have r0 : Reads s.heap (.ref _) (.dict []) _ := Reads.dict ho hc hd ReadsAll.nil ReadsAll.nil
      refine ⟨⟨_, r0⟩, [_], ReadAtMost.cons (n := 0) (bs := []) r0 (Nat.zero_le _) (fun _ z => nomatch z), ?_⟩
      simp only [PyData.depth, PyData.shown, PyData.shownKv_eq]
      exact ReprK.dict (as := []) ho hc hd hsys (fun z => nomatch z) .nil
theorem DtAll.sh (I : Inv X pins σ H s) : ∀ (ds : List PyData) (vs : List V) (us : List Value), DtAll X.K H vs ds → Vals vs us → PyData.showableAll ds = true → (∀ t ∈ PyData.shownAll ds, t.length ≤ sizeLine) → ShAll X s us ds
  | [], _, _, h, r, _, _ => by
    cases h
    cases r
    exact ⟨⟨_, .nil⟩, [], (fun _ z => nomatch z), by simp only [PyData.shownAll]; exact .nil⟩
  | d :: ds, _, _, h, r, hs, hz => by
    cases h with
    | cons h1 h2 =>
      cases r with
      | cons r1 r2 =>
        have hs' : d.showable = true ∧ PyData.showableAll ds = true := by simpa [PyData.showableAll] using hs
        obtain ⟨⟨a1, q1⟩, b1, m1, k1⟩ := Dt.sh I d _ _ h1 r1 hs'.1 (hz _ (by simp only [PyData.shownAll]; exact List.mem_cons_self ..))
        obtain ⟨⟨a2, q2⟩, b2, m2, k2⟩ := DtAll.sh I ds _ _ h2 r2 hs'.2 fun t ht => hz t (by simp only [PyData.shownAll]; exact List.mem_cons_of_mem _ ht)
        refine ⟨⟨_, .cons q1 q2⟩, b1 ++ b2, ?_, ?_⟩
        · simp only [PyData.depthAll]
          exact (m1.mono (Nat.le_max_left _ _)).append (m2.mono (Nat.le_max_right _ _))
        · simp only [PyData.depthAll, PyData.shownAll]
          exact .cons ((k1.more fun b z => List.mem_append_left _ z).level_le (Nat.le_max_left _ _)) (k2.more_le (fun b z => List.mem_append_right _ z) (Nat.le_max_right _ _))
end
end
def rShowD (K : PySem.W.Frag) : List V → Hp → VK → Prop := fun xs H Q => ∃ v d, xs = [v] ∧ Dt K H v d ∧ Shows d ∧ Q (.str d.shown) H
theorem call_showD {X : Cx} (hg : X.A.guards = some []) (hu : X.A.units + 64 < cLine) : CallR X (.builtin "repr") (rShowD X.K) := by
  intro pins s σ H xs us Q I r h
  obtain ⟨v, d, rfl, hd, S, q⟩ := h
  obtain ⟨u, rfl, r1⟩ := vals1 r
  obtain ⟨⟨as, rd⟩, _⟩ := Dt.sh I d v u hd r1 S.ok S.sz
  have hdp := S.dp
  have fin : ∀ {a : Addr} {T idr : String}, u = .ref a → ShowsBy X.prog X.w s.heap a d T idr → wpAny (model X.prog X.w) X.A (call (.builtin "repr") [u]) (EP X pins σ Q) X.xe s := by
    rintro a T idr rfl SB
    exact call_repr_slot (by omega) (SB.typeIs s fun _ _ e => e) SB.slotRepr (SB.call X.A.in1 _ s _ hg (by show X.A.units + 1 + d.depth < cLine; omega) (fun _ _ e => e) fun h' tu tk hk => ⟨_, _, rfl, .str _, H, I.kept hk, ⟨_, rfl⟩, q⟩)
  cases hd with
  | non => exact call_show hg hu pins s σ H _ _ Q I r ⟨_, _, rfl, .non, S, q⟩
  | bl b => exact call_show hg hu pins s σ H _ _ Q I r ⟨_, _, rfl, .bl b, S, q⟩
  | int i => exact call_show hg hu pins s σ H _ _ Q I r ⟨_, _, rfl, .int i, S, q⟩
  | str y => exact call_show hg hu pins s σ H _ _ Q I r ⟨_, _, rfl, .str y, S, q⟩
  | @lst a ys ds e ha =>
    obtain rfl : u = Value.ref a := r1
    obtain ⟨its, rv, ⟨o, n, ho, hc, _, hdd⟩, _⟩ := I.list e
    have hz' : (listText (PyData.shownAll ds)).length ≤ sizeLine := by simpa only [PyData.shown] using S.sz
    obtain ⟨⟨as2, ra⟩, bs, hb, hk⟩ := DtAll.sh I ds _ its ha rv (by simpa [PyData.showable] using S.ok) fun t ht => Nat.le_trans (listText_mem_le ht) hz'
    have hna := not_mem_of_deeper (Reads.list ho hc hdd ra) (by simp only [PyData.depth]; omega) hb
    refine fin rfl (T := "list") (idr := "list.__repr__") ⟨F.slot_list_repr.toG, F.slot_list_str, F.slot_list_format, fun s hk0 => ⟨o, hk0 _ _ ho, hc⟩, fun A E s Q hg hu hk0 hQ => ?_⟩
    simp only [PyData.depth] at hu
    simp only [PyData.shown] at hQ
    cases its with
    | nil =>
      cases ra
      simp only [PyData.shownAll, listText_nil] at hQ
      exact call_list_repr_empty ⟨o, hk0 _ _ ho, hc⟩ (hk0 _ _ ho) hdd (hQ s.heap _ _ fun _ _ e => e)
    | cons x l => exact call_list_reprK ho hc hdd hna (by simpa using hk.length_eq) (fun i y z => hk.item i y (by simpa using z)) hg (fun b _ => Clear.nil b) hu hk0 hQ hz'
  | @tup a ys ds e ha =>
    obtain rfl : u = Value.ref a := r1
    obtain ⟨its, rv, ⟨o, ho, hc, n, hdd⟩, _⟩ := I.tuple e
    have hz' : (tupleText (PyData.shownAll ds)).length ≤ sizeLine := by simpa only [PyData.shown] using S.sz
    obtain ⟨⟨as2, ra⟩, bs, hb, hk⟩ := DtAll.sh I ds _ its ha rv (by simpa [PyData.showable] using S.ok) fun t ht => Nat.le_trans (tupleText_mem_le ht) hz'
    have hna := not_mem_of_deeper (Reads.tuple ho hc hdd ra) (by simp only [PyData.depth]; omega) hb
    refine fin rfl (T := "tuple") (idr := "tuple.__repr__") ⟨F.slot_tuple_repr, F.slot_tuple_str, F.slot_tuple_format, fun s hk0 => ⟨o, hk0 _ _ ho, hc⟩, fun A E s Q hg hu hk0 hQ => ?_⟩
    simp only [PyData.depth] at hu
    simp only [PyData.shown] at hQ
    exact call_tuple_reprK ho hc hdd hna hk hg (fun b _ => Clear.nil b) hu hk0 hQ hz'
  | @dct a e =>
    obtain rfl : u = Value.ref a := r1
    obtain ⟨hsys, o, n, ho, hc, hdd⟩ := empty_dict I e
    refine fin rfl (T := "dict") (idr := "dict.__repr__") ⟨F.slot_dict_repr, F.slot_dict_str, F.slot_dict_format, fun s hk0 => ⟨o, hk0 _ _ ho, hc⟩, fun A E s Q hg hu hk0 hQ => ?_⟩
    simp only [PyData.depth] at hu
    simp only [PyData.shown, PyData.shownKv_eq] at hQ
    exact call_dict_reprK (as := []) ho hc hdd hsys (fun z => nomatch z) .nil hg (fun b _ => Clear.nil b) hu hk0 hQ (by decide +kernel)
end Sx
namespace Sx
open PySem PySem.Spec PyProof.Rows L2

/-! ### the class of a piece of data -/
def clsOf : PyData → String
  | .none => "NoneType"
  | .bool _ => "bool"
  | .int _ => "int"
  | .str _ => "str"
  | .list _ => "list"
  | .tuple _ => "tuple"
  | .dict _ => "dict"
theorem tyx_of {K : PySem.W.Frag} {H : Hp} {v : V} {d : PyData} (h : Dt K H v d) : TyX K H v (.type (clsOf d)) := by
  cases h with
  | non => exact .base .non
  | bl b => exact .base (.bl b)
  | int i => exact .base (.int i)
  | str x => exact .base (.str x)
  | lst e _ =>
    rcases e with (e | ⟨o, e⟩) | ⟨o, its, n, e, c, _⟩
    · exact .base (.lst e)
    · exact .base (.frz e)
    · exact .kList e c
  | tup e _ =>
    rcases e with (e | ⟨o, e⟩) | ⟨o, its, n, e, c, _⟩
    · exact .base (.tup e)
    · exact .fTuple e
    · exact .kTuple e c
  | dct e => exact .base (.dK e)
def isOf (n : String) (d : PyData) : Bool := (kitB (clsOf d) n).getD false
theorem isi_of {K : PySem.W.Frag} {H : Hp} {v : V} {d : PyData} {n : String} {b : Bool} {Q : VK} (h : Dt K H v d) (e : kitB (clsOf d) n = some b) (q : Q (.bl b) H) : rIsi K [v, .ty n] H Q :=
  ⟨v, .ty n, _, _, b, rfl, .ty n, tyx_of h, kit_ty e, q⟩
def wholeD : PyData → Bool
  | .int _ => true
  | _ => false
def tupD : PyData → Bool
  | .tuple _ => true
  | _ => false
theorem kit_int (d : PyData) : kitB (clsOf d) "int" = some (match d with | .int _ => true | .bool _ => true | _ => false) := by
  cases d
  · exact (by decide +kernel : kitB "NoneType" "int" = some false)
  · exact (by decide +kernel : kitB "bool" "int" = some true)
  · exact (by decide +kernel : kitB "int" "int" = some true)
  · exact (by decide +kernel : kitB "str" "int" = some false)
  · exact (by decide +kernel : kitB "list" "int" = some false)
  · exact (by decide +kernel : kitB "tuple" "int" = some false)
  · exact (by decide +kernel : kitB "dict" "int" = some false)
theorem kit_bool (d : PyData) : kitB (clsOf d) "bool" = some (match d with | .bool _ => true | _ => false) := by
  cases d
  · exact (by decide +kernel : kitB "NoneType" "bool" = some false)
  · exact (by decide +kernel : kitB "bool" "bool" = some true)
  · exact (by decide +kernel : kitB "int" "bool" = some false)
  · exact (by decide +kernel : kitB "str" "bool" = some false)
  · exact (by decide +kernel : kitB "list" "bool" = some false)
  · exact (by decide +kernel : kitB "tuple" "bool" = some false)
  · exact (by decide +kernel : kitB "dict" "bool" = some false)
theorem kit_tuple (d : PyData) : kitB (clsOf d) "tuple" = some (tupD d) := by
  cases d
  · exact (by decide +kernel : kitB "NoneType" "tuple" = some false)
  · exact (by decide +kernel : kitB "bool" "tuple" = some false)
  · exact (by decide +kernel : kitB "int" "tuple" = some false)
  · exact (by decide +kernel : kitB "str" "tuple" = some false)
  · exact (by decide +kernel : kitB "list" "tuple" = some false)
  · exact (by decide +kernel : kitB "tuple" "tuple" = some true)
  · exact (by decide +kernel : kitB "dict" "tuple" = some false)
theorem kit_str (d : PyData) : kitB (clsOf d) "str" = some (match d with | .str _ => true | _ => false) := by
  cases d
  · exact (by decide +kernel : kitB "NoneType" "str" = some false)
  · exact (by decide +kernel : kitB "bool" "str" = some false)
  · exact (by decide +kernel : kitB "int" "str" = some false)
  · exact (by decide +kernel : kitB "str" "str" = some true)
  · exact (by decide +kernel : kitB "list" "str" = some false)
  · exact (by decide +kernel : kitB "tuple" "str" = some false)
  · exact (by decide +kernel : kitB "dict" "str" = some false)
def withinD (d : PyData) (lo hi : Int) : Bool := match d with
  | .int i => decide (lo ≤ i) && decide (i ≤ hi)
  | _ => false
def sp_is_whole (K : PySem.W.Frag) : Sp := fun vs H Q _ => ∃ (v : V) (d : PyData), vs = [v] ∧ Dt K H v d ∧ Q (.bl (wholeD d)) H
def sp_is_within (K : PySem.W.Frag) : Sp := fun vs H Q _ => ∃ (v : V) (d : PyData) (lo hi : Int), vs = [v, .int lo, .int hi] ∧ Dt K H v d ∧ Q (.bl (withinD d lo hi)) H
def sp__law_is_from (K : PySem.W.Frag) : Sp := sp_is_within K

/-! ### rows of data -/
theorem dta_len {K : PySem.W.Frag} {H : Hp} : ∀ {vs : List V} {ds : List PyData}, DtAll K H vs ds → vs.length = ds.length
  | _, _, .nil => rfl
  | _, _, .cons _ t => congrArg (· + 1) (dta_len t)
theorem dta_at {K : PySem.W.Frag} {H : Hp} : ∀ {vs : List V} {ds : List PyData} {i : Nat} {d : PyData}, DtAll K H vs ds → ds[i]? = some d → ∃ v, vs[i]? = some v ∧ Dt K H v d
  | _, _, _, _, .nil, h => by simp at h
  | _, _, 0, d, .cons r t, h => ⟨_, rfl, by rw [← Option.some.inj h]; exact r⟩
  | _, _, i + 1, d, .cons r t, h => dta_at (i := i) t (by simpa using h)
theorem dta_app {K : PySem.W.Frag} {H : Hp} : ∀ {vs ws : List V} {ds es : List PyData}, DtAll K H vs ds → DtAll K H ws es → DtAll K H (vs ++ ws) (ds ++ es)
  | _, _, _, _, .nil, h => h
  | _, _, _, _, .cons r t, h => .cons r (dta_app t h)
theorem dta_take {K : PySem.W.Frag} {H : Hp} : ∀ {vs : List V} {ds : List PyData} (n : Nat), DtAll K H vs ds → DtAll K H (vs.take n) (ds.take n)
  | _, _, 0, _ => .nil
  | _, _, _ + 1, .nil => .nil
  | _, _, n + 1, .cons r t => .cons r (dta_take n t)
theorem dta_drop {K : PySem.W.Frag} {H : Hp} : ∀ {vs : List V} {ds : List PyData} (n : Nat), DtAll K H vs ds → DtAll K H (vs.drop n) (ds.drop n)
  | _, _, 0, h => h
  | _, _, _ + 1, .nil => .nil
  | _, _, n + 1, .cons _ t => dta_drop n t
theorem dta_val {K : PySem.W.Frag} {H : Hp} {vs : List V} {ds : List PyData} {i : Nat} {v : V} (h : DtAll K H vs ds) (e : vs[i]? = some v) : i < ds.length ∧ Dt K H v (ds.getD i .none) := by
  have hi : i < ds.length := by
    rw [← dta_len h]
    exact (List.getElem?_eq_some_iff.mp e).1
  obtain ⟨w, h1, h2⟩ := dta_at h (getD_some PyData.none hi)
  rw [e] at h1
  cases h1
  exact ⟨hi, h2⟩
theorem dta_three {K : PySem.W.Frag} {H : Hp} {xs : List V} {ds : List PyData} (h : DtAll K H xs ds) (hl : ds.length = 3) : ∃ x y z dx dy dz, xs = [x, y, z] ∧ ds = [dx, dy, dz] ∧ Dt K H x dx ∧ Dt K H y dy ∧ Dt K H z dz := by
  cases h with
  | nil => exact nomatch hl
  | cons r1 h =>
    cases h with
    | nil => exact nomatch hl
    | cons r2 h =>
      cases h with
      | nil => exact nomatch hl
      | cons r3 h =>
        cases h with
        | nil => exact ⟨_, _, _, _, _, _, rfl, rfl, r1, r2, r3⟩
        | cons r4 h => simp at hl

/-! ### strays -/
/-- the greatest rest of the lane that a names -/
def topOf (ns : List Int) : PyData → Int
  | .int i => ns.getD i.toNat 0 - 1
  | _ => -1
def strayD (ns : List Int) (m : Nat) : PyData → Bool
  | .tuple [a, b, c] => withinD a 0 ((ns.length : Int) - 1) && (withinD b 0 ((m : Int) - 1) && withinD c 0 (topOf ns a))
  | _ => false
def le2 (a b a' b' : Int) : Bool := Ob.lexAt (fun j => decide ([a, b].getD j 0 = [a', b'].getD j 0)) (fun j => decide ([a, b].getD j 0 ≤ [a', b'].getD j 0)) (decide ([a, b].length ≤ [a', b'].length)) 0 (min [a, b].length [a', b'].length)
def ordD : PyData → PyData → Bool
  | .tuple (.int a :: .int b :: _), .tuple (.int a' :: .int b' :: _) => le2 a b a' b'
  | _, _ => false
def faultS (ns : List Int) (m : Nat) (ds : List PyData) : PyData := match (List.range ds.length).find? (fun i => !strayD ns m (ds.getD i .none)) with
  | some i => .tuple [.str "stray", .int (i : Nat)]
  | none => match (List.range ds.length).find? (fun i => decide (1 ≤ i) && ordD (ds.getD i .none) (ds.getD (i - 1) .none)) with
    | some i => .tuple [.str "order", .int (i : Nat)]
    | none => .none
def faultD (ns : List Int) (m : Nat) : PyData → PyData
  | .tuple ds => faultS ns m ds
  | _ => .str "form"
theorem find_at {p : Nat → Bool} {n i : Nat} (hi : i < n) (h : p i = true) (hj : ∀ j, j < i → p j = false) : (List.range n).find? p = some i :=
  List.find?_range_eq_some.mpr ⟨h, List.mem_range.mpr hi, fun j z => by rw [hj j z] <;> rfl⟩
theorem find_no {p : Nat → Bool} {n : Nat} (hj : ∀ j, j < n → p j = false) : (List.range n).find? p = none :=
  List.find?_eq_none.mpr fun j z => by
    rw [hj j (List.mem_range.mp z)]
    decide
theorem fault_stray {ns : List Int} {m : Nat} {ds : List PyData} {i : Nat} (hi : i < ds.length) (h : strayD ns m (ds.getD i .none) = false) (hj : ∀ j, j < i → strayD ns m (ds.getD j .none) = true) : faultS ns m ds = .tuple [.str "stray", .int (i : Nat)] := by
  unfold faultS
  rw [find_at hi (by rw [h] <;> rfl) fun j z => by rw [hj j z] <;> rfl]
theorem fault_none {ns : List Int} {m : Nat} {ds : List PyData} (hj : ∀ j, j < ds.length → strayD ns m (ds.getD j .none) = true) : faultS ns m ds = match (List.range ds.length).find? (fun i => decide (1 ≤ i) && ordD (ds.getD i .none) (ds.getD (i - 1) .none)) with
    | some i => .tuple [.str "order", .int (i : Nat)]
    | none => .none := by
  unfold faultS
  rw [find_no fun j z => by rw [hj j z] <;> rfl]
theorem stray_is {ns : List Int} {m : Nat} {d : PyData} (h : strayD ns m d = true) : ∃ a b c : Int, d = .tuple [.int a, .int b, .int c] := by
  match d with
  | .tuple [a, b, c] =>
    obtain ⟨h1, h23⟩ := Bool.and_eq_true_iff.mp (show (withinD a 0 ((ns.length : Int) - 1) && (withinD b 0 ((m : Int) - 1) && withinD c 0 (topOf ns a))) = true from h)
    obtain ⟨h2, h3⟩ := Bool.and_eq_true_iff.mp h23
    have num : ∀ {d : PyData} {lo hi : Int}, withinD d lo hi = true → ∃ i, d = .int i := by
      intro d lo hi h
      cases d with
      | int i => exact ⟨i, rfl⟩
      | none => exact nomatch h
      | bool b => exact nomatch h
      | str x => exact nomatch h
      | list x => exact nomatch h
      | tuple x => exact nomatch h
      | dict x => exact nomatch h
    obtain ⟨i, rfl⟩ := num h1
    obtain ⟨j, rfl⟩ := num h2
    obtain ⟨k, rfl⟩ := num h3
    exact ⟨i, j, k, rfl⟩
  | .tuple [] => exact nomatch h
  | .tuple [a] => exact nomatch h
  | .tuple [a, b] => exact nomatch h
  | .tuple (a :: b :: c :: e :: r) => exact nomatch h
  | .none => exact nomatch h
  | .bool b => exact nomatch h
  | .int i => exact nomatch h
  | .str x => exact nomatch h
  | .list x => exact nomatch h
  | .dict x => exact nomatch h
theorem stray_not3 {ns : List Int} {m : Nat} {ds : List PyData} (h : ds.length ≠ 3) : strayD ns m (.tuple ds) = false := by
  match ds, h with
  | [], _ => rfl
  | [a], _ => rfl
  | [a, b], _ => rfl
  | [a, b, c], h3 => exact absurd rfl h3
  | a :: b :: c :: e :: r, _ => rfl
theorem within_num {d : PyData} {lo hi : Int} (h : withinD d lo hi = true) : ∃ i, d = .int i ∧ lo ≤ i ∧ i ≤ hi := by
  cases d with
  | int i =>
    have h' : (decide (lo ≤ i) && decide (i ≤ hi)) = true := h
    exact ⟨i, rfl, by simpa using h'⟩
  | none => exact nomatch h
  | bool b => exact nomatch h
  | str x => exact nomatch h
  | list x => exact nomatch h
  | tuple x => exact nomatch h
  | dict x => exact nomatch h
theorem lane_at {ns : List Int} {i : Int} (h0 : 0 ≤ i) (h1 : i ≤ (ns.length : Int) - 1) : atI (ns.map V.int) i = some (.int (ns.getD i.toNat 0)) := by
  have hi : i = ((i.toNat : Nat) : Int) := by omega
  rw [hi]
  refine atI_nat ?_
  rw [Int.toNat_natCast, List.getElem?_map, getD_some 0 (by omega)] <;> rfl
def sp_is_stray (K : PySem.W.Frag) : Sp := fun vs H Q _ => ∃ (t p : Addr) (v : V) (ns : List Int) (ss : List Stp) (d : PyData), vs = [.ref t, .ref p, v] ∧ SqT K H t (ns.map V.int) ∧ ProgAt H p ss ∧ Dt K H v d ∧ Q (.bl (strayD ns ss.length d)) H
def dlen : PyData → Nat
  | .tuple ds => ds.length
  | _ => 0
def sp_strays_error (K : PySem.W.Frag) : Sp := fun vs H Q _ => ∃ (t p : Addr) (v : V) (ns : List Int) (ss : List Stp) (d : PyData), vs = [.ref t, .ref p, v] ∧ SqT K H t (ns.map V.int) ∧ ProgAt H p ss ∧ Dt K H v d ∧ dlen d ≤ 100000 ∧
  ∀ (r : V) (H' : Hp), Same H H' → Dt K H' r (faultD ns ss.length d) → Q r H'
def sp__law_fault (K : PySem.W.Frag) : Sp := sp_strays_error K
/-- the order of two strays that stand side by side -/
def orderS (ds : List PyData) : PyData := match (List.range ds.length).find? (fun i => decide (1 ≤ i) && ordD (ds.getD i .none) (ds.getD (i - 1) .none)) with
    | some i => .tuple [.str "order", .int (i : Nat)]
    | none => .none
theorem fault_order {ns : List Int} {m : Nat} {ds : List PyData} (hj : ∀ j, j < ds.length → strayD ns m (ds.getD j .none) = true) : faultS ns m ds = orderS ds := fault_none hj
theorem order_at {ds : List PyData} {i : Nat} (hi : i < ds.length) (h1 : 1 ≤ i) (h : ordD (ds.getD i .none) (ds.getD (i - 1) .none) = true) (hj : ∀ j, 1 ≤ j → j < i → ordD (ds.getD j .none) (ds.getD (j - 1) .none) = false) : orderS ds = .tuple [.str "order", .int (i : Nat)] := by
  unfold orderS
  rw [find_at hi (by rw [h, decide_eq_true h1] <;> rfl) fun j z => by
    by_cases hz : 1 ≤ j
    · rw [hj j hz z, Bool.and_false]
    · rw [decide_eq_false hz] <;> rfl]
theorem order_no {ds : List PyData} (hj : ∀ j, 1 ≤ j → j < ds.length → ordD (ds.getD j .none) (ds.getD (j - 1) .none) = false) : orderS ds = .none := by
  unfold orderS
  rw [find_no fun j z => by
    by_cases hz : 1 ≤ j
    · rw [hj j hz z, Bool.and_false]
    · rw [decide_eq_false hz] <;> rfl]
/-- where a stray stands -/
theorem stray_cells {K : PySem.W.Frag} {H : Hp} {v : V} {ns : List Int} {m : Nat} {d : PyData} (h : Dt K H v d) (hs : strayD ns m d = true) : ∃ (a : Addr) (i j k : Int), v = .ref a ∧ d = .tuple [.int i, .int j, .int k] ∧ SqT K H a ([i, j, k].map V.int) := by
  obtain ⟨i, j, k, rfl⟩ := stray_is hs
  cases h with
  | tup e ha =>
    cases ha with
    | cons r1 ha =>
      cases r1
      cases ha with
      | cons r2 ha =>
        cases r2
        cases ha with
        | cons r3 ha =>
          cases r3
          cases ha
          exact ⟨_, i, j, k, rfl, rfl, e⟩
end Sx
namespace Sx
open PySem PySem.Spec PyProof.Rows L2 HT

/-! ### t[::-1] of a tuple -/
theorem fm_congr {α β : Type} {f g : α → Option β} : ∀ l : List α, (∀ m ∈ l, f m = g m) → l.filterMap f = l.filterMap g
  | [], _ => rfl
  | x :: l, h => by
    rw [List.filterMap_cons, List.filterMap_cons, h x List.mem_cons_self, fm_congr l fun m z => h m (List.mem_cons_of_mem _ z)]
theorem rev_pick (xs : Array Value) : ((List.range xs.size).filterMap fun (m : Nat) => xs[(((xs.size : Int) - 1) + (m : Int) * (-1)).toNat]?).toArray = xs.toList.reverse.toArray := by
  have e := pick_gen xs.toList.reverse.toArray 0 xs.size
  rw [List.drop_zero, List.take_of_length_le (by rw [List.length_reverse, Array.length_toList]; exact Nat.le_refl _)] at e
  rw [← e]
  congr 1
  refine fm_congr _ fun m hm => ?_
  have hm := List.mem_range.mp hm
  have e1 : (((xs.size : Int) - 1) + (m : Int) * (-1)).toNat = xs.size - 1 - m := by omega
  have e2 : (((0 : Nat) : Int) + (m : Int) * 1).toNat = m := by omega
  have e3 : xs.toList.reverse.toArray[m]? = xs.toList.reverse[m]? := by simp
  rw [e1, e2, e3, List.getElem?_reverse (by rw [Array.length_toList]; exact hm), Array.length_toList, Array.getElem?_toList]
theorem rev_bounds (n : Nat) : Builtin.Slice.sliceAdjust none none (-1) (n : Int) = ((n : Int) - 1, -1) := rfl
theorem rev_places (n : Nat) : Builtin.Slice.slicePlaces ((n : Int) - 1) (-1) (-1) = n := by
  unfold Builtin.Slice.slicePlaces
  have h1 : ¬ ((-1 : Int) > 0) := by decide
  rw [if_neg h1]
  by_cases h : (n : Int) - 1 > -1
  · rw [if_pos h]
    have : -(-1 : Int) = 1 := rfl
    rw [this, Int.ediv_one]
    omega
  · rw [if_neg h]
    omega
section
variable {prog : Program} {w : World} {A : Around} {E : Value → Shared → Prop} {s : Shared}
theorem getItem_tuple_rev {t sl : Addr} {items : Array Value} {u : Tok} {Q : Value → Shared → Prop} (ht : IsTup s.heap t items) (hs : s.heap.IsSliceOf sl .none .none (.int (-1) u)) (hsz : items.size ≤ sizeLine)
    (h : Q (.ref s.heap.objs.size) { s with heap := s.heap.push { cls := .type "tuple", data := .seq items.toList.reverse.toArray } }) : wpAny (model prog w) A (getItem (.ref t) (.ref sl)) Q E s := by
  have okz : sizeOk (.seq items.toList.reverse.toArray) := by
    show items.toList.reverse.toArray.size ≤ sizeLine
    rw [List.size_toArray, List.length_reverse, Array.length_toList]
    exact hsz
  obtain ⟨os, hos, hcs, hds⟩ := id hs
  have tys : s.TypeIs (.ref sl) "slice" := ⟨os, hos, hcs⟩
  unfold getItem
  try with_reducible refine wpAny_holding ?_
  first | refine wpAny_bind (wpAny_pure ?_) | skip
  refine wpAny_bind (wpAny_sequenceKey ht.typeIs (by decide) ?_)
  refine wpAny_bind (wpAny_callSpecial?_slot (name := Str.ofString "__getitem__") ht.typeIs PyProof.Rows.slot_tuple_getitem (wpAny_call_entry PyProof.Rows.slot_tuple_getitem ht.typeIs entry_tuple_getitem ?_ (args_tuple_getitem _ _)))
  show wpAny _ _ (Builtin.Tuple.tupleItemsOf (.ref t) >>= _) _ _ s
  refine wpAny_bind (tupleItemsOf_ ht (wpAny_bind (wpAny_typeOf tys ?_)))
  rw [if_pos (by decide)]
  have ap : ∀ {R : Int × Int × Nat → Shared → Prop}, R ((items.size : Int) - 1, -1, items.size) s → wpAny (model prog w) A.in1 (Builtin.Slice.sliceApplied (.ref sl) (pure (items.size : Int))) R E s := by
    intro R q
    unfold Builtin.Slice.sliceApplied Builtin.Slice.sliceFields
    refine wpAny_bind (wpAny_bind (wpAny_field hos hds (x := .none) rfl (wpAny_bind (wpAny_field hos hds (x := .none) rfl (wpAny_bind (wpAny_field hos hds (x := .int (-1) u) rfl (wpAny_pure ?_)))))))
    refine wpAny_bind (slicePart_int ?_)
    show wpAny _ _ (if ((-1 : Int) == 0) = true then _ else _) _ _ s
    rw [if_neg (by decide)]
    refine wpAny_bind (slicePart_none (wpAny_bind (slicePart_none (wpAny_bind (wpAny_pure ?_)))))
    show wpAny _ _ (pure ((items.size : Int) - 1, (-1 : Int), Builtin.Slice.slicePlaces ((items.size : Int) - 1) (-1) (-1))) _ _ s
    rw [rev_places]
    exact wpAny_pure q
  refine wpAny_bind (ap ?_)
  have hno : ¬ (((items.size : Int) - 1 == 0 && (-1 : Int) == 1 && items.size == items.size) = true) := by
    rw [show ((-1 : Int) == 1) = false from rfl, Bool.and_false, Bool.false_and]
    decide
  show wpAny _ _ (if ((items.size : Int) - 1 == 0 && (-1 : Int) == 1 && items.size == items.size) = true then _ else _) _ _ s
  rw [if_neg hno, rev_pick]
  first
    | exact wpAny_bind (m := Builtin.Tuple.tupleExact _) (wpAny_newObj_type (wpAny_pure ⟨_, rfl, wpAny_pure h⟩) okz)
    | exact wpAny_bind (m := Builtin.Tuple.tupleExact _) (wpAny_newObj_type (wpAny_bind (wpAny_pure (wpAny_pure ⟨_, rfl, wpAny_pure h⟩))) okz)
    | exact wpAny_bind (wpAny_bind (m := Builtin.Tuple.tupleExact _) (wpAny_newObj_type (wpAny_pure (wpAny_pure ⟨_, rfl, wpAny_pure h⟩)) okz))
    | exact wpAny_bind (wpAny_bind (m := Builtin.Tuple.tupleExact _) (wpAny_newObj_type (wpAny_pure ⟨_, rfl, wpAny_pure h⟩) okz))
end
def tRevT (K : PySem.W.Frag) (te : TE) : TE := fun σ H Q => te σ H fun x H1 => ∃ a xs, x = .ref a ∧ SqT K H1 a xs ∧ ∀ p, H1 p = none → Q (.ref p) (upd H1 p (.tup xs.reverse))
theorem pe_revT {X : Cx} {e : Expr} {te : TE} {k : Nat} {p1 p2 p3 pos : Pos} (he : PE X e te) : PE X (.Subscript e (.Slice none none (some (.UnaryOp .USub (.Constant (.int 1) k p1) p2)) p3) pos) (tRevT X.K te) := by
  refine ⟨fun pins s σ H Q I h => Subscript_ (thn (he.run pins s σ H _ I h) ?_)⟩
  rintro v s1 ⟨x, H1, I1, r1, a, xs, rfl, hx, q⟩
  cases r1
  have hst : PO X (some (.UnaryOp .USub (.Constant (.int 1) k p1) p2)) (tPart (tUn (rU fun i => .int (-i)) (tC (.int 1)))) := po_some (pe_un un_neg pe_int)
  refine wpAny_Slice (thn (po_none.run pins s1 σ H1 (fun o G => o = none ∧ G = H1) I1 ⟨rfl, rfl⟩) ?_)
  rintro vl s2 ⟨l, _, I2, pl, rfl, rfl⟩
  refine thn (po_none.run pins s2 σ _ (fun o G => o = none ∧ G = _) I2 ⟨rfl, rfl⟩) ?_
  rintro vu s3 ⟨l, _, I3, pu, rfl, rfl⟩
  refine thn (hst.run pins s3 σ _ (fun o G => o = some (-1) ∧ G = _) I3 ⟨1, rfl, -1, rfl, rfl, rfl⟩) ?_
  rintro vs s4 ⟨l, _, I4, ps, rfl, rfl⟩
  cases pl
  cases pu
  cases ps with
  | int _ t =>
    rename_i G
    have I5 : Inv X pins σ G { s4 with heap := s4.heap.push { cls := .type "slice", data := .fields #[.none, .none, .int (-1) t] } } := I4.kept (t' := s4.toks) fun b ob z => Heap.get?_push_of_some _ z
    obtain ⟨its, r, tp, hz⟩ := I5.tuple hx
    have hlen := r.length
    show wpAny (model X.prog X.w) X.A (subscriptTail e (.Slice none none (some (.UnaryOp .USub (.Constant (.int 1) k p1) p2)) p3) (.ref a) (.ref s4.heap.objs.size)) (EP X pins σ Q) X.xe { s4 with heap := s4.heap.push { cls := .type "slice", data := .fields #[.none, .none, .int (-1) t] } }
    refine tail_any (ops := [.ref a, .ref s4.heap.objs.size]) tp.typeIs (PyProof.Rows.slot_tuple_getitem.lookup) ?_ (by with_unfolding_all rfl)
    refine getItem_tuple_rev tp (Heap.IsSliceOf.new _ _ _ _) (by rw [List.size_toArray]; omega) ?_
    refine ⟨.ref _, _, I5.laid (t' := s4.toks) (o := .tup xs.reverse) (fun b ob z => Heap.get?_push_of_some _ z) (Nat.le_refl _) ?_, rfl, q _ (I5.hok.fresh (Nat.le_refl _))⟩
    exact ⟨by rw [List.length_reverse]; omega, _, r.reverse, IsTup.new _ _⟩
end Sx
namespace Sx
open PySem PySem.Spec PyProof.Rows L2

/-! ### how great a piece of data is -/
structure Ok (n k : Nat) (d : PyData) : Prop where
  f : fine d = true
  n : nod d ≤ n
  d : d.depth ≤ k
structure OkAll (n k : Nat) (ds : List PyData) : Prop where
  f : fineAll ds = true
  n : nodAll ds ≤ n
  d : PyData.depthAll ds ≤ k
theorem fineAll_app : ∀ xs ys : List PyData, fineAll (xs ++ ys) = (fineAll xs && fineAll ys)
  | [], _ => rfl
  | x :: xs, ys => by
    show (fine x && fineAll (xs ++ ys)) = ((fine x && fineAll xs) && fineAll ys)
    rw [fineAll_app xs ys, Bool.and_assoc]
theorem nodAll_app : ∀ xs ys : List PyData, nodAll (xs ++ ys) = nodAll xs + nodAll ys
  | [], _ => (Nat.zero_add _).symm
  | x :: xs, ys => by
    show nod x + nodAll (xs ++ ys) = (nod x + nodAll xs) + nodAll ys
    rw [nodAll_app xs ys, Nat.add_assoc]
theorem depthAll_app : ∀ xs ys : List PyData, PyData.depthAll (xs ++ ys) = max (PyData.depthAll xs) (PyData.depthAll ys)
  | [], ys => by
    show PyData.depthAll ys = max 0 (PyData.depthAll ys)
    omega
  | x :: xs, ys => by
    show max x.depth (PyData.depthAll (xs ++ ys)) = max (max x.depth (PyData.depthAll xs)) (PyData.depthAll ys)
    rw [depthAll_app xs ys]
    omega
namespace OkAll
variable {n m k j : Nat} {xs ys ds : List PyData} {d : PyData}
theorem app (a : OkAll n k xs) (b : OkAll m k ys) : OkAll (n + m) k (xs ++ ys) :=
  ⟨by rw [fineAll_app, a.f, b.f] <;> rfl, by rw [nodAll_app]; exact Nat.add_le_add a.n b.n, by rw [depthAll_app]; exact Nat.max_le.mpr ⟨a.d, b.d⟩⟩
theorem ge (a : OkAll n k xs) (h : n ≤ m) (h2 : k ≤ j) : OkAll m j xs := ⟨a.f, Nat.le_trans a.n h, Nat.le_trans a.d h2⟩
theorem parts (a : OkAll n k (xs ++ ys)) : OkAll n k xs ∧ OkAll n k ys := by
  obtain ⟨f, l, d⟩ := a
  rw [fineAll_app] at f
  rw [nodAll_app] at l
  rw [depthAll_app] at d
  obtain ⟨f1, f2⟩ := Bool.and_eq_true_iff.mp f
  exact ⟨⟨f1, by omega, by omega⟩, ⟨f2, by omega, by omega⟩⟩
theorem take (a : OkAll n k xs) (i : Nat) : OkAll n k (xs.take i) := by
  rw [← List.take_append_drop i xs] at a
  exact a.parts.1
theorem drop (a : OkAll n k xs) (i : Nat) : OkAll n k (xs.drop i) := by
  rw [← List.take_append_drop i xs] at a
  exact a.parts.2
theorem one (a : Ok n k d) : OkAll n k [d] := by
  obtain ⟨f, l, h⟩ := a
  refine ⟨?_, ?_, ?_⟩
  · show (fine d && true) = true
    rw [f] <;> rfl
  · show nod d + 0 ≤ n
    exact l
  · show max d.depth 0 ≤ k
    omega
theorem cons (a : Ok n k d) (b : OkAll m k xs) : OkAll (n + m) k (d :: xs) := (one a).app b
theorem nil : OkAll 0 k [] := ⟨rfl, Nat.le_refl _, Nat.zero_le _⟩
theorem mem (a : OkAll n k xs) (h : d ∈ xs) : Ok n k d := by
  obtain ⟨l, r, rfl⟩ := List.append_of_mem h
  have b := (a.parts.2).f
  have c := (a.parts.2).n
  have e := (a.parts.2).d
  have b' : (fine d && fineAll r) = true := b
  have c' : nod d + nodAll r ≤ n := c
  have e' : max d.depth (PyData.depthAll r) ≤ k := e
  obtain ⟨b1, _⟩ := Bool.and_eq_true_iff.mp b'
  exact ⟨b1, by omega, by omega⟩
theorem rev : ∀ {xs : List PyData}, fineAll xs.reverse = fineAll xs ∧ nodAll xs.reverse = nodAll xs ∧ PyData.depthAll xs.reverse = PyData.depthAll xs
  | [] => ⟨rfl, rfl, rfl⟩
  | x :: xs => by
    obtain ⟨h1, h2, h3⟩ := rev (xs := xs)
    rw [List.reverse_cons]
    refine ⟨?_, ?_, ?_⟩
    · rw [fineAll_app, h1]
      show (fineAll xs && (fine x && true)) = (fine x && fineAll xs)
      rw [Bool.and_true, Bool.and_comm]
    · rw [nodAll_app, h2]
      show nodAll xs + (nod x + 0) = nod x + nodAll xs
      omega
    · rw [depthAll_app, h3]
      show max (PyData.depthAll xs) (max x.depth 0) = max x.depth (PyData.depthAll xs)
      omega
theorem reverse (a : OkAll n k xs) : OkAll n k xs.reverse := by
  obtain ⟨h1, h2, h3⟩ := rev (xs := xs)
  exact ⟨by rw [h1]; exact a.f, by rw [h2]; exact a.n, by rw [h3]; exact a.d⟩
theorem tup (a : OkAll n k xs) : Ok (1 + n) (k + 1) (.tuple xs) := ⟨a.f, Nat.add_le_add_left a.n 1, Nat.add_le_add_right a.d 1⟩
theorem lst (a : OkAll n k xs) : Ok (1 + n) (k + 1) (.list xs) := ⟨a.f, Nat.add_le_add_left a.n 1, Nat.add_le_add_right a.d 1⟩
end OkAll
theorem nod_pos : ∀ d : PyData, 1 ≤ nod d
  | .none | .bool _ | .int _ | .dict _ => Nat.le_refl _
  | .str _ | .list _ | .tuple _ => Nat.le_add_right _ _
theorem nodAll_len : ∀ xs : List PyData, xs.length ≤ nodAll xs
  | [] => Nat.le_refl _
  | x :: xs => by
    show xs.length + 1 ≤ nod x + nodAll xs
    have := nodAll_len xs
    have := nod_pos x
    omega
theorem OkAll.len {n k : Nat} {xs : List PyData} (a : OkAll n k xs) : xs.length ≤ n := Nat.le_trans (nodAll_len xs) a.n
theorem Ok.ge {n m k j : Nat} {d : PyData} (a : Ok n k d) (h : n ≤ m) (h2 : k ≤ j) : Ok m j d := ⟨a.f, Nat.le_trans a.n h, Nat.le_trans a.d h2⟩
theorem Ok.shows {n k : Nat} {d : PyData} (a : Ok n k d) (h : n ≤ 50000) (h2 : k ≤ 60) : Shows d := shows_of a.f (Nat.le_trans a.n h) (Nat.le_trans a.d h2)
theorem Ok.tup_in {n k : Nat} {ds : List PyData} (a : Ok n (k + 1) (.tuple ds)) : OkAll n k ds := by
  obtain ⟨f, l, d⟩ := a
  have l' : 1 + nodAll ds ≤ n := l
  have d' : PyData.depthAll ds + 1 ≤ k + 1 := d
  exact ⟨f, by omega, by omega⟩
theorem Row.ok {d : PyData} (a : Row d) : Ok 10000 9 d := ⟨a.f, a.n, a.d⟩
theorem Ok.small {i : Int} {k : Nat} (h : i.natAbs ≤ 10 ^ 120) : Ok 1 k (.int i) := ⟨fine_int' h, Nat.le_refl _, Nat.zero_le _⟩

/-! ### data known to the heap beside the box -/
def cutD (xs : List PyData) (lo hi : Option Int) : List PyData := (xs.drop (HT.sIx xs.length 0 lo)).take (HT.sIx xs.length xs.length hi - HT.sIx xs.length 0 lo)
theorem OkAll.cut {n k : Nat} {xs : List PyData} (a : OkAll n k xs) (lo hi : Option Int) : OkAll n k (cutD xs lo hi) := (a.drop _).take _
theorem dta_cut {K : PySem.W.Frag} {H : Hp} {vs : List V} {ds : List PyData} (h : DtAll K H vs ds) (lo hi : Option Int) : DtAll K H (cutV vs lo hi) (cutD ds lo hi) := by
  unfold cutV cutD
  rw [dta_len h]
  exact dta_take _ (dta_drop _ h)
theorem dta_rev {K : PySem.W.Frag} {H : Hp} : ∀ {vs : List V} {ds : List PyData}, DtAll K H vs ds → DtAll K H vs.reverse ds.reverse
  | _, _, .nil => .nil
  | _, _, .cons r t => by
    rw [List.reverse_cons, List.reverse_cons]
    exact dta_app (dta_rev t) (.cons r .nil)
theorem tup_in {K : PySem.W.Frag} {H : Hp} {v : V} {ds : List PyData} (h : Dt K H v (.tuple ds)) : ∃ a xs, v = .ref a ∧ SqT K H a xs ∧ DtAll K H xs ds := by
  cases h with
  | tup e ha => exact ⟨_, _, rfl, e, ha⟩
/-- G: what data stands on; H0: all that is known (lists under way too) -/
structure Kn (G0 F0 G F H : Hp) (b g : Addr) : Prop where
  B : Bs F H b g
  sG : Same G0 G
  sF : Same F0 F
  s : Same G F
  ap : ∀ D, G0 D = none → F0 D ≠ none → G D = none
namespace Kn
variable {G0 F0 G F H H' : Hp} {b g p : Addr}
theorem start (B : Bs F H b g) (s : Same G F) : Kn G F G F H b g := ⟨B, Same.refl _, Same.refl _, s, fun _ h _ => h⟩
theorem new (k : Kn G0 F0 G F H b g) (np : H p = none) (o : HO) : Kn G0 F0 (upd G p o) (upd F p o) (upd H p o) b g := by
  have nF := k.B.sub.free np
  refine ⟨k.B.new np, k.sG.trans (same_new (k.s.free nF)), k.sF.trans (same_new nF), ?_, fun D h1 h2 => ?_⟩
  · intro c x e
    by_cases h : c = p
    · subst h
      rw [upd_same] at e ⊢
      exact e
    · rw [upd_ne h] at e ⊢
      exact k.s c x e
  · have hD : D ≠ p := by
      intro e
      cases hx : F0 D with
      | none => exact h2 hx
      | some x =>
        have := k.sF _ _ hx
        rw [e, nF] at this
        cases this
    rw [upd_ne hD]
    exact k.ap D h1 h2
theorem draw (k : Kn G0 F0 G F H b g) (B : Bs F H' b g) : Kn G0 F0 G F H' b g := ⟨B, k.sG, k.sF, k.s, k.ap⟩
theorem trans {G1 F1 : Hp} (k : Kn G0 F0 G F H b g) (k2 : Kn G F G1 F1 H' b g) : Kn G0 F0 G1 F1 H' b g :=
  ⟨k2.B, k.sG.trans k2.sG, k.sF.trans k2.sF, k2.s, fun D h1 h2 => k2.ap D (k.ap D h1 h2) (by
    cases hx : F0 D with
    | none => exact absurd hx h2
    | some x =>
      rw [k.sF _ _ hx]
      exact fun z => nomatch z)⟩
end Kn
section
variable {K : PySem.W.Frag} {G0 F0 G F H : Hp} {b g : Addr} {Q : VK}
theorem newK {p : Addr} (k : Kn G0 F0 G F H b g) (np : H p = none) (o : HO) : Kn G0 F0 (upd G p o) (upd F p o) (upd H p o) b g ∧ Same G (upd G p o) ∧ (upd G p o) p = some o := ⟨k.new np o, same_new (k.s.free (k.B.sub.free np)), upd_same⟩
theorem sl_k {a : Addr} {ds : List PyData} {lo hi : Option Int} (B : Kn G0 F0 G F H b g) (h : Dt K G (.ref a) (.tuple ds)) (k : ∀ (o : Addr) (G1 F1 H' : Hp), Same G G1 → Dt K G1 (.ref o) (.tuple (cutD ds lo hi)) → Kn G0 F0 G1 F1 H' b g → Q (.ref o) H') : rSlA K (.ref a) lo hi H Q := by
  obtain ⟨_, xs, e, hx, hd⟩ := tup_in h
  cases e
  have hc := dta_cut hd lo hi
  refine ⟨a, xs, rfl, Sx.Same.tup (B.s.trans B.B.sub) hx, fun hw => k a G F H (Same.refl _) ?_ B, fun _ p np => ?_⟩
  · have e : cutV xs lo hi = xs := by
      unfold cutV
      rw [hw.1, hw.2, List.drop_zero, Nat.sub_zero, List.take_length]
    rw [e] at hc
    exact .tup hx hc
  · obtain ⟨B1, s1, e1⟩ := newK B np (.tup (cutV xs lo hi))
    exact k p _ _ _ s1 (.tup (.of e1) (dta_same s1 _ _ hc)) B1
theorem cat_k {a c : Addr} {ds es : List PyData} (B : Kn G0 F0 G F H b g) (h1 : Dt K G (.ref a) (.tuple ds)) (h2 : Dt K G (.ref c) (.tuple es)) (hz : ds.length + es.length ≤ 100000) (k : ∀ (o : Addr) (G1 F1 H' : Hp), Same G G1 → Dt K G1 (.ref o) (.tuple (ds ++ es)) → Kn G0 F0 G1 F1 H' b g → Q (.ref o) H') : rCatA K (.ref a) (.ref c) H Q := by
  obtain ⟨_, xs, e, hx, hd⟩ := tup_in h1
  cases e
  obtain ⟨_, ys, e, hy, he⟩ := tup_in h2
  cases e
  have l1 := dta_len hd
  have l2 := dta_len he
  have hc := dta_app hd he
  have sB := B.s.trans B.B.sub
  refine ⟨a, c, xs, ys, rfl, rfl, Sx.Same.tup sB hx, Sx.Same.tup sB hy, ?_, ?_, ?_, ?_⟩
  · exact Nat.le_trans (show xs.length + ys.length ≤ 100000 by omega) (by decide)
  · rintro rfl
    exact k c G F H (Same.refl _) (.tup hy hc) B
  · rintro _ rfl
    rw [List.append_nil] at hc
    exact k a G F H (Same.refl _) (.tup hx hc) B
  · intro _ _ p np
    obtain ⟨B1, s1, e1⟩ := newK B np (.tup (xs ++ ys))
    exact k p _ _ _ s1 (.tup (.of e1) (dta_same s1 _ _ hc)) B1
end
/-- over range(n): each item a piece of data, drawn -/
theorem lc_drawnD {K : PySem.W.Frag} {G F H1 : Hp} {b g D : Addr} {n j : Nat} {te : TE} {vs : List Nat} {σ : L2.St} {Qd : Hp → Prop} (R : PyData → Prop) (B : Bs F H1 b g) (sg : Same G F) (hD : H1 D = none) (hn : n ≤ 100000) (hw : ∀ x, wipe ((wipe σ vs).set j (some x)) vs = wipe σ vs)
    (he : ∀ (i : Nat) (G2 F2 H3 : Hp) (Q : VK), i < n → Same G G2 → Same F F2 → Same G2 F2 → Bs F2 H3 b g → (∀ (v : V) (d : PyData) (G4 F4 H5 : Hp), R d → Kn G2 F2 G4 F4 H5 b g → Dt K G4 v d → Q v H5) → te ((wipe σ vs).set j (some (.int (0 + (i : Int))))) H3 Q)
    (hd : ∀ (ws : List V) (ds : List PyData) (G2 F2 H3 : Hp), ds.length = n → (∀ d ∈ ds, R d) → Same G G2 → Same F F2 → Same G2 F2 → G2 D = none → F2 D = some (.lst ws) → DtAll K G2 ws ds → Bs F2 H3 b g → Qd H3) :
    ∃ W : Nat → Nat → Hp → Prop, (∃ m, W 0 m (upd H1 D (.lst []))) ∧ ∀ i m H, W i m H →
      ((Itr 0 n).stop i H ∧ Qd H) ∨ ((Itr 0 n).go i H ∧ ∃ Nx : Hp → Prop, (∀ H', Nx H' → ∃ m', m' < m ∧ W (i + 1) m' H') ∧ ∀ x H', (Itr 0 n).yld i H x H' → gName j x (wipe σ vs) H' fun σ2 H2 => wipe σ2 vs = wipe σ vs ∧ tYes σ2 H2 fun b H3 =>
        if b = true then te σ2 H3 fun y H4 => ∃ acc, H4 D = some (.lst acc) ∧ acc.length < sizeLine ∧ Nx (upd H4 D (.lst (acc ++ [y]))) else Nx H3) := by
  have n0 : F D = none := B.sub.free hD
  have g0 : G D = none := sg.free n0
  refine lc_range (lo := 0) (n := n) (fun i H => ∃ (ws : List V) (ds : List PyData) (G2 F2 : Hp), ds.length = i ∧ (∀ d ∈ ds, R d) ∧ Same G G2 ∧ Same F F2 ∧ Same G2 F2 ∧ G2 D = none ∧ F2 D = some (.lst ws) ∧ DtAll K G2 ws ds ∧ Bs F2 H b g)
    ⟨[], [], G, _, rfl, (fun _ z => nomatch z), Same.refl _, same_new n0, same_put sg g0, g0, upd_same, .nil, B.new hD⟩ ?_ ?_
  · rintro i H hi ⟨ws, ds, G2, F2, hl, hr, s2, s2', s3, g2, e2, hds, B3⟩
    refine ⟨hw _, ?_⟩
    unfold tYes
    dsimp only
    refine iteT (he i G2 F2 H _ hi s2 s2' s3 B3 fun v d G4 F4 H5 hdr k4 hdt => ?_)
    have e4 := k4.sF _ _ e2
    have g4 : G4 D = none := k4.ap D g2 (by rw [e2]; exact fun z => nomatch z)
    have hlw := dta_len hds
    refine ⟨ws, k4.B.sub _ _ e4, ?_, ws ++ [v], ds ++ [d], G4, upd F4 D (.lst (ws ++ [v])), ?_, ?_, s2.trans k4.sG, same_put (s2'.trans k4.sF) n0, same_put k4.s g4, g4, upd_same, ?_, k4.B.put e4⟩
    · rw [hlw, hl]
      exact Nat.lt_of_lt_of_le hi (Nat.le_trans hn (by decide))
    · rw [List.length_append, hl, List.length_singleton]
    · intro x hx
      rcases List.mem_append.mp hx with h | h
      · exact hr x h
      · rw [List.mem_singleton.mp h]
        exact hdr
    · exact dta_app (dta_same k4.sG _ _ hds) (.cons hdt .nil)
  · rintro H ⟨ws, ds, G2, F2, hl, hr, s2, s2', s3, g2, e2, hds, B3⟩
    exact hd ws ds G2 F2 H hl hr s2 s2' s3 g2 e2 hds B3
/-! ### the promises of k08's own draws -/
def sp__law_strays (K : PySem.W.Frag) : Sp := fun vs H Q _ => ∃ (H0 : Hp) (b g t p : Addr) (ns : List Int) (ss : List Stp), vs = [.ref b, .ref t, .ref p] ∧ Bs H0 H b g ∧ SqT K H0 t (ns.map V.int) ∧ IsMach ns ∧ ProgAt H0 p ss ∧ IsProg ss ∧
  ∀ (r : Addr) (ds : List PyData) (H1 H' : Hp), Same H0 H1 → Dt K H1 (.ref r) (.tuple ds) → OkAll 1300 4 ds → Bs H1 H' b g → Q (.ref r) H'
def sp__law_turned (K : PySem.W.Frag) : Sp := fun vs H Q _ => ∃ (G F : Hp) (b g t p w : Addr) (ns : List Int) (ss : List Stp) (ds : List PyData) (n : Nat), vs = [.ref b, .ref t, .ref p, .ref w] ∧ Bs F H b g ∧ Same G F ∧ SqT K G t (ns.map V.int) ∧ IsMach ns ∧ ProgAt G p ss ∧ IsProg ss ∧
  Dt K G (.ref w) (.tuple ds) ∧ OkAll n 8 ds ∧ n ≤ 8000 ∧ ∀ (r : Addr) (es : List PyData) (G1 F1 H' : Hp), Kn G F G1 F1 H' b g → Dt K G1 (.ref r) (.tuple es) → OkAll (4 * n + 100) 8 es → Q (.ref r) H'
/-! ### a word between a test and what follows -/
def tCutT (t : TT) : TT := fun σ H Q => ∃ M : Bool → Hp → Prop, t σ H M ∧ ∀ c H', M c H' → Q c H'
theorem pt_cut {X : Cx} {e : Expr} {t : TT} (h : PT X e t) : PT X e (tCutT t) := by
  refine ⟨fun pins s σ H Q I q => ?_⟩
  obtain ⟨M, q1, q2⟩ := q
  exact thn (h.run pins s σ H M I q1) fun c s1 ⟨H1, I1, m⟩ => ⟨H1, I1, q2 c H1 m⟩
theorem noPart {σ : L2.St} {H : Hp} {Q : Option Int → Hp → Prop} (h : Q none H) : tNoPart σ H Q := h
/-- what strange items are -/
def odds1 : List PyData := [.none, .tuple [], .list [.int 0, .int 0, .int 0], .tuple [.int 0, .int 0], .tuple [.int 0, .int 0, .int 0, .int 0], .str "000", .int 5, .dict [], .tuple [.tuple [.int 0, .int 0, .int 0]], .tuple [.int 0, .list [.int 0], .int 0], .bool true]
theorem odds1_ok : OkAll 60 4 odds1 := ⟨by decide +kernel, by decide +kernel, by decide +kernel⟩
def odds2 (a b c : Int) : List PyData := ([.int (-1), .bool true, .bool false, .none, .str "0", .tuple [.int 0], .list [.int 0], .int 0, .int 1] ++ [.int a, .int b, .int c]) ++ ([.int (10 ^ 30), .dict []] ++ [.int (a - 1), .int (b - 1), .int (c - 1)])
theorem odds2_ok {a b c : Int} (ha : a.natAbs ≤ 1000000) (hb : b.natAbs ≤ 1000000) (hc : c.natAbs ≤ 1000000) : OkAll 60 4 (odds2 a b c) := by
  have big : 1000001 ≤ 10 ^ 120 := by decide +kernel
  have num : ∀ i : Int, i.natAbs ≤ 1000001 → Ok 1 4 (.int i) := fun i h => Ok.small (Nat.le_trans h big)
  have t3 : ∀ i j k : Int, i.natAbs ≤ 1000001 → j.natAbs ≤ 1000001 → k.natAbs ≤ 1000001 → OkAll 3 4 [.int i, .int j, .int k] := fun i j k h1 h2 h3 => (num i h1 |>.ge (Nat.le_refl _) (Nat.le_refl _) |> fun x => OkAll.cons x (OkAll.cons (num j h2) (OkAll.one (num k h3))))
  have c1 : OkAll 20 4 [.int (-1), .bool true, .bool false, .none, .str "0", .tuple [.int 0], .list [.int 0], .int 0, .int 1] := ⟨by decide +kernel, by decide +kernel, by decide +kernel⟩
  have c2 : OkAll 10 4 [.int (10 ^ 30), .dict []] := ⟨by decide +kernel, by decide +kernel, by decide +kernel⟩
  exact ((c1.app (t3 a b c (by omega) (by omega) (by omega))).app (c2.app (t3 (a - 1) (b - 1) (c - 1) (by omega) (by omega) (by omega)))).ge (by decide) (Nat.le_refl _)
def threeD : PyData → Bool
  | .tuple [_, _, _] => true
  | _ => false
theorem three_is {d : PyData} (h : threeD d = true) : ∃ x y z, d = .tuple [x, y, z] := by
  match d, h with
  | .tuple [x, y, z], _ => exact ⟨x, y, z, rfl⟩
theorem three_of {ds : List PyData} (h : ds.length = 3) : threeD (.tuple ds) = true := by
  match ds, h with
  | [_, _, _], _ => rfl
end Sx
namespace Sx
open PySem PySem.Spec PyProof.Rows L2
/-- a list that is still to change -/
theorem Kn.newL {G0 F0 G F H : Hp} {b g p : Addr} (k : Kn G0 F0 G F H b g) (np : H p = none) (o : HO) : Kn G0 F0 G (upd F p o) (upd H p o) b g ∧ (upd F p o) p = some o ∧ G p = none ∧ Same F (upd F p o) :=
  have nF := k.B.sub.free np
  have nG := k.s.free nF
  ⟨⟨k.B.new np, k.sG, k.sF.trans (same_new nF), same_put k.s nG, k.ap⟩, upd_same, nG, same_new nF⟩
theorem Kn.putL {G0 F0 G F H : Hp} {b g p : Addr} {u : HO} (k : Kn G0 F0 G F H b g) (e : F p = some u) (nG : G p = none) (n0 : F0 p = none) (o : HO) : Kn G0 F0 G (upd F p o) (upd H p o) b g :=
  ⟨k.B.put e, k.sG, same_put k.sF n0, same_put k.s nG, k.ap⟩
theorem Kn.off {G0 F0 G F H : Hp} {b g p L : Addr} {u : HO} (k : Kn G0 F0 G F H b g) (e : F L = some u) (gL : G L = none) (np : H p = none) (o : HO) : (upd F p o) L = some u ∧ (upd G p o) L = none := by
  have h := ne_of_none e (k.B.sub.free np)
  exact ⟨by rw [upd_ne h]; exact e, by rw [upd_ne h]; exact gL⟩
abbrev Thing (d : PyData) : Prop := Ok 22000 10 d
theorem fault_ok {ns : List Int} {m : Nat} {d : PyData} (h : dlen d ≤ 100000) : Ok 20 3 (faultD ns m d) := by
  have big : 100000 ≤ 10 ^ 120 := by decide +kernel
  have num : ∀ i : Nat, i ≤ 100000 → Ok 1 2 (.int (i : Nat)) := fun i hi => Ok.small (Nat.le_trans (show ((i : Nat) : Int).natAbs ≤ 100000 by omega) big)
  have txt : ∀ x : Str, Ok 12 2 (.str x) → ∀ i : Nat, i ≤ 100000 → Ok 20 3 (.tuple [.str x, .int (i : Nat)]) := fun x hx i hi => ((OkAll.cons hx (OkAll.one (num i hi))).tup).ge (by decide) (by decide)
  have bound : ∀ {n i : Nat} {p : Nat → Bool}, (List.range n).find? p = some i → i < n := fun e => List.mem_range.mp (List.mem_of_find?_eq_some e)
  have frm : Ok 20 3 (.str "form") := ⟨by decide +kernel, by decide +kernel, Nat.zero_le _⟩
  cases d with
  | tuple ds =>
    have h : ds.length ≤ 100000 := h
    show Ok 20 3 (faultS ns m ds)
    unfold faultS
    split
    · rename_i i e
      exact txt _ ⟨by decide +kernel, by decide +kernel, Nat.zero_le _⟩ i (by have := bound e; omega)
    · split
      · rename_i i e
        exact txt _ ⟨by decide +kernel, by decide +kernel, Nat.zero_le _⟩ i (by have := bound e; omega)
      · exact ⟨rfl, by decide, Nat.zero_le _⟩
  | none => exact frm
  | bool x => exact frm
  | int x => exact frm
  | str x => exact frm
  | list x => exact frm
  | dict x => exact frm
theorem thing_len {d : PyData} (h : Thing d) : dlen d ≤ 100000 := by
  cases d with
  | tuple ds =>
    have h1 := (Ok.tup_in (n := 22000) (k := 9) h).len
    exact Nat.le_trans h1 (by decide)
  | none => exact Nat.zero_le _
  | bool x => exact Nat.zero_le _
  | int x => exact Nat.zero_le _
  | str x => exact Nat.zero_le _
  | list x => exact Nat.zero_le _
  | dict x => exact Nat.zero_le _
def odds3 : List PyData := [.none, .int 5, .dict [], .bool true, .str "()", .tuple [.none], .tuple [.tuple [.int 0, .int 0]], .list [.list [.int 0, .int 0, .int 0]], .tuple [.int 0, .int 0, .int 0]]
theorem odds3_ok : OkAll 60 4 odds3 := ⟨by decide +kernel, by decide +kernel, by decide +kernel⟩
theorem dta_ints {K : PySem.W.Frag} {H : Hp} (ns : List Int) : DtAll K H (ns.map V.int) (ns.map PyData.int) := dta_of _ _ (dpa_ints ns)
theorem last_of {ns : List Int} (h : 1 ≤ ns.length) : ∃ m, m ∈ ns ∧ atI (ns.map V.int) (-1) = some (.int m) := by
  rcases List.eq_nil_or_concat ns with e | ⟨l, m, e⟩
  · rw [e] at h
    exact absurd h (by decide)
  · rw [List.concat_eq_append] at e
    refine ⟨m, by rw [e]; exact List.mem_append_right _ List.mem_cons_self, ?_⟩
    rw [e, List.map_append]
    exact atI_last _ _
end Sx
namespace Sx
open PySem PySem.Spec PyProof.Rows L2
theorem dta_two {K : PySem.W.Frag} {H : Hp} {xs : List V} {ds : List PyData} (h : DtAll K H xs ds) (hl : ds.length = 2) : ∃ x y dx dy, xs = [x, y] ∧ ds = [dx, dy] ∧ Dt K H x dx ∧ Dt K H y dy := by
  cases h with
  | nil => exact nomatch hl
  | cons r1 h =>
    cases h with
    | nil => exact nomatch hl
    | cons r2 h =>
      cases h with
      | nil => exact ⟨_, _, _, _, rfl, rfl, r1, r2⟩
      | cons r3 h => simp at hl
def v_MAX_NUMBER : V := .int (10 ^ 60)
def v_MAX_MODULUS : V := .int (10 ^ 6)
def v_MAX_LANES : V := .int 10
def numD (d : PyData) : Bool := withinD d (-(10 ^ 60)) (10 ^ 60)
def firstD (name : Str) (n : Nat) (p : Nat → Bool) : PyData := match (List.range n).find? p with
  | some i => .tuple [.str name, .int (i : Nat)]
  | none => .none
theorem first_at {name : Str} {n i : Nat} {p : Nat → Bool} (hi : i < n) (h : p i = true) (hj : ∀ j, j < i → p j = false) : firstD name n p = .tuple [.str name, .int (i : Nat)] := by
  unfold firstD
  rw [find_at hi h hj]
theorem first_no {name : Str} {n : Nat} {p : Nat → Bool} (hj : ∀ j, j < n → p j = false) : firstD name n p = .none := by
  unfold firstD
  rw [find_no hj]
def badMod (ds : List PyData) (i : Nat) : Bool := !withinD (ds.getD i .none) 2 (10 ^ 6)
def machD : PyData → PyData
  | .tuple ds => if 1 ≤ ds.length ∧ ds.length ≤ 10 then firstD "modulus" ds.length (badMod ds) else .str "form"
  | _ => .str "form"
theorem machD_tup (ds : List PyData) : machD (.tuple ds) = if 1 ≤ ds.length ∧ ds.length ≤ 10 then firstD "modulus" ds.length (badMod ds) else .str "form" := rfl
def isNoneD : PyData → Bool
  | .none => true
  | _ => false
def badRest (ns : List Int) (ds : List PyData) (i : Nat) : Bool := !isNoneD (ds.getD i .none) && !withinD (ds.getD i .none) 0 (ns.getD i 0 - 1)
def wordD (ns : List Int) : PyData → PyData
  | .tuple ds => if ds.length = ns.length then firstD "rest" ds.length (badRest ns ds) else .str "form"
  | _ => .str "form"
theorem wordD_tup (ns : List Int) (ds : List PyData) : wordD ns (.tuple ds) = if ds.length = ns.length then firstD "rest" ds.length (badRest ns ds) else .str "form" := rfl
def gtD (a b : PyData) : Bool := match a, b with
  | .int i, .int j => decide (j < i)
  | _, _ => false
def stretchD : PyData → PyData
  | .tuple [a, b] => if numD a = true ∧ numD b = true then (if gtD a b = true then .str "empty" else .none) else .str "form"
  | _ => .str "form"
def sp_is_number (K : PySem.W.Frag) : Sp := fun vs H Q _ => ∃ (v : V) (d : PyData), vs = [v] ∧ Dt K H v d ∧ Q (.bl (numD d)) H
def sp__law_is_number (K : PySem.W.Frag) : Sp := sp_is_number K
def sp_told (f : PyData → PyData) (K : PySem.W.Frag) : Sp := fun vs H Q _ => ∃ (v : V) (d : PyData), vs = [v] ∧ Dt K H v d ∧ ∀ (r : V) (H' : Hp), Same H H' → Dt K H' r (f d) → Q r H'
def sp_machine_error (K : PySem.W.Frag) : Sp := sp_told machD K
def sp__law_of_machine (K : PySem.W.Frag) : Sp := sp_told machD K
def sp_stretch_error (K : PySem.W.Frag) : Sp := sp_told stretchD K
def sp__law_of_stretch (K : PySem.W.Frag) : Sp := sp_told stretchD K
def sp_word_error (K : PySem.W.Frag) : Sp := fun vs H Q _ => ∃ (t : Addr) (v : V) (ns : List Int) (d : PyData), vs = [.ref t, v] ∧ SqT K H t (ns.map V.int) ∧ Dt K H v d ∧ ∀ (r : V) (H' : Hp), Same H H' → Dt K H' r (wordD ns d) → Q r H'
def sp__law_of_word (K : PySem.W.Frag) : Sp := sp_word_error K
theorem stretch_not2 {ds : List PyData} (h : ds.length ≠ 2) : stretchD (.tuple ds) = .str "form" := by
  match ds, h with
  | [], _ => rfl
  | [a], _ => rfl
  | [a, b], h => exact absurd rfl h
  | a :: b :: c :: r, _ => rfl
theorem stretch_bad {a b : PyData} (h : numD a = false ∨ numD b = false) : stretchD (.tuple [a, b]) = .str "form" := by
  show (if numD a = true ∧ numD b = true then _ else _) = _
  rw [if_neg]
  rintro ⟨h1, h2⟩
  rcases h with h | h
  · rw [h1] at h
    exact nomatch h
  · rw [h2] at h
    exact nomatch h
theorem stretch_good {i j : Int} (h1 : numD (.int i) = true) (h2 : numD (.int j) = true) : stretchD (.tuple [.int i, .int j]) = if j < i then .str "empty" else .none := by
  show (if numD (.int i) = true ∧ numD (.int j) = true then (if decide (j < i) = true then _ else _) else _) = _
  rw [if_pos ⟨h1, h2⟩]
  by_cases h : j < i
  · rw [if_pos h, if_pos (decide_eq_true h)]
  · rw [if_neg h, if_neg (by rw [decide_eq_false h]; decide)]
def sp__law_spoilt (K : PySem.W.Frag) : Sp := fun vs H Q _ => ∃ (G F : Hp) (b g w o : Addr) (ds odds : List PyData) (xs : List V) (n : Nat), vs = [.ref b, .ref w, .ref o] ∧ Bs F H b g ∧ Same G F ∧ Dt K G (.ref w) (.tuple ds) ∧ 1 ≤ ds.length ∧ OkAll n 8 ds ∧ n ≤ 8000 ∧
  F o = some (.lst xs) ∧ DtAll K G xs odds ∧ (∀ d ∈ odds, Ok 60 8 d) ∧ 1 ≤ odds.length ∧ odds.length ≤ 1000 ∧ ∀ (v : V) (d : PyData) (G1 F1 H' : Hp), Kn G F G1 F1 H' b g → Dt K G1 v d → Ok (2 * n + 70) 9 d → Q v H'
theorem first_ok {name : Str} {n : Nat} {p : Nat → Bool} (hn : n ≤ 100000) (hx : Ok 12 2 (.str name)) : Ok 20 3 (firstD name n p) := by
  have big : 100000 ≤ 10 ^ 120 := by decide +kernel
  unfold firstD
  split
  · rename_i i e
    have hi := List.mem_range.mp (List.mem_of_find?_eq_some e)
    exact ((OkAll.cons hx (OkAll.one (Ok.small (i := (i : Nat)) (k := 2) (Nat.le_trans (show ((i : Nat) : Int).natAbs ≤ 100000 by omega) big)))).tup).ge (by decide) (by decide)
  · exact ⟨rfl, by decide, Nat.zero_le _⟩
theorem form_ok : Ok 20 3 (.str "form") := ⟨by decide +kernel, by decide +kernel, Nat.zero_le _⟩
theorem mach_ok (d : PyData) : Ok 20 3 (machD d) := by
  cases d with
  | tuple ds =>
    rw [machD_tup]
    split
    · rename_i h
      exact first_ok (by omega) ⟨by decide +kernel, by decide +kernel, Nat.zero_le _⟩
    · exact form_ok
  | none => exact form_ok
  | bool x => exact form_ok
  | int x => exact form_ok
  | str x => exact form_ok
  | list x => exact form_ok
  | dict x => exact form_ok
theorem word_ok {ns : List Int} (h : ns.length ≤ 10) (d : PyData) : Ok 20 3 (wordD ns d) := by
  cases d with
  | tuple ds =>
    rw [wordD_tup]
    split
    · rename_i h
      exact first_ok (by omega) ⟨by decide +kernel, by decide +kernel, Nat.zero_le _⟩
    · exact form_ok
  | none => exact form_ok
  | bool x => exact form_ok
  | int x => exact form_ok
  | str x => exact form_ok
  | list x => exact form_ok
  | dict x => exact form_ok
theorem stretch_ok (d : PyData) : Ok 20 3 (stretchD d) := by
  have emp : Ok 20 3 (.str "empty") := ⟨by decide +kernel, by decide +kernel, Nat.zero_le _⟩
  cases d with
  | tuple ds =>
    by_cases h : ds.length = 2
    · match ds, h with
      | [a, b], _ =>
        show Ok 20 3 (if numD a = true ∧ numD b = true then (if gtD a b = true then .str "empty" else .none) else .str "form")
        split
        · split
          · exact emp
          · exact ⟨rfl, by decide, Nat.zero_le _⟩
        · exact form_ok
    · rw [stretch_not2 h]
      exact form_ok
  | none => exact form_ok
  | bool x => exact form_ok
  | int x => exact form_ok
  | str x => exact form_ok
  | list x => exact form_ok
  | dict x => exact form_ok
def sp__law_are_told (K : PySem.W.Frag) : Sp := fun vs H Q _ => ∃ (x : V) (name : Str) (t l : Addr) (ns : List Int) (ws : List V) (ds : List PyData), vs = [x, .str name, .ref t, .ref l] ∧ SqT K H t (ns.map V.int) ∧ ns.length ≤ 10 ∧ H l = some (.lst ws) ∧ DtAll K H ws ds ∧ (∀ d ∈ ds, Thing d) ∧
  ∀ H' : Hp, Same H H' → Q (.bl true) H'
end Sx
namespace Sx
open PySem PySem.Spec PyProof.Rows L2

/-! ### t * 0, and t != () for a tuple of any data -/
theorem tuple_mul0 (l : Addr) (items : Array Value) (n : Nat) (dd : Option Addr) (sl : Array (Option Value)) (u : Tok) (hi : items.isEmpty = false) :
    Meets (Builtin.«tuple.__mul__» ⟨[.ref l, .int 0 u], []⟩) (fun _ R s => s.heap.get? l = some { cls := .type "tuple", dict := dd, data := .seq items n, slots := sl } ∧
      R (.ok (.ret (Value.ref s.heap.objs.size))) { s with heap := s.heap.push { cls := Value.type "tuple", data := Data.seq #[] }, toks := s.toks }) :=
  .of_wp fun prog w A R s h => by
    obtain ⟨hp, g, d, tk, os⟩ := s
    obtain ⟨hl, h⟩ := h
    have f1 := AutoSeq1.idx_int
    have c1 : (items.isEmpty || (0 : Int) == 1) = false := by rw [hi] <;> rfl
    have c2 : (decide ((0 : Int) ≤ 0) || items.isEmpty) = true := by simp
    have hsz : (#[] : Array Value).size ≤ sizeLine := Nat.zero_le _
    wp_walk using wpAny_loadPart' hl
    repeat (first
      | (refine wpAny_ite_false (by decide) ?_; wp_walk using wpAny_loadPart' hl)
      | (refine wpAny_ite_false (decide_eq_false (by rw [c1]; exact Bool.false_ne_true)) ?_; wp_walk using wpAny_loadPart' hl)
      | (refine wpAny_ite_true (decide_eq_true (by rw [c2])) ?_; wp_walk using wpAny_loadPart' hl)
      | (refine wpAny_ite_false (decide_eq_false (Nat.not_lt.mpr hsz)) ?_; wp_walk using wpAny_loadPart' hl))
    exact ⟨_, rfl, h⟩
def rRep0 (K : PySem.W.Frag) : R2 := fun x y H Q => ∃ l xs, x = .ref l ∧ y = .int 0 ∧ SqT K H l xs ∧ xs ≠ [] ∧ ∀ p, H p = none → Q (.ref p) (upd H p (.tup []))
theorem op_rep0 {X : Cx} : OpR X (binaryOp .Mult) (rRep0 X.K) := by
  intro pins s σ H x y v u Q I rx ry h
  obtain ⟨l, xs, rfl, rfl, hT, hne, q⟩ := h
  obtain rfl : v = Value.ref l := rx
  obtain ⟨t, rfl⟩ := ry
  obtain ⟨its, r, ⟨⟨cls, dd, data, sl⟩, ho, hc, n, hd⟩, hs⟩ := I.tuple hT
  simp only at hc hd
  subst hc hd
  have hi : its.toArray.isEmpty = false := by
    cases its with
    | nil =>
      have := r.length
      exact absurd (List.eq_nil_of_length_eq_zero this) hne
    | cons a b => rfl
  refine wpAny_binaryOp_repeat_ref (T := "tuple") (U := "int") (by decide) ⟨_, ho, rfl⟩ (fun s' => typeIs_int s' 0 t) noFill_tuple_mul F.fills_int_mul F.slot_int_rmul repeat_tuple F.slot_int_index.lookup
    (call_meets F.slot_int_rmul (typeIs_int s 0 t) F.entry_int_rmul (F.args_int_rmul_2 _ _) (int_rmul_tuple 0 t l its.toArray n dd sl)
      ⟨ho, rfl, ⟨_, ho, rfl⟩, call_meets F.slot_tuple_mul ⟨_, ho, rfl⟩ F.entry_tuple_mul (F.args_tuple_mul_2 _ _) (tuple_mul0 l its.toArray n dd sl t hi) ⟨ho, ?_⟩⟩)
  refine ⟨.ref s.heap.objs.size, _, I.laid (t' := s.toks) (o := .tup []) (fun b ob q => Heap.get?_push_of_some _ q) (Nat.le_refl _) ?_, rfl, q _ (I.hok.fresh (Nat.le_refl _))⟩
  exact ⟨Nat.zero_le _, [], .nil, IsTup.new _ _⟩
/-- t * k, 0 ≤ k -/
def rRepZ (K : PySem.W.Frag) : R2 := fun x y H Q => rRepAny K x y H Q ∨ rRep0 K x y H Q
theorem op_repZ {X : Cx} : OpR X (binaryOp .Mult) (rRepZ X.K) := OpR.or op_repAny op_rep0

def rNeNil (K : PySem.W.Frag) : R2 := fun x y H Q => ∃ a b xs, x = .ref a ∧ y = .ref b ∧ SqT K H a xs ∧ SqT K H b [] ∧ Q (.bl (!xs.isEmpty)) H
theorem op_neNil {X : Cx} (hu : X.A.units + 64 < cLine) : OpR X (compareOp .NotEq) (rNeNil X.K) := by
  intro pins s σ H x y v u Q I rx ry h
  obtain ⟨a, b, xs, rfl, rfl, hA, hB, q⟩ := h
  obtain rfl : v = Value.ref a := rx
  obtain rfl : u = Value.ref b := ry
  obtain ⟨its, r, tp, hs⟩ := I.tuple hA
  obtain ⟨its2, r2, tp2, hs2⟩ := I.tuple hB
  cases r2
  have key := SeqAt.RcNeAt.tuples (A := X.A) (s := s) (e := fun _ => true) (show s.heap.IsTuple a its.toArray from tp) (show s.heap.IsTuple b ([] : List Value).toArray from tp2) (by omega) (fun j h1 h2 => absurd h2 (Nat.not_lt_zero j))
  refine key X.prog X.w _ _ ?_
  have e : (!((List.range (min its.toArray.size ([] : List Value).toArray.size)).all (fun _ => true) && its.toArray.size == ([] : List Value).toArray.size)) = !xs.isEmpty := by
    have hl := r.length
    cases its with
    | nil =>
      have h0 := List.eq_nil_of_length_eq_zero hl
      rw [h0] <;> rfl
    | cons y l =>
      cases xs with
      | nil => exact nomatch hl
      | cons z zs => rfl
  rw [e]
  exact ⟨.bl _, H, I, rfl, q⟩

/-! ### a, b = a list -/
def gLst (K : PySem.W.Frag) (n : Nat) (t : TGs) : TG := fun v σ H Q => ∃ a xs, v = .ref a ∧ SqL K H a xs ∧ xs.length = n ∧ t xs σ H Q
theorem pg_lst {X : Cx} {es : List Expr} {k : Nat} {t : TGs} {n : Nat} {pos : Pos} (hc : X.calm = true) (h : PGs X es t)
    (hn : (assignEach es X.env).length = n := by rfl) (hst : (assignEach es X.env).findIdx? (·.1) = none := by rfl) : PG X (.Tuple es k pos) (gLst X.K n t) := by
  refine ⟨fun pins s σ H v u Q I r hw => ?_⟩
  obtain ⟨a, xs, e1, hq, hl, hw⟩ := hw
  subst e1
  cases r
  obtain ⟨its, rv, ht, hz⟩ := I.list hq
  rw [assign_Tuple]
  refine wpAny_bind (wpAny_standAt ?_)
  unfold unpack
  have e : (assignEach es X.env).length = its.toArray.size := by simp [hn, ← hl, rv.length]
  rw [e, hst]
  refine wpAny_bind (wpAny_holding (PySem.W.kun_itemsOf (I.ok.hd hc) ht.isList fun h' hx => ?_))
  have I1 : Inv X pins σ H { s with heap := h' } := I.kept (t' := s.toks) fun b o e => hx b o (Nat.ne_of_lt (Heap.lt_size e)) e
  exact h.run pins _ σ H xs _ Q I1 (by simpa using rv) hw

/-- what a draw laid, data from now on -/
theorem Kn.own {G0 F0 G F H H' : Hp} {b g p : Addr} {o : HO} (k : Kn G0 F0 G F H b g) (B : Bs F H' b g) (nF : F p = none) (e : H' p = some o) (pb : p ≠ b) (pg : p ≠ g) : Kn G0 F0 (upd G p o) (upd F p o) H' b g := by
  refine ⟨B.own e pb pg, k.sG.trans (same_new (k.s.free nF)), k.sF.trans (same_new nF), ?_, fun D h1 h2 => ?_⟩
  · intro c x e
    by_cases h : c = p
    · subst h
      rw [upd_same] at e ⊢
      exact e
    · rw [upd_ne h] at e ⊢
      exact k.s c x e
  · have hD : D ≠ p := by
      intro e
      cases hx : F0 D with
      | none => exact h2 hx
      | some x =>
        have := k.sF _ _ hx
        rw [e, nF] at this
        cases this
    rw [upd_ne hD]
    exact k.ap D h1 h2
def othersD : List PyData := [.none, .int 0, .bool true, .bool false, .str "7", .tuple [], .list [], .dict [], .tuple [.none], .tuple [.tuple [.int 7, .int 11]], .int 7, .str "7 11", .tuple [.int 7, .list [.int 11]]]
theorem others_ok : OkAll 60 4 othersD := ⟨by decide +kernel, by decide +kernel, by decide +kernel⟩
theorem okAll_each {n k : Nat} {ds : List PyData} (h : OkAll n k ds) : ∀ d ∈ ds, Ok n k d := fun d hd => h.mem hd
def odds4 : List PyData := [.int 1, .int 0, .int (-1), .int 2, .int (10 ^ 6), .int (10 ^ 6 + 1), .bool true, .bool false, .none, .str "7", .tuple [.int 7], .list [.int 7], .int (10 ^ 30), .int (-(10 ^ 6)), .dict []]
theorem odds4_ok : OkAll 60 8 odds4 := ⟨by decide +kernel, by decide +kernel, by decide +kernel⟩
end Sx
namespace Sx
open PySem PySem.Spec PyProof.Rows L2
/-! ### data * n -/
theorem dta_rep {K : PySem.W.Frag} {H : Hp} {vs : List V} {ds : List PyData} (h : DtAll K H vs ds) : ∀ n : Nat, DtAll K H (List.replicate n vs).flatten (List.replicate n ds).flatten
  | 0 => .nil
  | n + 1 => by
    rw [List.replicate_succ, List.replicate_succ, List.flatten_cons, List.flatten_cons]
    exact dta_app h (dta_rep h n)
theorem OkAll.rep {m k : Nat} {ds : List PyData} (a : OkAll m k ds) : ∀ n : Nat, OkAll (n * m) k (List.replicate n ds).flatten
  | 0 => by
    rw [Nat.zero_mul]
    exact ⟨rfl, Nat.le_refl _, Nat.zero_le _⟩
  | n + 1 => by
    rw [List.replicate_succ, List.flatten_cons]
    exact (a.app (OkAll.rep a n)).ge (by rw [Nat.succ_mul]; omega) (Nat.le_refl _)
section
variable {K : PySem.W.Frag} {G0 F0 G F H : Hp} {b g : Addr} {Q : VK}
theorem rep_z {a : Addr} {ds : List PyData} {r : Int} (B : Kn G0 F0 G F H b g) (h : Dt K G (.ref a) (.tuple ds)) (hn : ds ≠ []) (hl : ds.length ≤ 1000) (r0 : 0 ≤ r) (r1 : r ≤ 1000)
    (k : ∀ (o : Addr) (G1 F1 H' : Hp), Same G G1 → Dt K G1 (.ref o) (.tuple (List.replicate r.toNat ds).flatten) → Kn G0 F0 G1 F1 H' b g → Q (.ref o) H') : rRepZ K (.ref a) (.int r) H Q := by
  obtain ⟨_, xs, e, hx, hd⟩ := tup_in h
  cases e
  have sB := B.s.trans B.B.sub
  have hX := Sx.Same.tup sB hx
  have hne : xs ≠ [] := by
    rintro rfl
    cases hd
    exact hn rfl
  have hc := dta_rep hd r.toNat
  by_cases h0 : r = 0
  · subst h0
    refine .inr ⟨a, xs, rfl, rfl, hX, hne, fun p np => ?_⟩
    obtain ⟨B1, s1, e1⟩ := newK B np (.tup [])
    exact k p _ _ _ s1 (.tup (.of e1) .nil) B1
  by_cases h1 : r = 1
  · subst h1
    refine .inl (.inr ⟨a, xs, rfl, rfl, hX, k a G F H (Same.refl _) ?_ B⟩)
    have e : (List.replicate (1 : Int).toNat ds).flatten = ds := by simp
    rw [e]
    exact h
  refine .inl (.inl ⟨a, r, xs, rfl, rfl, hX, hne, by omega, r1, by rw [dta_len hd]; exact hl, fun p np => ?_⟩)
  obtain ⟨B1, s1, e1⟩ := newK B np (.tup (List.replicate r.toNat xs).flatten)
  exact k p _ _ _ s1 (.tup (.of e1) (dta_same s1 _ _ hc)) B1
theorem rep_a {a : Addr} {ds : List PyData} {r : Int} (B : Kn G0 F0 G F H b g) (h : Dt K G (.ref a) (.tuple ds)) (hn : ds ≠ []) (hl : ds.length ≤ 1000) (r0 : 1 ≤ r) (r1 : r ≤ 1000)
    (k : ∀ (o : Addr) (G1 F1 H' : Hp), Same G G1 → Dt K G1 (.ref o) (.tuple (List.replicate r.toNat ds).flatten) → Kn G0 F0 G1 F1 H' b g → Q (.ref o) H') : rRepAny K (.ref a) (.int r) H Q := by
  obtain ⟨_, xs, e, hx, hd⟩ := tup_in h
  cases e
  have sB := B.s.trans B.B.sub
  have hX := Sx.Same.tup sB hx
  have hne : xs ≠ [] := by
    rintro rfl
    cases hd
    exact hn rfl
  have hc := dta_rep hd r.toNat
  by_cases h1 : r = 1
  · subst h1
    refine .inr ⟨a, xs, rfl, rfl, hX, k a G F H (Same.refl _) ?_ B⟩
    have e : (List.replicate (1 : Int).toNat ds).flatten = ds := by simp
    rw [e]
    exact h
  refine .inl ⟨a, r, xs, rfl, rfl, hX, hne, by omega, r1, by rw [dta_len hd]; exact hl, fun p np => ?_⟩
  obtain ⟨B1, s1, e1⟩ := newK B np (.tup (List.replicate r.toNat xs).flatten)
  exact k p _ _ _ s1 (.tup (.of e1) (dta_same s1 _ _ hc)) B1
end
theorem mach_okAll {ns : List Int} (hm : IsMach ns) : OkAll 10 8 (ns.map PyData.int) := by
  have h := (Row.mach hm).f
  refine ⟨h, ?_, depthAll_map ns fun _ _ => Nat.zero_le _⟩
  rw [nodAll_map (fun _ => rfl)]
  exact hm.ten
theorem cutD_first {ds : List PyData} : cutD ds none (some 1) = ds.take 1 := by
  cases ds with
  | nil => rfl
  | cons x xs =>
    unfold cutD
    have e1 : HT.sIx (x :: xs).length 0 none = 0 := rfl
    have e2 : HT.sIx (x :: xs).length (x :: xs).length (some 1) = 1 := by
      show HT.sIx (xs.length + 1) (xs.length + 1) (some 1) = 1
      simp [HT.sIx]
    rw [e1, e2] <;> rfl
end Sx
namespace Sx
open PySem PySem.Spec PyProof.Rows L2
theorem okAll_of {k : Nat} : ∀ {ds : List PyData}, (∀ d ∈ ds, Ok 1 k d) → OkAll ds.length k ds
  | [], _ => OkAll.nil
  | d :: ds, h => ((h d List.mem_cons_self |> fun a => OkAll.cons a (okAll_of fun e he => h e (List.mem_cons_of_mem _ he)))).ge (by rw [List.length_cons]; omega) (Nat.le_refl _)
/-- over a row: each item a piece of data, drawn -/
theorem lc_drawnV {K : PySem.W.Frag} {G F H1 : Hp} {b g D : Addr} {J : It} {xs : List V} {Gw : Hp → Prop} (w : Walk J xs.length Gw (YAt xs)) {j : Nat} {te : TE} {vs : List Nat} {σ : L2.St} {Qd : Hp → Prop} (R : PyData → Prop) (B : Bs F H1 b g) (sg : Same G F) (hD : H1 D = none) (hn : xs.length ≤ 100000)
    (hGw : ∀ H', Same F H' → Gw H') (hw : ∀ x, wipe ((wipe σ vs).set j (some x)) vs = wipe σ vs)
    (he : ∀ (i : Nat) (x : V) (G2 F2 H3 : Hp) (Q : VK), xs[i]? = some x → Same G G2 → Same F F2 → Same G2 F2 → Bs F2 H3 b g → (∀ (v : V) (d : PyData) (G4 F4 H5 : Hp), R d → Kn G2 F2 G4 F4 H5 b g → Dt K G4 v d → Q v H5) → te ((wipe σ vs).set j (some x)) H3 Q)
    (hd : ∀ (ws : List V) (ds : List PyData) (G2 F2 H3 : Hp), ds.length = xs.length → (∀ d ∈ ds, R d) → Same G G2 → Same F F2 → Same G2 F2 → G2 D = none → F2 D = some (.lst ws) → DtAll K G2 ws ds → Bs F2 H3 b g → Qd H3) :
    ∃ W : Nat → Nat → Hp → Prop, (∃ m, W 0 m (upd H1 D (.lst []))) ∧ ∀ i m H, W i m H →
      (J.stop i H ∧ Qd H) ∨ (J.go i H ∧ ∃ Nx : Hp → Prop, (∀ H', Nx H' → ∃ m', m' < m ∧ W (i + 1) m' H') ∧ ∀ x H', J.yld i H x H' → gName j x (wipe σ vs) H' fun σ2 H2 => wipe σ2 vs = wipe σ vs ∧ tYes σ2 H2 fun b H3 =>
        if b = true then te σ2 H3 fun y H4 => ∃ acc, H4 D = some (.lst acc) ∧ acc.length < sizeLine ∧ Nx (upd H4 D (.lst (acc ++ [y]))) else Nx H3) := by
  have n0 : F D = none := B.sub.free hD
  have g0 : G D = none := sg.free n0
  refine lc_it w (fun i H => ∃ (ws : List V) (ds : List PyData) (G2 F2 : Hp), ds.length = i ∧ (∀ d ∈ ds, R d) ∧ Same G G2 ∧ Same F F2 ∧ Same G2 F2 ∧ G2 D = none ∧ F2 D = some (.lst ws) ∧ DtAll K G2 ws ds ∧ Bs F2 H b g)
    ⟨[], [], G, _, rfl, (fun _ z => nomatch z), Same.refl _, same_new n0, same_put sg g0, g0, upd_same, .nil, B.new hD⟩ (fun i H _ ⟨_, _, _, F2, _, _, _, s, _, _, _, _, B⟩ => hGw H (s.trans B.sub)) ?_ ?_
  · rintro i x H H' hi ⟨ws, ds, G2, F2, hl, hr, s2, s2', s3, g2, e2, hds, B3⟩ ⟨rfl, hx⟩
    refine ⟨hw _, ?_⟩
    unfold tYes
    dsimp only
    refine iteT (he i x G2 F2 _ _ hx s2 s2' s3 B3 fun v d G4 F4 H5 hdr k4 hdt => ?_)
    have e4 := k4.sF _ _ e2
    have g4 : G4 D = none := k4.ap D g2 (by rw [e2]; exact fun z => nomatch z)
    have hlw := dta_len hds
    refine ⟨ws, k4.B.sub _ _ e4, ?_, ws ++ [v], ds ++ [d], G4, upd F4 D (.lst (ws ++ [v])), ?_, ?_, s2.trans k4.sG, same_put (s2'.trans k4.sF) n0, same_put k4.s g4, g4, upd_same, ?_, k4.B.put e4⟩
    · rw [hlw, hl]
      exact Nat.lt_of_lt_of_le hi (Nat.le_trans hn (by decide))
    · rw [List.length_append, hl, List.length_singleton]
    · intro x hx
      rcases List.mem_append.mp hx with h | h
      · exact hr x h
      · rw [List.mem_singleton.mp h]
        exact hdr
    · exact dta_app (dta_same k4.sG _ _ hds) (.cons hdt .nil)
  · rintro H ⟨ws, ds, G2, F2, hl, hr, s2, s2', s3, g2, e2, hds, B3⟩
    exact hd ws ds G2 F2 H hl hr s2 s2' s3 g2 e2 hds B3
def odds5 (m : Int) : List PyData := [.int m, .int (m - 1)] ++ [.int (-1), .bool true, .bool false, .none, .str "0", .tuple [.int 0], .list [.int 0], .int 0, .int 1, .int (10 ^ 30), .dict []]
theorem odds5_ok {m : Int} (h : m.natAbs ≤ 1000000) : OkAll 60 8 (odds5 m) := by
  have big : 1000001 ≤ 10 ^ 120 := by decide +kernel
  have c1 : OkAll 40 8 [.int (-1), .bool true, .bool false, .none, .str "0", .tuple [.int 0], .list [.int 0], .int 0, .int 1, .int (10 ^ 30), .dict []] := ⟨by decide +kernel, by decide +kernel, by decide +kernel⟩
  exact ((OkAll.cons (Ok.small (Nat.le_trans (show m.natAbs ≤ 1000001 by omega) big)) (OkAll.one (Ok.small (Nat.le_trans (show (m - 1).natAbs ≤ 1000001 by omega) big)))).app c1).ge (by decide) (Nat.le_refl _)
def odds6 (m : Int) : List PyData := [.int (10 ^ 60), .int (-(10 ^ 60)), .int (10 ^ 60 + 1), .int (-(10 ^ 60) - 1), .bool true, .bool false, .none, .str "0", .tuple [.int 0], .list [.int 0], .int 0] ++ [.int (m + 1)]
theorem odds6_ok {m : Int} (h : IsNum m) : OkAll 60 8 (odds6 m) := by
  have big : 10 ^ 60 + 1 ≤ 10 ^ 120 := by decide +kernel
  obtain ⟨h1, h2⟩ := h
  have c1 : OkAll 40 8 [.int (10 ^ 60), .int (-(10 ^ 60)), .int (10 ^ 60 + 1), .int (-(10 ^ 60) - 1), .bool true, .bool false, .none, .str "0", .tuple [.int 0], .list [.int 0], .int 0] := ⟨by decide +kernel, by decide +kernel, by decide +kernel⟩
  exact (c1.app (OkAll.one (Ok.small (Nat.le_trans (show (m + 1).natAbs ≤ 10 ^ 60 + 1 by omega) big)))).ge (by decide) (Nat.le_refl _)
theorem num_ok {m : Int} {k : Nat} (h : IsNum m) : Ok 1 k (.int m) := by
  have big : 10 ^ 60 + 1 ≤ 10 ^ 120 := by decide +kernel
  obtain ⟨h1, h2⟩ := h
  exact Ok.small (Nat.le_trans (show m.natAbs ≤ 10 ^ 60 + 1 by omega) big)
theorem pair_ok {x y : Int} (h : Ok 1 8 (.int x)) (h2 : Ok 1 8 (.int y)) : OkAll 2 8 [.int x, .int y] := OkAll.cons h (OkAll.one h2)
theorem perm_two {a b : Int} {l : List Int} (h : l.Perm [a, b]) : ∃ x y, l = [x, y] ∧ (x = a ∨ x = b) ∧ (y = a ∨ y = b) := by
  match l, h.length_eq with
  | [x, y], _ =>
    have m : ∀ z, z ∈ [x, y] → z = a ∨ z = b := fun z hz => by
      have := h.mem_iff.mp hz
      simpa using this
    exact ⟨x, y, rfl, m x (by simp), m y (by simp)⟩
end Sx
namespace K1
open PySem PySem.Spec PyProof.Rows L2 Sx
def topS (i : Nat) : Stmt := PySem.Challenge.pw_straylanes_k01_what_is_a_machine_a_word.main.body.getD i (.Pass ⟨0, 0, 0, 0⟩)
abbrev s_is_whole : Stmt := topS 4
theorem sc_is_whole : FnScope ["value"] ["value"] (defScope s_is_whole) := ⟨rfl, rfl, rfl, by decide +kernel, rfl, by decide +kernel, by decide +kernel⟩
abbrev s_is_within : Stmt := topS 5
theorem sc_is_within : FnScope ["value", "low", "high"] ["value", "low", "high"] (defScope s_is_within) := ⟨rfl, rfl, rfl, by decide +kernel, rfl, by decide +kernel, by decide +kernel⟩
abbrev s_is_number : Stmt := topS 6
theorem sc_is_number : FnScope ["value"] ["value"] (defScope s_is_number) := ⟨rfl, rfl, rfl, by decide +kernel, rfl, by decide +kernel, by decide +kernel⟩
abbrev s_machine_error : Stmt := topS 8
theorem sc_machine_error : FnScope ["value", "lane", "modulus"] ["value"] (defScope s_machine_error) := ⟨rfl, rfl, rfl, by decide +kernel, rfl, by decide +kernel, by decide +kernel⟩
abbrev s_word_error : Stmt := topS 9
theorem sc_word_error : FnScope ["machine", "value", "lane", "item"] ["machine", "value"] (defScope s_word_error) := ⟨rfl, rfl, rfl, by decide +kernel, rfl, by decide +kernel, by decide +kernel⟩
abbrev s_stretch_error : Stmt := topS 10
theorem sc_stretch_error : FnScope ["value", "low", "high"] ["value"] (defScope s_stretch_error) := ⟨rfl, rfl, rfl, by decide +kernel, rfl, by decide +kernel, by decide +kernel⟩
abbrev s__law_box : Stmt := topS 12
theorem sc__law_box : FnScope ["script", "mark", "marks", "stirred", "cell"] ["script"] (defScope s__law_box) := ⟨rfl, rfl, rfl, by decide +kernel, rfl, by decide +kernel, by decide +kernel⟩
abbrev s__law_draw : Stmt := topS 13
theorem sc__law_draw : FnScope ["box", "many", "great", "count", "found", "mark"] ["box", "many"] (defScope s__law_draw) := ⟨rfl, rfl, rfl, by decide +kernel, rfl, by decide +kernel, by decide +kernel⟩
abbrev s__law_pick : Stmt := topS 14
theorem sc__law_pick : FnScope ["box", "items"] ["box", "items"] (defScope s__law_pick) := ⟨rfl, rfl, rfl, by decide +kernel, rfl, by decide +kernel, by decide +kernel⟩
abbrev s__law_great : Stmt := topS 15
theorem sc__law_great : FnScope ["box", "many", "found", "turn"] ["box", "many"] (defScope s__law_great) := ⟨rfl, rfl, rfl, by decide +kernel, rfl, by decide +kernel, by decide +kernel⟩
abbrev s__law_number : Stmt := topS 16
theorem sc__law_number : FnScope ["box", "way", "found"] ["box"] (defScope s__law_number) := ⟨rfl, rfl, rfl, by decide +kernel, rfl, by decide +kernel, by decide +kernel⟩
abbrev s__law_machine : Stmt := topS 17
theorem sc__law_machine : FnScope ["box", "way", "many", "own", "lane"] ["box"] (defScope s__law_machine) := ⟨rfl, rfl, rfl, by decide +kernel, rfl, by decide +kernel, by decide +kernel⟩
abbrev s__law_is_number : Stmt := topS 18
theorem sc__law_is_number : FnScope ["thing"] ["thing"] (defScope s__law_is_number) := ⟨rfl, rfl, rfl, by decide +kernel, rfl, by decide +kernel, by decide +kernel⟩
abbrev s__law_is_from : Stmt := topS 19
theorem sc__law_is_from : FnScope ["thing", "low", "high"] ["thing", "low", "high"] (defScope s__law_is_from) := ⟨rfl, rfl, rfl, by decide +kernel, rfl, by decide +kernel, by decide +kernel⟩
abbrev s__law_of_machine : Stmt := topS 20
theorem sc__law_of_machine : FnScope ["thing", "lane", "modulus"] ["thing"] (defScope s__law_of_machine) := ⟨rfl, rfl, rfl, by decide +kernel, rfl, by decide +kernel, by decide +kernel⟩
abbrev s__law_of_word : Stmt := topS 21
theorem sc__law_of_word : FnScope ["machine", "thing", "lane", "rest"] ["machine", "thing"] (defScope s__law_of_word) := ⟨rfl, rfl, rfl, by decide +kernel, rfl, by decide +kernel, by decide +kernel⟩
abbrev s__law_of_stretch : Stmt := topS 22
theorem sc__law_of_stretch : FnScope ["thing", "end"] ["thing"] (defScope s__law_of_stretch) := ⟨rfl, rfl, rfl, by decide +kernel, rfl, by decide +kernel, by decide +kernel⟩
abbrev s__law_spoilt : Stmt := topS 23
theorem sc__law_spoilt : FnScope ["box", "row", "odd", "way", "spot"] ["box", "row", "odd"] (defScope s__law_spoilt) := ⟨rfl, rfl, rfl, by decide +kernel, rfl, by decide +kernel, by decide +kernel⟩
abbrev s__law_are_told : Stmt := topS 24
theorem sc__law_are_told : FnScope ["box", "name", "machine", "things", "spot", "thing", "known", "due", "told"] ["box", "name", "machine", "things"] (defScope s__law_are_told) := ⟨rfl, rfl, rfl, by decide +kernel, rfl, by decide +kernel, by decide +kernel⟩
abbrev s_law : Stmt := topS 25
theorem sc_law : FnScope ["script", "box", "other", "turn", "machine", "odd", "things", "twice", "lane", "word", "step", "low", "high", "modulus"] ["script"] (defScope s_law) := ⟨rfl, rfl, rfl, by decide +kernel, rfl, by decide +kernel, by decide +kernel⟩
structure Adr where
  f_is_whole : Addr
  d_is_whole : FuncData
  f_is_within : Addr
  d_is_within : FuncData
  f_is_number : Addr
  d_is_number : FuncData
  f_machine_error : Addr
  d_machine_error : FuncData
  f_word_error : Addr
  d_word_error : FuncData
  f_stretch_error : Addr
  d_stretch_error : FuncData
  f__law_box : Addr
  d__law_box : FuncData
  f__law_draw : Addr
  d__law_draw : FuncData
  f__law_pick : Addr
  d__law_pick : FuncData
  f__law_great : Addr
  d__law_great : FuncData
  f__law_number : Addr
  d__law_number : FuncData
  f__law_machine : Addr
  d__law_machine : FuncData
  f__law_is_number : Addr
  d__law_is_number : FuncData
  f__law_is_from : Addr
  d__law_is_from : FuncData
  f__law_of_machine : Addr
  d__law_of_machine : FuncData
  f__law_of_word : Addr
  d__law_of_word : FuncData
  f__law_of_stretch : Addr
  d__law_of_stretch : FuncData
  f__law_spoilt : Addr
  d__law_spoilt : FuncData
  f__law_are_told : Addr
  d__law_are_told : FuncData
  f_law : Addr
  d_law : FuncData
structure Txt (K : PySem.W.Frag) (mg : Str → Option Value) (a : Adr) : Prop where
  is_whole : At K mg "is_whole" s_is_whole ["value"] a.f_is_whole a.d_is_whole
  is_within : At K mg "is_within" s_is_within ["value", "low", "high"] a.f_is_within a.d_is_within
  is_number : At K mg "is_number" s_is_number ["value"] a.f_is_number a.d_is_number
  machine_error : At K mg "machine_error" s_machine_error ["value"] a.f_machine_error a.d_machine_error
  word_error : At K mg "word_error" s_word_error ["machine", "value"] a.f_word_error a.d_word_error
  stretch_error : At K mg "stretch_error" s_stretch_error ["value"] a.f_stretch_error a.d_stretch_error
  _law_box : At K mg "_law_box" s__law_box ["script"] a.f__law_box a.d__law_box
  _law_draw : At K mg "_law_draw" s__law_draw ["box", "many"] a.f__law_draw a.d__law_draw
  _law_pick : At K mg "_law_pick" s__law_pick ["box", "items"] a.f__law_pick a.d__law_pick
  _law_great : At K mg "_law_great" s__law_great ["box", "many"] a.f__law_great a.d__law_great
  _law_number : At K mg "_law_number" s__law_number ["box"] a.f__law_number a.d__law_number
  _law_machine : At K mg "_law_machine" s__law_machine ["box"] a.f__law_machine a.d__law_machine
  _law_is_number : At K mg "_law_is_number" s__law_is_number ["thing"] a.f__law_is_number a.d__law_is_number
  _law_is_from : At K mg "_law_is_from" s__law_is_from ["thing", "low", "high"] a.f__law_is_from a.d__law_is_from
  _law_of_machine : At K mg "_law_of_machine" s__law_of_machine ["thing"] a.f__law_of_machine a.d__law_of_machine
  _law_of_word : At K mg "_law_of_word" s__law_of_word ["machine", "thing"] a.f__law_of_word a.d__law_of_word
  _law_of_stretch : At K mg "_law_of_stretch" s__law_of_stretch ["thing"] a.f__law_of_stretch a.d__law_of_stretch
  _law_spoilt : At K mg "_law_spoilt" s__law_spoilt ["box", "row", "odd"] a.f__law_spoilt a.d__law_spoilt
  _law_are_told : At K mg "_law_are_told" s__law_are_told ["box", "name", "machine", "things"] a.f__law_are_told a.d__law_are_told
  law : At K mg "law" s_law ["script"] a.f_law a.d_law
  b_abs : mg "abs" = none
  b_bool : mg "bool" = none
  b_enumerate : mg "enumerate" = none
  b_int : mg "int" = none
  b_isinstance : mg "isinstance" = none
  b_len : mg "len" = none
  b_list : mg "list" = none
  b_range : mg "range" = none
  b_repr : mg "repr" = none
  b_sorted : mg "sorted" = none
  b_tuple : mg "tuple" = none
  c_MAX_LANES : Cst mg "MAX_LANES" v_MAX_LANES
  c_MAX_MODULUS : Cst mg "MAX_MODULUS" v_MAX_MODULUS
  c_MAX_NUMBER : Cst mg "MAX_NUMBER" v_MAX_NUMBER
section
variable {P : Program} {w : World} {K : PySem.W.Frag} {mg : Str → Option Value} {base : Heap} {a : Adr}
def g_machine_error_value {α : Type} (us ws : List α) : List α := match us, ws with
  | [], [z0] => [z0]
  | _, _ => []
theorem kb_machine_error_value (T : Txt K mg a) : KBinds K a.d_machine_error ["value"] ["value"] (g_machine_error_value (α := Value)) (g_machine_error_value (α := V)) := by
  refine Sx.Fun.kb T.machine_error.F (fun _ _ _ _ _ _ us ws hl => ?_) (fun r1 r2 => ?_)
  · unfold g_machine_error_value at hl ⊢
    split at hl
    · rfl
    · exact absurd hl (by decide)
  · unfold g_machine_error_value
    cases r1 with
    | nil =>
      cases r2 with
      | nil => exact .nil
      | cons q0 r2 =>
        cases r2 with
        | nil =>
          exact (.cons q0 .nil)
        | cons _ _ => exact .nil
    | cons _ _ => exact .nil
def g_stretch_error_value {α : Type} (us ws : List α) : List α := match us, ws with
  | [], [z0] => [z0]
  | _, _ => []
theorem kb_stretch_error_value (T : Txt K mg a) : KBinds K a.d_stretch_error ["value"] ["value"] (g_stretch_error_value (α := Value)) (g_stretch_error_value (α := V)) := by
  refine Sx.Fun.kb T.stretch_error.F (fun _ _ _ _ _ _ us ws hl => ?_) (fun r1 r2 => ?_)
  · unfold g_stretch_error_value at hl ⊢
    split at hl
    · rfl
    · exact absurd hl (by decide)
  · unfold g_stretch_error_value
    cases r1 with
    | nil =>
      cases r2 with
      | nil => exact .nil
      | cons q0 r2 =>
        cases r2 with
        | nil =>
          exact (.cons q0 .nil)
        | cons _ _ => exact .nil
    | cons _ _ => exact .nil
def g_word_error_value_machine {α : Type} (us ws : List α) : List α := match us, ws with
  | [], [z0, z1] => [z1, z0]
  | _, _ => []
theorem kb_word_error_value_machine (T : Txt K mg a) : KBinds K a.d_word_error ["machine", "value"] ["value", "machine"] (g_word_error_value_machine (α := Value)) (g_word_error_value_machine (α := V)) := by
  refine Sx.Fun.kb T.word_error.F (fun _ _ _ _ _ _ us ws hl => ?_) (fun r1 r2 => ?_)
  · unfold g_word_error_value_machine at hl ⊢
    split at hl
    · rfl
    · exact absurd hl (by decide)
  · unfold g_word_error_value_machine
    cases r1 with
    | nil =>
      cases r2 with
      | nil => exact .nil
      | cons q0 r2 =>
        cases r2 with
        | nil => exact .nil
        | cons q1 r2 =>
          cases r2 with
          | nil =>
            exact (.cons q1 (.cons q0 .nil))
          | cons _ _ => exact .nil
    | cons _ _ => exact .nil
theorem ok_is_whole (T : Txt K mg a) : FnOk P w K mg base CX0 1 a.f_is_whole a.d_is_whole ["value"] (sp_is_whole K) := by
  refine T.is_whole.F.ok sc_is_whole (fun vs H Q E h => ?_) (fun cdv A outer s H vs Q E hr h => ?_)
  · obtain ⟨_, _, rfl, _⟩ := h
    rfl
  · have hu := hu_of hr
    obtain ⟨v, d, rfl, hd, q⟩ := h
    refine ⟨_, (pss_one (ps_ret (pe_and (pe_callB (show CallR _ _ (rIsi K) from call_isi) (by rfl) T.b_isinstance (by decide +kernel) (pa_cons (pv 0) (pa_cons (pe_bltn (v := .ty "int") rfl T.b_int (by decide +kernel) rfl) pa_nil))) (pe_one (pe_not (pe_callB (show CallR _ _ (rIsi K) from call_isi) (by rfl) T.b_isinstance (by decide +kernel) (pa_cons (pv 0) (pa_cons (pe_bltn (v := .ty "bool") rfl T.b_bool (by decide +kernel) rfl) pa_nil)))))))), ?_⟩
    refine ⟨_, rfl, _, _, _, _, _, rfl, .ty _, tyx_of hd, kit_ty (kit_int d), _, rfl, ?_⟩
    cases hd with
    | int i =>
      exact iteT ⟨_, rfl, _, _, _, _, _, rfl, .ty _, tyx_of (K := K) (H := H) (.int i), kit_ty (kit_bool _), _, rfl, q⟩
    | bl b =>
      exact iteT ⟨_, rfl, _, _, _, _, _, rfl, .ty _, tyx_of (K := K) (H := H) (.bl b), kit_ty (kit_bool _), _, rfl, q⟩
    | non => exact iteF q
    | str x => exact iteF q
    | lst _ _ => exact iteF q
    | tup _ _ => exact iteF q
    | dct _ => exact iteF q
theorem ok__law_box (T : Txt K mg a) : FnOk P w K mg base CX0 1 a.f__law_box a.d__law_box ["script"] (sp__law_box K) := by
  refine T._law_box.F.ok sc__law_box (fun vs H Q E h => ?_) (fun cdv A outer s H vs Q E hr h => ?_)
  · obtain ⟨_, _, rfl, _⟩ := h
    rfl
  · have hu := hu_of hr
    obtain ⟨s0, ns, rfl, hS, hlen, q⟩ := h
    have ecut : cutV (ns.map V.int) none (some 63) = ns.map V.int := by
      have h1 : (ns.map V.int).length ≤ 63 := by rw [List.length_map]; exact hlen
      unfold cutV
      rw [HT.sIx_none, show HT.sIx (ns.map V.int).length (ns.map V.int).length (some 63) = min 63 (ns.map V.int).length from HT.sIx_nat _ _ 63, Nat.min_eq_right h1]
      show List.take ((ns.map V.int).length - 0) (List.drop 0 (ns.map V.int)) = ns.map V.int
      rw [List.drop_zero, Nat.sub_zero, List.take_length]
    refine ⟨_, (pss_cons (ps_par (i := 2) (j := 3) (by rfl) sc__law_box.nd rfl rfl (by decide) rfl rfl (pa_cons (pe_lc (own := [("cell", 4)]) rfl sc__law_box.nd (show PI _ _ _ (iSeq K _) from pi_seq (pe_slice (show SlR _ (rSlL K) from sl_list) (pv 0) po_none (po_some pe_int))) (blkOk_by (N := ["script", "mark", "marks", "stirred", "cell"]) (sc := defScope s__law_box) (by decide +kernel)) (fun _ _ _ _ _ => (pg_name (i := 4) sc__law_box.nd rfl (by first | exact Or.inl rfl | exact Or.inr rfl))) (fun _ _ _ _ _ => pts_nil) (fun _ _ _ _ _ => (pe_op op_add (pe_op op_mul pe_int (pe_callB call_abs (by rfl) T.b_abs (by decide +kernel) (pa_cons (pv 4) pa_nil))) (pe_callTy call_int1 (by rfl) T.b_int (by decide +kernel) (pa_cons (pe_cmpR op_lt (pv 4) pe_int (nomark _)) pa_nil))))) (pa_cons (pe_op op_add pe_int (pe_callB (show CallR _ _ (rLenS K) from call_len_seq) (by rfl) T.b_len (by decide +kernel) (pa_cons (pv 0) pa_nil))) pa_nil)) (by rfl))
      (pss_cons (ps_for PassesOwn.never rfl (show PI _ _ _ (iSeq K _) from pi_seq (pv 2)) (pg_name (i := 1) sc__law_box.nd rfl (by first | exact Or.inl rfl | exact Or.inr rfl)) (pss_one (ps_set (i := 3) sc__law_box.nd rfl (by first | exact Or.inl rfl | exact Or.inr rfl) (pe_op op_modN (pe_callTy call_int1 (by rfl) T.b_int (by decide +kernel) (pa_cons (pe_op op_add (pe_op op_mul (pv 3) pe_int) (pv 1)) pa_nil)) pe_int))))
      (pss_one (ps_ret (pe_disp (pps_cons pe_str (pe_lc (own := [("mark", 1)]) rfl sc__law_box.nd (show PI _ _ _ (iSeq K _) from pi_seq (pv 2)) (blkOk_by (N := ["script", "mark", "marks", "stirred", "cell"]) (sc := defScope s__law_box) (by decide +kernel)) (fun _ _ _ _ _ => (pg_name (i := 1) sc__law_box.nd rfl (by first | exact Or.inl rfl | exact Or.inr rfl))) (fun _ _ _ _ _ => (pts_one (pt_cmpR op_gt (pv 1) (pe_op op_pow pe_int pe_int) (nomark _)))) (fun _ _ _ _ _ => (pv 1))) (pps_cons pe_str (pv 3) (pps_cons pe_str pe_int pps_nil))) (by rfl) (by rfl) (fun z => by cases z) (by decide)))))), ?_⟩
    -- marks, stirred
    refine .inl ⟨_, rfl, 63, rfl, s0, ns.map V.int, rfl, hS, fun p np => ⟨p, rfl, ⟨_, .of upd_same⟩, fun D hD => ?_⟩⟩
    rw [ecut] at hD ⊢
    have s1 : Same H (upd H p (.lst (ns.map V.int))) := same_new np
    refine lc_reckon (walk_list (xs := ns.map V.int)) (zs := ns) (List.length_map _).symm (fun _ => true) (fun m => .int (2 * (if m < 0 then -m else m) + (if decide (m < 0) then 1 else 0))) (by omega) hD (fun H1 s => .of (s _ _ upd_same)) ?_ ?_
    · rintro i m x H1 H2 hz s2 ⟨rfl, hx⟩
      rw [List.getElem?_map, hz] at hx
      obtain rfl : V.int m = x := Option.some.inj hx
      refine ⟨Same.refl _, _, fun Q q => q, rfl, fun Q q => q _ (Same.refl _), fun _ H3 Q s3 _ q => ?_⟩
      refine ⟨_, rfl, m, rfl, 2, _, rfl, rfl, .inl ⟨by decide, by decide⟩, _, rfl, m, 0, rfl, rfl, .inr ⟨_, rfl, _, _, rfl, rfl, ?_⟩⟩
      exact q _ (Same.refl _)
    intro H1 t1 e1
    rw [List.filter_eq_self.mpr (fun _ _ => rfl)] at e1
    generalize hms : (ns.map fun m : Int => 2 * (if m < 0 then -m else m) + (if decide (m < 0) then 1 else 0)) = ms
    have hml : ms.length = ns.length := by rw [← hms, List.length_map]
    have e2 : H1 D = some (.lst (ms.map V.int)) := by
      rw [e1, ← hms, List.map_map] <;> rfl
    have s3 : Same H H1 := s1.trans t1
    refine ⟨_, rfl, s0, ns.map V.int, rfl, .inl (L2.Same.seq s3 hS), _, _, rfl, rfl, _, _, rfl, ?_⟩
    -- stirred
    refine .inl ⟨_, rfl, D, rfl, ⟨_, .of e2⟩, for_list (K := K) (a := D) (xs := ms.map V.int) (fun i σ H' => ∃ (st : Int) (v : Option V), σ = [some (.ref s0), v, some (.ref D), some (.int st), none] ∧ H' = H1)
      ⟨_, none, rfl, rfl⟩ (fun i σ H' _ ⟨_, _, _, e⟩ => by rw [e]; exact .of e2) ?_ ?_⟩
    · rintro i x σ H' hx ⟨st, v, rfl, rfl⟩
      rw [List.getElem?_map] at hx
      obtain ⟨m, hm, rfl⟩ := Option.map_eq_some_iff.mp hx
      refine ⟨_, rfl, st, 69069, rfl, rfl, .inr ⟨by decide, by decide⟩, _, rfl, _, m, rfl, rfl, .inl ⟨_, rfl, _, 4294967291, rfl, rfl, (show (4294967291 : Int) ≠ 0 by decide), ?_⟩⟩
      exact ⟨_, _, rfl, rfl⟩
    rintro σ H' ⟨st, v, rfl, rfl⟩
    -- the dict
    intro b nb
    have s4 : Same H' (upd H' b (.dK [])) := same_new nb
    refine .inl ⟨_, rfl, D, rfl, ⟨_, .of (s4 _ _ e2)⟩, fun g ng => ?_⟩
    refine lc_reckon (walk_list (xs := ms.map V.int)) (zs := ms) (List.length_map _).symm (fun m => decide (10 ^ 15 < m)) V.int (by omega) ng (fun H2 s => .of (s _ _ (s4 _ _ e2))) ?_ ?_
    · rintro i m x H2 H3 hz s2 ⟨rfl, hx⟩
      rw [List.getElem?_map, hz] at hx
      obtain rfl : V.int m = x := Option.some.inj hx
      refine ⟨Same.refl _, _, fun Q q => q, rfl, fun Q q => ?_, fun _ H3 Q s3 _ q => ⟨_, rfl, q _ (Same.refl _)⟩⟩
      exact ⟨_, rfl, 10, 15, rfl, rfl, ⟨by decide, by decide, by decide⟩, m, _, rfl, rfl, _, rfl, q _ (Same.refl _)⟩
    intro H2 t2 e3
    refine ⟨_, rfl, ?_⟩
    refine ⟨t2 _ _ upd_same, boxKv g st 0, rfl, by show 3 ≤ 15; decide, ?_⟩
    have nbg : g ≠ b := (ne_of_none (upd_same (H := H') (a := b) (o := .dK [])) ng).symm
    have ng1 : H' g = none := by
      rw [upd_ne nbg] at ng
      exact ng
    refine q b g _ ⟨fun c o e => ?_, s3.free nb, s3.free ng1, ⟨ms.filter fun m => decide (10 ^ 15 < m), ?_, ?_⟩, ⟨st, 0, upd_same⟩⟩
    · have e5 := t2 _ _ (s4 _ _ (s3 _ _ e))
      rw [upd_ne (ne_of_none (s3 _ _ e) nb)]
      exact e5
    · rw [upd_ne nbg]
      exact e3
    · have := List.length_filter_le (fun m => decide ((10 : Int) ^ 15 < m)) ms
      omega
theorem ok__law_draw (T : Txt K mg a) : FnOk P w K mg base CX0 1 a.f__law_draw a.d__law_draw ["box", "many"] (sp__law_draw K) := by
  refine T._law_draw.F.ok sc__law_draw (fun vs H Q E h => ?_) (fun cdv A outer s H vs Q E hr h => ?_)
  · obtain ⟨_, _, _, _, rfl, _⟩ := h
    rfl
  · have hu := hu_of hr
    obtain ⟨H0, b, g, m, rfl, B, hm, q⟩ := h
    obtain ⟨ms, hl, hz⟩ := B.ls
    obtain ⟨st, ct, hd⟩ := B.dc
    have hm0 := hm.1
    refine ⟨_, (pss_cons (ps_set (i := 2) sc__law_draw.nd rfl (by first | exact Or.inl rfl | exact Or.inr rfl) (pe_dget hu (pv 0) pe_str (fun _ _ => rfl)))
      (pss_cons (ps_if (pt_cmpR (show OpR _ _ (rNeD K) from op_neD hr.units) (pv 2) (pe_lst pa_nil) (nomark _)) (pss_cons (ps_set (i := 5) sc__law_draw.nd rfl (by first | exact Or.inl rfl | exact Or.inr rfl) (pe_ix (show IxR _ (rIx K) from ix_seq) (pv 2) pe_int (fun _ _ => rfl)))
        (pss_cons (ps_asg (pe_op op_fdivW (pv 5) (pv 1)) (pg_sub (pv 2) pe_int set_list))
        (Evl.pss_cut (ps_if (pt_cmpR op_lt (pv 5) (pv 1) (nomark _)) (pss_one (ps_expr (show PE _ _ (tBM K "list" _ _ _) from pe_bm PySem.F.plainAttrs_list PySem.F.slot_list_pop PySem.F.type_list_pop mt_popAt (pv 2) (pa_cons pe_int pa_nil)))) pss_nil)
        (pss_one (ps_ret (pe_op op_modN (pe_callTy call_int1 (by rfl) T.b_int (by decide +kernel) (pa_cons (pv 5) pa_nil)) (pv 1))))))) pss_nil)
      (pss_cons (ps_set (i := 3) sc__law_draw.nd rfl (by first | exact Or.inl rfl | exact Or.inr rfl) (pe_op op_add (pe_dget hu (pv 0) pe_str (fun _ _ => rfl)) pe_int))
      (pss_cons (ps_dput hu (pv 0) pe_str (pv 3) rfl)
      (pss_cons (ps_set (i := 4) sc__law_draw.nd rfl (by first | exact Or.inl rfl | exact Or.inr rfl) (pe_op op_modN (pe_callTy call_int1 (by rfl) T.b_int (by decide +kernel) (pa_cons (pe_op op_add (pe_dget hu (pv 0) pe_str (fun _ _ => rfl)) (pe_op op_mul pe_int (pv 3))) pa_nil)) pe_int))
      (pss_cons (ps_set (i := 4) sc__law_draw.nd rfl (by first | exact Or.inl rfl | exact Or.inr rfl) (pe_op op_modN (pe_callTy call_int1 (by rfl) T.b_int (by decide +kernel) (pa_cons (pe_op op_add (pe_op op_add (pe_op op_mul (pv 4) (pv 4)) (pe_op op_mul pe_int (pv 3))) pe_int) pa_nil)) pe_int))
      (pss_cons (ps_set (i := 4) sc__law_draw.nd rfl (by first | exact Or.inl rfl | exact Or.inr rfl) (pe_op op_modN (pe_callTy call_int1 (by rfl) T.b_int (by decide +kernel) (pa_cons (pe_op op_add (pe_op op_mul (pv 4) (pv 4)) (pe_dget hu (pv 0) pe_str (fun _ _ => rfl))) pa_nil)) pe_int))
      (pss_one (ps_ret (pe_op op_modN (pe_callTy call_int1 (by rfl) T.b_int (by decide +kernel) (pa_cons (pe_op op_fdivW (pv 4) pe_int) pa_nil)) (pv 1))))))))))), ?_⟩
    -- great = box['great']; great != []
    refine ⟨_, rfl, b, .ref g, rfl, key_s hd rfl, ?_⟩
    refine ⟨_, rfl, Nat.zero_le _, fun p np => ?_⟩
    have B1 := B.more (same_new (o := .lst []) np)
    have hl1 : (upd H p (.lst [])) g = some (.lst (ms.map V.int)) := same_new np _ _ hl
    refine ⟨_, _, .lst (.of hl1) (dpa_ints ms), .lst (.of upd_same) .nil, shaped_ints ms, shaped_ints [], _, rfl, ?_⟩
    rw [eqv_nil_ints]
    cases ms with
    | cons k ms =>
      refine iteT ?_
      -- mark = great[0]; great[0] = mark // many
      refine ⟨_, rfl, .inl ⟨g, _, 0, .int k, rfl, rfl, .of hl1, atI_nat (j := 0) rfl, ?_⟩⟩
      refine ⟨_, rfl, _, rfl, k, m, rfl, rfl, hm, _, rfl, g, _, 0, 0, rfl, rfl, hl1, (by rw [List.map_cons, List.length_cons]; exact ixN_zero _), ?_⟩
      have B2 : Bs H0 (upd (upd H p (.lst [])) g (.lst (V.int (k / m) :: ms.map V.int))) b g := by
        refine ⟨fun c x e => ?_, B.nb, B.ng, ⟨(k / m) :: ms, upd_same, hz⟩, ⟨st, ct, ?_⟩⟩
        · rw [upd_ne (ne_of_none e B.ng)]
          exact B1.sub c x e
        · rw [upd_ne B.bg]
          exact same_new np _ _ hd
      have fin : ∀ H', Bs H0 H' b g → Q (.int (k.fmod m)) H' := fun H' B' => by
        rw [Int.fmod_eq_emod_of_nonneg k (by omega)]
        exact q _ H' (Int.emod_nonneg k (by omega)) (Int.emod_lt_of_pos k hm0) B'
      -- if mark < many: great.pop(0)
      refine ⟨fun σ H' => σ[1]? = some (some (.int m)) ∧ σ[5]? = some (some (.int k)) ∧ Bs H0 H' b g, ?_, ?_⟩
      · refine ⟨_, rfl, _, rfl, k, m, rfl, rfl, _, rfl, ?_⟩
        refine ite2 (fun _ => ?_) (fun _ => ?_)
        · refine ⟨_, rfl, .inl ⟨rfl, _, .of upd_same⟩, g, _, 0, 0, .int (k / m), rfl, rfl, upd_same, by decide, by decide, seqIx_zero _, rfl, rfl, rfl, ?_⟩
          refine ⟨fun c x e => ?_, B.nb, B.ng, ⟨ms, upd_same, ?_⟩, ⟨st, ct, ?_⟩⟩
          · rw [upd_ne (ne_of_none e B.ng)]
            exact B2.sub c x e
          · rw [List.length_cons] at hz
            omega
          · rw [upd_ne B.bg, upd_ne B.bg]
            exact same_new np _ _ hd
        · exact ⟨rfl, rfl, B2⟩
      · rintro σ H' ⟨e1, e5, B3⟩
        refine ⟨_, e5, .inl ⟨k, rfl, _, e1, k, m, rfl, rfl, by omega, ?_⟩⟩
        exact fin _ B3
    | nil =>
      refine iteF ?_
      have hd1 : (upd H p (.lst [])) b = some (.dK (boxKv g st ct)) := same_new np _ _ hd
      -- count = box['count'] + 1; box['count'] = count
      refine ⟨_, rfl, b, .int ct, rfl, key_s hd1 rfl, ct, 1, rfl, rfl, ?_⟩
      refine ⟨_, rfl, _, rfl, b, _, rfl, DPut.k (k := Sum.inr "count") hd1 (by show 3 < sizeLine; decide), ?_⟩
      have B2 : Bs H0 (upd (upd H p (.lst [])) b (.dK (boxKv g st (ct + 1)))) b g := by
        refine ⟨fun c x e => ?_, B.nb, B.ng, ⟨[], ?_, hz⟩, ⟨st, ct + 1, upd_same⟩⟩
        · rw [upd_ne (ne_of_none e B.nb)]
          exact B1.sub c x e
        · rw [upd_ne B.bg.symm]
          exact hl1
      have hd2 : (upd (upd H p (.lst [])) b (.dK (boxKv g st (ct + 1)))) b = some (.dK (boxKv g st (ct + 1))) := upd_same
      have md : ∀ x d : Int, 0 < d → x.fmod d = x % d := fun x d hx => Int.fmod_eq_emod_of_nonneg x (by omega)
      have lo : ∀ x d : Int, 0 < d → 0 ≤ x % d ∧ x % d < d := fun x d hx => ⟨Int.emod_nonneg x (by omega), Int.emod_lt_of_pos x hx⟩
      -- found, three times
      refine ⟨_, rfl, b, .int st, rfl, key_s hd2 rfl, _, rfl, 2654435761, _, rfl, rfl, .inl ⟨by decide, by decide⟩, st, _, rfl, rfl, .inl ⟨_, rfl, _, 4294967291, rfl, rfl, (show (4294967291 : Int) ≠ 0 by decide), ?_⟩⟩
      rw [show ∀ x : Int, (fun i j : Int => V.int (i.fmod j)) x 4294967291 = V.int (x % 4294967291) from fun x => congrArg V.int (md x _ (by decide))]
      obtain ⟨l1, u1⟩ := lo (st + 2654435761 * (ct + 1)) 4294967291 (by decide)
      generalize (st + 2654435761 * (ct + 1)) % 4294967291 = f1 at l1 u1 ⊢
      refine ⟨_, rfl, _, rfl, f1, f1, rfl, rfl, .inl ⟨by omega, by omega⟩, _, rfl, 40503, _, rfl, rfl, .inl ⟨by decide, by decide⟩, _, _, rfl, rfl, _, 7, rfl, rfl, .inl ⟨_, rfl, _, 4294967279, rfl, rfl, (show (4294967279 : Int) ≠ 0 by decide), ?_⟩⟩
      rw [show ∀ x : Int, (fun i j : Int => V.int (i.fmod j)) x 4294967279 = V.int (x % 4294967279) from fun x => congrArg V.int (md x _ (by decide))]
      obtain ⟨l2, u2⟩ := lo (f1 * f1 + 40503 * (ct + 1) + 7) 4294967279 (by decide)
      generalize (f1 * f1 + 40503 * (ct + 1) + 7) % 4294967279 = f2 at l2 u2 ⊢
      refine ⟨_, rfl, _, rfl, f2, f2, rfl, rfl, .inl ⟨by omega, by omega⟩, _, rfl, b, .int st, rfl, key_s hd2 rfl, _, _, rfl, rfl, .inl ⟨_, rfl, _, 4294967231, rfl, rfl, (show (4294967231 : Int) ≠ 0 by decide), ?_⟩⟩
      rw [show ∀ x : Int, (fun i j : Int => V.int (i.fmod j)) x 4294967231 = V.int (x % 4294967231) from fun x => congrArg V.int (md x _ (by decide))]
      obtain ⟨l3, u3⟩ := lo (f2 * f2 + st) 4294967231 (by decide)
      generalize (f2 * f2 + st) % 4294967231 = f3 at l3 u3 ⊢
      refine ⟨_, rfl, f3, 128, rfl, rfl, ⟨by decide, by decide⟩, .inl ⟨_, rfl, _, rfl, _, m, rfl, rfl, by omega, ?_⟩⟩
      show Q (V.int ((f3 / 128).fmod m)) _
      rw [md _ m hm0]
      exact q _ _ (lo _ m hm0).1 (lo _ m hm0).2 B2
theorem ok__law_is_number (T : Txt K mg a) : FnOk P w K mg base CX0 1 a.f__law_is_number a.d__law_is_number ["thing"] (sp__law_is_number K) := by
  refine T._law_is_number.F.ok sc__law_is_number (fun vs H Q E h => ?_) (fun cdv A outer s H vs Q E hr h => ?_)
  · obtain ⟨_, _, rfl, _⟩ := h
    rfl
  · have hu := hu_of hr
    obtain ⟨v, d, rfl, hd, q⟩ := h
    refine ⟨_, (pss_one (ps_ret (pe_and (pe_callB (show CallR _ _ (rIsi K) from call_isi) (by rfl) T.b_isinstance (by decide +kernel) (pa_cons (pv 0) (pa_cons (pe_bltn (v := .ty "int") rfl T.b_int (by decide +kernel) rfl) pa_nil))) (pe_and (pe_not (pe_callB (show CallR _ _ (rIsi K) from call_isi) (by rfl) T.b_isinstance (by decide +kernel) (pa_cons (pv 0) (pa_cons (pe_bltn (v := .ty "bool") rfl T.b_bool (by decide +kernel) rfl) pa_nil)))) (pe_one (pe_cmpR op_le (pe_callB call_abs (by rfl) T.b_abs (by decide +kernel) (pa_cons (pv 0) pa_nil)) (pe_op op_pow pe_int pe_int) (nomark _))))))), ?_⟩
    refine ⟨_, rfl, _, _, _, _, _, rfl, .ty _, tyx_of hd, kit_ty (kit_int d), _, rfl, ?_⟩
    cases hd with
    | int i =>
      refine iteT ⟨_, rfl, _, _, _, _, _, rfl, .ty _, tyx_of (K := K) (H := H) (.int i), kit_ty (kit_bool _), _, rfl, _, rfl, iteT ⟨_, rfl, i, rfl, 10, 60, rfl, rfl, ⟨by decide, by decide, by decide⟩, _, _, rfl, rfl, ?_⟩⟩
      have e : numD (.int i) = decide ((if i < 0 then -i else i) ≤ 10 ^ (60 : Int).toNat) := by
        show (decide (-(10 ^ 60) ≤ i) && decide (i ≤ 10 ^ 60)) = decide ((if i < 0 then -i else i) ≤ 10 ^ 60)
        rw [Bool.eq_iff_iff]
        simp only [Bool.and_eq_true, decide_eq_true_eq]
        split <;> omega
      rw [e] at q
      exact q
    | bl b => exact iteT ⟨_, rfl, _, _, _, _, _, rfl, .ty _, tyx_of (K := K) (H := H) (.bl b), kit_ty (kit_bool _), _, rfl, _, rfl, iteF q⟩
    | non => exact iteF q
    | str x => exact iteF q
    | lst _ _ => exact iteF q
    | tup _ _ => exact iteF q
    | dct _ => exact iteF q
theorem ok__law_is_from (T : Txt K mg a) : FnOk P w K mg base CX0 1 a.f__law_is_from a.d__law_is_from ["thing", "low", "high"] (sp__law_is_from K) := by
  refine T._law_is_from.F.ok sc__law_is_from (fun vs H Q E h => ?_) (fun cdv A outer s H vs Q E hr h => ?_)
  · obtain ⟨_, _, _, _, rfl, _⟩ := h
    rfl
  · have hu := hu_of hr
    obtain ⟨v, d, lo, hi, rfl, hd, q⟩ := h
    refine ⟨_, (pss_one (ps_ret (pe_and (pe_callB (show CallR _ _ (rIsi K) from call_isi) (by rfl) T.b_isinstance (by decide +kernel) (pa_cons (pv 0) (pa_cons (pe_bltn (v := .ty "int") rfl T.b_int (by decide +kernel) rfl) pa_nil))) (pe_and (pe_not (pe_callB (show CallR _ _ (rIsi K) from call_isi) (by rfl) T.b_isinstance (by decide +kernel) (pa_cons (pv 0) (pa_cons (pe_bltn (v := .ty "bool") rfl T.b_bool (by decide +kernel) rfl) pa_nil)))) (pe_and (pe_cmpR op_le (pv 1) (pv 0) (nomark _)) (pe_one (pe_cmpR op_le (pv 0) (pv 2) (nomark _)))))))), ?_⟩
    refine ⟨_, rfl, _, _, _, _, _, rfl, .ty _, tyx_of hd, kit_ty (kit_int d), _, rfl, ?_⟩
    cases hd with
    | int i =>
      refine iteT ⟨_, rfl, _, _, _, _, _, rfl, .ty _, tyx_of (K := K) (H := H) (.int i), kit_ty (kit_bool _), _, rfl, _, rfl, iteT ⟨_, rfl, _, rfl, _, _, rfl, rfl, _, rfl, ?_⟩⟩
      by_cases h : lo ≤ i
      · rw [decide_eq_true h]
        refine iteT ⟨_, rfl, _, rfl, _, _, rfl, rfl, ?_⟩
        have e : withinD (.int i) lo hi = decide (i ≤ hi) := by
          show (decide (lo ≤ i) && decide (i ≤ hi)) = _
          rw [decide_eq_true h] <;> rfl
        rw [e] at q
        exact q
      · rw [decide_eq_false h]
        refine iteF ?_
        have e : withinD (.int i) lo hi = false := by
          show (decide (lo ≤ i) && decide (i ≤ hi)) = _
          rw [decide_eq_false h] <;> rfl
        rw [e] at q
        exact q
    | bl b =>
      exact iteT ⟨_, rfl, _, _, _, _, _, rfl, .ty _, tyx_of (K := K) (H := H) (.bl b), kit_ty (kit_bool _), _, rfl, _, rfl, iteF q⟩
    | non => exact iteF q
    | str x => exact iteF q
    | lst _ _ => exact iteF q
    | tup _ _ => exact iteF q
    | dct _ => exact iteF q
theorem ok_is_within (T : Txt K mg a) : FnOk P w K mg base CX0 2 a.f_is_within a.d_is_within ["value", "low", "high"] (sp_is_within K) := by
  have G_is_whole : FnOk P w K mg base CX0 1 a.f_is_whole a.d_is_whole ["value"] (sp_is_whole K) := ok_is_whole T
  refine T.is_within.F.ok sc_is_within (fun vs H Q E h => ?_) (fun cdv A outer s H vs Q E hr h => ?_)
  · obtain ⟨_, _, _, _, rfl, _⟩ := h
    rfl
  · have hu := hu_of hr
    obtain ⟨v, d, lo, hi, rfl, hd, q⟩ := h
    refine ⟨_, (pss_one (ps_ret (pe_and (pe_call G_is_whole hr (by rfl) T.is_whole.m T.is_whole.F.kp T.is_whole.b .nil pass0 (pa_cons (pv 0) pa_nil)) (pe_one (pe_chain op_le op_le (pv 1) (pv 0) (pv 2)))))), ?_⟩
    refine ⟨_, rfl, v, d, rfl, hd, _, rfl, ?_⟩
    cases hd with
    | int i =>
      refine iteT ⟨_, rfl, _, rfl, _, _, rfl, rfl, _, rfl, ?_⟩
      by_cases h : lo ≤ i
      · rw [decide_eq_true h]
        refine iteT ⟨_, rfl, _, _, rfl, rfl, ?_⟩
        have e : withinD (.int i) lo hi = decide (i ≤ hi) := by
          show (decide (lo ≤ i) && decide (i ≤ hi)) = _
          rw [decide_eq_true h] <;> rfl
        rw [e] at q
        exact q
      · rw [decide_eq_false h]
        refine iteF ?_
        have e : withinD (.int i) lo hi = false := by
          show (decide (lo ≤ i) && decide (i ≤ hi)) = _
          rw [decide_eq_false h] <;> rfl
        rw [e] at q
        exact q
    | bl b => exact iteF q
    | non => exact iteF q
    | str x => exact iteF q
    | lst _ _ => exact iteF q
    | tup _ _ => exact iteF q
    | dct _ => exact iteF q
theorem ok__law_pick (T : Txt K mg a) : FnOk P w K mg base CX0 2 a.f__law_pick a.d__law_pick ["box", "items"] (sp__law_pick K) := by
  have G__law_draw : FnOk P w K mg base CX0 1 a.f__law_draw a.d__law_draw ["box", "many"] (sp__law_draw K) := ok__law_draw T
  refine T._law_pick.F.ok sc__law_pick (fun vs H Q E h => ?_) (fun cdv A outer s H vs Q E hr h => ?_)
  · obtain ⟨_, _, _, _, _, rfl, _⟩ := h
    rfl
  · have hu := hu_of hr
    obtain ⟨H0, b, g, p, xs, rfl, B, hs, hne, hlen, q⟩ := h
    have hs' : SqL K H p xs ∨ SqT K H p xs := hs.imp (fun z => L2.Same.seq B.sub z) (fun z => Sx.Same.tup B.sub z)
    have hpos : 0 < xs.length := List.length_pos_iff.mpr hne
    refine ⟨_, (pss_one (ps_ret (pe_ix (show IxR _ (rIx K) from ix_seq) (pv 1) (pe_call G__law_draw hr (by rfl) T._law_draw.m T._law_draw.F.kp T._law_draw.b .nil pass0 (pa_cons (pv 0) (pa_cons (pe_callB (show CallR _ _ (rLenS K) from call_len_seq) (by rfl) T.b_len (by decide +kernel) (pa_cons (pv 1) pa_nil)) pa_nil))) (fun _ _ => rfl)))), ?_⟩
    refine ⟨_, rfl, _, rfl, _, rfl, p, xs, rfl, hs', H0, b, g, _, rfl, B, small_of (by omega) (by omega), fun r H' lo hi B' => ?_⟩
    obtain ⟨i, rfl⟩ : ∃ i : Nat, r = (i : Int) := ⟨r.toNat, by omega⟩
    have hi' : i < xs.length := by omega
    have hx : xs[i]? = some xs[i] := List.getElem?_eq_getElem hi'
    rcases hs with hs | hs
    · exact .inl ⟨p, xs, _, _, rfl, rfl, L2.Same.seq B'.sub hs, atI_nat hx, q i _ H' hx B'⟩
    · exact .inr (.inl ⟨p, xs, _, _, rfl, rfl, Sx.Same.tup B'.sub hs, atI_nat hx, q i _ H' hx B'⟩)
theorem ok__law_great (T : Txt K mg a) : FnOk P w K mg base CX0 2 a.f__law_great a.d__law_great ["box", "many"] (sp__law_great K) := by
  have G__law_draw : FnOk P w K mg base CX0 1 a.f__law_draw a.d__law_draw ["box", "many"] (sp__law_draw K) := ok__law_draw T
  refine T._law_great.F.ok sc__law_great (fun vs H Q E h => ?_) (fun cdv A outer s H vs Q E hr h => ?_)
  · obtain ⟨_, _, _, _, rfl, _⟩ := h
    rfl
  · have hu := hu_of hr
    obtain ⟨H0, b, g, m, rfl, B, m0, m1, q⟩ := h
    refine ⟨_, (pss_cons (ps_set (i := 2) sc__law_great.nd rfl (by first | exact Or.inl rfl | exact Or.inr rfl) pe_int)
      (pss_cons (ps_for PassesOwn.never rfl (pi_range1 rfl T.b_range (pa_cons (pv 1) pa_nil)) (pg_name (i := 3) sc__law_great.nd rfl (by first | exact Or.inl rfl | exact Or.inr rfl)) (pss_one (ps_set (i := 2) sc__law_great.nd rfl (by first | exact Or.inl rfl | exact Or.inr rfl) (pe_op op_add (pe_op op_mul pe_int (pv 2)) (pe_call G__law_draw hr (by rfl) T._law_draw.m T._law_draw.F.kp T._law_draw.b .nil pass0 (pa_cons (pv 0) (pa_cons pe_int pa_nil)))))))
      (pss_one (ps_ret (pv 2))))), ?_⟩
    refine ⟨_, rfl, m, rfl, by omega, by omega, for_range (lo := 0) (n := m.toNat) (fun i σ H => ∃ (f : Int) (v : Option V), σ = [some (.ref b), some (.int m), some (.int f), v] ∧ 0 ≤ f ∧ f < 1000000 ^ i ∧ Bs H0 H b g) ⟨0, none, rfl, by decide, by decide, B⟩ ?_ ?_⟩
    · rintro i σ H hi ⟨f, v, rfl, f0, f1, B1⟩
      refine ⟨_, rfl, _, _, rfl, rfl, .inl ⟨by decide, by decide⟩, _, rfl, H0, b, g, 1000000, rfl, B1, small_of (by decide) (by decide), fun r H' lo hi' B' => ?_⟩
      refine ⟨_, _, rfl, rfl, 1000000 * f + r, _, rfl, by omega, ?_, B'⟩
      rw [Int.pow_succ]
      omega
    · rintro σ H ⟨f, v, rfl, f0, f1, B1⟩
      exact ⟨_, rfl, q f H f0 f1 B1⟩
theorem ok__law_of_machine (T : Txt K mg a) : FnOk P w K mg base CX0 2 a.f__law_of_machine a.d__law_of_machine ["thing"] (sp__law_of_machine K) := by
  have G__law_is_from : FnOk P w K mg base CX0 1 a.f__law_is_from a.d__law_is_from ["thing", "low", "high"] (sp__law_is_from K) := ok__law_is_from T
  refine T._law_of_machine.F.ok sc__law_of_machine (fun vs H Q E h => ?_) (fun cdv A outer s H vs Q E hr h => ?_)
  · obtain ⟨_, _, rfl, _⟩ := h
    rfl
  · have hu := hu_of hr
    obtain ⟨v, d, rfl, hd, q⟩ := h
    refine ⟨_, (pss_cons (ps_if (PW.pt (pw_or (pt_not (pt_val (pe_callB (show CallR _ _ (rIsi K) from call_isi) (by rfl) T.b_isinstance (by decide +kernel) (pa_cons (pv 0) (pa_cons (pe_bltn (v := .ty "tuple") rfl T.b_tuple (by decide +kernel) rfl) pa_nil))))) (pw_or1 (pt_not (pt_chain op_le op_le pe_int (pe_callB (show CallR _ _ (rLenS K) from call_len_seq) (by rfl) T.b_len (by decide +kernel) (pa_cons (pv 0) pa_nil)) pe_int))))) (pss_one (ps_ret pe_str)) pss_nil)
      (pss_cons (ps_for PassesOwn.never rfl (show PI _ _ _ (iEnumT K _) from pi_enumT (by rfl) T.b_enumerate (pa_cons (pv 0) pa_nil)) (show PG _ _ (gTup K 2 _) from pg_tup rfl (pgs_cons (pg_name (i := 1) sc__law_of_machine.nd rfl (by first | exact Or.inl rfl | exact Or.inr rfl)) (pgs_cons (pg_name (i := 2) sc__law_of_machine.nd rfl (by first | exact Or.inl rfl | exact Or.inr rfl)) pgs_nil))) (pss_one (ps_if (pt_not (pt_val (pe_call G__law_is_from hr (by rfl) T._law_is_from.m T._law_is_from.F.kp T._law_is_from.b .nil pass0 (pa_cons (pv 2) (pa_cons pe_int (pa_cons (pe_op op_pow pe_int pe_int) pa_nil)))))) (pss_one (ps_ret (pe_tup (pa_cons pe_str (pa_cons (pv 1) pa_nil))))) pss_nil)))
      (pss_one (ps_ret pe_non)))), ?_⟩
    refine ⟨_, rfl, _, _, _, _, _, rfl, .ty _, tyx_of hd, kit_ty (kit_tuple d), _, rfl, ?_⟩
    cases hd with
    | int i => exact iteT (q _ _ (Same.refl _) (.str _))
    | bl b => exact iteT (q _ _ (Same.refl _) (.str _))
    | non => exact iteT (q _ _ (Same.refl _) (.str _))
    | str x => exact iteT (q _ _ (Same.refl _) (.str _))
    | lst _ _ => exact iteT (q _ _ (Same.refl _) (.str _))
    | dct _ => exact iteT (q _ _ (Same.refl _) (.str _))
    | @tup w xs ds e ha =>
      have hl := dta_len ha
      refine iteF ⟨_, rfl, w, xs, rfl, .inr e, _, _, rfl, rfl, _, rfl, ?_⟩
      have form : ¬ (1 ≤ ds.length ∧ ds.length ≤ 10) → Q (.str "form") H := by
        intro h
        refine q _ _ (Same.refl _) ?_
        rw [machD_tup, if_neg h]
        exact .str _
      by_cases h1 : (1 : Int) ≤ (xs.length : Nat)
      · rw [decide_eq_true h1]
        refine iteT ⟨_, _, rfl, rfl, _, rfl, ?_⟩
        by_cases h2 : ((xs.length : Nat) : Int) ≤ 10
        · rw [decide_eq_true h2]
          have hm : machD (.tuple ds) = firstD "modulus" ds.length (badMod ds) := by
            rw [machD_tup, if_pos ⟨by omega, by omega⟩]
          rw [hm] at q
          refine iteF ⟨_, rfl, w, xs, rfl, e, for_it walk_enumT (fun i σ H' => ∃ v1 v2 : Option V, σ = [some (.ref w), v1, v2] ∧ Same H H' ∧ ∀ j, j < i → badMod ds j = false)
            ⟨none, none, rfl, Same.refl _, fun j z => absurd z (Nat.not_lt_zero _)⟩ (fun i σ H' _ ⟨_, _, _, s, _⟩ => Sx.Same.tup s e) ?_ ?_⟩
          · rintro i x σ H1 H2 hi ⟨v1, v2, rfl, s1, hall⟩ ⟨T1, x1, x2, rfl, nT, rfl, f1, f2⟩
            cases f1
            obtain ⟨hi2, hx⟩ := dta_val ha f2
            have s2 : Same H1 (upd H1 T1 (.tup [.int (i : Nat), x2])) := same_new nT
            have s3 := s1.trans s2
            refine ⟨T1, _, rfl, .of upd_same, rfl, _, _, rfl, _, _, rfl, rfl, ?_⟩
            refine ⟨_, rfl, 10, 6, rfl, rfl, ⟨by decide, by decide, by decide⟩, x2, ds.getD i .none, 2, 10 ^ 6, rfl, Sx.dt_same s3 _ _ hx, _, rfl, ?_⟩
            cases hs : withinD (ds.getD i .none) 2 (10 ^ 6) with
            | true =>
              refine iteF ⟨_, _, rfl, s3, fun j z => ?_⟩
              by_cases hj : j < i
              · exact hall j hj
              · obtain rfl : j = i := by omega
                unfold badMod
                rw [hs] <;> rfl
            | false =>
              refine iteT ⟨_, rfl, by show 2 ≤ sizeLine; decide, fun r nr => ?_⟩
              refine q _ _ (s3.trans (same_new nr)) ?_
              rw [first_at hi2 (by unfold badMod; rw [hs] <;> rfl) hall]
              exact .tup (.of upd_same) (.cons (.str _) (.cons (.int _) .nil))
          · rintro σ H1 ⟨v1, v2, rfl, s1, hall⟩
            rw [hl] at hall
            refine q _ _ s1 ?_
            rw [first_no hall]
            exact .non
        · rw [decide_eq_false h2]
          exact iteT (form (by omega))
      · rw [decide_eq_false h1]
        exact iteF ⟨_, rfl, iteT (form (by omega))⟩
theorem ok__law_of_word (T : Txt K mg a) : FnOk P w K mg base CX0 2 a.f__law_of_word a.d__law_of_word ["machine", "thing"] (sp__law_of_word K) := by
  have G__law_is_from : FnOk P w K mg base CX0 1 a.f__law_is_from a.d__law_is_from ["thing", "low", "high"] (sp__law_is_from K) := ok__law_is_from T
  refine T._law_of_word.F.ok sc__law_of_word (fun vs H Q E h => ?_) (fun cdv A outer s H vs Q E hr h => ?_)
  · obtain ⟨_, _, _, _, rfl, _⟩ := h
    rfl
  · have hu := hu_of hr
    obtain ⟨t, v, ns, d, rfl, hT, hd, q⟩ := h
    refine ⟨_, (pss_cons (ps_if (PW.pt (pw_or (pt_not (pt_val (pe_callB (show CallR _ _ (rIsi K) from call_isi) (by rfl) T.b_isinstance (by decide +kernel) (pa_cons (pv 1) (pa_cons (pe_bltn (v := .ty "tuple") rfl T.b_tuple (by decide +kernel) rfl) pa_nil))))) (pw_or1 (pt_cmpR op_ne (pe_callB (show CallR _ _ (rLenS K) from call_len_seq) (by rfl) T.b_len (by decide +kernel) (pa_cons (pv 1) pa_nil)) (pe_callB (show CallR _ _ (rLenS K) from call_len_seq) (by rfl) T.b_len (by decide +kernel) (pa_cons (pv 0) pa_nil)) (nomark _))))) (pss_one (ps_ret pe_str)) pss_nil)
      (pss_cons (ps_for PassesOwn.never rfl (show PI _ _ _ (iEnumT K _) from pi_enumT (by rfl) T.b_enumerate (pa_cons (pv 1) pa_nil)) (show PG _ _ (gTup K 2 _) from pg_tup rfl (pgs_cons (pg_name (i := 2) sc__law_of_word.nd rfl (by first | exact Or.inl rfl | exact Or.inr rfl)) (pgs_cons (pg_name (i := 3) sc__law_of_word.nd rfl (by first | exact Or.inl rfl | exact Or.inr rfl)) pgs_nil))) (pss_one (ps_if (PW.pt (pw_and (pt_cmpR op_notN (pv 3) pe_non (nomark _)) (pw_and1 (pt_not (pt_val (pe_call G__law_is_from hr (by rfl) T._law_is_from.m T._law_is_from.F.kp T._law_is_from.b .nil pass0 (pa_cons (pv 3) (pa_cons pe_int (pa_cons (pe_op op_sub (pe_ix (show IxR _ (rIx K) from ix_seq) (pv 0) (pv 2) (fun _ _ => rfl)) pe_int) pa_nil))))))))) (pss_one (ps_ret (pe_tup (pa_cons pe_str (pa_cons (pv 2) pa_nil))))) pss_nil)))
      (pss_one (ps_ret pe_non)))), ?_⟩
    refine ⟨_, rfl, _, _, _, _, _, rfl, .ty _, tyx_of hd, kit_ty (kit_tuple d), _, rfl, ?_⟩
    cases hd with
    | int i => exact iteT (q _ _ (Same.refl _) (.str _))
    | bl b => exact iteT (q _ _ (Same.refl _) (.str _))
    | non => exact iteT (q _ _ (Same.refl _) (.str _))
    | str x => exact iteT (q _ _ (Same.refl _) (.str _))
    | lst _ _ => exact iteT (q _ _ (Same.refl _) (.str _))
    | dct _ => exact iteT (q _ _ (Same.refl _) (.str _))
    | @tup w xs ds e ha =>
      have hl := dta_len ha
      refine iteF ⟨_, rfl, w, xs, rfl, .inr e, _, rfl, t, _, rfl, .inr hT, rfl, _, rfl, ?_⟩
      rw [List.length_map]
      by_cases h1 : ds.length = ns.length
      · have hm : wordD ns (.tuple ds) = firstD "rest" ds.length (badRest ns ds) := by
          rw [wordD_tup, if_pos h1]
        rw [hm] at q
        rw [decide_eq_true (show V.int (xs.length : Nat) = V.int (ns.length : Nat) by rw [hl, h1])]
        refine iteF ⟨_, rfl, w, xs, rfl, e, for_it walk_enumT (fun i σ H' => ∃ v1 v2 : Option V, σ = [some (.ref t), some (.ref w), v1, v2] ∧ Same H H' ∧ ∀ j, j < i → badRest ns ds j = false)
          ⟨none, none, rfl, Same.refl _, fun j z => absurd z (Nat.not_lt_zero _)⟩ (fun i σ H' _ ⟨_, _, _, s, _⟩ => Sx.Same.tup s e) ?_ ?_⟩
        · rintro i x σ H1 H2 hi ⟨v1, v2, rfl, s1, hall⟩ ⟨T1, x1, x2, rfl, nT, rfl, f1, f2⟩
          cases f1
          obtain ⟨hi2, hx⟩ := dta_val ha f2
          have s2 : Same H1 (upd H1 T1 (.tup [.int (i : Nat), x2])) := same_new nT
          have s3 := s1.trans s2
          have hx3 := Sx.dt_same s3 _ _ hx
          have hb : badRest ns ds i = (!isNoneD (ds.getD i .none) && !withinD (ds.getD i .none) 0 (ns.getD i 0 - 1)) := rfl
          have next : badRest ns ds i = false → ∀ j, j < i + 1 → badRest ns ds j = false := by
            intro hs j z
            by_cases hj : j < i
            · exact hall j hj
            · obtain rfl : j = i := by omega
              exact hs
          have bad : badRest ns ds i = true → ∀ (H' : Hp), Same H H' → ∀ r, H' r = none → Q (.ref r) (upd H' r (.tup [.str "rest", .int (i : Nat)])) := by
            intro hs H' s4 r nr
            refine q _ _ (s4.trans (same_new nr)) ?_
            rw [first_at hi2 hs hall]
            exact .tup (.of upd_same) (.cons (.str _) (.cons (.int _) .nil))
          generalize ds.getD i .none = it at hx3 hb
          have hn : x2 = .non ↔ isNoneD it = true := by
            cases hx3 <;> simp [isNoneD]
          have lat : atI (ns.map V.int) (i : Nat) = some (.int (ns.getD i 0)) := atI_nat (by rw [List.getElem?_map, getD_some 0 (by omega)] <;> rfl)
          refine ⟨T1, _, rfl, .of upd_same, rfl, _, _, rfl, _, _, rfl, rfl, _, rfl, rfl, _, rfl, ?_⟩
          generalize upd H1 T1 _ = H3 at s3 hx3 ⊢
          have hT3 := Sx.Same.tup s3 hT
          by_cases hz : x2 = .non
          · rw [decide_eq_true hz]
            rw [hn.mp hz] at hb
            exact iteF ⟨_, _, rfl, s3, next hb⟩
          · rw [decide_eq_false hz]
            have hnf : isNoneD it = false := by
              cases h : isNoneD it with
              | false => rfl
              | true => exact absurd (hn.mpr h) hz
            rw [hnf] at hb
            refine iteT ⟨_, rfl, _, rfl, _, rfl, .inr (.inl ⟨t, _, _, _, rfl, rfl, hT3, lat, _, _, rfl, rfl, x2, it, 0, _, rfl, hx3, _, rfl, ?_⟩)⟩
            cases hs : withinD it 0 (ns.getD i 0 - 1) with
            | true =>
              rw [hs] at hb
              exact iteF ⟨_, _, rfl, s3, next hb⟩
            | false =>
              rw [hs] at hb
              exact iteT ⟨_, rfl, by show 2 ≤ sizeLine; decide, bad hb _ s3⟩
        · rintro σ H1 ⟨v1, v2, rfl, s1, hall⟩
          rw [hl] at hall
          refine q _ _ s1 ?_
          rw [first_no hall]
          exact .non
      · rw [decide_eq_false (fun z => h1 (by have := V.int.inj z; omega))]
        refine iteT (q _ _ (Same.refl _) ?_)
        rw [wordD_tup, if_neg h1]
        exact .str _
theorem ok__law_of_stretch (T : Txt K mg a) : FnOk P w K mg base CX0 2 a.f__law_of_stretch a.d__law_of_stretch ["thing"] (sp__law_of_stretch K) := by
  have G__law_is_number : FnOk P w K mg base CX0 1 a.f__law_is_number a.d__law_is_number ["thing"] (sp__law_is_number K) := ok__law_is_number T
  refine T._law_of_stretch.F.ok sc__law_of_stretch (fun vs H Q E h => ?_) (fun cdv A outer s H vs Q E hr h => ?_)
  · obtain ⟨_, _, rfl, _⟩ := h
    rfl
  · have hu := hu_of hr
    obtain ⟨v, d, rfl, hd, q⟩ := h
    refine ⟨_, (pss_cons (ps_if (PW.pt (pw_or (pt_not (pt_val (pe_callB (show CallR _ _ (rIsi K) from call_isi) (by rfl) T.b_isinstance (by decide +kernel) (pa_cons (pv 0) (pa_cons (pe_bltn (v := .ty "tuple") rfl T.b_tuple (by decide +kernel) rfl) pa_nil))))) (pw_or (pt_cmpR op_ne (pe_callB (show CallR _ _ (rLenS K) from call_len_seq) (by rfl) T.b_len (by decide +kernel) (pa_cons (pv 0) pa_nil)) pe_int (nomark _)) (pw_or1 (pt_cmpR (show OpR _ _ (rNeD K) from op_neD hr.units) (pe_lc (own := [("end", 1)]) rfl sc__law_of_stretch.nd (show PI _ _ _ (iSeq K _) from pi_seq (pv 0)) (blkOk_by (N := ["thing", "end"]) (sc := defScope s__law_of_stretch) (by decide +kernel)) (fun _ _ _ _ _ => (pg_name (i := 1) sc__law_of_stretch.nd rfl (by first | exact Or.inl rfl | exact Or.inr rfl))) (fun _ _ _ _ _ => (pts_one (pt_not (pt_val (pe_call G__law_is_number hr (by rfl) T._law_is_number.m T._law_is_number.F.kp T._law_is_number.b .nil pass0 (pa_cons (pv 1) pa_nil)))))) (fun _ _ _ _ _ => pe_int)) (pe_lst pa_nil) (nomark _)))))) (pss_one (ps_ret pe_str)) pss_nil)
      (pss_one (ps_ret (pe_cut (pe_ifExp (pt_cmpR op_gt (pe_ix (show IxR _ (rIx K) from ix_seq) (pv 0) pe_int (fun _ _ => rfl)) (pe_ix (show IxR _ (rIx K) from ix_seq) (pv 0) pe_int (fun _ _ => rfl)) (nomark _)) pe_str pe_non))))), ?_⟩
    refine ⟨_, rfl, _, _, _, _, _, rfl, .ty _, tyx_of hd, kit_ty (kit_tuple d), _, rfl, ?_⟩
    cases hd with
    | int i => exact iteT (q _ _ (Same.refl _) (.str _))
    | bl b => exact iteT (q _ _ (Same.refl _) (.str _))
    | non => exact iteT (q _ _ (Same.refl _) (.str _))
    | str x => exact iteT (q _ _ (Same.refl _) (.str _))
    | lst _ _ => exact iteT (q _ _ (Same.refl _) (.str _))
    | dct _ => exact iteT (q _ _ (Same.refl _) (.str _))
    | @tup w xs ds e ha =>
      have hl := dta_len ha
      refine iteF ⟨_, rfl, w, xs, rfl, .inr e, rfl, _, rfl, ?_⟩
      by_cases h2 : ds.length = 2
      · obtain ⟨x, y, dx, dy, rfl, rfl, rx, ry⟩ := dta_two ha h2
        refine iteF (.inr ⟨_, rfl, w, rfl, ⟨_, e⟩, fun D hD => ?_⟩)
        refine lc_reckon (walk_tup (xs := [x, y])) (zs := [dx, dy]) rfl (fun d => !numD d) (fun _ => .int 1) (by show 2 ≤ 100000; decide) hD (fun H8 s8 => Sx.Same.tup s8 e) ?_ ?_
        · rintro i z x' H8 H9 hz s8 ⟨rfl, hx⟩
          obtain ⟨hi, hdx⟩ := dta_val ha hx
          rw [List.getD_eq_getElem?_getD, hz] at hdx
          exact ⟨Same.refl _, _, fun Q q => q, rfl, fun Q q => ⟨_, rfl, x', z, rfl, Sx.dt_same s8 _ _ hdx, _, rfl, q _ (Same.refl _)⟩, fun _ H9 Q _ _ q => q _ (Same.refl _)⟩
        intro H8 s8 e8
        have e8 : H8 D = some (.lst ((([dx, dy].filter fun d => !numD d).map fun _ => (1 : Int)).map V.int)) := by
          rw [e8, List.map_map] <;> rfl
        refine ⟨Nat.zero_le _, fun e0 n0 => ?_⟩
        have s9 := same_new (o := .lst []) n0
        refine ⟨_, _, .lst (.of (s9 _ _ e8)) (dpa_ints _), .lst (.of upd_same) .nil, shaped_ints _, shaped_ints [], _, rfl, ?_⟩
        rw [eqv_nil_ints]
        have sT := s8.trans s9
        generalize upd H8 e0 _ = HT at sT ⊢
        have form : (numD dx = false ∨ numD dy = false) → Q (.str "form") HT := by
          intro h
          refine q _ _ sT ?_
          rw [stretch_bad h]
          exact .str _
        cases n1 : numD dx with
        | false =>
          have he : ((([dx, dy].filter fun d => !numD d).map fun _ => (1 : Int)).isEmpty) = false := by
            rw [List.filter_cons_of_pos (by rw [n1] <;> rfl)] <;> rfl
          rw [he]
          exact iteT (form (.inl n1))
        | true =>
          cases n2 : numD dy with
          | false =>
            have he : ((([dx, dy].filter fun d => !numD d).map fun _ => (1 : Int)).isEmpty) = false := by
              rw [List.filter_cons_of_neg (by rw [n1]; decide), List.filter_cons_of_pos (by rw [n2] <;> rfl)] <;> rfl
            rw [he]
            exact iteT (form (.inr n2))
          | true =>
            have he : ((([dx, dy].filter fun d => !numD d).map fun _ => (1 : Int)).isEmpty) = true := by
              rw [List.filter_cons_of_neg (by rw [n1]; decide), List.filter_cons_of_neg (by rw [n2]; decide)] <;> rfl
            rw [he]
            obtain ⟨i, rfl, _⟩ := within_num n1
            obtain ⟨j, rfl, _⟩ := within_num n2
            cases rx
            cases ry
            rw [stretch_good n1 n2] at q
            have eT := Sx.Same.tup sT e
            refine iteF ⟨fun v H' => Q v H', ⟨_, rfl, .inr (.inl ⟨w, _, _, _, rfl, rfl, eT, atI_nat (j := 0) rfl, _, rfl, .inr (.inl ⟨w, _, _, _, rfl, rfl, eT, atI_nat (j := 1) rfl, _, _, rfl, rfl, _, rfl, ?_⟩)⟩)⟩, fun v H' h => h⟩
            by_cases hlt : j < i
            · rw [if_pos hlt] at q
              rw [decide_eq_true hlt]
              exact iteT (q _ _ sT (.str _))
            · rw [if_neg hlt] at q
              rw [decide_eq_false hlt]
              exact iteF (q _ _ sT .non)
      · have hne : decide (V.int (xs.length : Nat) = V.int 2) = false := decide_eq_false fun z => h2 (by
          have := V.int.inj z
          omega)
        rw [hne]
        refine iteT (q _ _ (Same.refl _) ?_)
        rw [stretch_not2 h2]
        exact .str _
theorem ok_is_number (T : Txt K mg a) : FnOk P w K mg base CX0 3 a.f_is_number a.d_is_number ["value"] (sp_is_number K) := by
  have G_is_within : FnOk P w K mg base CX0 2 a.f_is_within a.d_is_within ["value", "low", "high"] (sp_is_within K) := ok_is_within T
  refine T.is_number.F.ok sc_is_number (fun vs H Q E h => ?_) (fun cdv A outer s H vs Q E hr h => ?_)
  · obtain ⟨_, _, rfl, _⟩ := h
    rfl
  · have hu := hu_of hr
    obtain ⟨v, d, rfl, hd, q⟩ := h
    refine ⟨_, (pss_one (ps_ret (pe_call G_is_within hr (by rfl) T.is_within.m T.is_within.F.kp T.is_within.b .nil pass0 (pa_cons (pv 0) (pa_cons (pe_un un_neg (pe_cst T.c_MAX_NUMBER rfl)) (pa_cons (pe_cst T.c_MAX_NUMBER rfl) pa_nil)))))), ?_⟩
    exact ⟨_, rfl, _, rfl, v, d, _, _, rfl, hd, q⟩
theorem ok_machine_error (T : Txt K mg a) : FnOk P w K mg base CX0 3 a.f_machine_error a.d_machine_error ["value"] (sp_machine_error K) := by
  have G_is_within : FnOk P w K mg base CX0 2 a.f_is_within a.d_is_within ["value", "low", "high"] (sp_is_within K) := ok_is_within T
  refine T.machine_error.F.ok sc_machine_error (fun vs H Q E h => ?_) (fun cdv A outer s H vs Q E hr h => ?_)
  · obtain ⟨_, _, rfl, _⟩ := h
    rfl
  · have hu := hu_of hr
    obtain ⟨v, d, rfl, hd, q⟩ := h
    refine ⟨_, (pss_cons (ps_if (PW.pt (pw_or (pt_not (pt_val (pe_callB (show CallR _ _ (rIsi K) from call_isi) (by rfl) T.b_isinstance (by decide +kernel) (pa_cons (pv 0) (pa_cons (pe_bltn (v := .ty "tuple") rfl T.b_tuple (by decide +kernel) rfl) pa_nil))))) (pw_or1 (pt_not (pt_chain op_le op_le pe_int (pe_callB (show CallR _ _ (rLenS K) from call_len_seq) (by rfl) T.b_len (by decide +kernel) (pa_cons (pv 0) pa_nil)) (pe_cst T.c_MAX_LANES rfl)))))) (pss_one (ps_ret pe_str)) pss_nil)
      (pss_cons (ps_for PassesOwn.never rfl (show PI _ _ _ (iEnumT K _) from pi_enumT (by rfl) T.b_enumerate (pa_cons (pv 0) pa_nil)) (show PG _ _ (gTup K 2 _) from pg_tup rfl (pgs_cons (pg_name (i := 1) sc_machine_error.nd rfl (by first | exact Or.inl rfl | exact Or.inr rfl)) (pgs_cons (pg_name (i := 2) sc_machine_error.nd rfl (by first | exact Or.inl rfl | exact Or.inr rfl)) pgs_nil))) (pss_one (ps_if (pt_not (pt_val (pe_call G_is_within hr (by rfl) T.is_within.m T.is_within.F.kp T.is_within.b .nil pass0 (pa_cons (pv 2) (pa_cons pe_int (pa_cons (pe_cst T.c_MAX_MODULUS rfl) pa_nil)))))) (pss_one (ps_ret (pe_tup (pa_cons pe_str (pa_cons (pv 1) pa_nil))))) pss_nil)))
      (pss_one (ps_ret pe_non)))), ?_⟩
    refine ⟨_, rfl, _, _, _, _, _, rfl, .ty _, tyx_of hd, kit_ty (kit_tuple d), _, rfl, ?_⟩
    cases hd with
    | int i => exact iteT (q _ _ (Same.refl _) (.str _))
    | bl b => exact iteT (q _ _ (Same.refl _) (.str _))
    | non => exact iteT (q _ _ (Same.refl _) (.str _))
    | str x => exact iteT (q _ _ (Same.refl _) (.str _))
    | lst _ _ => exact iteT (q _ _ (Same.refl _) (.str _))
    | dct _ => exact iteT (q _ _ (Same.refl _) (.str _))
    | @tup w xs ds e ha =>
      have hl := dta_len ha
      refine iteF ⟨_, rfl, w, xs, rfl, .inr e, _, _, rfl, rfl, _, rfl, ?_⟩
      have form : ¬ (1 ≤ ds.length ∧ ds.length ≤ 10) → Q (.str "form") H := by
        intro h
        refine q _ _ (Same.refl _) ?_
        rw [machD_tup, if_neg h]
        exact .str _
      by_cases h1 : (1 : Int) ≤ (xs.length : Nat)
      · rw [decide_eq_true h1]
        refine iteT ⟨_, _, rfl, rfl, _, rfl, ?_⟩
        by_cases h2 : ((xs.length : Nat) : Int) ≤ 10
        · rw [decide_eq_true h2]
          have hm : machD (.tuple ds) = firstD "modulus" ds.length (badMod ds) := by
            rw [machD_tup, if_pos ⟨by omega, by omega⟩]
          rw [hm] at q
          refine iteF ⟨_, rfl, w, xs, rfl, e, for_it walk_enumT (fun i σ H' => ∃ v1 v2 : Option V, σ = [some (.ref w), v1, v2] ∧ Same H H' ∧ ∀ j, j < i → badMod ds j = false)
            ⟨none, none, rfl, Same.refl _, fun j z => absurd z (Nat.not_lt_zero _)⟩ (fun i σ H' _ ⟨_, _, _, s, _⟩ => Sx.Same.tup s e) ?_ ?_⟩
          · rintro i x σ H1 H2 hi ⟨v1, v2, rfl, s1, hall⟩ ⟨T1, x1, x2, rfl, nT, rfl, f1, f2⟩
            cases f1
            obtain ⟨hi2, hx⟩ := dta_val ha f2
            have s2 : Same H1 (upd H1 T1 (.tup [.int (i : Nat), x2])) := same_new nT
            have s3 := s1.trans s2
            refine ⟨T1, _, rfl, .of upd_same, rfl, _, _, rfl, _, _, rfl, rfl, ?_⟩
            refine ⟨_, rfl, x2, ds.getD i .none, 2, 10 ^ 6, rfl, Sx.dt_same s3 _ _ hx, _, rfl, ?_⟩
            cases hs : withinD (ds.getD i .none) 2 (10 ^ 6) with
            | true =>
              refine iteF ⟨_, _, rfl, s3, fun j z => ?_⟩
              by_cases hj : j < i
              · exact hall j hj
              · obtain rfl : j = i := by omega
                unfold badMod
                rw [hs] <;> rfl
            | false =>
              refine iteT ⟨_, rfl, by show 2 ≤ sizeLine; decide, fun r nr => ?_⟩
              refine q _ _ (s3.trans (same_new nr)) ?_
              rw [first_at hi2 (by unfold badMod; rw [hs] <;> rfl) hall]
              exact .tup (.of upd_same) (.cons (.str _) (.cons (.int _) .nil))
          · rintro σ H1 ⟨v1, v2, rfl, s1, hall⟩
            rw [hl] at hall
            refine q _ _ s1 ?_
            rw [first_no hall]
            exact .non
        · rw [decide_eq_false h2]
          exact iteT (form (by omega))
      · rw [decide_eq_false h1]
        exact iteF ⟨_, rfl, iteT (form (by omega))⟩
theorem ok_word_error (T : Txt K mg a) : FnOk P w K mg base CX0 3 a.f_word_error a.d_word_error ["machine", "value"] (sp_word_error K) := by
  have G_is_within : FnOk P w K mg base CX0 2 a.f_is_within a.d_is_within ["value", "low", "high"] (sp_is_within K) := ok_is_within T
  refine T.word_error.F.ok sc_word_error (fun vs H Q E h => ?_) (fun cdv A outer s H vs Q E hr h => ?_)
  · obtain ⟨_, _, _, _, rfl, _⟩ := h
    rfl
  · have hu := hu_of hr
    obtain ⟨t, v, ns, d, rfl, hT, hd, q⟩ := h
    refine ⟨_, (pss_cons (ps_if (PW.pt (pw_or (pt_not (pt_val (pe_callB (show CallR _ _ (rIsi K) from call_isi) (by rfl) T.b_isinstance (by decide +kernel) (pa_cons (pv 1) (pa_cons (pe_bltn (v := .ty "tuple") rfl T.b_tuple (by decide +kernel) rfl) pa_nil))))) (pw_or1 (pt_cmpR op_ne (pe_callB (show CallR _ _ (rLenS K) from call_len_seq) (by rfl) T.b_len (by decide +kernel) (pa_cons (pv 1) pa_nil)) (pe_callB (show CallR _ _ (rLenS K) from call_len_seq) (by rfl) T.b_len (by decide +kernel) (pa_cons (pv 0) pa_nil)) (nomark _))))) (pss_one (ps_ret pe_str)) pss_nil)
      (pss_cons (ps_for PassesOwn.never rfl (show PI _ _ _ (iEnumT K _) from pi_enumT (by rfl) T.b_enumerate (pa_cons (pv 1) pa_nil)) (show PG _ _ (gTup K 2 _) from pg_tup rfl (pgs_cons (pg_name (i := 2) sc_word_error.nd rfl (by first | exact Or.inl rfl | exact Or.inr rfl)) (pgs_cons (pg_name (i := 3) sc_word_error.nd rfl (by first | exact Or.inl rfl | exact Or.inr rfl)) pgs_nil))) (pss_one (ps_if (PW.pt (pw_and (pt_cmpR op_notN (pv 3) pe_non (nomark _)) (pw_and1 (pt_not (pt_val (pe_call G_is_within hr (by rfl) T.is_within.m T.is_within.F.kp T.is_within.b .nil pass0 (pa_cons (pv 3) (pa_cons pe_int (pa_cons (pe_op op_sub (pe_ix (show IxR _ (rIx K) from ix_seq) (pv 0) (pv 2) (fun _ _ => rfl)) pe_int) pa_nil))))))))) (pss_one (ps_ret (pe_tup (pa_cons pe_str (pa_cons (pv 2) pa_nil))))) pss_nil)))
      (pss_one (ps_ret pe_non)))), ?_⟩
    refine ⟨_, rfl, _, _, _, _, _, rfl, .ty _, tyx_of hd, kit_ty (kit_tuple d), _, rfl, ?_⟩
    cases hd with
    | int i => exact iteT (q _ _ (Same.refl _) (.str _))
    | bl b => exact iteT (q _ _ (Same.refl _) (.str _))
    | non => exact iteT (q _ _ (Same.refl _) (.str _))
    | str x => exact iteT (q _ _ (Same.refl _) (.str _))
    | lst _ _ => exact iteT (q _ _ (Same.refl _) (.str _))
    | dct _ => exact iteT (q _ _ (Same.refl _) (.str _))
    | @tup w xs ds e ha =>
      have hl := dta_len ha
      refine iteF ⟨_, rfl, w, xs, rfl, .inr e, _, rfl, t, _, rfl, .inr hT, rfl, _, rfl, ?_⟩
      rw [List.length_map]
      by_cases h1 : ds.length = ns.length
      · have hm : wordD ns (.tuple ds) = firstD "rest" ds.length (badRest ns ds) := by
          rw [wordD_tup, if_pos h1]
        rw [hm] at q
        rw [decide_eq_true (show V.int (xs.length : Nat) = V.int (ns.length : Nat) by rw [hl, h1])]
        refine iteF ⟨_, rfl, w, xs, rfl, e, for_it walk_enumT (fun i σ H' => ∃ v1 v2 : Option V, σ = [some (.ref t), some (.ref w), v1, v2] ∧ Same H H' ∧ ∀ j, j < i → badRest ns ds j = false)
          ⟨none, none, rfl, Same.refl _, fun j z => absurd z (Nat.not_lt_zero _)⟩ (fun i σ H' _ ⟨_, _, _, s, _⟩ => Sx.Same.tup s e) ?_ ?_⟩
        · rintro i x σ H1 H2 hi ⟨v1, v2, rfl, s1, hall⟩ ⟨T1, x1, x2, rfl, nT, rfl, f1, f2⟩
          cases f1
          obtain ⟨hi2, hx⟩ := dta_val ha f2
          have s2 : Same H1 (upd H1 T1 (.tup [.int (i : Nat), x2])) := same_new nT
          have s3 := s1.trans s2
          have hx3 := Sx.dt_same s3 _ _ hx
          have hb : badRest ns ds i = (!isNoneD (ds.getD i .none) && !withinD (ds.getD i .none) 0 (ns.getD i 0 - 1)) := rfl
          have next : badRest ns ds i = false → ∀ j, j < i + 1 → badRest ns ds j = false := by
            intro hs j z
            by_cases hj : j < i
            · exact hall j hj
            · obtain rfl : j = i := by omega
              exact hs
          have bad : badRest ns ds i = true → ∀ (H' : Hp), Same H H' → ∀ r, H' r = none → Q (.ref r) (upd H' r (.tup [.str "rest", .int (i : Nat)])) := by
            intro hs H' s4 r nr
            refine q _ _ (s4.trans (same_new nr)) ?_
            rw [first_at hi2 hs hall]
            exact .tup (.of upd_same) (.cons (.str _) (.cons (.int _) .nil))
          generalize ds.getD i .none = it at hx3 hb
          have hn : x2 = .non ↔ isNoneD it = true := by
            cases hx3 <;> simp [isNoneD]
          have lat : atI (ns.map V.int) (i : Nat) = some (.int (ns.getD i 0)) := atI_nat (by rw [List.getElem?_map, getD_some 0 (by omega)] <;> rfl)
          refine ⟨T1, _, rfl, .of upd_same, rfl, _, _, rfl, _, _, rfl, rfl, _, rfl, rfl, _, rfl, ?_⟩
          generalize upd H1 T1 _ = H3 at s3 hx3 ⊢
          have hT3 := Sx.Same.tup s3 hT
          by_cases hz : x2 = .non
          · rw [decide_eq_true hz]
            rw [hn.mp hz] at hb
            exact iteF ⟨_, _, rfl, s3, next hb⟩
          · rw [decide_eq_false hz]
            have hnf : isNoneD it = false := by
              cases h : isNoneD it with
              | false => rfl
              | true => exact absurd (hn.mpr h) hz
            rw [hnf] at hb
            refine iteT ⟨_, rfl, _, rfl, _, rfl, .inr (.inl ⟨t, _, _, _, rfl, rfl, hT3, lat, _, _, rfl, rfl, x2, it, 0, _, rfl, hx3, _, rfl, ?_⟩)⟩
            cases hs : withinD it 0 (ns.getD i 0 - 1) with
            | true =>
              rw [hs] at hb
              exact iteF ⟨_, _, rfl, s3, next hb⟩
            | false =>
              rw [hs] at hb
              exact iteT ⟨_, rfl, by show 2 ≤ sizeLine; decide, bad hb _ s3⟩
        · rintro σ H1 ⟨v1, v2, rfl, s1, hall⟩
          rw [hl] at hall
          refine q _ _ s1 ?_
          rw [first_no hall]
          exact .non
      · rw [decide_eq_false (fun z => h1 (by have := V.int.inj z; omega))]
        refine iteT (q _ _ (Same.refl _) ?_)
        rw [wordD_tup, if_neg h1]
        exact .str _
theorem ok__law_number (T : Txt K mg a) : FnOk P w K mg base CX0 3 a.f__law_number a.d__law_number ["box"] (sp__law_number K) := by
  have G__law_draw : FnOk P w K mg base CX0 1 a.f__law_draw a.d__law_draw ["box", "many"] (sp__law_draw K) := ok__law_draw T
  have G__law_great : FnOk P w K mg base CX0 2 a.f__law_great a.d__law_great ["box", "many"] (sp__law_great K) := ok__law_great T
  refine T._law_number.F.ok sc__law_number (fun vs H Q E h => ?_) (fun cdv A outer s H vs Q E hr h => ?_)
  · obtain ⟨_, _, _, rfl, _⟩ := h
    rfl
  · have hu := hu_of hr
    obtain ⟨H0, b, g, rfl, B, q⟩ := h
    have dr : ∀ m : Int, 0 < m → m < 2 ^ 60 → Small m := fun m h0 h1 => small_of h0 h1
    refine ⟨_, (pss_cons (ps_set (i := 1) sc__law_number.nd rfl (by first | exact Or.inl rfl | exact Or.inr rfl) (pe_call G__law_draw (hr.mono (by decide)) (by rfl) T._law_draw.m T._law_draw.F.kp T._law_draw.b .nil pass0 (pa_cons (pv 0) (pa_cons pe_int pa_nil))))
      (pss_cons (ps_set (i := 2) sc__law_number.nd rfl (by first | exact Or.inl rfl | exact Or.inr rfl) (pe_cut (pe_ifExp (pt_cmpR op_lt (pv 1) pe_int (nomark _)) (pe_call G__law_draw (hr.mono (by decide)) (by rfl) T._law_draw.m T._law_draw.F.kp T._law_draw.b .nil pass0 (pa_cons (pv 0) (pa_cons pe_int pa_nil))) (pe_call G__law_great hr (by rfl) T._law_great.m T._law_great.F.kp T._law_great.b .nil pass0 (pa_cons (pv 0) (pa_cons (pe_op op_add pe_int (pe_call G__law_draw (hr.mono (by decide)) (by rfl) T._law_draw.m T._law_draw.F.kp T._law_draw.b .nil pass0 (pa_cons (pv 0) (pa_cons pe_int pa_nil)))) pa_nil))))))
      (Evl.pss_cut (ps_if (pt_cmpR op_eq (pv 1) pe_int (nomark _)) (pss_one (ps_set (i := 2) sc__law_number.nd rfl (by first | exact Or.inl rfl | exact Or.inr rfl) (pe_op op_sub (pe_op op_pow pe_int pe_int) (pe_call G__law_draw (hr.mono (by decide)) (by rfl) T._law_draw.m T._law_draw.F.kp T._law_draw.b .nil pass0 (pa_cons (pv 0) (pa_cons pe_int pa_nil)))))) pss_nil)
      (pss_one (ps_ret (pe_cut (pe_ifExp (pt_cmpR op_gt (pe_call G__law_draw (hr.mono (by decide)) (by rfl) T._law_draw.m T._law_draw.F.kp T._law_draw.b .nil pass0 (pa_cons (pv 0) (pa_cons pe_int pa_nil))) pe_int (nomark _)) (pv 2) (pe_un un_neg (pv 2))))))))), ?_⟩
    refine ⟨_, rfl, H0, b, g, 8, rfl, B, dr _ (by decide) (by decide), fun way H1 w0 w1 B1 => ?_⟩
    -- found
    refine ⟨fun v H' => ∃ f : Int, v = .int f ∧ IsNum f ∧ Bs H0 H' b g, ?_, ?_⟩
    · refine ⟨_, rfl, _, _, rfl, rfl, _, rfl, ite2 (fun _ => ?_) (fun _ => ?_)⟩
      · refine ⟨_, rfl, H0, b, g, 300, rfl, B1, dr _ (by decide) (by decide), fun r H2 r0 r1 B2 => ?_⟩
        exact ⟨r, rfl, ⟨by omega, by omega⟩, B2⟩
      · refine ⟨_, rfl, _, rfl, H0, b, g, 10, rfl, B1, dr _ (by decide) (by decide), fun r H2 r0 r1 B2 => ?_⟩
        refine ⟨_, _, rfl, rfl, H0, b, g, _, rfl, B2, by omega, by omega, fun f H3 f0 f1 B3 => ?_⟩
        refine ⟨f, rfl, ⟨by omega, ?_⟩, B3⟩
        have h1 := pow_mono (show (1 + r).toNat ≤ 10 by omega)
        have h2 : (1000000 : Int) ^ 10 = 10 ^ 60 := by decide
        omega
    · rintro v H2 ⟨f, rfl, hf, B2⟩
      -- if way == 7: found = 10 ** 60 - draw
      refine ⟨fun σ H' => ∃ f : Int, σ = [some (.ref b), some (.int way), some (.int f)] ∧ IsNum f ∧ Bs H0 H' b g, ?_, ?_⟩
      · refine ⟨_, rfl, rfl, _, rfl, ite2 (fun _ => ?_) (fun _ => ?_)⟩
        · refine ⟨10, 60, rfl, rfl, ⟨by decide, by decide, by decide⟩, _, rfl, H0, b, g, 3, rfl, B2, dr _ (by decide) (by decide), fun r H3 r0 r1 B3 => ?_⟩
          refine ⟨_, _, rfl, rfl, _, rfl, ⟨?_, ?_⟩, B3⟩
          · show -(10 ^ 60) ≤ (10 : Int) ^ 60 - r
            omega
          · show (10 : Int) ^ 60 - r ≤ 10 ^ 60
            omega
        · exact ⟨f, rfl, hf, B2⟩
      · rintro σ H3 ⟨f, rfl, hf, B3⟩
        refine ⟨fun v H' => ∃ f : Int, v = .int f ∧ IsNum f ∧ Bs H0 H' b g, ?_, ?_⟩
        · refine ⟨_, rfl, H0, b, g, 3, rfl, B3, dr _ (by decide) (by decide), fun r H4 r0 r1 B4 => ?_⟩
          refine ⟨_, _, rfl, rfl, _, rfl, ite2 (fun _ => ?_) (fun _ => ?_)⟩
          · exact ⟨_, rfl, f, rfl, hf, B4⟩
          · exact ⟨_, rfl, f, rfl, -f, rfl, ⟨by have := hf.1; have := hf.2; omega, by have := hf.1; have := hf.2; omega⟩, B4⟩
        · rintro v H4 ⟨f, rfl, hf, B4⟩
          exact q f H4 hf B4
theorem ok__law_machine (T : Txt K mg a) : FnOk P w K mg base CX0 3 a.f__law_machine a.d__law_machine ["box"] (sp__law_machine K) := by
  have G__law_draw : FnOk P w K mg base CX0 1 a.f__law_draw a.d__law_draw ["box", "many"] (sp__law_draw K) := ok__law_draw T
  have G__law_pick : FnOk P w K mg base CX0 2 a.f__law_pick a.d__law_pick ["box", "items"] (sp__law_pick K) := ok__law_pick T
  refine T._law_machine.F.ok sc__law_machine (fun vs H Q E h => ?_) (fun cdv A outer s H vs Q E hr h => ?_)
  · obtain ⟨_, _, _, rfl, _⟩ := h
    rfl
  · have hu := hu_of hr
    obtain ⟨H0, b, g, rfl, B, q⟩ := h
    have dr : ∀ m : Int, 0 < m → m < 2 ^ 60 → Small m := fun m h0 h1 => small_of h0 h1
    -- a list of ints becomes the tuple
    have fin : ∀ (ms : List Int) (D : Addr) (H3 : Hp), IsMach ms → Bs (upd H0 D (.lst (ms.map V.int))) H3 b g → H0 D = none → ∀ l, H3 l = none → Q (.ref l) (upd H3 l (.tup (ms.map V.int))) := fun ms D H3 hm B3 n0 l nl =>
      q ms l _ hm ((B3.less (same_new n0)).sub.free nl) upd_same (B3.pb nl) (B3.pg nl) ((B3.less (same_new n0)).more (same_new nl))
    refine ⟨_, (pss_cons (ps_par (i := 1) (j := 2) (by rfl) sc__law_machine.nd rfl rfl (by decide) rfl rfl (pa_cons (pe_call G__law_draw (hr.mono (by decide)) (by rfl) T._law_draw.m T._law_draw.F.kp T._law_draw.b .nil pass0 (pa_cons (pv 0) (pa_cons pe_int pa_nil))) (pa_cons (pe_op op_add pe_int (pe_call G__law_draw (hr.mono (by decide)) (by rfl) T._law_draw.m T._law_draw.F.kp T._law_draw.b .nil pass0 (pa_cons (pv 0) (pa_cons pe_int pa_nil)))) pa_nil)) (by rfl))
      (pss_cons (ps_if (pt_cmpR op_eq (pv 1) pe_int (nomark _)) (pss_one (ps_ret (pe_op (show OpR _ _ (rRepAny K) from op_repAny) (pe_tup (pa_cons (pe_op op_add pe_int (pe_call G__law_draw (hr.mono (by decide)) (by rfl) T._law_draw.m T._law_draw.F.kp T._law_draw.b .nil pass0 (pa_cons (pv 0) (pa_cons pe_int pa_nil)))) pa_nil)) (pv 2)))) pss_nil)
      (pss_cons (ps_if (pt_cmpR op_eq (pv 1) pe_int (nomark _)) (pss_cons (ps_set (i := 3) sc__law_machine.nd rfl (by first | exact Or.inl rfl | exact Or.inr rfl) (pe_op op_add pe_int (pe_call G__law_draw (hr.mono (by decide)) (by rfl) T._law_draw.m T._law_draw.F.kp T._law_draw.b .nil pass0 (pa_cons (pv 0) (pa_cons pe_int pa_nil)))))
        (pss_one (ps_ret (pe_callTy (show CallR _ _ (rTupS K) from call_tuple_of) (by rfl) T.b_tuple (by decide +kernel) (pa_cons (pe_lc (own := [("lane", 4)]) rfl sc__law_machine.nd (pi_range1 rfl T.b_range (pa_cons (pv 2) pa_nil)) (blkOk_by (N := ["box", "way", "many", "own", "lane"]) (sc := defScope s__law_machine) (by decide +kernel)) (fun _ _ _ _ _ => (pg_name (i := 4) sc__law_machine.nd rfl (by first | exact Or.inl rfl | exact Or.inr rfl))) (fun _ _ _ _ _ => pts_nil) (fun _ _ _ _ _ => (pe_op op_mul (pv 3) (pe_op op_add pe_int (pe_call G__law_draw (hr.mono (by decide)) (by rfl) T._law_draw.m T._law_draw.F.kp T._law_draw.b .nil pass0 (pa_cons (pv 0) (pa_cons pe_int pa_nil))))))) pa_nil))))) pss_nil)
      (pss_cons (ps_if (pt_cmpR op_eq (pv 1) pe_int (nomark _)) (pss_one (ps_ret (pe_callTy (show CallR _ _ (rTupS K) from call_tuple_of) (by rfl) T.b_tuple (by decide +kernel) (pa_cons (pe_lc (own := [("lane", 4)]) rfl sc__law_machine.nd (pi_range1 rfl T.b_range (pa_cons (pv 2) pa_nil)) (blkOk_by (N := ["box", "way", "many", "own", "lane"]) (sc := defScope s__law_machine) (by decide +kernel)) (fun _ _ _ _ _ => (pg_name (i := 4) sc__law_machine.nd rfl (by first | exact Or.inl rfl | exact Or.inr rfl))) (fun _ _ _ _ _ => pts_nil) (fun _ _ _ _ _ => (pe_call G__law_pick hr (by rfl) T._law_pick.m T._law_pick.F.kp T._law_pick.b .nil pass0 (pa_cons (pv 0) (pa_cons (pe_lst (pa_cons (pe_op op_pow pe_int pe_int) (pa_cons (pe_op op_sub (pe_op op_pow pe_int pe_int) pe_int) (pa_cons (pe_op op_add pe_int (pe_call G__law_draw (hr.mono (by decide)) (by rfl) T._law_draw.m T._law_draw.F.kp T._law_draw.b .nil pass0 (pa_cons (pv 0) (pa_cons pe_int pa_nil)))) pa_nil)))) pa_nil))))) pa_nil)))) pss_nil)
      (pss_cons (ps_if (pt_cmpR op_eq (pv 1) pe_int (nomark _)) (pss_one (ps_ret (pe_callTy (show CallR _ _ (rTupS K) from call_tuple_of) (by rfl) T.b_tuple (by decide +kernel) (pa_cons (pe_lc (own := [("lane", 4)]) rfl sc__law_machine.nd (pi_range1 rfl T.b_range (pa_cons pe_int pa_nil)) (blkOk_by (N := ["box", "way", "many", "own", "lane"]) (sc := defScope s__law_machine) (by decide +kernel)) (fun _ _ _ _ _ => (pg_name (i := 4) sc__law_machine.nd rfl (by first | exact Or.inl rfl | exact Or.inr rfl))) (fun _ _ _ _ _ => pts_nil) (fun _ _ _ _ _ => (pe_op op_add pe_int (pe_call G__law_draw (hr.mono (by decide)) (by rfl) T._law_draw.m T._law_draw.F.kp T._law_draw.b .nil pass0 (pa_cons (pv 0) (pa_cons pe_int pa_nil)))))) pa_nil)))) pss_nil)
      (pss_one (ps_ret (pe_callTy (show CallR _ _ (rTupS K) from call_tuple_of) (by rfl) T.b_tuple (by decide +kernel) (pa_cons (pe_lc (own := [("lane", 4)]) rfl sc__law_machine.nd (pi_range1 rfl T.b_range (pa_cons (pv 2) pa_nil)) (blkOk_by (N := ["box", "way", "many", "own", "lane"]) (sc := defScope s__law_machine) (by decide +kernel)) (fun _ _ _ _ _ => (pg_name (i := 4) sc__law_machine.nd rfl (by first | exact Or.inl rfl | exact Or.inr rfl))) (fun _ _ _ _ _ => pts_nil) (fun _ _ _ _ _ => (pe_op op_add pe_int (pe_call G__law_draw (hr.mono (by decide)) (by rfl) T._law_draw.m T._law_draw.F.kp T._law_draw.b .nil pass0 (pa_cons (pv 0) (pa_cons pe_int pa_nil)))))) pa_nil))))))))), ?_⟩
    refine ⟨_, rfl, H0, b, g, 7, rfl, B, dr _ (by decide) (by decide), fun way H1 w0 w1 B1 => ?_⟩
    refine ⟨_, rfl, H0, b, g, 5, rfl, B1, dr _ (by decide) (by decide), fun k H2 k0 k1 B2 => ?_⟩
    refine ⟨_, _, rfl, rfl, _, _, rfl, ?_⟩
    -- way == 0
    refine ⟨_, rfl, rfl, _, rfl, ite2 (fun _ => ?_) (fun _ => ?_)⟩
    · refine ⟨_, rfl, H0, b, g, 11, rfl, B2, dr _ (by decide) (by decide), fun r H3 r0 r1 B3 => ?_⟩
      refine ⟨_, _, rfl, rfl, by show 1 ≤ sizeLine; decide, fun p np => ⟨_, rfl, ?_⟩⟩
      have B4 := B3.more (same_new (o := .tup [.int (2 + r)]) np)
      by_cases h1 : k = 0
      · subst h1
        refine .inr ⟨p, _, rfl, rfl, .of upd_same, ?_⟩
        exact q [2 + r] p _ ⟨Nat.le_refl 1, (show 1 ≤ 10 by decide), fun n hn => by rw [List.mem_singleton.mp hn]; omega⟩ (B3.sub.free np) upd_same (B3.pb np) (B3.pg np) B4
      · refine .inl ⟨p, 1 + k, _, rfl, rfl, .of upd_same, (fun z => nomatch z), by omega, by omega, (show 1 ≤ 1000 by decide), fun l nl => ?_⟩
        have e : (List.replicate (1 + k).toNat [V.int (2 + r)]).flatten = (List.replicate (1 + k).toNat (2 + r)).map V.int := by
          rw [List.map_replicate]
          generalize (1 + k).toNat = c
          induction c with
          | zero => rfl
          | succ c ih => rw [List.replicate_succ, List.replicate_succ, List.flatten_cons, ih] <;> rfl
        rw [e]
        refine q (List.replicate (1 + k).toNat (2 + r)) l _ ⟨?_, ?_, ?_⟩ (B4.sub.free nl) upd_same (B4.pb nl) (B4.pg nl) (B4.more (same_new nl))
        · rw [List.length_replicate]
          omega
        · rw [List.length_replicate]
          omega
        · intro n hn
          rw [(List.mem_replicate.mp hn).2]
          omega
    -- way == 1
    refine ⟨_, rfl, rfl, _, rfl, ite2 (fun _ => ?_) (fun _ => ?_)⟩
    · refine ⟨_, rfl, H0, b, g, 5, rfl, B2, dr _ (by decide) (by decide), fun r H3 r0 r1 B3 => ?_⟩
      refine ⟨_, _, rfl, rfl, ?_⟩
      refine ⟨_, rfl, _, rfl, by omega, by omega, fun D hD => ?_⟩
      refine lc_drawn (fun n => 2 ≤ n ∧ n ≤ 1000000) B3 hD (by omega) (fun x => rfl) ?_ ?_
      · intro i H4 H5 Q' hi s4 B5 hq
        refine ⟨_, rfl, _, rfl, H4, b, g, 6, rfl, B5, dr _ (by decide) (by decide), fun z H6 z0 z1 B6 => ?_⟩
        refine ⟨_, _, rfl, rfl, _, _, rfl, rfl, .inl ⟨by omega, by omega⟩, ?_⟩
        refine hq _ _ ⟨?_, ?_⟩ B6
        · have h1 : (2 + r) * 1 ≤ (2 + r) * (1 + z) := Int.mul_le_mul_of_nonneg_left (by omega) (by omega)
          omega
        · have h1 : (2 + r) * (1 + z) ≤ 10 * (1 + z) := Int.mul_le_mul_of_nonneg_right (by omega) (by omega)
          omega
      · intro ms H4 hl hm B5
        exact ⟨D, _, rfl, .inl ⟨.of (B5.sub _ _ upd_same), fin ms D H4 ⟨by omega, by omega, hm⟩ B5 (B3.sub.free hD)⟩⟩
    -- way == 2
    refine ⟨_, rfl, rfl, _, rfl, ite2 (fun _ => ?_) (fun _ => ?_)⟩
    · refine ⟨_, rfl, _, rfl, by omega, by omega, fun D hD => ?_⟩
      refine lc_drawn (fun n => 2 ≤ n ∧ n ≤ 1000000) B2 hD (by omega) (fun x => rfl) ?_ ?_
      · intro i H4 H5 Q' hi s4 B5 hq
        refine ⟨_, rfl, 10, 6, rfl, rfl, ⟨by decide, by decide, by decide⟩, 10, 6, rfl, rfl, ⟨by decide, by decide, by decide⟩, _, 1, rfl, rfl, ?_⟩
        refine ⟨_, rfl, H4, b, g, 999999, rfl, B5, dr _ (by decide) (by decide), fun z H6 z0 z1 B6 => ?_⟩
        refine ⟨_, _, rfl, rfl, by show 3 ≤ sizeLine; decide, fun p np => ?_⟩
        refine ⟨_, b, g, p, _, rfl, B6.new np, .inl (.of upd_same), (fun e => nomatch e), by show 3 ≤ 100000; decide, fun j x H7 hj B7 => ?_⟩
        have hx : ∃ n : Int, x = .int n ∧ 2 ≤ n ∧ n ≤ 1000000 := by
          match j, hj with
          | 0, hj => exact ⟨1000000, (Option.some.inj hj).symm, by decide, by decide⟩
          | 1, hj => exact ⟨999999, (Option.some.inj hj).symm, by decide, by decide⟩
          | 2, hj => exact ⟨2 + z, (Option.some.inj hj).symm, by omega, by omega⟩
        obtain ⟨n, rfl, hn⟩ := hx
        exact hq n H7 hn (B7.less (same_new (B6.sub.free np)))
      · intro ms H4 hl hm B5
        exact ⟨D, _, rfl, .inl ⟨.of (B5.sub _ _ upd_same), fin ms D H4 ⟨by omega, by omega, hm⟩ B5 (B2.sub.free hD)⟩⟩
    -- way == 3
    refine ⟨_, rfl, rfl, _, rfl, ite2 (fun _ => ?_) (fun _ => ?_)⟩
    · refine ⟨10, rfl, by decide, by decide, fun D hD => ?_⟩
      refine lc_drawn (fun n => 2 ≤ n ∧ n ≤ 1000000) B2 hD (by decide) (fun x => rfl) ?_ ?_
      · intro i H4 H5 Q' hi s4 B5 hq
        refine ⟨_, rfl, H4, b, g, 30, rfl, B5, dr _ (by decide) (by decide), fun z H6 z0 z1 B6 => ?_⟩
        exact ⟨_, _, rfl, rfl, hq _ _ ⟨by omega, by omega⟩ B6⟩
      · intro ms H4 hl hm B5
        have hl' : ms.length = 10 := hl
        exact ⟨D, _, rfl, .inl ⟨.of (B5.sub _ _ upd_same), fin ms D H4 ⟨by omega, by omega, hm⟩ B5 (B2.sub.free hD)⟩⟩
    -- else
    refine ⟨_, rfl, _, rfl, by omega, by omega, fun D hD => ?_⟩
    refine lc_drawn (fun n => 2 ≤ n ∧ n ≤ 1000000) B2 hD (by omega) (fun x => rfl) ?_ ?_
    · intro i H4 H5 Q' hi s4 B5 hq
      refine ⟨_, rfl, H4, b, g, 11, rfl, B5, dr _ (by decide) (by decide), fun z H6 z0 z1 B6 => ?_⟩
      exact ⟨_, _, rfl, rfl, hq _ _ ⟨by omega, by omega⟩ B6⟩
    · intro ms H4 hl hm B5
      exact ⟨D, _, rfl, .inl ⟨.of (B5.sub _ _ upd_same), fin ms D H4 ⟨by omega, by omega, hm⟩ B5 (B2.sub.free hD)⟩⟩
theorem ok__law_spoilt (T : Txt K mg a) : FnOk P w K mg base CX0 3 a.f__law_spoilt a.d__law_spoilt ["box", "row", "odd"] (sp__law_spoilt K) := by
  have G__law_draw : FnOk P w K mg base CX0 1 a.f__law_draw a.d__law_draw ["box", "many"] (sp__law_draw K) := ok__law_draw T
  have G__law_pick : FnOk P w K mg base CX0 2 a.f__law_pick a.d__law_pick ["box", "items"] (sp__law_pick K) := ok__law_pick T
  refine T._law_spoilt.F.ok sc__law_spoilt (fun vs H Q E h => ?_) (fun cdv A outer s H vs Q E hr h => ?_)
  · obtain ⟨_, _, _, _, _, _, _, _, _, _, rfl, _⟩ := h
    rfl
  · have hu := hu_of hr
    obtain ⟨G, F, b, g, w, o, ds, odds, zs, n, rfl, B, sg, hw, d1, ok, n8, eo, hO, okO, o1, o2, q⟩ := h
    have hlen := ok.len
    have dr : ∀ m : Int, 0 < m → m < 2 ^ 60 → Small m := fun m h0 h1 => small_of h0 h1
    obtain ⟨_, xs, e, hx, hds⟩ := tup_in hw
    cases e
    have hl := dta_len hds
    have wK : ∀ {G' F' H' : Hp}, Kn G F G' F' H' b g → Dt K G' (.ref w) (.tuple ds) := fun k => Sx.dt_same k.sG _ _ hw
    have xT : ∀ {G' F' H' : Hp}, Kn G F G' F' H' b g → SqT K H' w xs := fun k => Sx.Same.tup (k.sG.trans (k.s.trans k.B.sub)) hx
    refine ⟨_, (pss_cons (ps_par (i := 3) (j := 4) (by rfl) sc__law_spoilt.nd rfl rfl (by decide) rfl rfl (pa_cons (pe_call G__law_draw (hr.mono (by decide)) (by rfl) T._law_draw.m T._law_draw.F.kp T._law_draw.b .nil pass0 (pa_cons (pv 0) (pa_cons pe_int pa_nil))) (pa_cons (pe_call G__law_draw (hr.mono (by decide)) (by rfl) T._law_draw.m T._law_draw.F.kp T._law_draw.b .nil pass0 (pa_cons (pv 0) (pa_cons (pe_callB (show CallR _ _ (rLenS K) from call_len_seq) (by rfl) T.b_len (by decide +kernel) (pa_cons (pv 1) pa_nil)) pa_nil))) pa_nil)) (by rfl))
      (pss_cons (ps_if (pt_cmpR op_lt (pv 3) pe_int (nomark _)) (pss_one (ps_ret (pe_op (show OpR _ _ (rCatA K) from op_catA) (pe_op (show OpR _ _ (rCatA K) from op_catA) (pe_slice (show SlR _ (rSlA K) from sl_tupA) (pv 1) po_none (po_some (pv 4))) (pe_tup (pa_cons (pe_call G__law_pick hr (by rfl) T._law_pick.m T._law_pick.F.kp T._law_pick.b .nil pass0 (pa_cons (pv 0) (pa_cons (pv 2) pa_nil))) pa_nil))) (pe_slice (show SlR _ (rSlA K) from sl_tupA) (pv 1) (po_some (pe_op op_add (pv 4) pe_int)) po_none)))) pss_nil)
      (pss_one (ps_ret (pe_ix (show IxR _ (rIx K) from ix_seq) (pe_lst (pa_cons (pe_callTy (show CallR _ _ (rListS K) from call_list_of) (by rfl) T.b_list (by decide +kernel) (pa_cons (pv 1) pa_nil)) (pa_cons (pe_slice (show SlR _ (rSlA K) from sl_tupA) (pv 1) po_none (po_some (pe_un un_neg pe_int))) (pa_cons (pe_op (show OpR _ _ (rCatA K) from op_catA) (pv 1) (pe_slice (show SlR _ (rSlA K) from sl_tupA) (pv 1) (po_some (pv 4)) (po_some (pe_op op_add (pv 4) pe_int)))) pa_nil)))) (pe_op op_sub (pv 3) pe_int) (fun _ _ => rfl)))))), ?_⟩
    refine ⟨_, rfl, F, b, g, 8, rfl, B, dr _ (by decide) (by decide), fun way H1 w0 w1 B1 => ⟨_, rfl, _, rfl, w, xs, rfl, .inr (xT (Kn.start B1 sg)), F, b, g, _, rfl, B1, dr _ (by omega) (by omega), fun spot H2 q0 q1 B2 => ⟨_, _, rfl, ?_⟩⟩⟩
    have k0 : Kn G F G F H2 b g := Kn.start B2 sg
    refine ⟨_, rfl, _, _, rfl, rfl, _, rfl, ite2 (fun _ => ?_) (fun h5 => ?_)⟩
    · refine ⟨_, rfl, _, rfl, _, rfl, sl_k k0 hw fun u1 G3 F3 H7 s3 d3 k3 => ?_⟩
      have hO3 := Sx.dta_same s3 _ _ hO
      refine ⟨_, rfl, _, rfl, F3, b, g, o, zs, rfl, k3.B, .inl (.of (k3.sF _ _ eo)), ?_, ?_, fun i x H8 hx8 B8 => ⟨by show 1 ≤ sizeLine; decide, fun u2 nu2 => ?_⟩⟩
      · rintro rfl
        cases hO
        exact absurd o1 (by decide)
      · rw [dta_len hO]
        omega
      obtain ⟨hi, hdx⟩ := dta_val hO3 hx8
      have okx := okO _ (List.mem_of_getElem? (getD_some PyData.none hi))
      obtain ⟨k5, s5, e5⟩ := newK (k3.draw B8) nu2 (.tup [x])
      have c1 := ok.cut none (some spot)
      have c2 := c1.app (OkAll.one okx)
      have c3 := ok.cut (some (spot + 1)) none
      refine cat_k k5 (dt_same s5 _ _ d3) (.tup (.of e5) (.cons (dt_same s5 _ _ hdx) .nil)) (by have := c1.len; rw [List.length_singleton]; omega) fun u3 G6 F6 H9 s6 d6 k6 => ?_
      refine ⟨_, rfl, _, rfl, _, _, rfl, rfl, _, rfl, ?_⟩
      refine noPart ?_
      refine sl_k k6 (wK k6) fun u4 G7 F7 H10 s7 d7 k7 => ?_
      refine cat_k k7 (dt_same s7 _ _ d6) d7 (by have := c2.len; have := c3.len; omega) fun u5 G8 F8 H11 s8 d8 k8 => ?_
      exact q _ _ G8 F8 H11 k8 d8 ((c2.app c3).tup.ge (by omega) (by decide))
    have h5 : ¬ way < 5 := fun z => h5 (decide_eq_true z)
    refine ⟨_, rfl, w, xs, rfl, .inr (xT k0), fun l1 m1 => ?_⟩
    obtain ⟨k1, s1, e1⟩ := newK k0 m1 (.lst xs)
    refine ⟨_, rfl, 1, rfl, _, rfl, sl_k k1 (wK k1) fun u1 G3 F3 H7 s3 d3 k3 => ?_⟩
    refine ⟨_, rfl, _, rfl, _, rfl, _, rfl, _, rfl, _, _, rfl, rfl, _, rfl, sl_k k3 (wK k3) fun u2 G4 F4 H8 s4 d4 k4 => ?_⟩
    have c1 := ok.cut none (some (-1))
    have c2 := ok.cut (some spot) (some (spot + 1))
    refine cat_k k4 (wK k4) d4 (by have := c2.len; omega) fun u3 G5 F5 H9 s5 d5 k5 => ?_
    refine ⟨by show 3 ≤ sizeLine; decide, fun l2 m2 => ?_⟩
    have k6 := k5.newL m2 (.lst [.ref l1, .ref u1, .ref u3])
    have e6 := k6.1.B.sub _ _ k6.2.1
    refine ⟨_, rfl, _, _, rfl, rfl, ?_⟩
    have s15 := s3.trans (s4.trans s5)
    have ways : way = 5 ∨ way = 6 ∨ way = 7 := by omega
    rcases ways with rfl | rfl | rfl
    · refine .inl ⟨l2, _, _, _, rfl, rfl, .of e6, atI_nat (j := 0) rfl, q _ _ _ _ _ k6.1 (.lst (.of (s15 _ _ e1)) (Sx.dta_same (s1.trans s15) _ _ hds)) ((ok.lst).ge (by omega) (by decide))⟩
    · refine .inl ⟨l2, _, _, _, rfl, rfl, .of e6, atI_nat (j := 1) rfl, q _ _ _ _ _ k6.1 (Sx.dt_same (s4.trans s5) _ _ d3) ((c1.tup).ge (by omega) (by decide))⟩
    · refine .inl ⟨l2, _, _, _, rfl, rfl, .of e6, atI_nat (j := 2) rfl, q _ _ _ _ _ k6.1 d5 (((ok.app c2).tup).ge (by omega) (by decide))⟩
theorem ok_stretch_error (T : Txt K mg a) : FnOk P w K mg base CX0 4 a.f_stretch_error a.d_stretch_error ["value"] (sp_stretch_error K) := by
  have G_is_number : FnOk P w K mg base CX0 3 a.f_is_number a.d_is_number ["value"] (sp_is_number K) := ok_is_number T
  refine T.stretch_error.F.ok sc_stretch_error (fun vs H Q E h => ?_) (fun cdv A outer s H vs Q E hr h => ?_)
  · obtain ⟨_, _, rfl, _⟩ := h
    rfl
  · have hu := hu_of hr
    obtain ⟨v, d, rfl, hd, q⟩ := h
    refine ⟨_, (pss_cons (ps_if (PW.pt (pw_or (pt_not (pt_val (pe_callB (show CallR _ _ (rIsi K) from call_isi) (by rfl) T.b_isinstance (by decide +kernel) (pa_cons (pv 0) (pa_cons (pe_bltn (v := .ty "tuple") rfl T.b_tuple (by decide +kernel) rfl) pa_nil))))) (pw_or1 (pt_cmpR op_ne (pe_callB (show CallR _ _ (rLenS K) from call_len_seq) (by rfl) T.b_len (by decide +kernel) (pa_cons (pv 0) pa_nil)) pe_int (nomark _))))) (pss_one (ps_ret pe_str)) pss_nil)
      (pss_cons (ps_asg (pv 0) (show PG _ _ (gTup K 2 _) from pg_tup rfl (pgs_cons (pg_name (i := 1) sc_stretch_error.nd rfl (by first | exact Or.inl rfl | exact Or.inr rfl)) (pgs_cons (pg_name (i := 2) sc_stretch_error.nd rfl (by first | exact Or.inl rfl | exact Or.inr rfl)) pgs_nil))))
      (pss_cons (ps_if (PW.pt (pw_or (pt_not (pt_val (pe_call G_is_number hr (by rfl) T.is_number.m T.is_number.F.kp T.is_number.b .nil pass0 (pa_cons (pv 1) pa_nil)))) (pw_or1 (pt_not (pt_val (pe_call G_is_number hr (by rfl) T.is_number.m T.is_number.F.kp T.is_number.b .nil pass0 (pa_cons (pv 2) pa_nil))))))) (pss_one (ps_ret pe_str)) pss_nil)
      (pss_cons (ps_if (pt_cmpR op_gt (pv 1) (pv 2) (nomark _)) (pss_one (ps_ret pe_str)) pss_nil)
      (pss_one (ps_ret pe_non)))))), ?_⟩
    refine ⟨_, rfl, _, _, _, _, _, rfl, .ty _, tyx_of hd, kit_ty (kit_tuple d), _, rfl, ?_⟩
    cases hd with
    | int i => exact iteT (q _ _ (Same.refl _) (.str _))
    | bl b => exact iteT (q _ _ (Same.refl _) (.str _))
    | non => exact iteT (q _ _ (Same.refl _) (.str _))
    | str x => exact iteT (q _ _ (Same.refl _) (.str _))
    | lst _ _ => exact iteT (q _ _ (Same.refl _) (.str _))
    | dct _ => exact iteT (q _ _ (Same.refl _) (.str _))
    | @tup w xs ds e ha =>
      have hl := dta_len ha
      refine iteF ⟨_, rfl, w, xs, rfl, .inr e, rfl, _, rfl, ?_⟩
      by_cases h2 : ds.length = 2
      · obtain ⟨x, y, dx, dy, rfl, rfl, rx, ry⟩ := dta_two ha h2
        refine iteF ⟨_, rfl, w, _, rfl, e, rfl, _, _, rfl, _, _, rfl, rfl, ?_⟩
        refine ⟨_, rfl, x, dx, rfl, rx, _, rfl, ?_⟩
        cases n1 : numD dx with
        | false =>
          refine iteT (q _ _ (Same.refl _) ?_)
          rw [stretch_bad (.inl n1)]
          exact .str _
        | true =>
          refine iteF ⟨_, rfl, y, dy, rfl, ry, _, rfl, ?_⟩
          cases n2 : numD dy with
          | false =>
            refine iteT (q _ _ (Same.refl _) ?_)
            rw [stretch_bad (.inr n2)]
            exact .str _
          | true =>
            obtain ⟨i, rfl, _⟩ := within_num n1
            obtain ⟨j, rfl, _⟩ := within_num n2
            cases rx
            cases ry
            rw [stretch_good n1 n2] at q
            refine iteF ⟨_, rfl, _, rfl, _, _, rfl, rfl, _, rfl, ?_⟩
            by_cases hlt : j < i
            · rw [if_pos hlt] at q
              rw [decide_eq_true hlt]
              exact iteT (q _ _ (Same.refl _) (.str _))
            · rw [if_neg hlt] at q
              rw [decide_eq_false hlt]
              exact iteF (q _ _ (Same.refl _) .non)
      · have hne : decide (V.int (xs.length : Nat) = V.int 2) = false := decide_eq_false fun z => h2 (by
          have := V.int.inj z
          omega)
        rw [hne]
        refine iteT (q _ _ (Same.refl _) ?_)
        rw [stretch_not2 h2]
        exact .str _
theorem ok__law_are_told (T : Txt K mg a) : FnG P w K mg base CX0 5 a.f__law_are_told a.d__law_are_told ["box", "name", "machine", "things"] (sp__law_are_told K) := by
  have G__law_of_stretch : FnOk P w K mg base CX0 2 a.f__law_of_stretch a.d__law_of_stretch ["thing"] (sp__law_of_stretch K) := ok__law_of_stretch T
  have G__law_of_machine : FnOk P w K mg base CX0 2 a.f__law_of_machine a.d__law_of_machine ["thing"] (sp__law_of_machine K) := ok__law_of_machine T
  have G__law_of_word : FnOk P w K mg base CX0 2 a.f__law_of_word a.d__law_of_word ["machine", "thing"] (sp__law_of_word K) := ok__law_of_word T
  have G_machine_error : FnOk P w K mg base CX0 3 a.f_machine_error a.d_machine_error ["value"] (sp_machine_error K) := ok_machine_error T
  have G_word_error : FnOk P w K mg base CX0 3 a.f_word_error a.d_word_error ["machine", "value"] (sp_word_error K) := ok_word_error T
  have G_stretch_error : FnOk P w K mg base CX0 4 a.f_stretch_error a.d_stretch_error ["value"] (sp_stretch_error K) := ok_stretch_error T
  refine Sx.okG T._law_are_told.F sc__law_are_told (fun vs H Q E h => ?_) (fun cdv A outer s H vs Q E hg hr h => ?_)
  · obtain ⟨_, _, _, _, _, _, _, rfl, _⟩ := h
    rfl
  · have hu := hu_of hr
    obtain ⟨bx, name, t, l, ns, ws, ds, rfl, hT, ten, hl, hds, okd, q⟩ := h
    refine ⟨_, (pss_cons (ps_for PassesOwn.never rfl (show PI _ _ _ (iEnum K _) from pi_enum (by rfl) T.b_enumerate (pa_cons (pv 3) pa_nil)) (show PG _ _ (gTup K 2 _) from pg_tup rfl (pgs_cons (pg_name (i := 4) sc__law_are_told.nd rfl (by first | exact Or.inl rfl | exact Or.inr rfl)) (pgs_cons (pg_name (i := 5) sc__law_are_told.nd rfl (by first | exact Or.inl rfl | exact Or.inr rfl)) pgs_nil))) (pss_cons (ps_par (i := 6) (j := 7) (by rfl) sc__law_are_told.nd rfl rfl (by decide) rfl rfl (pa_cons (pe_callB (show CallR _ _ (rShowD K) from call_showD hg hr.units) (by rfl) T.b_repr (by decide +kernel) (pa_cons (pv 5) pa_nil)) (pa_cons (pe_call G__law_of_stretch (hr.mono (by decide)) (by rfl) T._law_of_stretch.m T._law_of_stretch.F.kp T._law_of_stretch.b .nil pass0 (pa_cons (pv 5) pa_nil)) pa_nil)) (by rfl))
        (Evl.pss_cut (ps_if (pt_cmpR op_eq (pv 1) pe_str (nomark _)) (pss_one (ps_par (i := 8) (j := 7) (by rfl) sc__law_are_told.nd rfl rfl (by decide) rfl rfl (pa_cons (pe_lst (pa_cons (pe_call G_machine_error (hr.mono (by decide)) (by rfl) T.machine_error.m T.machine_error.F.kp T.machine_error.b .nil pass0 (pa_cons (pv 5) pa_nil)) (pa_cons (pe_callKs G_machine_error (hr.mono (by decide)) (by rfl) T.machine_error.m T.machine_error.F.kp (kb_machine_error_value T) pass0 (pk_cons (pv 5) pk_nil)) pa_nil))) (pa_cons (pe_call G__law_of_machine (hr.mono (by decide)) (by rfl) T._law_of_machine.m T._law_of_machine.F.kp T._law_of_machine.b .nil pass0 (pa_cons (pv 5) pa_nil)) pa_nil)) (by rfl))) (pss_one (ps_if (pt_cmpR op_eq (pv 1) pe_str (nomark _)) (pss_cons (ps_set (i := 8) sc__law_are_told.nd rfl (by first | exact Or.inl rfl | exact Or.inr rfl) (pe_lst (pa_cons (pe_call G_word_error (hr.mono (by decide)) (by rfl) T.word_error.m T.word_error.F.kp T.word_error.b .nil pass0 (pa_cons (pv 2) (pa_cons (pv 5) pa_nil))) (pa_cons (pe_callKs G_word_error (hr.mono (by decide)) (by rfl) T.word_error.m T.word_error.F.kp (kb_word_error_value_machine T) pass0 (pk_cons (pv 5) (pk_cons (pv 2) pk_nil))) pa_nil))))
            (pss_one (ps_set (i := 7) sc__law_are_told.nd rfl (by first | exact Or.inl rfl | exact Or.inr rfl) (pe_call G__law_of_word (hr.mono (by decide)) (by rfl) T._law_of_word.m T._law_of_word.F.kp T._law_of_word.b .nil pass0 (pa_cons (pv 2) (pa_cons (pv 5) pa_nil)))))) (pss_one (ps_set (i := 8) sc__law_are_told.nd rfl (by first | exact Or.inl rfl | exact Or.inr rfl) (pe_lst (pa_cons (pe_call G_stretch_error hr (by rfl) T.stretch_error.m T.stretch_error.F.kp T.stretch_error.b .nil pass0 (pa_cons (pv 5) pa_nil)) (pa_cons (pe_callKs G_stretch_error hr (by rfl) T.stretch_error.m T.stretch_error.F.kp (kb_stretch_error_value T) pass0 (pk_cons (pv 5) pk_nil)) pa_nil))))))))
        (pss_one (ps_if (PW.pt (pw_or (pt_cmpR op_ne (pe_callB (show CallR _ _ (rShowD K) from call_showD hg hr.units) (by rfl) T.b_repr (by decide +kernel) (pa_cons (pv 8) pa_nil)) (pe_callB (show CallR _ _ (rShowD K) from call_showD hg hr.units) (by rfl) T.b_repr (by decide +kernel) (pa_cons (pe_lst (pa_cons (pv 7) (pa_cons (pv 7) pa_nil))) pa_nil)) (nomark _)) (pw_or1 (pt_cmpR op_ne (pe_callB (show CallR _ _ (rShowD K) from call_showD hg hr.units) (by rfl) T.b_repr (by decide +kernel) (pa_cons (pv 5) pa_nil)) (pv 6) (nomark _))))) (pss_one (ps_ret pe_bl)) pss_nil)))))
      (pss_one (ps_ret pe_bl))), ?_⟩
    refine ⟨_, rfl, l, ws, rfl, .of hl, ?_⟩
    refine for_it (walk_enum (xs := ws)) (fun i σ H' => ∃ v4 v5 v6 v7 v8 : Option V, σ = [some bx, some (.str name), some (.ref t), some (.ref l), v4, v5, v6, v7, v8] ∧ Same H H')
      ⟨none, none, none, none, none, rfl, Same.refl _⟩ (fun i σ H' _ ⟨_, _, _, _, _, _, s⟩ => .of (s _ _ hl)) ?_ ?_
    rotate_left
    · rintro σ H' ⟨v4, v5, v6, v7, v8, rfl, s1⟩
      exact q _ s1
    rintro i x σ Hi Hj hi ⟨v4, v5, v6, v7, v8, rfl, s1⟩ ⟨T1, x1, x, rfl, nT, rfl, f1, f2⟩
    cases f1
    obtain ⟨hi2, hx0⟩ := dta_val hds f2
    have oth := okd _ (List.mem_of_getElem? (getD_some PyData.none hi2))
    generalize ds.getD i .none = d at hx0 oth
    have s2 := s1.trans (same_new (o := .tup [.int (i : Nat), x]) nT)
    refine ⟨T1, _, rfl, .of upd_same, rfl, _, _, rfl, _, _, rfl, rfl, ?_⟩
    generalize upd Hi T1 _ = H2 at s2 ⊢
    have ths : Shows d := oth.shows (by decide) (by decide)
    refine ⟨_, rfl, x, d, rfl, Sx.dt_same s2 _ _ hx0, ths, _, rfl, x, d, rfl, Sx.dt_same s2 _ _ hx0, fun due0 H3 s3 hd0 => ⟨_, _, rfl, ?_⟩⟩
    have s4 := s2.trans s3
    -- told, due
    refine ⟨fun σ H' => ∃ (tl : Addr) (a c due : V) (f : PyData), σ = [some bx, some (.str name), some (.ref t), some (.ref l), some (.int (i : Nat)), some x, some (.str d.shown), some due, some (.ref tl)] ∧ Same H H' ∧ Ok 20 3 f ∧ H' tl = some (.lst [a, c]) ∧ Dt K H' a f ∧ Dt K H' c f ∧ Dt K H' due f, ?_, ?_⟩
    · have dX : ∀ {H' : Hp}, Same H3 H' → Dt K H' x d := fun s => Sx.dt_same (s4.trans s) _ _ hx0
      have tX : ∀ {H' : Hp}, Same H3 H' → SqT K H' t (ns.map V.int) := fun s => Sx.Same.tup (s4.trans s) hT
      refine ⟨_, rfl, rfl, _, rfl, ite2 (fun _ => ?_) (fun _ => ⟨_, rfl, rfl, _, rfl, ite2 (fun _ => ?_) (fun _ => ?_)⟩)⟩
      · refine ⟨_, rfl, x, d, rfl, dX (Same.refl _), fun a Ha sa da => ⟨_, rfl, x, d, rfl, dX sa, fun c Hc sc dc => ⟨by show 2 ≤ sizeLine; decide, fun tl ntl => ?_⟩⟩⟩
        have sl := same_new (o := .lst [a, c]) ntl
        refine ⟨_, rfl, x, d, rfl, dX (sa.trans (sc.trans sl)), fun due Hd sd dd => ⟨_, _, rfl, ?_⟩⟩
        exact ⟨tl, a, c, due, machD d, rfl, s4.trans (sa.trans (sc.trans (sl.trans sd))), mach_ok d, sd _ _ upd_same, Sx.dt_same (sc.trans (sl.trans sd)) _ _ da, Sx.dt_same (sl.trans sd) _ _ dc, dd⟩
      · refine ⟨_, rfl, _, rfl, t, x, ns, d, rfl, tX (Same.refl _), dX (Same.refl _), fun a Ha sa da => ⟨_, rfl, _, rfl, t, x, ns, d, rfl, tX sa, dX sa, fun c Hc sc dc => ⟨by show 2 ≤ sizeLine; decide, fun tl ntl => ?_⟩⟩⟩
        have sl := same_new (o := .lst [a, c]) ntl
        refine ⟨_, rfl, _, rfl, t, x, ns, d, rfl, tX (sa.trans (sc.trans sl)), dX (sa.trans (sc.trans sl)), fun due Hd sd dd => ?_⟩
        exact ⟨tl, a, c, due, wordD ns d, rfl, s4.trans (sa.trans (sc.trans (sl.trans sd))), word_ok ten d, sd _ _ upd_same, Sx.dt_same (sc.trans (sl.trans sd)) _ _ da, Sx.dt_same (sl.trans sd) _ _ dc, dd⟩
      · refine ⟨_, rfl, x, d, rfl, dX (Same.refl _), fun a Ha sa da => ⟨_, rfl, x, d, rfl, dX sa, fun c Hc sc dc => ⟨by show 2 ≤ sizeLine; decide, fun tl ntl => ?_⟩⟩⟩
        have sl := same_new (o := .lst [a, c]) ntl
        exact ⟨tl, a, c, due0, stretchD d, rfl, s4.trans (sa.trans (sc.trans sl)), stretch_ok d, upd_same, Sx.dt_same (sc.trans sl) _ _ da, Sx.dt_same sl _ _ dc, Sx.dt_same (sa.trans (sc.trans sl)) _ _ hd0⟩
    rintro σ H5 ⟨tl, a', c, due, f, rfl, s5, okf, etl, ha, hc, hdue⟩
    have two : Shows (.list [f, f]) := Ok.shows (n := 1 + (20 + 20)) (k := 3 + 1) (OkAll.cons okf (OkAll.one okf)).lst (by decide) (by decide)
    refine ⟨_, rfl, _, _, rfl, .lst (.of etl) (.cons ha (.cons hc .nil)), two, _, rfl, _, rfl, by show 2 ≤ sizeLine; decide, fun l2 n2 => ?_⟩
    have s6 := same_new (o := .lst [due, due]) n2
    have hd6 := Sx.dt_same s6 _ _ hdue
    refine ⟨_, _, rfl, .lst (.of upd_same) (.cons hd6 (.cons hd6 .nil)), two, rfl, _, rfl, ?_⟩
    rw [decide_eq_true rfl]
    refine iteF ⟨_, rfl, x, d, rfl, Sx.dt_same (s5.trans s6) _ _ hx0, ths, _, rfl, rfl, _, rfl, ?_⟩
    rw [decide_eq_true rfl]
    exact iteF ⟨_, _, _, _, _, rfl, s5.trans s6⟩
theorem ok_law (T : Txt K mg a) : FnG P w K mg base CX0 6 a.f_law a.d_law ["script"] (sp_law K) := by
  have G__law_box : FnOk P w K mg base CX0 1 a.f__law_box a.d__law_box ["script"] (sp__law_box K) := ok__law_box T
  have G__law_machine : FnOk P w K mg base CX0 3 a.f__law_machine a.d__law_machine ["box"] (sp__law_machine K) := ok__law_machine T
  have G__law_spoilt : FnOk P w K mg base CX0 3 a.f__law_spoilt a.d__law_spoilt ["box", "row", "odd"] (sp__law_spoilt K) := ok__law_spoilt T
  have G__law_draw : FnOk P w K mg base CX0 1 a.f__law_draw a.d__law_draw ["box", "many"] (sp__law_draw K) := ok__law_draw T
  have G__law_are_told : FnG P w K mg base CX0 5 a.f__law_are_told a.d__law_are_told ["box", "name", "machine", "things"] (sp__law_are_told K) := ok__law_are_told T
  have G__law_pick : FnOk P w K mg base CX0 2 a.f__law_pick a.d__law_pick ["box", "items"] (sp__law_pick K) := ok__law_pick T
  have G__law_number : FnOk P w K mg base CX0 3 a.f__law_number a.d__law_number ["box"] (sp__law_number K) := ok__law_number T
  refine Sx.okG T.law.F sc_law (fun vs H Q E h => ?_) (fun cdv A outer s H vs Q E hg hr h => ?_)
  · obtain ⟨_, _, rfl, _⟩ := h
    rfl
  · have hu := hu_of hr
    obtain ⟨s0, xs0, rfl, hS, hlen, q⟩ := h
    refine ⟨_, (pss_cons (ps_set (i := 1) sc_law.nd rfl (by first | exact Or.inl rfl | exact Or.inr rfl) (pe_call G__law_box (hr.mono (by decide)) (by rfl) T._law_box.m T._law_box.F.kp T._law_box.b .nil pass0 (pa_cons (pv 0) pa_nil)))
      (pss_cons (ps_set (i := 2) sc_law.nd rfl (by first | exact Or.inl rfl | exact Or.inr rfl) (pe_lst (pa_cons pe_non (pa_cons pe_int (pa_cons pe_bl (pa_cons pe_bl (pa_cons pe_str (pa_cons (pe_tup pa_nil) (pa_cons (pe_lst pa_nil) (pa_cons pe_dnewK (pa_cons (pe_tup (pa_cons pe_non pa_nil)) (pa_cons (pe_tup (pa_cons (pe_tup (pa_cons pe_int (pa_cons pe_int pa_nil))) pa_nil)) (pa_cons pe_int (pa_cons pe_str (pa_cons (pe_tup (pa_cons pe_int (pa_cons (pe_lst (pa_cons pe_int pa_nil)) pa_nil))) pa_nil)))))))))))))))
      (pss_cons (ps_for PassesOwn.never rfl (pi_range1 rfl T.b_range (pa_cons pe_int pa_nil)) (pg_name (i := 3) sc_law.nd rfl (by first | exact Or.inl rfl | exact Or.inr rfl)) (pss_cons (ps_set (i := 4) sc_law.nd rfl (by first | exact Or.inl rfl | exact Or.inr rfl) (pe_call G__law_machine (hr.mono (by decide)) (by rfl) T._law_machine.m T._law_machine.F.kp T._law_machine.b .nil pass0 (pa_cons (pv 1) pa_nil)))
        (pss_cons (ps_set (i := 5) sc_law.nd rfl (by first | exact Or.inl rfl | exact Or.inr rfl) (pe_lst (pa_cons pe_int (pa_cons pe_int (pa_cons (pe_un un_neg pe_int) (pa_cons pe_int (pa_cons (pe_op op_pow pe_int pe_int) (pa_cons (pe_op op_add (pe_op op_pow pe_int pe_int) pe_int) (pa_cons pe_bl (pa_cons pe_bl (pa_cons pe_non (pa_cons pe_str (pa_cons (pe_tup (pa_cons pe_int pa_nil)) (pa_cons (pe_lst (pa_cons pe_int pa_nil)) (pa_cons (pe_op op_pow pe_int pe_int) (pa_cons (pe_un un_neg (pe_op op_pow pe_int pe_int)) (pa_cons pe_dnewK pa_nil)))))))))))))))))
        (pss_cons (ps_set (i := 6) sc_law.nd rfl (by first | exact Or.inl rfl | exact Or.inr rfl) (pe_op (show OpR _ _ rCat from op_cat) (pe_op (show OpR _ _ rCat from op_cat) (pe_lst (pa_cons (pv 4) pa_nil)) (pe_lc (own := [("step", 10)]) rfl sc_law.nd (pi_range1 rfl T.b_range (pa_cons pe_int pa_nil)) (blkOk_by (N := ["script", "box", "other", "turn", "machine", "odd", "things", "twice", "lane", "word", "step", "low", "high", "modulus"]) (sc := defScope s_law) (by decide +kernel)) (fun _ _ _ _ _ => (pg_name (i := 10) sc_law.nd rfl (by first | exact Or.inl rfl | exact Or.inr rfl))) (fun _ _ _ _ _ => pts_nil) (fun _ _ _ _ _ => (pe_call G__law_spoilt (hr.mono (by decide)) (by rfl) T._law_spoilt.m T._law_spoilt.F.kp T._law_spoilt.b .nil pass0 (pa_cons (pv 1) (pa_cons (pv 4) (pa_cons (pv 5) pa_nil))))))) (pe_lst (pa_cons (pe_call G__law_pick (hr.mono (by decide)) (by rfl) T._law_pick.m T._law_pick.F.kp T._law_pick.b .nil pass0 (pa_cons (pv 1) (pa_cons (pv 2) pa_nil))) pa_nil))))
        (pss_cons (ps_set (i := 6) sc_law.nd rfl (by first | exact Or.inl rfl | exact Or.inr rfl) (pe_op (show OpR _ _ rCat from op_cat) (pv 6) (pe_lst (pa_cons (pe_op (show OpR _ _ (rRepAny K) from op_repAny) (pe_slice (show SlR _ (rSlA K) from sl_tupA) (pv 4) po_none (po_some pe_int)) pe_int) (pa_cons (pe_op (show OpR _ _ (rRepAny K) from op_repAny) (pe_slice (show SlR _ (rSlA K) from sl_tupA) (pv 4) po_none (po_some pe_int)) pe_int) (pa_cons (pe_op (show OpR _ _ (rRepZ K) from op_repZ) (pe_tup (pa_cons pe_int pa_nil)) (pe_call G__law_draw (hr.mono (by decide)) (by rfl) T._law_draw.m T._law_draw.F.kp T._law_draw.b .nil pass0 (pa_cons (pv 1) (pa_cons pe_int pa_nil)))) pa_nil))))))
        (pss_cons (ps_set (i := 7) sc_law.nd rfl (by first | exact Or.inl rfl | exact Or.inr rfl) (pe_call G__law_spoilt (hr.mono (by decide)) (by rfl) T._law_spoilt.m T._law_spoilt.F.kp T._law_spoilt.b .nil pass0 (pa_cons (pv 1) (pa_cons (pv 4) (pa_cons (pv 5) pa_nil)))))
        (pss_cons (ps_expr (show PE _ _ (tBM K "list" _ _ _) from pe_bm PySem.F.plainAttrs_list PySem.F.slot_list_append PySem.F.type_list_append mt_append (pv 6) (pa_cons (pe_cut (pe_ifExp (PW.pt (pw_and (pt_val (pe_callB (show CallR _ _ (rIsi K) from call_isi) (by rfl) T.b_isinstance (by decide +kernel) (pa_cons (pv 7) (pa_cons (pe_bltn (v := .ty "tuple") rfl T.b_tuple (by decide +kernel) rfl) pa_nil)))) (pw_and1 (pt_cmpR (show OpR _ _ (rNeNil K) from op_neNil hr.units) (pv 7) (pe_tup pa_nil) (nomark _))))) (pe_call G__law_spoilt (hr.mono (by decide)) (by rfl) T._law_spoilt.m T._law_spoilt.F.kp T._law_spoilt.b .nil pass0 (pa_cons (pv 1) (pa_cons (pv 7) (pa_cons (pv 5) pa_nil)))) (pv 7))) pa_nil)))
        (pss_cons (ps_if (pt_not (pt_val (pe_callG hg G__law_are_told hr (by rfl) T._law_are_told.m T._law_are_told.F.kp T._law_are_told.b pass0 (pa_cons (pv 1) (pa_cons pe_str (pa_cons (pv 4) (pa_cons (pv 6) pa_nil))))))) (pss_one (ps_ret pe_bl)) pss_nil)
        (pss_cons (ps_set (i := 8) sc_law.nd rfl (by first | exact Or.inl rfl | exact Or.inr rfl) (pe_call G__law_draw (hr.mono (by decide)) (by rfl) T._law_draw.m T._law_draw.F.kp T._law_draw.b .nil pass0 (pa_cons (pv 1) (pa_cons (pe_callB (show CallR _ _ (rLenS K) from call_len_seq) (by rfl) T.b_len (by decide +kernel) (pa_cons (pv 4) pa_nil)) pa_nil))))
        (pss_cons (ps_set (i := 9) sc_law.nd rfl (by first | exact Or.inl rfl | exact Or.inr rfl) (pe_callTy (show CallR _ _ (rTupS K) from call_tuple_of) (by rfl) T.b_tuple (by decide +kernel) (pa_cons (pe_lc (own := [("modulus", 13)]) rfl sc_law.nd (show PI _ _ _ (iSeq K _) from pi_seq (pv 4)) (blkOk_by (N := ["script", "box", "other", "turn", "machine", "odd", "things", "twice", "lane", "word", "step", "low", "high", "modulus"]) (sc := defScope s_law) (by decide +kernel)) (fun _ _ _ _ _ => (pg_name (i := 13) sc_law.nd rfl (by first | exact Or.inl rfl | exact Or.inr rfl))) (fun _ _ _ _ _ => pts_nil) (fun _ _ _ _ _ => (pe_call G__law_pick (hr.mono (by decide)) (by rfl) T._law_pick.m T._law_pick.F.kp T._law_pick.b .nil pass0 (pa_cons (pv 1) (pa_cons (pe_lst (pa_cons pe_non (pa_cons pe_int (pa_cons (pe_op op_sub (pv 13) pe_int) (pa_cons (pe_call G__law_draw (hr.mono (by decide)) (by rfl) T._law_draw.m T._law_draw.F.kp T._law_draw.b .nil pass0 (pa_cons (pv 1) (pa_cons (pv 13) pa_nil))) pa_nil))))) pa_nil))))) pa_nil)))
        (pss_cons (ps_set (i := 5) sc_law.nd rfl (by first | exact Or.inl rfl | exact Or.inr rfl) (pe_lst (pa_cons (pe_ix (show IxR _ (rIx K) from ix_seq) (pv 4) (pv 8) (fun _ _ => rfl)) (pa_cons (pe_op op_sub (pe_ix (show IxR _ (rIx K) from ix_seq) (pv 4) (pv 8) (fun _ _ => rfl)) pe_int) (pa_cons (pe_un un_neg pe_int) (pa_cons pe_bl (pa_cons pe_bl (pa_cons pe_non (pa_cons pe_str (pa_cons (pe_tup (pa_cons pe_int pa_nil)) (pa_cons (pe_lst (pa_cons pe_int pa_nil)) (pa_cons pe_int (pa_cons pe_int (pa_cons (pe_op op_pow pe_int pe_int) (pa_cons pe_dnewK pa_nil)))))))))))))))
        (pss_cons (ps_set (i := 6) sc_law.nd rfl (by first | exact Or.inl rfl | exact Or.inr rfl) (pe_op (show OpR _ _ rCat from op_cat) (pe_op (show OpR _ _ rCat from op_cat) (pe_lst (pa_cons (pv 9) pa_nil)) (pe_lc (own := [("step", 10)]) rfl sc_law.nd (pi_range1 rfl T.b_range (pa_cons pe_int pa_nil)) (blkOk_by (N := ["script", "box", "other", "turn", "machine", "odd", "things", "twice", "lane", "word", "step", "low", "high", "modulus"]) (sc := defScope s_law) (by decide +kernel)) (fun _ _ _ _ _ => (pg_name (i := 10) sc_law.nd rfl (by first | exact Or.inl rfl | exact Or.inr rfl))) (fun _ _ _ _ _ => pts_nil) (fun _ _ _ _ _ => (pe_call G__law_spoilt (hr.mono (by decide)) (by rfl) T._law_spoilt.m T._law_spoilt.F.kp T._law_spoilt.b .nil pass0 (pa_cons (pv 1) (pa_cons (pv 9) (pa_cons (pv 5) pa_nil))))))) (pe_lst (pa_cons (pe_op (show OpR _ _ (rRepAny K) from op_repAny) (pe_tup (pa_cons pe_non pa_nil)) (pe_callB (show CallR _ _ (rLenS K) from call_len_seq) (by rfl) T.b_len (by decide +kernel) (pa_cons (pv 4) pa_nil))) pa_nil))))
        (pss_cons (ps_set (i := 6) sc_law.nd rfl (by first | exact Or.inl rfl | exact Or.inr rfl) (pe_op (show OpR _ _ rCat from op_cat) (pv 6) (pe_lst (pa_cons (pv 4) (pa_cons (pe_callTy (show CallR _ _ (rListS K) from call_list_of) (by rfl) T.b_list (by decide +kernel) (pa_cons (pv 4) pa_nil)) pa_nil)))))
        (pss_cons (ps_if (pt_not (pt_val (pe_callG hg G__law_are_told hr (by rfl) T._law_are_told.m T._law_are_told.F.kp T._law_are_told.b pass0 (pa_cons (pv 1) (pa_cons pe_str (pa_cons (pv 4) (pa_cons (pe_op (show OpR _ _ rCat from op_cat) (pv 6) (pe_lst (pa_cons (pe_call G__law_pick (hr.mono (by decide)) (by rfl) T._law_pick.m T._law_pick.F.kp T._law_pick.b .nil pass0 (pa_cons (pv 1) (pa_cons (pv 2) pa_nil))) (pa_cons (pe_op (show OpR _ _ (rCatA K) from op_catA) (pv 9) (pv 9)) pa_nil)))) pa_nil))))))) (pss_one (ps_ret pe_bl)) pss_nil)
        (pss_cons (ps_asg (pe_callB (show CallR _ _ (rSortedI K) from cr_sortedI) (by rfl) T.b_sorted (by decide +kernel) (pa_cons (pe_lst (pa_cons (pe_call G__law_number (hr.mono (by decide)) (by rfl) T._law_number.m T._law_number.F.kp T._law_number.b .nil pass0 (pa_cons (pv 1) pa_nil)) (pa_cons (pe_call G__law_number (hr.mono (by decide)) (by rfl) T._law_number.m T._law_number.F.kp T._law_number.b .nil pass0 (pa_cons (pv 1) pa_nil)) pa_nil))) pa_nil)) (show PG _ _ (gLst K 2 _) from pg_lst rfl (pgs_cons (pg_name (i := 11) sc_law.nd rfl (by first | exact Or.inl rfl | exact Or.inr rfl)) (pgs_cons (pg_name (i := 12) sc_law.nd rfl (by first | exact Or.inl rfl | exact Or.inr rfl)) pgs_nil))))
        (pss_cons (ps_set (i := 5) sc_law.nd rfl (by first | exact Or.inl rfl | exact Or.inr rfl) (pe_lst (pa_cons (pe_op op_pow pe_int pe_int) (pa_cons (pe_un un_neg (pe_op op_pow pe_int pe_int)) (pa_cons (pe_op op_add (pe_op op_pow pe_int pe_int) pe_int) (pa_cons (pe_op op_sub (pe_un un_neg (pe_op op_pow pe_int pe_int)) pe_int) (pa_cons pe_bl (pa_cons pe_bl (pa_cons pe_non (pa_cons pe_str (pa_cons (pe_tup (pa_cons pe_int pa_nil)) (pa_cons (pe_lst (pa_cons pe_int pa_nil)) (pa_cons pe_int (pa_cons (pe_op op_add (pv 11) pe_int) pa_nil))))))))))))))
        (pss_cons (ps_set (i := 6) sc_law.nd rfl (by first | exact Or.inl rfl | exact Or.inr rfl) (pe_lst (pa_cons (pe_tup (pa_cons (pv 11) (pa_cons (pv 12) pa_nil))) (pa_cons (pe_tup (pa_cons (pv 12) (pa_cons (pv 11) pa_nil))) (pa_cons (pe_tup (pa_cons (pv 11) (pa_cons (pv 11) pa_nil))) (pa_cons (pe_tup (pa_cons (pv 11) (pa_cons (pe_op op_sub (pv 11) pe_int) pa_nil))) (pa_cons (pe_tup (pa_cons pe_int (pa_cons pe_int pa_nil))) (pa_cons (pe_tup (pa_cons pe_bl (pa_cons pe_int pa_nil))) (pa_cons (pe_tup (pa_cons pe_int (pa_cons pe_bl pa_nil))) pa_nil)))))))))
        (pss_cons (ps_for PassesOwn.never rfl (pi_range1 rfl T.b_range (pa_cons pe_int pa_nil)) (pg_name (i := 10) sc_law.nd rfl (by first | exact Or.inl rfl | exact Or.inr rfl)) (pss_one (ps_expr (show PE _ _ (tBM K "list" _ _ _) from pe_bm PySem.F.plainAttrs_list PySem.F.slot_list_append PySem.F.type_list_append mt_append (pv 6) (pa_cons (pe_call G__law_spoilt (hr.mono (by decide)) (by rfl) T._law_spoilt.m T._law_spoilt.F.kp T._law_spoilt.b .nil pass0 (pa_cons (pv 1) (pa_cons (pe_call G__law_pick (hr.mono (by decide)) (by rfl) T._law_pick.m T._law_pick.F.kp T._law_pick.b .nil pass0 (pa_cons (pv 1) (pa_cons (pe_lst (pa_cons (pe_tup (pa_cons (pv 11) (pa_cons (pv 12) pa_nil))) (pa_cons (pe_tup (pa_cons (pv 11) (pa_cons (pv 12) pa_nil))) (pa_cons (pe_tup (pa_cons (pv 12) (pa_cons (pv 11) pa_nil))) pa_nil)))) pa_nil))) (pa_cons (pv 5) pa_nil)))) pa_nil)))))
        (pss_cons (ps_expr (show PE _ _ (tBM K "list" _ _ _) from pe_bm PySem.F.plainAttrs_list PySem.F.slot_list_append PySem.F.type_list_append mt_append (pv 6) (pa_cons (pe_call G__law_pick (hr.mono (by decide)) (by rfl) T._law_pick.m T._law_pick.F.kp T._law_pick.b .nil pass0 (pa_cons (pv 1) (pa_cons (pv 2) pa_nil))) pa_nil)))
        (pss_one (ps_if (pt_not (pt_val (pe_callG hg G__law_are_told hr (by rfl) T._law_are_told.m T._law_are_told.F.kp T._law_are_told.b pass0 (pa_cons (pv 1) (pa_cons pe_str (pa_cons (pv 4) (pa_cons (pv 6) pa_nil))))))) (pss_one (ps_ret pe_bl)) pss_nil)))))))))))))))))))))
      (pss_one (ps_ret pe_bl))))), ?_⟩
    refine ⟨_, rfl, s0, xs0, rfl, hS, hlen, fun b g H1 B0 => ?_⟩
    have k0 : Kn H H H H H1 b g := Kn.start B0 (Same.refl H)
    -- other
    refine ⟨Nat.zero_le _, fun p1 n1 => ⟨Nat.zero_le _, fun p2 n2 => fun p3 n3 => ⟨by show 1 ≤ sizeLine; decide, fun p4 n4 => ⟨by show 2 ≤ sizeLine; decide, fun p5 n5 => ⟨by show 1 ≤ sizeLine; decide, fun p6 n6 => ⟨by show 1 ≤ sizeLine; decide, fun p7 n7 => ⟨by show 2 ≤ sizeLine; decide, fun p8 n8 => ⟨by show 13 ≤ sizeLine; decide, fun L0 n9 => ?_⟩⟩⟩⟩⟩⟩⟩⟩
    obtain ⟨c1, v1, x1⟩ := newK k0 n1 (.tup [])
    obtain ⟨c2, v2, x2⟩ := newK c1 n2 (.lst [])
    obtain ⟨c3, v3, x3⟩ := newK c2 n3 (.dK [])
    obtain ⟨c4, v4, x4⟩ := newK c3 n4 (.tup [.non])
    obtain ⟨c5, v5, x5⟩ := newK c4 n5 (.tup [.int 7, .int 11])
    obtain ⟨c6, v6, x6⟩ := newK c5 n6 (.tup [.ref p5])
    obtain ⟨c7, v7, x7⟩ := newK c6 n7 (.lst [.int 11])
    obtain ⟨c8, v8, x8⟩ := newK c7 n8 (.tup [.int 7, .ref p7])
    obtain ⟨c9, x9, y9, w9⟩ := c8.newL n9 (.lst [.non, .int 0, .bl true, .bl false, .str "7", .ref p1, .ref p2, .ref p3, .ref p4, .ref p6, .int 7, .str "7 11", .ref p8])
    have w7 := v8
    have w6 := v7.trans w7
    have w5 := v6.trans w6
    have w4 := v5.trans w5
    have w3 := v4.trans w4
    have w2 := v3.trans w3
    have w1 := v2.trans w2
    have hO : DtAll K _ [V.non, .int 0, .bl true, .bl false, .str "7", .ref p1, .ref p2, .ref p3, .ref p4, .ref p6, .int 7, .str "7 11", .ref p8] othersD :=
      .cons .non (.cons (.int _) (.cons (.bl _) (.cons (.bl _) (.cons (.str _) (.cons (.tup (.of (w1 _ _ x1)) .nil) (.cons (.lst (.of (w2 _ _ x2)) .nil) (.cons (.dct (w3 _ _ x3)) (.cons (.tup (.of (w4 _ _ x4)) (.cons .non .nil))
        (.cons (.tup (.of (w6 _ _ x6)) (.cons (.tup (.of (w5 _ _ x5)) (.cons (.int _) (.cons (.int _) .nil))) .nil)) (.cons (.int _) (.cons (.str _) (.cons (.tup (.of x8) (.cons (.int _) (.cons (.lst (.of (w7 _ _ x7)) (.cons (.int _) .nil)) .nil))) .nil))))))))))))
    generalize upd (upd (upd (upd (upd (upd (upd (upd (upd H1 p1 _) p2 _) p3 _) p4 _) p5 _) p6 _) p7 _) p8 _) L0 _ = HO at c9 ⊢
    obtain ⟨G, F, ovs, hO, eO, kO⟩ : ∃ G F vs, DtAll K G vs othersD ∧ F L0 = some (.lst vs) ∧ Kn H H G F HO b g := ⟨_, _, _, hO, x9, c9⟩
    clear c1 c2 c3 c4 c5 c6 c7 c8 c9 v1 v2 v3 v4 v5 v6 v7 v8 w1 w2 w3 w4 w5 w6 w7 w9 x1 x2 x3 x4 x5 x6 x7 x8 x9 y9
    have B1 := kO.B
    have sG := kO.s
    have hHF : Same H F := kO.sF
    refine ⟨3, rfl, by decide, by decide, for_range (lo := 0) (n := 3) (fun i σ H' => ∃ v3 v4 v5 v6 v7 v8 v9 v10 v11 v12 : Option V, σ = [some (.ref s0), some (.ref b), some (.ref L0), v3, v4, v5, v6, v7, v8, v9, v10, v11, v12, none] ∧ Bs F H' b g)
      ⟨none, none, none, none, none, none, none, none, none, none, rfl, B1⟩ ?_ ?_⟩
    rotate_left
    · rintro σ H' ⟨v3, v4, v5, v6, v7, v8, v9, v10, v11, v12, rfl, B1⟩
      exact q _
    clear B1 kO n1 n2 n3 n4 n5 n6 n7 n8 n9
    rintro turn σ H2 hturn ⟨v3, v4, v5, v6, v7, v8, v9, v10, v11, v12, rfl, B1⟩
    -- machine
    refine ⟨_, rfl, F, b, g, rfl, B1, fun ns t H3 hm t0 ht tb tg B2 => ?_⟩
    have k1 := (Kn.start B1 sG).own B2 t0 ht tb tg
    have hT1 : (upd G t (.tup (ns.map V.int))) t = some (.tup (ns.map V.int)) := upd_same
    generalize hG1 : upd G t (.tup (ns.map V.int)) = G1 at k1 hT1
    generalize hF1 : upd F t (.tup (ns.map V.int)) = F1 at k1
    have one := hm.one
    have ten := hm.ten
    have hM : Dt K G1 (.ref t) (.tuple (ns.map PyData.int)) := .tup (.of hT1) (dta_ints ns)
    have okM : OkAll 10 8 (ns.map PyData.int) := mach_okAll hm
    have gG1 : Same G G1 := k1.sG
    have mT : ∀ {G' F' H' : Hp}, Same G1 G' → Same G' F' → Bs F' H' b g → SqT K H' t (ns.map V.int) := fun s1 s2 B => .of ((s1.trans (s2.trans B.sub)) _ _ hT1)
    -- odd
    have big : 10 ^ 60 + 1 ≤ 10 ^ 120 := by decide +kernel
    refine ⟨1, rfl, 10, 6, rfl, rfl, ⟨by decide, by decide, by decide⟩, 10, 6, rfl, rfl, ⟨by decide, by decide, by decide⟩, _, _, rfl, rfl, by show 1 ≤ sizeLine; decide, fun p1 n1 => ⟨by show 1 ≤ sizeLine; decide, fun p2 n2 => ⟨10, 30, rfl, rfl, ⟨by decide, by decide, by decide⟩, 10, 6, rfl, rfl, ⟨by decide, by decide, by decide⟩, _, rfl, fun p3 n3 => ⟨by show 15 ≤ sizeLine; decide, fun L1 n4 => ?_⟩⟩⟩⟩
    obtain ⟨c1, w1, x1⟩ := newK k1 n1 (.tup [.int 7])
    obtain ⟨c2, w2, x2⟩ := newK c1 n2 (.lst [.int 7])
    obtain ⟨c3, w3, x3⟩ := newK c2 n3 (.dK [])
    obtain ⟨c4, x4, y4, w4⟩ := c3.newL n4 (.lst [.int 1, .int 0, .int (-1), .int 2, .int (10 ^ (6 : Int).toNat), .int (10 ^ (6 : Int).toNat + 1), .bl true, .bl false, .non, .str "7", .ref p1, .ref p2, .int (10 ^ (30 : Int).toNat), .int (-(10 ^ (6 : Int).toNat)), .ref p3])
    have hD1 : DtAll K _ [V.int 1, .int 0, .int (-1), .int 2, .int (10 ^ (6 : Int).toNat), .int (10 ^ (6 : Int).toNat + 1), .bl true, .bl false, .non, .str "7", .ref p1, .ref p2, .int (10 ^ (30 : Int).toNat), .int (-(10 ^ (6 : Int).toNat)), .ref p3] odds4 :=
      .cons (.int _) (.cons (.int _) (.cons (.int _) (.cons (.int _) (.cons (.int _) (.cons (.int _) (.cons (.bl _) (.cons (.bl _) (.cons .non (.cons (.str _) (.cons (.tup (.of ((w2.trans w3) _ _ x1)) (.cons (.int _) .nil)) (.cons (.lst (.of (w3 _ _ x2)) (.cons (.int _) .nil)) (.cons (.int _) (.cons (.int _) (.cons (.dct x3) .nil))))))))))))))
    have m1 : Same G1 _ := w1.trans (w2.trans w3)
    generalize upd (upd (upd (upd H3 p1 _) p2 _) p3 _) L1 _ = H4 at c4 ⊢
    obtain ⟨G2, F2, vs1, m1, hD1, e1, y1, k2⟩ : ∃ G2 F2 vs, Same G1 G2 ∧ DtAll K G2 vs odds4 ∧ F2 L1 = some (.lst vs) ∧ G2 L1 = none ∧ Kn G F G2 F2 H4 b g := ⟨_, _, _, m1, hD1, x4, y4, c4⟩
    clear c1 c2 c3 c4 w1 w2 w3 w4 x1 x2 x3 x4 y4 n1 n2 n3 n4
    have mO : ∀ {F' H' : Hp}, Same F F' → Bs F' H' b g → H' L0 = some (.lst ovs) := fun s B => B.sub _ _ (s _ _ eO)
    -- things: machine
    refine ⟨_, rfl, by show 1 ≤ sizeLine; decide, fun L2 n1 => ?_⟩
    obtain ⟨k3, e2, y2, w2⟩ := k2.newL n1 (.lst [.ref t])
    refine ⟨4, rfl, by decide, by decide, fun D hD => ?_⟩
    refine lc_drawnD (K := K) Thing k3.B k3.s hD (by decide) (fun x => rfl) ?_ ?_
    · intro i G3 F3 H6 Q2 hi t1 t2 t3 B3 q2
      refine ⟨_, rfl, _, rfl, _, rfl, G3, F3, b, g, t, L1, _, _, _, 10, rfl, B3, t3, Sx.dt_same (m1.trans t1) _ _ hM, by rw [List.length_map]; exact one, okM, by decide, (w2.trans t2) _ _ e1, Sx.dta_same t1 _ _ hD1, okAll_each odds4_ok, by decide, by decide, fun v d G4 F4 H7 k4 d4 o4 => ?_⟩
      exact q2 _ _ G4 F4 H7 (o4.ge (by decide) (by decide)) k4 d4
    intro ws ds4 G3 F3 H5 hl4 hR4 t1 t2 t3 gD eD hds4 B3
    have gS := m1.trans t1
    have fS := k3.sF.trans t2
    have hA : DtAll K G3 _ ([.tuple (ns.map PyData.int)] ++ ds4) := dta_app (vs := [.ref t]) (.cons (Sx.dt_same gS _ _ hM) .nil) hds4
    have hRA : ∀ d ∈ [PyData.tuple (ns.map PyData.int)] ++ ds4, Thing d := fun d h => (List.mem_append.mp h).elim (fun h => by rw [List.mem_singleton.mp h]; exact okM.tup.ge (by decide) (by decide)) (hR4 d)
    have lA : ([PyData.tuple (ns.map PyData.int)] ++ ds4).length = 5 := by rw [List.length_append, hl4] <;> rfl
    refine ⟨L2, D, _, _, rfl, rfl, B3.sub _ _ (t2 _ _ e2), B3.sub _ _ eD, by rw [List.length_singleton, dta_len hds4, hl4]; decide, fun L3 n2 => ?_⟩
    obtain ⟨k4, e4, y4, w4⟩ := (Kn.start B3 t3).newL n2 (.lst ([.ref t] ++ ws))
    refine ⟨_, rfl, _, rfl, _, b, g, L0, ovs, rfl, k4.B, .inl (.of ((fS.trans w4) _ _ eO)), ?_, ?_, fun i x H6 hx6 B6 => ?_⟩
    · rintro rfl
      cases hO
    · rw [dta_len hO]
      decide
    obtain ⟨hi6, hdx⟩ := dta_val hO hx6
    have okx := others_ok.mem (List.mem_of_getElem? (getD_some PyData.none hi6))
    refine ⟨by show 1 ≤ sizeLine; decide, fun L4 n3 => ?_⟩
    obtain ⟨k5, e5, y5, w5⟩ := (k4.draw B6).newL n3 (.lst [x])
    refine ⟨L3, L4, _, _, rfl, rfl, k5.B.sub _ _ (w5 _ _ e4), k5.B.sub _ _ e5, by rw [dta_len hA, lA]; show 6 ≤ sizeLine; decide, fun L5 n4 => ?_⟩
    obtain ⟨k6, e6, y6, w6⟩ := k5.newL n4 (.lst ([.ref t] ++ ws ++ [x]))
    have hB : DtAll K G3 _ ([.tuple (ns.map PyData.int)] ++ ds4 ++ [othersD.getD i .none]) := dta_app hA (.cons (Sx.dt_same (gG1.trans gS) _ _ hdx) .nil)
    have hRB : ∀ d ∈ [PyData.tuple (ns.map PyData.int)] ++ ds4 ++ [othersD.getD i .none], Thing d := fun d h => (List.mem_append.mp h).elim (hRA d) (fun h => by rw [List.mem_singleton.mp h]; exact okx.ge (by decide) (by decide))
    have lB : ([PyData.tuple (ns.map PyData.int)] ++ ds4 ++ [othersD.getD i .none]).length = 6 := by rw [List.length_append, lA] <;> rfl
    have fS6 := fS.trans k6.sF
    generalize upd H6 L4 _ = H7 at k5 k6 ⊢
    generalize upd H7 L5 _ = H8 at k6 ⊢
    have e1' : ∀ {F'}, Same F3 F' → F' L1 = some (.lst vs1) := fun s => s _ _ ((w2.trans t2) _ _ e1)
    have sF36 : Same F3 _ := k6.sF
    obtain ⟨G7, F7, vs7, as7, l7, hB, hRB, e6, y6, k7, gS, fS, e1, hD1⟩ : ∃ G7 F7 vs as, as.length = 6 ∧ DtAll K G7 vs as ∧ (∀ d ∈ as, Thing d) ∧ F7 L5 = some (.lst vs) ∧ G7 L5 = none ∧ Kn G7 F7 G7 F7 H8 b g ∧ Same G1 G7 ∧ Same F F7 ∧ F7 L1 = some (.lst vs1) ∧ DtAll K G7 vs1 odds4 :=
      ⟨_, _, _, _, lB, hB, hRB, e6, y6, Kn.start k6.B k6.s, gS, fS6, e1' sF36, Sx.dta_same t1 _ _ hD1⟩
    clear k1 k2 k3 k4 k5 k6 hA hRA lA hds4 hR4 hl4 t1 t2 t3 gD eD B3 w2 w4 w5 w6 e2 e4 e5 y1 y2 y4 y5 m1 hdx okx hi6 hx6 B6 n1 n2 n3 n4 fS6 e1' sF36
    -- things + [machine[:1] * 10, machine[:1] * 11, (2,) * ..]
    have c1 : OkAll 1 8 (cutD (ns.map PyData.int) none (some 1)) := by
      rw [cutD_first]
      obtain ⟨m, r, e⟩ : ∃ m r, ns = m :: r := by
        cases ns with
        | nil => exact absurd one (by decide)
        | cons m r => exact ⟨m, r, rfl⟩
      have hmm := hm.mod m (by rw [e]; exact List.mem_cons_self)
      rw [e]
      exact OkAll.one (Ok.small (Nat.le_trans (show m.natAbs ≤ 10 ^ 60 + 1 by omega) big))
    have c1n : cutD (ns.map PyData.int) none (some 1) ≠ [] := by
      rw [cutD_first]
      cases ns with
      | nil => exact absurd one (by decide)
      | cons m r => exact fun z => nomatch z
    have c1l : (cutD (ns.map PyData.int) none (some 1)).length ≤ 1000 := Nat.le_trans c1.len (by decide)
    refine ⟨_, rfl, _, rfl, 1, rfl, sl_k k7 (Sx.dt_same gS _ _ hM) fun u1 G8 F8 H9 s8 d8 k8 => ?_⟩
    refine rep_a k8 d8 c1n c1l (by decide) (by decide) fun u2 G9 F9 H10 s9 d9 k9 => ?_
    refine ⟨_, rfl, 1, rfl, sl_k k9 (Sx.dt_same (gS.trans (s8.trans s9)) _ _ hM) fun u3 G10 F10 H11 s10 d10 k10 => ?_⟩
    refine rep_a k10 d10 c1n c1l (by decide) (by decide) fun u4 G11 F11 H12 s11 d11 k11 => ?_
    refine ⟨by show 1 ≤ sizeLine; decide, fun u5 n5 => ?_⟩
    obtain ⟨k12, s12, e12⟩ := newK k11 n5 (.tup [.int 2])
    refine ⟨_, rfl, _, b, g, 13, rfl, k12.B, small_of (by decide) (by decide), fun r H13 r0 r1 B13 => ?_⟩
    refine rep_z (ds := [.int 2]) (k12.draw B13) (.tup (.of e12) (.cons (.int _) .nil)) (fun z => nomatch z) (by decide) r0 (by omega) fun u6 G14 F14 H14 s14 d14 k14 => ?_
    refine ⟨by show 3 ≤ sizeLine; decide, fun L6 n6 => ?_⟩
    obtain ⟨k15, e15, y15, w15⟩ := k14.newL n6 (.lst [.ref u2, .ref u4, .ref u6])
    have f15 : Same F7 _ := k15.sF
    have g14 : Same G7 G14 := k14.sG
    have hC : DtAll K G14 [V.ref u2, .ref u4, .ref u6] [.tuple (List.replicate (10 : Int).toNat (cutD (ns.map PyData.int) none (some 1))).flatten, .tuple (List.replicate (11 : Int).toNat (cutD (ns.map PyData.int) none (some 1))).flatten, .tuple (List.replicate r.toNat [PyData.int 2]).flatten] :=
      .cons (Sx.dt_same (s10.trans (s11.trans (s12.trans s14))) _ _ d9) (.cons (Sx.dt_same (s12.trans s14) _ _ d11) (.cons d14 .nil))
    have hRC : ∀ d ∈ [PyData.tuple (List.replicate (10 : Int).toNat (cutD (ns.map PyData.int) none (some 1))).flatten, .tuple (List.replicate (11 : Int).toNat (cutD (ns.map PyData.int) none (some 1))).flatten, .tuple (List.replicate r.toNat [PyData.int 2]).flatten], Thing d := by
      intro d hd
      simp only [List.mem_cons, List.mem_nil_iff, or_false] at hd
      rcases hd with h | h | h <;> rw [h]
      · exact ((c1.rep 10).tup).ge (by decide) (by decide)
      · exact ((c1.rep 11).tup).ge (by decide) (by decide)
      · have c2 : OkAll 1 8 [PyData.int 2] := ⟨by decide +kernel, by decide +kernel, by decide +kernel⟩
        exact ((c2.rep r.toNat).tup).ge (by omega) (by decide)
    refine ⟨L5, L6, _, _, rfl, rfl, k15.B.sub _ _ (f15 _ _ e6), k15.B.sub _ _ e15, by rw [dta_len hB, l7]; show 9 ≤ sizeLine; decide, fun L7 n7 => ?_⟩
    have nF7 : F L7 = none := (fS.trans f15).free (k15.B.sub.free n7)
    obtain ⟨k16, e16, y16, w16⟩ := k15.newL n7 (.lst (vs7 ++ [.ref u2, .ref u4, .ref u6]))
    have hD : DtAll K G14 _ (as7 ++ _) := dta_app (Sx.dta_same g14 _ _ hB) hC
    have hRD : ∀ d ∈ as7 ++ _, Thing d := fun d h => (List.mem_append.mp h).elim (hRB d) (hRC d)
    have lD : (as7 ++ [PyData.tuple (List.replicate (10 : Int).toNat (cutD (ns.map PyData.int) none (some 1))).flatten, .tuple (List.replicate (11 : Int).toNat (cutD (ns.map PyData.int) none (some 1))).flatten, .tuple (List.replicate r.toNat [PyData.int 2]).flatten]).length = 9 := by rw [List.length_append, l7] <;> rfl
    have f16 : Same F7 _ := k16.sF
    generalize upd (upd H14 L6 _) L7 _ = H15 at k16 ⊢
    obtain ⟨G8', F8', vs8, as8, l8, hE, hRE, e8, y8, k8', gS', fS', e1', hD1'⟩ : ∃ G7 F7 vs as, as.length = 9 ∧ DtAll K G7 vs as ∧ (∀ d ∈ as, Thing d) ∧ F7 L7 = some (.lst vs) ∧ G7 L7 = none ∧ Kn G7 F7 G7 F7 H15 b g ∧ Same G1 G7 ∧ Same F F7 ∧ F7 L1 = some (.lst vs1) ∧ DtAll K G7 vs1 odds4 :=
      ⟨_, _, _, _, lD, hD, hRD, e16, y16, Kn.start k16.B k16.s, gS.trans g14, fS.trans f16, f16 _ _ e1, Sx.dta_same g14 _ _ hD1⟩
    clear k7 k8 k9 k10 k11 k12 k14 k15 k16 hB hRB hC hRC hD hRD lD l7 d8 d9 d10 d11 d14 s8 s9 s10 s11 s12 s14 e12 e15 e16 y15 y16 w15 w16 f15 f16 g14 e6 y6 gS fS e1 hD1 n5 n6 n7 B13
    -- twice
    refine ⟨_, rfl, _, rfl, _, rfl, G8', F8', b, g, t, L1, _, _, _, 10, rfl, k8'.B, k8'.s, Sx.dt_same gS' _ _ hM, by rw [List.length_map]; exact one, okM, by decide, e1', hD1', okAll_each odds4_ok, by decide, by decide, fun v d G4 F4 H16 k4 d4 o4 => ?_⟩
    -- append
    have e84 := k4.sF _ _ e8
    have y84 : G4 L7 = none := k4.ap L7 y8 (by rw [e8]; exact fun z => nomatch z)
    have m4 : Dt K H16 v d := Sx.dt_same (k4.s.trans k4.B.sub) _ _ d4
    have o4' : Thing d := o4.ge (by decide) (by decide)
    refine ⟨_, rfl, .inl ⟨rfl, _, .of (k4.B.sub _ _ e84)⟩, fun v' H' => ∃ G' F' d', Kn G4 F4 G' F' H' b g ∧ Dt K G' v' d' ∧ Thing d', ?_, ?_⟩
    · have keep : ∀ {H' : Hp}, Bs F4 H' b g → (∃ G' F' d', Kn G4 F4 G' F' H' b g ∧ Dt K G' v d' ∧ Thing d') := fun B => ⟨G4, F4, d, Kn.start B k4.s, d4, o4'⟩
      refine ⟨_, rfl, _, _, _, _, _, rfl, .ty _, tyx_of m4, kit_ty (kit_tuple d), _, rfl, ?_⟩
      have hno : tupD d = false → v = v := fun _ => rfl
      cases m4 with
      | int z => exact iteF ⟨_, rfl, keep k4.B⟩
      | bl z => exact iteF ⟨_, rfl, keep k4.B⟩
      | non => exact iteF ⟨_, rfl, keep k4.B⟩
      | str z => exact iteF ⟨_, rfl, keep k4.B⟩
      | lst _ _ => exact iteF ⟨_, rfl, keep k4.B⟩
      | dct _ => exact iteF ⟨_, rfl, keep k4.B⟩
      | @tup w2 xs2 es e2 ha2 =>
        refine iteT ⟨_, rfl, Nat.zero_le _, fun p9 n9 => ⟨w2, p9, xs2, rfl, rfl, Sx.Same.tup (same_new n9) e2, .of upd_same, _, rfl, ?_⟩⟩
        have k5 := (Kn.start k4.B k4.s).new n9 (.tup [])
        have hl2 := dta_len ha2
        cases es with
        | nil =>
          cases ha2
          exact iteF ⟨_, rfl, _, _, _, k5, Sx.dt_same k5.sG _ _ d4, o4'⟩
        | cons e0 es =>
          cases xs2 with
          | nil => exact nomatch hl2
          | cons y ys =>
            have k9 := k4.sF
            refine iteT ⟨_, rfl, _, rfl, _, rfl, _, _, b, g, w2, L1, _, _, _, 90, rfl, k5.B, k5.s, Sx.dt_same k5.sG _ _ d4, by show 1 ≤ es.length + 1; omega, ?_, by decide, k5.sF _ _ (k9 _ _ e1'), Sx.dta_same (k4.sG.trans k5.sG) _ _ hD1', okAll_each odds4_ok, by decide, by decide, fun v d G6 F6 H17 k6 d6 o6 => ⟨G6, F6, d, k5.trans k6, d6, o6.ge (by decide) (by decide)⟩⟩
            exact (Ok.tup_in (n := 2 * 10 + 70) (k := 8) o4).ge (by decide) (Nat.le_refl _)
    rintro v' H17 ⟨G5, F5, d5, k5, hd5, o5⟩
    have e85 := k5.sF _ _ e84
    have y85 : G5 L7 = none := k5.ap L7 y84 (by rw [e84]; exact fun z => nomatch z)
    refine ⟨L7, vs8, v', rfl, rfl, k5.B.sub _ _ e85, by rw [dta_len hE, l8]; exact small1000 (by decide), ?_⟩
    have fS5 : Same F F5 := fS'.trans (k4.sF.trans k5.sF)
    have gS5 : Same G1 G5 := gS'.trans (k4.sG.trans k5.sG)
    have hE2 := dta_app (Sx.dta_same (k4.sG.trans k5.sG) _ _ hE) (.cons hd5 .nil)
    have hRE2 : ∀ d ∈ as8 ++ [d5], Thing d := fun d h => (List.mem_append.mp h).elim (hRE d) fun h => by rw [List.mem_singleton.mp h]; exact o5
    have bP := k5.B.put (o := .lst (vs8 ++ [v'])) e85
    have sP := same_put (o := .lst (vs8 ++ [v'])) k5.s y85
    have fP := same_put (o := .lst (vs8 ++ [v'])) fS5 nF7
    have eP : (upd F5 L7 (.lst (vs8 ++ [v']))) L7 = some (.lst (vs8 ++ [v'])) := upd_same
    generalize upd H17 L7 _ = H18 at bP ⊢
    generalize upd F5 L7 (.lst (vs8 ++ [v'])) = F9 at bP sP fP eP
    -- are_told machine
    refine ⟨_, rfl, _, rfl, _, rfl, _, "machine", t, L7, ns, _, _, rfl, mT gS5 sP bP, ten, bP.sub _ _ eP, Sx.dta_same (sP.trans bP.sub) _ _ hE2, hRE2, fun H19 s19 => ⟨_, rfl, iteF ?_⟩⟩
    have B9 := bP.more s19
    clear k4 k5 hE hE2 hRE hRE2 e8 y8 e84 y84 e85 y85 k8' e1' hD1' gS' fS' nF7 d4 o4 m4 o4' hd5 o5 l8 eP
    have mT9 : ∀ {H' : Hp}, Same F9 H' → SqT K H' t (ns.map V.int) := fun s => .of ((gS5.trans (sP.trans s)) _ _ hT1)
    -- lane
    refine ⟨_, rfl, _, rfl, t, _, rfl, .inr (mT9 B9.sub), F9, b, g, _, rfl, B9, small_of (by rw [List.length_map]; omega) (by rw [List.length_map]; omega), fun lane H20 l0 l1 B20 => ?_⟩
    rw [List.length_map] at l1
    -- word
    refine .inr ⟨_, rfl, t, rfl, ⟨_, mT9 B20.sub⟩, fun D hD => ?_⟩
    refine lc_drawnV (K := K) (walk_tup (xs := ns.map V.int)) (Ok 1 8) B20 sP hD (by rw [List.length_map]; omega) (fun H' s => mT9 s) (fun x => rfl) ?_ ?_
    · intro i x G2 F2 H21 Q2 hx t1 t2 t3 B21 q2
      obtain ⟨m, hmem, rfl⟩ := List.mem_map.mp (List.mem_of_getElem? hx)
      obtain ⟨hm0, hm1⟩ := hm.mod m hmem
      refine ⟨_, rfl, _, rfl, _, _, rfl, rfl, _, rfl, _, rfl, F2, b, g, m, rfl, B21, small_of (by omega) (by omega), fun r H22 r0 r1 B22 => ⟨by show 4 ≤ sizeLine; decide, fun l nl => ?_⟩⟩
      obtain ⟨k3, e3, y3, w3⟩ := (Kn.start B22 t3).newL nl (.lst [.non, .int 0, .int (m - 1), .int r])
      refine ⟨_, b, g, l, _, rfl, k3.B, .inl (.of e3), (fun z => nomatch z), by show 4 ≤ 100000; decide, fun i x H23 hx23 B23 => ?_⟩
      have k4 := k3.draw B23
      have big6 : 1000000 ≤ 10 ^ 120 := by decide +kernel
      match i, hx23 with
      | 0, h => cases h; exact q2 _ .none _ _ _ ⟨rfl, Nat.le_refl _, Nat.zero_le _⟩ k4 .non
      | 1, h => cases h; exact q2 _ (.int 0) _ _ _ (Ok.small (Nat.zero_le _)) k4 (.int _)
      | 2, h => cases h; exact q2 _ (.int (m - 1)) _ _ _ (Ok.small (Nat.le_trans (show (m - 1).natAbs ≤ 1000000 by omega) big6)) k4 (.int _)
      | 3, h => cases h; exact q2 _ (.int r) _ _ _ (Ok.small (Nat.le_trans (show r.natAbs ≤ 1000000 by omega) big6)) k4 (.int _)
      | i + 4, h => simp at h
    intro wv wd G10 F10 H23 hwl hwR u1 u2 u3 gD eD hwd B23
    have lw : wd.length = ns.length := by rw [hwl, List.length_map]
    refine ⟨D, wv, rfl, .inl ⟨.of (B23.sub _ _ eD), fun p np => ?_⟩⟩
    obtain ⟨k0, s0', e0⟩ := newK (Kn.start B23 u3) np (.tup wv)
    have hW : Dt K _ (.ref p) (.tuple wd) := .tup (.of e0) (Sx.dta_same s0' _ _ hwd)
    have okW : OkAll 10 8 wd := (okAll_of hwR).ge (by omega) (Nat.le_refl _)
    have gS0 := gS5.trans (u1.trans s0')
    have fS0 := fP.trans (u2.trans k0.sF)
    generalize upd H23 p _ = H24 at k0 ⊢
    generalize upd G10 p _ = G0 at k0 s0' e0 hW gS0
    generalize upd F10 p _ = F0 at k0 fS0
    obtain ⟨k0, fS0⟩ : Kn G0 F0 G0 F0 H24 b g ∧ Same F F0 := ⟨Kn.start k0.B k0.s, fS0⟩
    -- odd
    have hlane : (lane.toNat : Int) = lane := by omega
    have hlm := hm.mod _ (List.mem_of_getElem? (getD_some 0 (show lane.toNat < ns.length by omega)))
    have atL : atI (ns.map V.int) lane = some (.int (ns.getD lane.toNat 0)) := by
      rw [← hlane]
      refine atI_nat ?_
      rw [Int.toNat_natCast, List.getElem?_map, getD_some 0 (by omega)] <;> rfl
    generalize ns.getD lane.toNat 0 = lm at hlm atL
    have mT0 : ∀ {F' H' : Hp}, Same G0 F' → Bs F' H' b g → SqT K H' t (ns.map V.int) := fun s B => .of ((gS0.trans (s.trans B.sub)) _ _ hT1)
    refine ⟨_, rfl, _, rfl, .inr (.inl ⟨t, _, _, _, rfl, rfl, mT0 k0.s k0.B, atL, ?_⟩)⟩
    refine ⟨_, rfl, _, rfl, .inr (.inl ⟨t, _, _, _, rfl, rfl, mT0 k0.s k0.B, atL, ?_⟩)⟩
    refine ⟨_, _, rfl, rfl, 1, rfl, by show 1 ≤ sizeLine; decide, fun p1 n1 => ⟨by show 1 ≤ sizeLine; decide, fun p2 n2 => ⟨10, 30, rfl, rfl, ⟨by decide, by decide, by decide⟩, fun p3 n3 => ⟨by show 13 ≤ sizeLine; decide, fun L1 n4 => ?_⟩⟩⟩⟩
    obtain ⟨c1', w1, x1⟩ := newK k0 n1 (.tup [.int 0])
    obtain ⟨c2, w2, x2⟩ := newK c1' n2 (.lst [.int 0])
    obtain ⟨c3, w3, x3⟩ := newK c2 n3 (.dK [])
    obtain ⟨c4, x4, y4, w4⟩ := c3.newL n4 (.lst [.int lm, .int (lm - 1), .int (-1), .bl true, .bl false, .non, .str "0", .ref p1, .ref p2, .int 0, .int 1, .int (10 ^ (30 : Int).toNat), .ref p3])
    have hD1 : DtAll K _ [V.int lm, .int (lm - 1), .int (-1), .bl true, .bl false, .non, .str "0", .ref p1, .ref p2, .int 0, .int 1, .int (10 ^ (30 : Int).toNat), .ref p3] (odds5 lm) :=
      .cons (.int _) (.cons (.int _) (.cons (.int _) (.cons (.bl _) (.cons (.bl _) (.cons .non (.cons (.str _) (.cons (.tup (.of ((w2.trans w3) _ _ x1)) (.cons (.int _) .nil)) (.cons (.lst (.of (w3 _ _ x2)) (.cons (.int _) .nil)) (.cons (.int _) (.cons (.int _) (.cons (.int _) (.cons (.dct x3) .nil))))))))))))
    have m1 : Same G0 _ := w1.trans (w2.trans w3)
    have okO5 := okAll_each (odds5_ok (m := lm) (by omega))
    generalize upd (upd (upd (upd H24 p1 _) p2 _) p3 _) L1 _ = H4 at c4 ⊢
    obtain ⟨G2, F2, vs1, m1, hD1, e1, y1, k2⟩ : ∃ G2 F2 vs, Same G0 G2 ∧ DtAll K G2 vs (odds5 lm) ∧ F2 L1 = some (.lst vs) ∧ G2 L1 = none ∧ Kn G0 F0 G2 F2 H4 b g := ⟨_, _, _, m1, hD1, x4, y4, c4⟩
    clear c1' c2 c3 c4 w1 w2 w3 w4 x1 x2 x3 x4 y4 n1 n2 n3 n4
    -- things: word
    refine ⟨_, rfl, by show 1 ≤ sizeLine; decide, fun L2 n1 => ?_⟩
    obtain ⟨k3, e2, y2, w2⟩ := k2.newL n1 (.lst [.ref p])
    refine ⟨5, rfl, by decide, by decide, fun D hD => ?_⟩
    refine lc_drawnD (K := K) Thing k3.B k3.s hD (by decide) (fun x => rfl) ?_ ?_
    · intro i G3 F3 H6 Q2 hi t1 t2 t3 B3 q2
      refine ⟨_, rfl, _, rfl, _, rfl, G3, F3, b, g, p, L1, _, _, _, 10, rfl, B3, t3, Sx.dt_same (m1.trans t1) _ _ hW, by omega, okW, by decide, (w2.trans t2) _ _ e1, Sx.dta_same t1 _ _ hD1, okO5, by show 1 ≤ 13; decide, by show 13 ≤ 1000; decide, fun v d G4 F4 H7 k4 d4 o4 => ?_⟩
      exact q2 _ _ G4 F4 H7 (o4.ge (by decide) (by decide)) k4 d4
    intro ws ds4 G3 F3 H5 hl4 hR4 t1 t2 t3 gD' eD' hds4 B3
    have gS := m1.trans t1
    have fS := k3.sF.trans t2
    have hA : DtAll K G3 _ ([.tuple wd] ++ ds4) := dta_app (vs := [.ref p]) (.cons (Sx.dt_same gS _ _ hW) .nil) hds4
    have hRA : ∀ d ∈ [PyData.tuple wd] ++ ds4, Thing d := fun d h => (List.mem_append.mp h).elim (fun h => by rw [List.mem_singleton.mp h]; exact okW.tup.ge (by decide) (by decide)) (hR4 d)
    have lA : ([PyData.tuple wd] ++ ds4).length = 6 := by rw [List.length_append, hl4] <;> rfl
    refine ⟨L2, D, _, _, rfl, rfl, B3.sub _ _ (t2 _ _ e2), B3.sub _ _ eD', by rw [List.length_singleton, dta_len hds4, hl4]; decide, fun L3 n2 => ?_⟩
    obtain ⟨k4, e4, y4, w4⟩ := (Kn.start B3 t3).newL n2 (.lst ([.ref p] ++ ws))
    have g4 := k4.sG
    refine ⟨by show 1 ≤ sizeLine; decide, fun u1 n5 => ?_⟩
    obtain ⟨k5, s5, e5⟩ := newK k4 n5 (.tup [.non])
    obtain ⟨e45, y45⟩ := k4.off e4 y4 n5 (.tup [.non])
    have fS5 := fS.trans k5.sF
    have gS5' := gS.trans (s5)
    refine ⟨_, rfl, t, _, rfl, .inr (mT0 (gS.trans (s5.trans k5.s)) k5.B), ?_⟩
    refine rep_a (ds := [.none]) (Kn.start k5.B k5.s) (.tup (.of e5) (.cons .non .nil)) (fun z => nomatch z) (by decide) (by rw [List.length_map]; omega) (by rw [List.length_map]; omega) fun u2 G6 F6 H6 s6 d6 k6 => ?_
    refine ⟨by show 1 ≤ sizeLine; decide, fun L4 n6 => ?_⟩
    obtain ⟨k7, e7, y7, w7⟩ := k6.newL n6 (.lst [.ref u2])
    have e47 := w7 _ _ (k6.sF _ _ e45)
    have okN : Thing (.tuple (List.replicate ((List.map V.int ns).length : Int).toNat [PyData.none]).flatten) := by
      have c2 : OkAll 1 8 [PyData.none] := ⟨by decide +kernel, by decide +kernel, by decide +kernel⟩
      exact ((c2.rep _).tup).ge (by rw [List.length_map]; omega) (by decide)
    refine ⟨L3, L4, _, _, rfl, rfl, k7.B.sub _ _ e47, k7.B.sub _ _ e7, by rw [dta_len hA, lA]; show 7 ≤ sizeLine; decide, fun L5 n7 => ?_⟩
    obtain ⟨k8, e8, y8, w8⟩ := k7.newL n7 (.lst ([.ref p] ++ ws ++ [.ref u2]))
    have hB : DtAll K G6 _ ([.tuple wd] ++ ds4 ++ [_]) := dta_app (Sx.dta_same (s5.trans k6.sG) _ _ hA) (.cons d6 .nil)
    have hRB : ∀ d ∈ [PyData.tuple wd] ++ ds4 ++ [_], Thing d := fun d h => (List.mem_append.mp h).elim (hRA d) (fun h => by rw [List.mem_singleton.mp h]; exact okN)
    have lB : ([PyData.tuple wd] ++ ds4 ++ [PyData.tuple (List.replicate ((List.map V.int ns).length : Int).toNat [PyData.none]).flatten]).length = 7 := by rw [List.length_append, lA] <;> rfl
    have fS8 := fS5.trans k8.sF
    have gS8 := gS5'.trans k6.sG
    generalize upd (upd H6 L4 _) L5 _ = H8 at k8 ⊢
    obtain ⟨G7, F7, vs7, as7, l7, hB, hRB, e6, k7, gS, fS⟩ : ∃ G7 F7 vs as, as.length = 7 ∧ DtAll K G7 vs as ∧ (∀ d ∈ as, Thing d) ∧ F7 L5 = some (.lst vs) ∧ Kn G7 F7 G7 F7 H8 b g ∧ Same G0 G7 ∧ Same F0 F7 :=
      ⟨_, _, _, _, lB, hB, hRB, e8, Kn.start k8.B k8.s, gS8, fS8⟩
    -- + [machine, list(machine)]
    refine ⟨_, rfl, _, rfl, _, rfl, t, _, rfl, .inr (mT0 (gS.trans k7.s) k7.B), fun u3 n8 => ⟨by show 2 ≤ sizeLine; decide, fun L6 n9 => ?_⟩⟩
    obtain ⟨k9, s9, e9⟩ := newK k7 n8 (.lst (ns.map V.int))
    obtain ⟨e69, _⟩ : (upd F7 u3 (.lst (ns.map V.int))) L5 = some (.lst vs7) ∧ True := ⟨k9.sF _ _ e6, trivial⟩
    obtain ⟨k10, e10, y10, w10⟩ := k9.newL n9 (.lst [.ref t, .ref u3])
    refine ⟨L5, L6, _, _, rfl, rfl, k10.B.sub _ _ (w10 _ _ e69), k10.B.sub _ _ e10, by rw [dta_len hB, l7]; show 9 ≤ sizeLine; decide, fun L7 n10 => ?_⟩
    obtain ⟨k11, e11, y11, w11⟩ := k10.newL n10 (.lst (vs7 ++ [.ref t, .ref u3]))
    have hC : DtAll K _ _ (as7 ++ [_, _]) := dta_app (Sx.dta_same s9 _ _ hB) (.cons (Sx.dt_same (gS0.trans (gS.trans s9)) _ _ hM) (.cons (.lst (.of e9) (dta_ints ns)) .nil))
    have hRC : ∀ d ∈ as7 ++ [PyData.tuple (ns.map PyData.int), .list (ns.map PyData.int)], Thing d := fun d h => (List.mem_append.mp h).elim (hRB d) (fun h => by
      simp only [List.mem_cons, List.mem_nil_iff, or_false] at h
      rcases h with h | h <;> rw [h]
      · exact okM.tup.ge (by decide) (by decide)
      · exact okM.lst.ge (by decide) (by decide))
    have lC : (as7 ++ [PyData.tuple (ns.map PyData.int), .list (ns.map PyData.int)]).length = 9 := by rw [List.length_append, l7] <;> rfl
    have fS11 := fS.trans k11.sF
    have gS9 := gS.trans s9
    generalize upd (upd (upd H8 u3 _) L6 _) L7 _ = H11 at k11 ⊢
    obtain ⟨G9, F9', vs9, as9, l9, hC, hRC, e9, k9, gS, fS⟩ : ∃ G7 F7 vs as, as.length = 9 ∧ DtAll K G7 vs as ∧ (∀ d ∈ as, Thing d) ∧ F7 L7 = some (.lst vs) ∧ Kn G7 F7 G7 F7 H11 b g ∧ Same G0 G7 ∧ Same F0 F7 :=
      ⟨_, _, _, _, lC, hC, hRC, e11, Kn.start k11.B k11.s, gS9, fS11⟩
    -- are_told word
    refine ⟨_, rfl, _, rfl, _, rfl, _, rfl, _, rfl, _, b, g, L0, ovs, rfl, k9.B, .inl (.of ((fS0.trans fS) _ _ eO)), ?_, ?_, fun i x H12 hx12 B12 => ?_⟩
    · rintro rfl
      cases hO
    · rw [dta_len hO]
      decide
    obtain ⟨hi12, hdx⟩ := dta_val hO hx12
    have okx := others_ok.mem (List.mem_of_getElem? (getD_some PyData.none hi12))
    refine ⟨_, rfl, _, rfl, ?_⟩
    refine cat_k (k9.draw B12) (Sx.dt_same gS _ _ hW) (Sx.dt_same gS _ _ hW) (by omega) fun u4 G13 F13 H13 s13 d13 k13 => ?_
    refine ⟨by show 2 ≤ sizeLine; decide, fun L8 n11 => ?_⟩
    obtain ⟨k14, e14, y14, w14⟩ := k13.newL n11 (.lst [x, .ref u4])
    refine ⟨L7, L8, _, _, rfl, rfl, k14.B.sub _ _ (k14.sF _ _ e9), k14.B.sub _ _ e14, by rw [dta_len hC, l9]; show 11 ≤ sizeLine; decide, fun L9 n12 => ?_⟩
    obtain ⟨k15, e15, y15, w15⟩ := k14.newL n12 (.lst (vs9 ++ [x, .ref u4]))
    have gG13 : Same G G13 := gG1.trans (gS0.trans (gS.trans s13))
    have hE : DtAll K G13 _ (as9 ++ [_, _]) := dta_app (Sx.dta_same s13 _ _ hC) (.cons (Sx.dt_same gG13 _ _ hdx) (.cons d13 .nil))
    have hRE : ∀ d ∈ as9 ++ [othersD.getD i .none, PyData.tuple (wd ++ wd)], Thing d := fun d h => (List.mem_append.mp h).elim (hRC d) (fun h => by
      simp only [List.mem_cons, List.mem_nil_iff, or_false] at h
      rcases h with h | h <;> rw [h]
      · exact okx.ge (by decide) (by decide)
      · exact ((okW.app okW).tup).ge (by decide) (by decide))
    have fS15 := fS0.trans (fS.trans k15.sF)
    have gS15 := gS0.trans (gS.trans s13)
    have sGF := k15.s
    have B15 := k15.B
    generalize upd (upd H13 L8 _) L9 _ = H15 at k15 B15 ⊢
    generalize upd (upd F13 L8 _) L9 _ = F15 at e15 fS15 sGF B15
    refine ⟨_, "word", t, L9, ns, _, _, rfl, .of ((gS15.trans (sGF.trans B15.sub)) _ _ hT1), ten, B15.sub _ _ e15, Sx.dta_same (sGF.trans B15.sub) _ _ hE, hRE, fun H16 s16 => ⟨_, rfl, iteF ?_⟩⟩
    have B16 := B15.more s16
    obtain ⟨Fw, Gw, gW, fW, sW, BW⟩ : ∃ Fw Gw, Same G1 Gw ∧ Same F Fw ∧ Same Gw Fw ∧ Bs Fw H16 b g := ⟨_, _, gS15, fS15, sGF, B16⟩
    -- low, high
    refine ⟨_, rfl, Fw, b, g, rfl, BW, fun a1 H17 ha1 B17 => ⟨_, rfl, Fw, b, g, rfl, B17, fun a2 H18 ha2 B18 => ⟨by show 2 ≤ sizeLine; decide, fun q1 m1 => ?_⟩⟩⟩
    refine ⟨q1, [a1, a2], rfl, .of upd_same, fun ns' q2 hp hs m2 => ?_⟩
    obtain ⟨low, high, rfl, hlo, hhi⟩ := perm_two hp
    have hlow : IsNum low := hlo.elim (fun h => by rw [h]; exact ha1) (fun h => by rw [h]; exact ha2)
    have hhigh : IsNum high := hhi.elim (fun h => by rw [h]; exact ha1) (fun h => by rw [h]; exact ha2)
    have B19 := (B18.more (same_new (o := .lst [.int a1, .int a2]) m1)).more (same_new (o := .lst ([low, high].map V.int)) m2)
    refine ⟨q2, _, rfl, .of upd_same, rfl, _, _, rfl, _, _, rfl, rfl, ?_⟩
    generalize upd (upd H18 q1 _) q2 _ = H19' at B19 ⊢
    iterate 1 (try clear hE; try clear hRE; try clear hC; try clear hRC; try clear lC; try clear e9; try clear k9; try clear hB; try clear hRB; try clear lB; try clear e6; try clear k7; try clear e15; try clear y15; try clear w15; try clear e14; try clear y14; try clear w14; try clear k13; try clear k14; try clear k15; try clear d13; try clear s13; try clear hW; try clear okW; try clear hwd; try clear hwR; try clear k0; try clear k2; try clear k3; try clear hA; try clear hRA; try clear lA; try clear hds4; try clear hR4; try clear hl4; try clear e1; try clear e2; try clear y1; try clear y2; try clear w2; try clear hD1; try clear okO5; try clear gS15; try clear fS15; try clear sGF; try clear B15; try clear gG13; try clear gS0; try clear fS0; try clear gS; try clear fS; try clear eD; try clear gD; try clear gD'; try clear eD'; try clear s16; try clear B16; try clear e0; try clear s0'; try clear u1; try clear u2; try clear u3; try clear t1; try clear t2; try clear t3; try clear d6; try clear s5; try clear e5; try clear k4; try clear k5; try clear k6; try clear e4; try clear e7; try clear e47; try clear e45; try clear y45; try clear okN; try clear c1; try clear c1n; try clear c1l; try clear l7; try clear l9)
    -- odd
    have kS := Kn.start B19 sW
    refine ⟨10, 60, rfl, rfl, ⟨by decide, by decide, by decide⟩, 10, 60, rfl, rfl, ⟨by decide, by decide, by decide⟩, _, rfl, 10, 60, rfl, rfl, ⟨by decide, by decide, by decide⟩, _, _, rfl, rfl, 10, 60, rfl, rfl, ⟨by decide, by decide, by decide⟩, _, rfl, _, _, rfl, rfl, by show 1 ≤ sizeLine; decide, fun p1 n1 => ⟨by show 1 ≤ sizeLine; decide, fun p2 n2 => ⟨_, rfl, _, _, rfl, rfl, by show 12 ≤ sizeLine; decide, fun L1 n3 => ?_⟩⟩⟩
    obtain ⟨c1, w1, x1⟩ := newK kS n1 (.tup [.int 0])
    obtain ⟨c2, w2, x2⟩ := newK c1 n2 (.lst [.int 0])
    obtain ⟨c3, x3, y3, w3⟩ := c2.newL n3 (.lst [.int (10 ^ (60 : Int).toNat), .int (-(10 ^ (60 : Int).toNat)), .int (10 ^ (60 : Int).toNat + 1), .int (-(10 ^ (60 : Int).toNat) - 1), .bl true, .bl false, .non, .str "0", .ref p1, .ref p2, .int 0, .int (low + 1)])
    have hD1 : DtAll K _ [V.int (10 ^ (60 : Int).toNat), .int (-(10 ^ (60 : Int).toNat)), .int (10 ^ (60 : Int).toNat + 1), .int (-(10 ^ (60 : Int).toNat) - 1), .bl true, .bl false, .non, .str "0", .ref p1, .ref p2, .int 0, .int (low + 1)] (odds6 low) :=
      .cons (.int _) (.cons (.int _) (.cons (.int _) (.cons (.int _) (.cons (.bl _) (.cons (.bl _) (.cons .non (.cons (.str _) (.cons (.tup (.of (w2 _ _ x1)) (.cons (.int _) .nil)) (.cons (.lst (.of x2) (.cons (.int _) .nil)) (.cons (.int _) (.cons (.int _) .nil)))))))))))
    have m1' : Same Gw _ := w1.trans w2
    have okO6 := okAll_each (odds6_ok hlow)
    generalize upd (upd (upd H19' p1 _) p2 _) L1 _ = H4 at c3 ⊢
    obtain ⟨G2, F2, vs1, m1', hD1, e1, k2, fS2⟩ : ∃ G2 F2 vs, Same Gw G2 ∧ DtAll K G2 vs (odds6 low) ∧ F2 L1 = some (.lst vs) ∧ Kn G2 F2 G2 F2 H4 b g ∧ Same Fw F2 := ⟨_, _, _, m1', hD1, x3, Kn.start c3.B c3.s, c3.sF⟩
    clear c1 c2 c3 w1 w2 w3 x1 x2 x3 y3 n1 n2 n3
    -- things
    refine ⟨_, rfl, _, rfl, by show 2 ≤ sizeLine; decide, fun p1 n1 => ⟨_, rfl, _, rfl, by show 2 ≤ sizeLine; decide, fun p2 n2 => ⟨_, rfl, _, rfl, by show 2 ≤ sizeLine; decide, fun p3 n3 => ⟨_, rfl, _, rfl, _, _, rfl, rfl, by show 2 ≤ sizeLine; decide, fun p4 n4 => ⟨by show 2 ≤ sizeLine; decide, fun p5 n5 => ⟨by show 2 ≤ sizeLine; decide, fun p6 n6 => ⟨by show 2 ≤ sizeLine; decide, fun p7 n7 => ⟨by show 7 ≤ sizeLine; decide, fun L2 n8 => ?_⟩⟩⟩⟩⟩⟩⟩⟩
    obtain ⟨c1, w1, x1⟩ := newK k2 n1 (.tup [.int low, .int high])
    obtain ⟨c2, w2, x2⟩ := newK c1 n2 (.tup [.int high, .int low])
    obtain ⟨c3, w3, x3⟩ := newK c2 n3 (.tup [.int low, .int low])
    obtain ⟨c4, w4, x4⟩ := newK c3 n4 (.tup [.int low, .int (low - 1)])
    obtain ⟨c5, w5, x5⟩ := newK c4 n5 (.tup [.int 0, .int 1])
    obtain ⟨c6, w6, x6⟩ := newK c5 n6 (.tup [.bl false, .int 1])
    obtain ⟨c7, w7, x7⟩ := newK c6 n7 (.tup [.int 0, .bl true])
    have nF2 : F L2 = none := (fW.trans (fS2.trans c7.sF)).free (c7.B.sub.free n8)
    have hne : L1 ≠ L2 := ne_of_none (c7.B.sub _ _ (c7.sF _ _ e1)) n8
    obtain ⟨c8, x8, y8, w8⟩ := c7.newL n8 (.lst [.ref p1, .ref p2, .ref p3, .ref p4, .ref p5, .ref p6, .ref p7])
    have r7 := w7
    have r6 := w6.trans r7
    have r5 := w5.trans r6
    have r4 := w4.trans r5
    have r3 := w3.trans r4
    have r2 := w2.trans r3
    have hA : DtAll K _ [V.ref p1, .ref p2, .ref p3, .ref p4, .ref p5, .ref p6, .ref p7] [.tuple [.int low, .int high], .tuple [.int high, .int low], .tuple [.int low, .int low], .tuple [.int low, .int (low - 1)], .tuple [.int 0, .int 1], .tuple [.bool false, .int 1], .tuple [.int 0, .bool true]] :=
      .cons (.tup (.of (r2 _ _ x1)) (.cons (.int _) (.cons (.int _) .nil))) (.cons (.tup (.of (r3 _ _ x2)) (.cons (.int _) (.cons (.int _) .nil))) (.cons (.tup (.of (r4 _ _ x3)) (.cons (.int _) (.cons (.int _) .nil))) (.cons (.tup (.of (r5 _ _ x4)) (.cons (.int _) (.cons (.int _) .nil)))
        (.cons (.tup (.of (r6 _ _ x5)) (.cons (.int _) (.cons (.int _) .nil))) (.cons (.tup (.of (r7 _ _ x6)) (.cons (.bl _) (.cons (.int _) .nil))) (.cons (.tup (.of x7) (.cons (.int _) (.cons (.bl _) .nil))) .nil))))))
    have hRA : ∀ d ∈ [PyData.tuple [.int low, .int high], .tuple [.int high, .int low], .tuple [.int low, .int low], .tuple [.int low, .int (low - 1)], .tuple [.int 0, .int 1], .tuple [.bool false, .int 1], .tuple [.int 0, .bool true]], Thing d := by
      have big' : 10 ^ 60 + 1 ≤ 10 ^ 120 := by decide +kernel
      intro d hd
      simp only [List.mem_cons, List.mem_nil_iff, or_false] at hd
      rcases hd with h | h | h | h | h | h | h <;> rw [h]
      · exact (pair_ok (num_ok hlow) (num_ok hhigh)).tup.ge (by decide) (by decide)
      · exact (pair_ok (num_ok hhigh) (num_ok hlow)).tup.ge (by decide) (by decide)
      · exact (pair_ok (num_ok hlow) (num_ok hlow)).tup.ge (by decide) (by decide)
      · refine (pair_ok (num_ok hlow) (Ok.small (Nat.le_trans (show (low - 1).natAbs ≤ 10 ^ 60 + 1 from ?_) big'))).tup.ge (by decide) (by decide)
        have := hlow.1
        have := hlow.2
        omega
      · exact ⟨by decide +kernel, by decide +kernel, by decide +kernel⟩
      · exact ⟨by decide +kernel, by decide +kernel, by decide +kernel⟩
      · exact ⟨by decide +kernel, by decide +kernel, by decide +kernel⟩
    have g8 : Same G2 _ := c8.sG
    have f8 : Same F2 _ := c8.sF
    generalize upd (upd (upd (upd (upd (upd (upd (upd H4 p1 _) p2 _) p3 _) p4 _) p5 _) p6 _) p7 _) L2 _ = H5 at c8 ⊢
    obtain ⟨G3, F3, vs7, as7, l7, hA, hRA, e3, y3, B5, s5, g3, f3, e1, hD1⟩ : ∃ G3 F3 vs as, as.length = 7 ∧ DtAll K G3 vs as ∧ (∀ d ∈ as, Thing d) ∧ F3 L2 = some (.lst vs) ∧ G3 L2 = none ∧ Bs F3 H5 b g ∧ Same G3 F3 ∧ Same G1 G3 ∧ Same F F3 ∧ F3 L1 = some (.lst vs1) ∧ DtAll K G3 vs1 (odds6 low) :=
      ⟨_, _, _, _, rfl, hA, hRA, x8, y8, c8.B, c8.s, gW.trans (m1'.trans g8), fW.trans (fS2.trans f8), f8 _ _ e1, Sx.dta_same g8 _ _ hD1⟩
    clear c1 c2 c3 c4 c5 c6 c7 c8 w1 w2 w3 w4 w5 w6 w7 w8 x1 x2 x3 x4 x5 x6 x7 x8 y8 r2 r3 r4 r5 r6 r7 g8 f8 k2 n1 n2 n3 n4 n5 n6 n7 n8 kS m1'
    refine ⟨6, rfl, by decide, by decide, for_range (lo := 0) (n := 6) (fun i σ H' => ∃ (v7 v10 : Option V) (G3 F3 : Hp) (vs7 : List V) (as7 : List PyData), σ = [some (.ref s0), some (.ref b), some (.ref L0), some (.int (0 + (turn : Int))), some (.ref t), some (.ref L1), some (.ref L2), v7, some (.int lane), some (.ref p), v10, some (.int low), some (.int high), none] ∧ as7.length = 7 + i ∧ DtAll K G3 vs7 as7 ∧ (∀ d ∈ as7, Thing d) ∧ F3 L2 = some (.lst vs7) ∧ G3 L2 = none ∧ Bs F3 H' b g ∧ Same G3 F3 ∧ Same G1 G3 ∧ Same F F3 ∧ F3 L1 = some (.lst vs1) ∧ DtAll K G3 vs1 (odds6 low))
      ⟨_, _, G3, F3, vs7, as7, rfl, l7, hA, hRA, e3, y3, B5, s5, g3, f3, e1, hD1⟩ ?_ ?_⟩
    · rintro i σ H6 hi ⟨v7, v10, G3, F3, vs7, as7, rfl, l7, hA, hRA, e3, y3, B6, s5, g3, f3, e1, hD1⟩
      refine ⟨_, rfl, .inl ⟨rfl, _, .of (B6.sub _ _ e3)⟩, _, rfl, _, rfl, _, rfl, _, rfl, by show 2 ≤ sizeLine; decide, fun p1 n1 => ⟨_, rfl, _, rfl, by show 2 ≤ sizeLine; decide, fun p2 n2 => ⟨_, rfl, _, rfl, by show 2 ≤ sizeLine; decide, fun p3 n3 => ⟨by show 3 ≤ sizeLine; decide, fun L4 n4 => ?_⟩⟩⟩⟩
      obtain ⟨c1, w1, x1⟩ := newK (Kn.start B6 s5) n1 (.tup [.int low, .int high])
      obtain ⟨c2, w2, x2⟩ := newK c1 n2 (.tup [.int low, .int high])
      obtain ⟨c3, w3, x3⟩ := newK c2 n3 (.tup [.int high, .int low])
      obtain ⟨c4, x4, y4, w4⟩ := c3.newL n4 (.lst [.ref p1, .ref p2, .ref p3])
      have hP : ∀ x ∈ [V.ref p1, .ref p2, .ref p3], ∃ (a : Addr) (ds : List PyData), x = .ref a ∧ Dt K (upd (upd (upd G3 p1 (.tup [.int low, .int high])) p2 (.tup [.int low, .int high])) p3 (.tup [.int high, .int low])) (.ref a) (.tuple ds) ∧ 1 ≤ ds.length ∧ OkAll 2 8 ds := by
        intro x hx
        simp only [List.mem_cons, List.mem_nil_iff, or_false] at hx
        rcases hx with h | h | h <;> rw [h]
        · exact ⟨p1, _, rfl, .tup (.of ((w2.trans w3) _ _ x1)) (.cons (.int _) (.cons (.int _) .nil)), by show 1 ≤ 2; decide, pair_ok (num_ok hlow) (num_ok hhigh)⟩
        · exact ⟨p2, _, rfl, .tup (.of (w3 _ _ x2)) (.cons (.int _) (.cons (.int _) .nil)), by show 1 ≤ 2; decide, pair_ok (num_ok hlow) (num_ok hhigh)⟩
        · exact ⟨p3, _, rfl, .tup (.of x3) (.cons (.int _) (.cons (.int _) .nil)), by show 1 ≤ 2; decide, pair_ok (num_ok hhigh) (num_ok hlow)⟩
      refine ⟨_, b, g, L4, _, rfl, c4.B, .inl (.of x4), (fun z => nomatch z), by show 3 ≤ 100000; decide, fun j x H7 hx7 B7 => ?_⟩
      obtain ⟨pa, ds, rfl, hpd, one', okp⟩ := hP x (List.mem_of_getElem? hx7)
      have f4 : Same F3 _ := c4.sF
      have g4 : Same G3 _ := c4.sG
      refine ⟨_, rfl, _, _, b, g, pa, L1, ds, odds6 low, _, 2, rfl, B7, c4.s, hpd, one', okp, by decide, f4 _ _ e1, Sx.dta_same g4 _ _ hD1, okO6, by show 1 ≤ 12; decide, by show 12 ≤ 1000; decide, fun v d G8 F8 H8 k8 d8 o8 => ?_⟩
      have y8 : G8 L2 = none := k8.ap L2 (c4.ap L2 y3 (by rw [e3]; exact fun z => nomatch z)) (by rw [f4 _ _ e3]; exact fun z => nomatch z)
      have e8 := k8.sF _ _ (f4 _ _ e3)
      refine ⟨L2, vs7, v, rfl, rfl, k8.B.sub _ _ e8, by rw [dta_len hA, l7]; exact small1000 (by omega), ?_⟩
      refine ⟨_, _, G8, _, vs7 ++ [v], as7 ++ [d], rfl, by rw [List.length_append, l7, List.length_singleton]; omega, dta_app (Sx.dta_same (g4.trans k8.sG) _ _ hA) (.cons d8 .nil), fun d' h => (List.mem_append.mp h).elim (hRA d') fun h => by rw [List.mem_singleton.mp h]; exact o8.ge (by decide) (by decide), upd_same, y8, k8.B.put e8, same_put k8.s y8, g3.trans (g4.trans k8.sG), same_put (f3.trans (f4.trans k8.sF)) nF2, ?_, Sx.dta_same (g4.trans k8.sG) _ _ hD1⟩
      rw [upd_ne hne]
      exact k8.sF _ _ (f4 _ _ e1)
    rintro σ H6 ⟨v7, v10, G3, F3, vs7, as7, rfl, l7, hA, hRA, e3, y3, B6, s5, g3, f3, e1, hD1⟩
    refine ⟨_, rfl, .inl ⟨rfl, _, .of (B6.sub _ _ e3)⟩, _, rfl, _, rfl, F3, b, g, L0, ovs, rfl, B6, .inl (.of (f3 _ _ eO)), ?_, ?_, fun i x H12 hx12 B12 => ?_⟩
    · rintro rfl
      cases hO
    · rw [dta_len hO]
      decide
    obtain ⟨hi12, hdx⟩ := dta_val hO hx12
    have okx := others_ok.mem (List.mem_of_getElem? (getD_some PyData.none hi12))
    refine ⟨L2, vs7, x, rfl, rfl, B12.sub _ _ e3, by rw [dta_len hA, l7]; exact small1000 (by decide), ?_⟩
    have bP := B12.put (o := .lst (vs7 ++ [x])) e3
    have sP := same_put (o := .lst (vs7 ++ [x])) s5 y3
    have fP := same_put (o := .lst (vs7 ++ [x])) f3 nF2
    have eP : (upd F3 L2 (.lst (vs7 ++ [x]))) L2 = some (.lst (vs7 ++ [x])) := upd_same
    have hE := dta_app hA (.cons (Sx.dt_same (gG1.trans g3) _ _ hdx) .nil)
    have hRE : ∀ d ∈ as7 ++ [othersD.getD i .none], Thing d := fun d h => (List.mem_append.mp h).elim (hRA d) fun h => by rw [List.mem_singleton.mp h]; exact okx.ge (by decide) (by decide)
    generalize upd H12 L2 _ = H13 at bP ⊢
    generalize upd F3 L2 (.lst (vs7 ++ [x])) = F9 at bP sP fP eP
    refine ⟨_, rfl, _, rfl, _, rfl, _, "stretch", t, L2, ns, _, _, rfl, .of ((g3.trans (sP.trans bP.sub)) _ _ hT1), ten, bP.sub _ _ eP, Sx.dta_same (sP.trans bP.sub) _ _ hE, hRE, fun H19 s19 => ⟨_, rfl, iteF ?_⟩⟩
    exact ⟨_, _, _, _, _, _, _, _, _, _, rfl, (bP.more s19).less fP⟩
end
theorem all_mk {l : PySem.W.OpenLaw} {w : World} {K : PySem.W.Frag} {h : Heap} {mg : Str → Option Value} {fa f1 f2 f3 f4 f5 f6 f7 f8 f9 f10 f11 f12 f13 f14 f15 f16 f17 f18 f19 f20 : Addr} (X : K.In h) (G : h.Ns mainGlobals mg) (hfa : mg "law" = some (.ref fa))
    {od1 an1 od2 an2 od3 an3 od4 an4 od5 an5 od6 an6 od7 an7 od8 an8 od9 an9 od10 an10 od11 an11 od12 an12 od13 an13 od14 an14 od15 an15 od16 an16 od17 an17 od18 an18 od19 an19 od20 an20 : Option Addr} {sl1 sl2 sl3 sl4 sl5 sl6 sl7 sl8 sl9 sl10 sl11 sl12 sl13 sl14 sl15 sl16 sl17 sl18 sl19 sl20 : Array (Option Value)} {oc1 kV1 dc1 pm1 cd1 ct1 oc2 kV2 dc2 pm2 cd2 ct2 oc3 kV3 dc3 pm3 cd3 ct3 oc4 kV4 dc4 pm4 cd4 ct4 oc5 kV5 dc5 pm5 cd5 ct5 oc6 kV6 dc6 pm6 cd6 ct6 oc7 kV7 dc7 pm7 cd7 ct7 oc8 kV8 dc8 pm8 cd8 ct8 oc9 kV9 dc9 pm9 cd9 ct9 oc10 kV10 dc10 pm10 cd10 ct10 oc11 kV11 dc11 pm11 cd11 ct11 oc12 kV12 dc12 pm12 cd12 ct12 oc13 kV13 dc13 pm13 cd13 ct13 oc14 kV14 dc14 pm14 cd14 ct14 oc15 kV15 dc15 pm15 cd15 ct15 oc16 kV16 dc16 pm16 cd16 ct16 oc17 kV17 dc17 pm17 cd17 ct17 oc18 kV18 dc18 pm18 cd18 ct18 oc19 kV19 dc19 pm19 cd19 ct19 oc20 kV20 dc20 pm20 cd20 ct20 : Value} {u_MAX_LANES u_MAX_MODULUS u_MAX_NUMBER : Value}
    (a1 : PySem.W.nsIn K mainGlobals "is_whole" = some (some (.ref f1))) (l1 : K.lookup f1 = some ⟨oc1, od1, .func (PySem.W.fnOf "is_whole" "is_whole" (defArgs s_is_whole) (defBody s_is_whole) (defScope s_is_whole) .none kV1 dc1 pm1 an1 cd1 ct1), sl1⟩) (c1 : PySem.W.codeIn K cd1 "is_whole" = true) (k1 : PySem.W.keepIn K (.ref f1) = true)
    (a2 : PySem.W.nsIn K mainGlobals "is_within" = some (some (.ref f2))) (l2 : K.lookup f2 = some ⟨oc2, od2, .func (PySem.W.fnOf "is_within" "is_within" (defArgs s_is_within) (defBody s_is_within) (defScope s_is_within) .none kV2 dc2 pm2 an2 cd2 ct2), sl2⟩) (c2 : PySem.W.codeIn K cd2 "is_within" = true) (k2 : PySem.W.keepIn K (.ref f2) = true)
    (a3 : PySem.W.nsIn K mainGlobals "is_number" = some (some (.ref f3))) (l3 : K.lookup f3 = some ⟨oc3, od3, .func (PySem.W.fnOf "is_number" "is_number" (defArgs s_is_number) (defBody s_is_number) (defScope s_is_number) .none kV3 dc3 pm3 an3 cd3 ct3), sl3⟩) (c3 : PySem.W.codeIn K cd3 "is_number" = true) (k3 : PySem.W.keepIn K (.ref f3) = true)
    (a4 : PySem.W.nsIn K mainGlobals "machine_error" = some (some (.ref f4))) (l4 : K.lookup f4 = some ⟨oc4, od4, .func (PySem.W.fnOf "machine_error" "machine_error" (defArgs s_machine_error) (defBody s_machine_error) (defScope s_machine_error) .none kV4 dc4 pm4 an4 cd4 ct4), sl4⟩) (c4 : PySem.W.codeIn K cd4 "machine_error" = true) (k4 : PySem.W.keepIn K (.ref f4) = true)
    (a5 : PySem.W.nsIn K mainGlobals "word_error" = some (some (.ref f5))) (l5 : K.lookup f5 = some ⟨oc5, od5, .func (PySem.W.fnOf "word_error" "word_error" (defArgs s_word_error) (defBody s_word_error) (defScope s_word_error) .none kV5 dc5 pm5 an5 cd5 ct5), sl5⟩) (c5 : PySem.W.codeIn K cd5 "word_error" = true) (k5 : PySem.W.keepIn K (.ref f5) = true)
    (a6 : PySem.W.nsIn K mainGlobals "stretch_error" = some (some (.ref f6))) (l6 : K.lookup f6 = some ⟨oc6, od6, .func (PySem.W.fnOf "stretch_error" "stretch_error" (defArgs s_stretch_error) (defBody s_stretch_error) (defScope s_stretch_error) .none kV6 dc6 pm6 an6 cd6 ct6), sl6⟩) (c6 : PySem.W.codeIn K cd6 "stretch_error" = true) (k6 : PySem.W.keepIn K (.ref f6) = true)
    (a7 : PySem.W.nsIn K mainGlobals "_law_box" = some (some (.ref f7))) (l7 : K.lookup f7 = some ⟨oc7, od7, .func (PySem.W.fnOf "_law_box" "_law_box" (defArgs s__law_box) (defBody s__law_box) (defScope s__law_box) .none kV7 dc7 pm7 an7 cd7 ct7), sl7⟩) (c7 : PySem.W.codeIn K cd7 "_law_box" = true) (k7 : PySem.W.keepIn K (.ref f7) = true)
    (a8 : PySem.W.nsIn K mainGlobals "_law_draw" = some (some (.ref f8))) (l8 : K.lookup f8 = some ⟨oc8, od8, .func (PySem.W.fnOf "_law_draw" "_law_draw" (defArgs s__law_draw) (defBody s__law_draw) (defScope s__law_draw) .none kV8 dc8 pm8 an8 cd8 ct8), sl8⟩) (c8 : PySem.W.codeIn K cd8 "_law_draw" = true) (k8 : PySem.W.keepIn K (.ref f8) = true)
    (a9 : PySem.W.nsIn K mainGlobals "_law_pick" = some (some (.ref f9))) (l9 : K.lookup f9 = some ⟨oc9, od9, .func (PySem.W.fnOf "_law_pick" "_law_pick" (defArgs s__law_pick) (defBody s__law_pick) (defScope s__law_pick) .none kV9 dc9 pm9 an9 cd9 ct9), sl9⟩) (c9 : PySem.W.codeIn K cd9 "_law_pick" = true) (k9 : PySem.W.keepIn K (.ref f9) = true)
    (a10 : PySem.W.nsIn K mainGlobals "_law_great" = some (some (.ref f10))) (l10 : K.lookup f10 = some ⟨oc10, od10, .func (PySem.W.fnOf "_law_great" "_law_great" (defArgs s__law_great) (defBody s__law_great) (defScope s__law_great) .none kV10 dc10 pm10 an10 cd10 ct10), sl10⟩) (c10 : PySem.W.codeIn K cd10 "_law_great" = true) (k10 : PySem.W.keepIn K (.ref f10) = true)
    (a11 : PySem.W.nsIn K mainGlobals "_law_number" = some (some (.ref f11))) (l11 : K.lookup f11 = some ⟨oc11, od11, .func (PySem.W.fnOf "_law_number" "_law_number" (defArgs s__law_number) (defBody s__law_number) (defScope s__law_number) .none kV11 dc11 pm11 an11 cd11 ct11), sl11⟩) (c11 : PySem.W.codeIn K cd11 "_law_number" = true) (k11 : PySem.W.keepIn K (.ref f11) = true)
    (a12 : PySem.W.nsIn K mainGlobals "_law_machine" = some (some (.ref f12))) (l12 : K.lookup f12 = some ⟨oc12, od12, .func (PySem.W.fnOf "_law_machine" "_law_machine" (defArgs s__law_machine) (defBody s__law_machine) (defScope s__law_machine) .none kV12 dc12 pm12 an12 cd12 ct12), sl12⟩) (c12 : PySem.W.codeIn K cd12 "_law_machine" = true) (k12 : PySem.W.keepIn K (.ref f12) = true)
    (a13 : PySem.W.nsIn K mainGlobals "_law_is_number" = some (some (.ref f13))) (l13 : K.lookup f13 = some ⟨oc13, od13, .func (PySem.W.fnOf "_law_is_number" "_law_is_number" (defArgs s__law_is_number) (defBody s__law_is_number) (defScope s__law_is_number) .none kV13 dc13 pm13 an13 cd13 ct13), sl13⟩) (c13 : PySem.W.codeIn K cd13 "_law_is_number" = true) (k13 : PySem.W.keepIn K (.ref f13) = true)
    (a14 : PySem.W.nsIn K mainGlobals "_law_is_from" = some (some (.ref f14))) (l14 : K.lookup f14 = some ⟨oc14, od14, .func (PySem.W.fnOf "_law_is_from" "_law_is_from" (defArgs s__law_is_from) (defBody s__law_is_from) (defScope s__law_is_from) .none kV14 dc14 pm14 an14 cd14 ct14), sl14⟩) (c14 : PySem.W.codeIn K cd14 "_law_is_from" = true) (k14 : PySem.W.keepIn K (.ref f14) = true)
    (a15 : PySem.W.nsIn K mainGlobals "_law_of_machine" = some (some (.ref f15))) (l15 : K.lookup f15 = some ⟨oc15, od15, .func (PySem.W.fnOf "_law_of_machine" "_law_of_machine" (defArgs s__law_of_machine) (defBody s__law_of_machine) (defScope s__law_of_machine) .none kV15 dc15 pm15 an15 cd15 ct15), sl15⟩) (c15 : PySem.W.codeIn K cd15 "_law_of_machine" = true) (k15 : PySem.W.keepIn K (.ref f15) = true)
    (a16 : PySem.W.nsIn K mainGlobals "_law_of_word" = some (some (.ref f16))) (l16 : K.lookup f16 = some ⟨oc16, od16, .func (PySem.W.fnOf "_law_of_word" "_law_of_word" (defArgs s__law_of_word) (defBody s__law_of_word) (defScope s__law_of_word) .none kV16 dc16 pm16 an16 cd16 ct16), sl16⟩) (c16 : PySem.W.codeIn K cd16 "_law_of_word" = true) (k16 : PySem.W.keepIn K (.ref f16) = true)
    (a17 : PySem.W.nsIn K mainGlobals "_law_of_stretch" = some (some (.ref f17))) (l17 : K.lookup f17 = some ⟨oc17, od17, .func (PySem.W.fnOf "_law_of_stretch" "_law_of_stretch" (defArgs s__law_of_stretch) (defBody s__law_of_stretch) (defScope s__law_of_stretch) .none kV17 dc17 pm17 an17 cd17 ct17), sl17⟩) (c17 : PySem.W.codeIn K cd17 "_law_of_stretch" = true) (k17 : PySem.W.keepIn K (.ref f17) = true)
    (a18 : PySem.W.nsIn K mainGlobals "_law_spoilt" = some (some (.ref f18))) (l18 : K.lookup f18 = some ⟨oc18, od18, .func (PySem.W.fnOf "_law_spoilt" "_law_spoilt" (defArgs s__law_spoilt) (defBody s__law_spoilt) (defScope s__law_spoilt) .none kV18 dc18 pm18 an18 cd18 ct18), sl18⟩) (c18 : PySem.W.codeIn K cd18 "_law_spoilt" = true) (k18 : PySem.W.keepIn K (.ref f18) = true)
    (a19 : PySem.W.nsIn K mainGlobals "_law_are_told" = some (some (.ref f19))) (l19 : K.lookup f19 = some ⟨oc19, od19, .func (PySem.W.fnOf "_law_are_told" "_law_are_told" (defArgs s__law_are_told) (defBody s__law_are_told) (defScope s__law_are_told) .none kV19 dc19 pm19 an19 cd19 ct19), sl19⟩) (c19 : PySem.W.codeIn K cd19 "_law_are_told" = true) (k19 : PySem.W.keepIn K (.ref f19) = true)
    (a20 : PySem.W.nsIn K mainGlobals "law" = some (some (.ref f20))) (l20 : K.lookup f20 = some ⟨oc20, od20, .func (PySem.W.fnOf "law" "law" (defArgs s_law) (defBody s_law) (defScope s_law) .none kV20 dc20 pm20 an20 cd20 ct20), sl20⟩) (c20 : PySem.W.codeIn K cd20 "law" = true) (k20 : PySem.W.keepIn K (.ref f20) = true)
    (z_abs : PySem.W.nsIn K mainGlobals "abs" = some none)
    (z_bool : PySem.W.nsIn K mainGlobals "bool" = some none)
    (z_enumerate : PySem.W.nsIn K mainGlobals "enumerate" = some none)
    (z_int : PySem.W.nsIn K mainGlobals "int" = some none)
    (z_isinstance : PySem.W.nsIn K mainGlobals "isinstance" = some none)
    (z_len : PySem.W.nsIn K mainGlobals "len" = some none)
    (z_list : PySem.W.nsIn K mainGlobals "list" = some none)
    (z_range : PySem.W.nsIn K mainGlobals "range" = some none)
    (z_repr : PySem.W.nsIn K mainGlobals "repr" = some none)
    (z_sorted : PySem.W.nsIn K mainGlobals "sorted" = some none)
    (z_tuple : PySem.W.nsIn K mainGlobals "tuple" = some none)
    (y_MAX_LANES : PySem.W.nsIn K mainGlobals "MAX_LANES" = some (some u_MAX_LANES)) (r_MAX_LANES : RelV v_MAX_LANES u_MAX_LANES)
    (y_MAX_MODULUS : PySem.W.nsIn K mainGlobals "MAX_MODULUS" = some (some u_MAX_MODULUS)) (r_MAX_MODULUS : RelV v_MAX_MODULUS u_MAX_MODULUS)
    (y_MAX_NUMBER : PySem.W.nsIn K mainGlobals "MAX_NUMBER" = some (some u_MAX_NUMBER)) (r_MAX_NUMBER : RelV v_MAX_NUMBER u_MAX_NUMBER)
    : ∃ fd : FuncData, (∀ (s : Shared) (v : Value), BindsTo s fd ⟨[v], []⟩ [("script", v)]) ∧ ∀ base : Heap, K.In base → base.Ns mainGlobals mg → FnG l.prog w K mg base CX0 6 fa fd ["script"] (sp_law K) := by
  have e := hfa.symm.trans (PySem.W.mg_of X G a20)
  cases e
  have F1 := fun_mk (st := s_is_whole) l1 c1 k1
  have b1 := F1.binds (ps := ["value"]) fun _ _ _ _ _ _ us hl => match us, hl with | [_], _ => rfl
  have F2 := fun_mk (st := s_is_within) l2 c2 k2
  have b2 := F2.binds (ps := ["value", "low", "high"]) fun _ _ _ _ _ _ us hl => match us, hl with | [_, _, _], _ => rfl
  have F3 := fun_mk (st := s_is_number) l3 c3 k3
  have b3 := F3.binds (ps := ["value"]) fun _ _ _ _ _ _ us hl => match us, hl with | [_], _ => rfl
  have F4 := fun_mk (st := s_machine_error) l4 c4 k4
  have b4 := F4.binds (ps := ["value"]) fun _ _ _ _ _ _ us hl => match us, hl with | [_], _ => rfl
  have F5 := fun_mk (st := s_word_error) l5 c5 k5
  have b5 := F5.binds (ps := ["machine", "value"]) fun _ _ _ _ _ _ us hl => match us, hl with | [_, _], _ => rfl
  have F6 := fun_mk (st := s_stretch_error) l6 c6 k6
  have b6 := F6.binds (ps := ["value"]) fun _ _ _ _ _ _ us hl => match us, hl with | [_], _ => rfl
  have F7 := fun_mk (st := s__law_box) l7 c7 k7
  have b7 := F7.binds (ps := ["script"]) fun _ _ _ _ _ _ us hl => match us, hl with | [_], _ => rfl
  have F8 := fun_mk (st := s__law_draw) l8 c8 k8
  have b8 := F8.binds (ps := ["box", "many"]) fun _ _ _ _ _ _ us hl => match us, hl with | [_, _], _ => rfl
  have F9 := fun_mk (st := s__law_pick) l9 c9 k9
  have b9 := F9.binds (ps := ["box", "items"]) fun _ _ _ _ _ _ us hl => match us, hl with | [_, _], _ => rfl
  have F10 := fun_mk (st := s__law_great) l10 c10 k10
  have b10 := F10.binds (ps := ["box", "many"]) fun _ _ _ _ _ _ us hl => match us, hl with | [_, _], _ => rfl
  have F11 := fun_mk (st := s__law_number) l11 c11 k11
  have b11 := F11.binds (ps := ["box"]) fun _ _ _ _ _ _ us hl => match us, hl with | [_], _ => rfl
  have F12 := fun_mk (st := s__law_machine) l12 c12 k12
  have b12 := F12.binds (ps := ["box"]) fun _ _ _ _ _ _ us hl => match us, hl with | [_], _ => rfl
  have F13 := fun_mk (st := s__law_is_number) l13 c13 k13
  have b13 := F13.binds (ps := ["thing"]) fun _ _ _ _ _ _ us hl => match us, hl with | [_], _ => rfl
  have F14 := fun_mk (st := s__law_is_from) l14 c14 k14
  have b14 := F14.binds (ps := ["thing", "low", "high"]) fun _ _ _ _ _ _ us hl => match us, hl with | [_, _, _], _ => rfl
  have F15 := fun_mk (st := s__law_of_machine) l15 c15 k15
  have b15 := F15.binds (ps := ["thing"]) fun _ _ _ _ _ _ us hl => match us, hl with | [_], _ => rfl
  have F16 := fun_mk (st := s__law_of_word) l16 c16 k16
  have b16 := F16.binds (ps := ["machine", "thing"]) fun _ _ _ _ _ _ us hl => match us, hl with | [_, _], _ => rfl
  have F17 := fun_mk (st := s__law_of_stretch) l17 c17 k17
  have b17 := F17.binds (ps := ["thing"]) fun _ _ _ _ _ _ us hl => match us, hl with | [_], _ => rfl
  have F18 := fun_mk (st := s__law_spoilt) l18 c18 k18
  have b18 := F18.binds (ps := ["box", "row", "odd"]) fun _ _ _ _ _ _ us hl => match us, hl with | [_, _, _], _ => rfl
  have F19 := fun_mk (st := s__law_are_told) l19 c19 k19
  have b19 := F19.binds (ps := ["box", "name", "machine", "things"]) fun _ _ _ _ _ _ us hl => match us, hl with | [_, _, _, _], _ => rfl
  have F20 := fun_mk (st := s_law) l20 c20 k20
  have b20 := F20.binds (ps := ["script"]) fun _ _ _ _ _ _ us hl => match us, hl with | [_], _ => rfl
  have T : Txt K mg ⟨f1, _, f2, _, f3, _, f4, _, f5, _, f6, _, f7, _, f8, _, f9, _, f10, _, f11, _, f12, _, f13, _, f14, _, f15, _, f16, _, f17, _, f18, _, f19, _, fa, _⟩ := ⟨⟨F1, b1, PySem.W.mg_of X G a1⟩, ⟨F2, b2, PySem.W.mg_of X G a2⟩, ⟨F3, b3, PySem.W.mg_of X G a3⟩, ⟨F4, b4, PySem.W.mg_of X G a4⟩, ⟨F5, b5, PySem.W.mg_of X G a5⟩, ⟨F6, b6, PySem.W.mg_of X G a6⟩, ⟨F7, b7, PySem.W.mg_of X G a7⟩, ⟨F8, b8, PySem.W.mg_of X G a8⟩, ⟨F9, b9, PySem.W.mg_of X G a9⟩, ⟨F10, b10, PySem.W.mg_of X G a10⟩, ⟨F11, b11, PySem.W.mg_of X G a11⟩, ⟨F12, b12, PySem.W.mg_of X G a12⟩, ⟨F13, b13, PySem.W.mg_of X G a13⟩, ⟨F14, b14, PySem.W.mg_of X G a14⟩, ⟨F15, b15, PySem.W.mg_of X G a15⟩, ⟨F16, b16, PySem.W.mg_of X G a16⟩, ⟨F17, b17, PySem.W.mg_of X G a17⟩, ⟨F18, b18, PySem.W.mg_of X G a18⟩, ⟨F19, b19, PySem.W.mg_of X G a19⟩, ⟨F20, b20, PySem.W.mg_of X G a20⟩, PySem.W.mg_none_of X G z_abs, PySem.W.mg_none_of X G z_bool, PySem.W.mg_none_of X G z_enumerate, PySem.W.mg_none_of X G z_int, PySem.W.mg_none_of X G z_isinstance, PySem.W.mg_none_of X G z_len, PySem.W.mg_none_of X G z_list, PySem.W.mg_none_of X G z_range, PySem.W.mg_none_of X G z_repr, PySem.W.mg_none_of X G z_sorted, PySem.W.mg_none_of X G z_tuple, ⟨_, PySem.W.mg_of X G y_MAX_LANES, r_MAX_LANES⟩, ⟨_, PySem.W.mg_of X G y_MAX_MODULUS, r_MAX_MODULUS⟩, ⟨_, PySem.W.mg_of X G y_MAX_NUMBER, r_MAX_NUMBER⟩⟩
  exact ⟨_, fun s v => .of_eq rfl, fun base _ _ => ok_law T⟩
end K1
open PySem PySem.W PyProof.Rows
set_option maxHeartbeats 0 in
theorem PySem.Challenge.cw_straylanes_k01_what_is_a_machine_a_word_holds : PySem.Challenge.rw_straylanes_k01_what_is_a_machine_a_word.Holds := by
  w_on; o_law; k_head; (case hw => w_witness2)
  k_fill
  refine Sx.walkG (l := PySem.Challenge.rw_straylanes_k01_what_is_a_machine_a_word) (n := 63) (k := 6) (x := "script") (sp := Sx.sp_law) rfl (by decide) rfl ⟨rfl, by decide, by decide⟩ (fun w h Y => PySem.W.kIn_of Y) ?F (fun _ _ a ns hl _ hS => ⟨a, ns, rfl, hS, hl, fun _ => rfl⟩)
  case F =>
    intro w mg fa h KX G hmg
    refine' K1.all_mk KX G hmg ?a1 ?l1 ?c1 ?k1 ?a2 ?l2 ?c2 ?k2 ?a3 ?l3 ?c3 ?k3 ?a4 ?l4 ?c4 ?k4 ?a5 ?l5 ?c5 ?k5 ?a6 ?l6 ?c6 ?k6 ?a7 ?l7 ?c7 ?k7 ?a8 ?l8 ?c8 ?k8 ?a9 ?l9 ?c9 ?k9 ?a10 ?l10 ?c10 ?k10 ?a11 ?l11 ?c11 ?k11 ?a12 ?l12 ?c12 ?k12 ?a13 ?l13 ?c13 ?k13 ?a14 ?l14 ?c14 ?k14 ?a15 ?l15 ?c15 ?k15 ?a16 ?l16 ?c16 ?k16 ?a17 ?l17 ?c17 ?k17 ?a18 ?l18 ?c18 ?k18 ?a19 ?l19 ?c19 ?k19 ?a20 ?l20 ?c20 ?k20 ?z_abs ?z_bool ?z_enumerate ?z_int ?z_isinstance ?z_len ?z_list ?z_range ?z_repr ?z_sorted ?z_tuple ?y_MAX_LANES ?r_MAX_LANES ?y_MAX_MODULUS ?r_MAX_MODULUS ?y_MAX_NUMBER ?r_MAX_NUMBER
    (case a1 => k_is)
    (case l1 => k_is)
    (case c1 => k_is)
    (case k1 => k_is)
    (case a2 => k_is)
    (case l2 => k_is)
    (case c2 => k_is)
    (case k2 => k_is)
    (case a3 => k_is)
    (case l3 => k_is)
    (case c3 => k_is)
    (case k3 => k_is)
    (case a4 => k_is)
    (case l4 => k_is)
    (case c4 => k_is)
    (case k4 => k_is)
    (case a5 => k_is)
    (case l5 => k_is)
    (case c5 => k_is)
    (case k5 => k_is)
    (case a6 => k_is)
    (case l6 => k_is)
    (case c6 => k_is)
    (case k6 => k_is)
    (case a7 => k_is)
    (case l7 => k_is)
    (case c7 => k_is)
    (case k7 => k_is)
    (case a8 => k_is)
    (case l8 => k_is)
    (case c8 => k_is)
    (case k8 => k_is)
    (case a9 => k_is)
    (case l9 => k_is)
    (case c9 => k_is)
    (case k9 => k_is)
    (case a10 => k_is)
    (case l10 => k_is)
    (case c10 => k_is)
    (case k10 => k_is)
    (case a11 => k_is)
    (case l11 => k_is)
    (case c11 => k_is)
    (case k11 => k_is)
    (case a12 => k_is)
    (case l12 => k_is)
    (case c12 => k_is)
    (case k12 => k_is)
    (case a13 => k_is)
    (case l13 => k_is)
    (case c13 => k_is)
    (case k13 => k_is)
    (case a14 => k_is)
    (case l14 => k_is)
    (case c14 => k_is)
    (case k14 => k_is)
    (case a15 => k_is)
    (case l15 => k_is)
    (case c15 => k_is)
    (case k15 => k_is)
    (case a16 => k_is)
    (case l16 => k_is)
    (case c16 => k_is)
    (case k16 => k_is)
    (case a17 => k_is)
    (case l17 => k_is)
    (case c17 => k_is)
    (case k17 => k_is)
    (case a18 => k_is)
    (case l18 => k_is)
    (case c18 => k_is)
    (case k18 => k_is)
    (case a19 => k_is)
    (case l19 => k_is)
    (case c19 => k_is)
    (case k19 => k_is)
    (case a20 => k_is)
    (case l20 => k_is)
    (case c20 => k_is)
    (case k20 => k_is)
    (case z_abs => k_is)
    (case z_bool => k_is)
    (case z_enumerate => k_is)
    (case z_int => k_is)
    (case z_isinstance => k_is)
    (case z_len => k_is)
    (case z_list => k_is)
    (case z_range => k_is)
    (case z_repr => k_is)
    (case z_sorted => k_is)
    (case z_tuple => k_is)
    (case y_MAX_LANES => k_is)
    (case r_MAX_LANES => exact ⟨_, rfl⟩)
    (case y_MAX_MODULUS => k_is)
    (case r_MAX_MODULUS => exact ⟨_, rfl⟩)
    (case y_MAX_NUMBER => k_is)
    (case r_MAX_NUMBER => exact ⟨_, rfl⟩)
