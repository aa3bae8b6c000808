import PyProof.Rows.All
import Wide.All
import OpenK.AllK
import Wide.FinOn
import PyProof.ReprRoads
import PyProof.ReprLen
import HandS.ForMost
import HandS.Wide
import HandS.IsInst
import HandS.Walk
import HandS.Zip
import HandS.TupAny
import HandS.TupMul
import HandS.SortInts
import HandS.Flow
import HandS.Evl
import KE.GoesEnum
import KE.GoesMore
import KE.GoesZip
import KE.DataMinMax
import HandS.Conv
import PyProof.ReprReads
import PyProof.ReprDict
import HandS.TupLe
import HandS.Style
import HandS.Gcd
import PySem.Challenge.RW_straylanes_k12_whole_clashes_by_going_th
set_option maxHeartbeats 4000000
set_option Elab.async false
set_option linter.all false
set_option maxRecDepth 100000
/-! The layer below: defs whose call knows that no repr is under way, repr of data, calls by keywords alone, rules of either kind. -/
namespace Sx
open PySem PySem.Spec PyProof.Rows L2

/-! ### a def that shows data: called where no repr is under way -/
structure FnG (P : Program) (w : World) (K : PySem.W.Frag) (mg : Str → Option Value) (B : Heap) (CX : CXT) (n : Nat) (f : Addr) (fd : FuncData) (ps : List Str) (sp : Sp) : Prop where
  lenG : ∀ vs H Q E, sp vs H Q E → vs.length = ps.length
  runG : ∀ (A : Around) (out : List Env) (s : Shared) (H : Hp) (as : Args) (us : List Value) (vs : List V) (Q : VK) (E : XK), A.guards = some [] → Room n A →
    Env0 P w K mg B A out s H → BindsTo s fd as (ps.zip us) → Vals vs us → sp vs H Q E → codeAny (model P w) A (.call (.ref f) as) (CR CX out P w H s Q E) s

section
variable {P : Program} {w : World} {K : PySem.W.Frag} {mg : Str → Option Value} {B : Heap} {CX : CXT}
theorem FnG.up {n m : Nat} {f : Addr} {fd : FuncData} {ps : List Str} {sp : Sp} (F : FnG P w K mg B CX n f fd ps sp) (h : n ≤ m) : FnG P w K mg B CX m f fd ps sp :=
  ⟨F.lenG, fun A out s H as us vs Q E hg hr => F.runG A out s H as us vs Q E hg (hr.mono h)⟩
/-- from the body, for a def that may raise -/
theorem okGX {x qual : Str} {st : Stmt} {f : Addr} {fd : FuncData} {N ps : List Str} {n : Nat} {sp : Sp} (F : Fun K x qual st f fd) (S : FnScope N ps (defScope st)) (hlen : ∀ vs H Q E, sp vs H Q E → vs.length = ps.length)
    (body : ∀ (cd : Value) (A : Around) (out : List Env) (s : Shared) (H : Hp) (vs : List V) (Q : VK) (E : XK), A.guards = some [] → Room n (A.deeper (envOfC qual (defScope st) s.heap.objs.size f cd)) → sp vs H Q E →
      ∃ t, PSs (cxOf CX P w K mg B N qual (defScope st) f cd A out s H E) (defBody st) t ∧ t { nx := fun _ H1 => Q .non H1, rt := Q } (start N vs) H) : FnG P w K mg B CX (n + 1) f fd ps sp := by
  obtain ⟨oc, od, kV, doc, pm, an, cd, ct, osl, rfl, lk, hcd⟩ := F.ex
  refine ⟨hlen, ?_⟩
  intro A out s H as us vs Q E hg hr e0 hb rel hsp
  have hl := hlen vs H Q E hsp
  have kin : K.In s.heap := e0.mod.kin.keeps (fun b o e => (e0.bs b o e).1)
  have nol : s.heap.NoLimit := e0.mod.nolimit.keeps (fun b o e => (e0.bs b o e).1)
  refine codeAny_call_function hr.depth (kin _ _ lk) rfl S.co S.gen rfl (PySem.W.codeRec_of kin hcd)
    (hb _ _ _ _ ?_)
  refine wpAny_newFunctionEnv_cells S.kind (fun y hy => (S.par y.1 (List.of_mem_zip (a := y.1) (b := y.2) hy).1).elim (fun q => Or.inl q) fun q => Or.inr ⟨q, PySem.W.cellsFrom_some _ _ _ (Or.inl q)⟩) ?_
  intro env he s1 x
  subst he
  refine ⟨nol.keeps x.toInCall.keep, codeAny_func ?_⟩
  obtain ⟨t, ht, hq⟩ := body cd A out s H vs Q E hg (hr.deeper _) hsp
  have I := inv_start (CX := CX) (E := E) S hr.hd e0 hl rel x
  refine wpAny_mono (ht.run [] s1 (start N vs) H _ I hq) ?_ (fun _ _ z => z)
  intro fl s' hs
  cases fl with
  | ret u =>
    obtain ⟨v, σ1, H1, J, rv, q⟩ := hs
    exact (show CE out P w H s Q u s' from ⟨v, H1, J.os, J.bare, J.base, J.hok, rv, q⟩)
  | next =>
    obtain ⟨σ1, H1, J, q⟩ := hs
    exact (show CE out P w H s Q Value.none s' from ⟨V.non, H1, J.os, J.bare, J.base, J.hok, rfl, q⟩)
  | brk =>
    obtain ⟨_, _, _, q⟩ := hs
    exact q.elim
  | cont =>
    obtain ⟨_, _, _, q⟩ := hs
    exact q.elim
theorem okG {x qual : Str} {st : Stmt} {f : Addr} {fd : FuncData} {N ps : List Str} {n : Nat} {sp : Sp} (F : Fun K x qual st f fd) (S : FnScope N ps (defScope st)) (hlen : ∀ vs H Q E, sp vs H Q E → vs.length = ps.length)
    (body : ∀ (cd : Value) (A : Around) (out : List Env) (s : Shared) (H : Hp) (vs : List V) (Q : VK) (E : XK), A.guards = some [] → Room n (A.deeper (envOfC qual (defScope st) s.heap.objs.size f cd)) → sp vs H Q E →
      ∃ t, PSs (cxOf CX0 P w K mg B N qual (defScope st) f cd A out s H E).nox (defBody st) t ∧ t { nx := fun _ H1 => Q .non H1, rt := Q } (start N vs) H) : FnG P w K mg B CX0 (n + 1) f fd ps sp :=
  okGX F S hlen fun cd A out s H vs Q E hg hr hsp => let ⟨t, h, q⟩ := body cd A out s H vs Q E hg hr hsp; ⟨t, h.nox, q⟩
end

section
variable {X : Cx} {CX : CXT} {n : Nat} {f : Addr} {fd : FuncData} {ps : List Str} {sp : Sp} {dvs : List V} {ds : List Value} {E : XK} {x : Str} {p pos : Pos} {e : Expr} {es : List Expr} {t : TA}
theorem run_fnG {pins : List (Addr × Obj)} {σ : L2.St} {H : Hp} {s : Shared} {Q : VK} {us : List Value} {vs : List V} (hg : X.A.guards = some []) (F : FnG X.prog X.w X.K X.mg X.base CX n f fd ps sp) (hr : Room n X.A) (hb : Binds X.K fd ps [])
    (hx : Passes CX X E) (I : Inv X pins σ H s) (r : Vals vs us) (h : sp vs H Q E) : wpAny (model X.prog X.w) X.A (call (.ref f) us) (EP X pins σ Q) X.xe s := by
  have hl : (us ++ []).length = ps.length := by
    rw [List.append_nil, ← r.length]
    exact F.lenG _ _ _ _ h
  have bb := hb s us I.kIn hl
  rw [List.append_nil] at bb
  refine wpAny_call (codeAny_mono (F.runG X.A X.stack s H ⟨us, []⟩ us vs Q E hg hr I.env0 bb r h) ?_)
  intro res s' hq
  match res, hq with
  | .error e, hq => exact hx pins σ H s e s' I hq
  | .ok (.ret u), hq => exact I.after hq
  | .ok .next, hq => exact False.elim hq
  | .ok .brk, hq => exact False.elim hq
  | .ok .cont, hq => exact False.elim hq
theorem pe_callG (hg : X.A.guards = some []) (F : FnG X.prog X.w X.K X.mg X.base CX n f fd ps sp) (hr : Room n X.A) (hgl : Gl X x) (hm : X.mg x = some (.ref f)) (hk : PySem.W.keepIn X.K (.ref f) = true) (hb : Binds X.K fd ps [])
    (hx : Passes CX X E) (ha : PA X (e :: es) t) (hdb : (x == ("__debug__" : Str)) = false := by decide) (he : starEach (e :: es) X.env = (false, eval e X.env) :: starEach es X.env := by rfl)
    (hpl : (backTo pos (starEach es X.env)).any (·.1) = false := by rfl) : PE X (.Call (.Name x p) (e :: es) [] pos) (tCall sp [] E t) := by
  refine ⟨fun pins s σ H Q I h => wpAny_Call_Name_kw (ld_glob I hgl hm ?_ hdb)⟩
  refine PySem.W.callWith_K (h₀ := X.base) I.ok.mod.kin hk (thn (ha.run pos pins s σ H _ I h) ?_) he hpl
  rintro us s1 ⟨vs, H1, I1, r, q⟩
  have q' : sp (vs ++ []) H1 Q E := q
  rw [List.append_nil] at q'
  exact ⟨I1.kIn, run_fnG hg F hr hb hx I1 r q'⟩
/-- f(k = v, ..), no positional argument -/
theorem pe_callKs {ks : List Str} {kws : List Keyword} {tk : TA} {g : List Value → List Value → List Value} {gV : List V → List V → List V} (F : FnOk X.prog X.w X.K X.mg X.base CX n f fd ps sp) (hr : Room n X.A) (hgl : Gl X x) (hm : X.mg x = some (.ref f))
    (hk : PySem.W.keepIn X.K (.ref f) = true) (hb : KBinds X.K fd ps ks g gV) (hx : Passes CX X E) (hkw : PK X kws tk) (hall : (backToKw pos (keywordEach kws X.env)).all (·.1.isSome) = true := by rfl)
    (hks : (backToKw pos (keywordEach kws X.env)).filterMap (·.1) = ks := by rfl) (hdb : (x == ("__debug__" : Str)) = false := by decide)
    (hpl : ((backTo pos (starEach [] X.env)).any (·.1) || (backToKw pos (keywordEach kws X.env)).any (·.1.isNone)) = false := by rfl) : PE X (.Call (.Name x p) [] kws pos) (tCallK sp gV E tNil tk) := by
  refine ⟨fun pins s σ H Q I h => wpAny_Call_Name_kw (ld_glob I hgl hm ?_ hdb)⟩
  refine PySem.W.callWith_KW0 (h₀ := X.base) I.ok.mod.kin hk hall (thn (hkw.run pos pins s σ H _ I h) ?_) hpl
  rintro ws s2 ⟨zs, H2, I2, rz, q2⟩
  refine ⟨I2.kIn, ?_⟩
  rw [hks]
  exact run_fnk (us := []) (vs := []) F hr hb hx I2 .nil rz q2
end

/-! ### how keywords bind, by the parameters' names alone -/
theorem Fun.kb {K : PySem.W.Frag} {x qual : Str} {st : Stmt} {f : Addr} {fd : FuncData} {ps ks : List Str} {g : List Value → List Value → List Value} {gV : List V → List V → List V} (F : Fun K x qual st f fd)
    (h : ∀ (kV doc pm : Value) (an : Option Addr) (cd ct : Value) (us ws : List Value), (g us ws).length = ps.length → bindArgs (PySem.W.fnOf x qual (defArgs st) (defBody st) (defScope st) .none kV doc pm an cd ct) ⟨us, ks.zip ws⟩ = pure (ps.zip (g us ws)))
    (rel : ∀ {vs : List V} {us : List Value} {zs : List V} {ws : List Value}, Vals vs us → Vals zs ws → Vals (gV vs zs) (g us ws)) : KBinds K fd ps ks g gV := by
  obtain ⟨oc, od, kV, doc, pm, an, cd, ct, osl, rfl, lk, hcd⟩ := F.ex
  exact ⟨fun s us ws _ hl => .of_eq (h kV doc pm an cd ct us ws hl), rel⟩

/-! ### repr of data -/
mutual
theorem dp_plain {K : PySem.W.Frag} {H : Hp} : ∀ (d : PyData) (v : V), Dp K H v d → d.hasDict = false
  | .none, _, _ => by simp only [PyData.hasDict]
  | .bool _, _, _ => by simp only [PyData.hasDict]
  | .int _, _, _ => by simp only [PyData.hasDict]
  | .str _, _, _ => by simp only [PyData.hasDict]
  | .list ds, _, h => by
    cases h with
    | lst _ ha =>
      simp only [PyData.hasDict]
      exact dp_plainAll ds _ ha
  | .tuple ds, _, h => by
    cases h with
    | tup _ ha =>
      simp only [PyData.hasDict]
      exact dp_plainAll ds _ ha
  | .dict _, _, h => by cases h
theorem dp_plainAll {K : PySem.W.Frag} {H : Hp} : ∀ (ds : List PyData) (vs : List V), DpAll K H vs ds → PyData.hasDictAll ds = false
  | [], _, _ => by simp only [PyData.hasDictAll]
  | d :: ds, _, h => by
    cases h with
    | cons h1 h2 =>
      simp only [PyData.hasDictAll, dp_plain d _ h1, dp_plainAll ds _ h2, Bool.or_self]
end
/-- what may be shown -/
structure Shows (d : PyData) : Prop where
  ok : d.showable = true
  sz : d.shown.length ≤ sizeLine
  dp : d.depth ≤ 60
def rShow (K : PySem.W.Frag) : List V → Hp → VK → Prop := fun xs H Q => ∃ v d, xs = [v] ∧ Dp K H v d ∧ Shows d ∧ Q (.str d.shown) H
theorem call_show {X : Cx} (hg : X.A.guards = some []) (hu : X.A.units + 64 < cLine) : CallR X (.builtin "repr") (rShow X.K) := by
  intro pins s σ H xs us Q I r h
  obtain ⟨v, d, rfl, hd, S, q⟩ := h
  obtain ⟨u, rfl, r1⟩ := vals1 r
  have q0 : (PyData.shown d) = d.shown := rfl
  cases hd with
  | non =>
    obtain rfl : u = Value.none := r1
    simp only [PyData.shown] at q
    exact PySem.P.repr_of_none ⟨.str _, H, I.tok _, ⟨_, rfl⟩, q⟩
  | bl b =>
    obtain rfl : u = Value.bool b := r1
    simp only [PyData.shown] at q
    exact PySem.P.repr_of_bool ⟨.str _, H, I.tok _, ⟨_, rfl⟩, by cases b <;> exact q⟩
  | int i =>
    obtain ⟨t, rfl⟩ := r1
    have hs := S.ok
    simp only [PyData.shown] at q
    exact PySem.P.repr_of_int (by simpa [PyData.showable] using hs) ⟨.str _, H, I.tok _, ⟨_, rfl⟩, q⟩
  | str y =>
    obtain ⟨t, rfl⟩ := r1
    have hz := S.sz
    simp only [PyData.shown] at q hz
    exact PySem.P.repr_of_str ⟨.str _, H, I.tok _, ⟨_, rfl⟩, q⟩ hz
  | @lst a ys ds h1 h2 =>
    obtain rfl : u = Value.ref a := r1
    have hp := dp_plain _ _ (Dp.lst h1 h2)
    obtain ⟨as, rd⟩ := Dp.reads I _ (V.ref a) (Value.ref a) (Dp.lst h1 h2) rfl
    exact repr_of_reads' rd S.ok (PyData.noDict_hsm hp) hg (by have := S.dp; omega) (fun _ _ e => e) (fun h' tu tk hk => ⟨.str _, H, I.kept hk, ⟨_, rfl⟩, q⟩) S.sz
  | @tup a ys ds h1 h2 =>
    obtain rfl : u = Value.ref a := r1
    have hp := dp_plain _ _ (Dp.tup h1 h2)
    obtain ⟨as, rd⟩ := Dp.reads I _ (V.ref a) (Value.ref a) (Dp.tup h1 h2) rfl
    exact repr_of_reads' rd S.ok (PyData.noDict_hsm hp) hg (by have := S.dp; omega) (fun _ _ e => e) (fun h' tu tk hk => ⟨.str _, H, I.kept hk, ⟨_, rfl⟩, q⟩) S.sz
end Sx
namespace Sx
open PySem PySem.Spec PyProof.Rows L2

/-! ### the law's end, for a law that shows data -/
section
variable {P : Program} {w : World} {K : PySem.W.Frag} {mg mb : Str → Option Value} {n : Nat} {fa a : Addr} {fd : FuncData} {x : Str} {sp : Sp} {s : Shared} {us : List Value} {ns : List Int}
abbrev Good (s : Shared) : Result → Shared → Prop := fun r s' => r = .ok (.ret (.bool true)) ∧ OldK s.heap s'.heap ∧ s'.os = s.os ∧ AllBare s'.gens
/-- from an abstract heap in which the script alone may stand -/
theorem law_from (kin : K.In s.heap) (hns : s.heap.Ns mainGlobals mg) (hb : s.heap.Ns builtinsNs mb) (hbb : ∀ x : Str, x ≠ "__name__" → mb x = bootBuiltins x) (hlim : s.heap.NoLimit) (hgens : s.gens = #[])
    (ha : s.heap.get? a = some { cls := .type "list", data := .seq us.toArray }) (hr : Room n callerA)
    (F : ∀ B : Heap, K.In B → B.Ns mainGlobals mg → FnG P w K mg B CX0 n fa fd [x] sp) (hbind : ∀ (s : Shared) (u : Value), BindsTo s fd ⟨[u], []⟩ [(x, u)]) (H : Hp)
    (hsp : sp [.ref a] H (fun v _ => v = .bl true) fun _ _ _ => False) (only : Only H) (ok : HOk P w H s.heap) (one : ∀ b, H b ≠ none → b = a) (apart : H a ≠ none → K.lookup a = none) :
    codeAny (model P w) callerA (.call (.ref fa) ⟨[.ref a], []⟩) (Good s) s := by
  have free : ∀ {b : Addr} {o : Obj} {es : Array DictEntry} {ep : Nat}, s.heap.get? b = some o → o.data = .dict es ep → H b = none := by
    intro b o es ep e d
    cases q : H b with
    | none => rfl
    | some z =>
      obtain rfl : b = a := one b (by rw [q]; exact fun z => nomatch z)
      rw [ha] at e
      cases e
      exact nomatch (show Data.seq us.toArray _ = Data.dict es ep from d)
  have hidN : ∀ {b : Addr} {m : Str → Option Value}, s.heap.Ns b m → (hidT s.heap H).Ns b m := by
    rintro b m ⟨o, es, ep, e, d, r⟩
    exact ⟨o, es, ep, hidT_get e (free e d), d, r⟩
  have hidK : K.In (hidT s.heap H) := by
    intro b o e
    refine hidT_get (kin b o e) ?_
    cases q : H b with
    | none => rfl
    | some z =>
      obtain rfl : b = a := one b (by rw [q]; exact fun z => nomatch z)
      rw [apart (by rw [q]; exact fun z => nomatch z)] at e
      cases e
  have M : Mod K mg (hidT s.heap H) := by
    obtain ⟨mc, h1, h2⟩ := hlim
    exact ⟨hidK, hidN hns, ⟨mb, hidN hb, hbb⟩, ⟨mc, hidN h1, h2⟩⟩
  have e0 : Env0 P w K mg (hidT s.heap H) callerA [] s H :=
    ⟨rfl, M, fun b o e => of_hidT e, Nat.le_of_eq (hidT_size _ _), trivial, fun b z => (List.not_mem_nil (a := b) z).elim, ok, .of_eq hgens⟩
  refine codeAny_mono ((F _ hidK (hidN hns)).runG callerA [] s H ⟨[.ref a], []⟩ [.ref a] [.ref a] _ _ rfl hr e0 (hbind s (.ref a)) (.cons rfl .nil) hsp) ?_
  intro r s' h
  match r, h with
  | .error e, h => exact (show False from h).elim
  | .ok .next, h => exact (show False from h).elim
  | .ok .brk, h => exact (show False from h).elim
  | .ok .cont, h => exact (show False from h).elim
  | .ok (.ret u), h =>
    obtain ⟨v, H1, os, bare, un, ok1, rv, q⟩ := h
    obtain rfl : v = .bl true := q
    obtain rfl : u = Value.bool true := rv
    refine ⟨rfl, OldK.of_keep ?_, os, bare⟩
    intro b o e
    cases q : H b with
    | none => exact un.keep b o e q (List.not_mem_nil (a := b)) (List.not_mem_nil (a := b))
    | some z =>
      rcases only b with h | ⟨ob, xs, h⟩
      · rw [q] at h
        cases h
      · obtain ⟨e1, _⟩ := ok b _ h
        obtain ⟨e2, _⟩ := ok1 b _ (un.frzs b ob _ h)
        rw [e] at e1
        cases e1
        exact e2
theorem law_callG (kin : K.In s.heap) (hns : s.heap.Ns mainGlobals mg) (hb : s.heap.Ns builtinsNs mb) (hbb : ∀ x : Str, x ≠ "__name__" → mb x = bootBuiltins x) (hlim : s.heap.NoLimit) (hgens : s.gens = #[])
    (ha : s.heap.get? a = some { cls := .type "list", data := .seq us.toArray }) (hi : IntsAre us ns) (hl : ns.length ≤ sizeLine) (hr : Room n callerA)
    (F : ∀ B : Heap, K.In B → B.Ns mainGlobals mg → FnG P w K mg B CX0 n fa fd [x] sp) (hbind : ∀ (s : Shared) (u : Value), BindsTo s fd ⟨[u], []⟩ [(x, u)])
    (hsp : ∀ H : Hp, Only H → SqL K H a (ns.map V.int) → sp [.ref a] H (fun v _ => v = .bl true) fun _ _ _ => False) : codeAny (model P w) callerA (.call (.ref fa) ⟨[.ref a], []⟩) (Good s) s := by
  have rv := vals_ints hi
  cases hk : K.lookup a with
  | some o =>
    have e := kin a o hk
    rw [ha] at e
    cases e
    have hO : Only (fun _ => none) := fun _ => Or.inl rfl
    refine law_from kin hns hb hbb hlim hgens ha hr F hbind (fun _ => none) (hsp _ hO (.inr ⟨_, us.toArray, _, hk, rfl, rfl, rfl, ?_, ?_⟩)) hO (fun b z h => nomatch h) (fun b z => absurd rfl z) (fun z => absurd rfl z)
    · rw [List.size_toArray, hi.length]
      exact hl
    · simpa using rv
  | none =>
    let ob : Obj := { cls := .type "list", data := .seq us.toArray }
    let H0 : Hp := fun b => if b = a then some (.frz ob (.lst (ns.map V.int))) else none
    have at_a : H0 a = some (.frz ob (.lst (ns.map V.int))) := if_pos rfl
    have off_a : ∀ b, b ≠ a → H0 b = none := fun b h => if_neg h
    have hO : Only H0 := by
      intro b
      by_cases h : b = a
      · rw [h]
        exact Or.inr ⟨_, _, at_a⟩
      · exact Or.inl (off_a b h)
    refine law_from kin hns hb hbb hlim hgens ha hr F hbind H0 (hsp _ hO (.inl (.inr ⟨ob, at_a⟩))) hO ?_ ?_ (fun _ => hk)
    · intro b z h
      by_cases hb : b = a
      · subst hb
        rw [at_a] at h
        cases h
        refine ⟨ha, ?_, us, _, rv, ha⟩
        rw [List.length_map]
        exact hl
      · rw [off_a b hb] at h
        cases h
    · intro b z
      by_cases h : b = a
      · exact h
      · exact absurd (off_a b h) z
end
/-- what k_head leaves of such a law -/
theorem walkG {l : PySem.W.OpenLaw} {n k : Nat} {q : Program} {loose : List Str} {XP : (Str → Option Value) → Heap → Prop} {YP : World → Heap → Prop} {d : DefRec} {K : Params → PySem.W.Frag} {sp : PySem.W.Frag → Sp} {x : Str}
    (hn : l.most = some n) (hz : n ≤ sizeLine) (hdf : d.params.defaults = []) (hr : Room k callerA) (hY : ∀ (w : World) (h : Heap), YP w h → (K w.params).In h)
    (F : ∀ (w : World) (mg : Str → Option Value) (fa : Addr) (h : Heap), (K w.params).In h → h.Ns mainGlobals mg → mg d.name = some (.ref fa) →
      ∃ fd : FuncData, (∀ (s : Shared) (u : Value), BindsTo s fd ⟨[u], []⟩ [(x, u)]) ∧ ∀ B : Heap, (K w.params).In B → B.Ns mainGlobals mg → FnG l.prog w (K w.params) mg B CX0 k fa fd [x] (sp (K w.params)))
    (hsp : ∀ (K : PySem.W.Frag) (H : Hp) (a : Addr) (ns : List Int), ns.length ≤ n → Only H → SqL K H a (ns.map V.int) → sp K [.ref a] H (fun v _ => v = .bl true) fun _ _ _ => False) :
    PySem.W.WalkO q loose XP YP l.row.toRowW d [] (fun f vs => PySem.call f vs) := by
  refine Att.attach_call hn hdf ?_
  intro w s₀ s₁ mg mb fa o pm cd doc a vs ns G Y ho hd hcd hmg hobj hints hlen hg
  have kin := hY w _ Y
  obtain ⟨fd, hb, hF⟩ := F w mg fa _ kin G.T.g hmg
  exact law_callG kin G.T.g G.T.b G.T.builtins G.T.nolimit hg hobj hints (Nat.le_trans hlen hz) hr hF hb fun H hO hS => hsp _ H a ns hlen hO hS
end Sx
namespace Sx
open PySem PySem.Spec PyProof.Rows L2


/-! ### rules of either kind -/
theorem OpR.or {X : Cx} {f : Value → Value → Sem Value} {r r' : R2} (h : OpR X f r) (h' : OpR X f r') : OpR X f (fun x y H Q => r x y H Q ∨ r' x y H Q) := by
  intro pins s σ H x y v u Q I rx ry q
  rcases q with q | q
  · exact h pins s σ H x y v u Q I rx ry q
  · exact h' pins s σ H x y v u Q I rx ry q
theorem PI.or {X : Cx} {tg it : Expr} {wi wi' : TI} (h : PI X tg it wi) (h' : PI X tg it wi') : PI X tg it (fun σ H R => wi σ H R ∨ wi' σ H R) := by
  refine ⟨fun pins s σ H R I q => ?_⟩
  rcases q with q | q
  · exact h.run pins s σ H R I q
  · exact h'.run pins s σ H R I q
def iSeq (K : PySem.W.Frag) (tl : TE) : TI := fun σ H R => iList K tl σ H R ∨ iTup K tl σ H R
theorem pi_seq {X : Cx} {tg l : Expr} {tl : TE} (h : PE X l tl) : PI X tg l (iSeq X.K tl) := PI.or (pi_list h) (pi_tup h)
/-- a name of the module that holds a value -/
structure Cst (mg : Str → Option Value) (x : Str) (v : V) : Prop where
  ex : ∃ u, mg x = some u ∧ RelV v u
theorem pe_cst {X : Cx} {x : Str} {v : V} {pos : Pos} (c : Cst X.mg x v) (hg : Gl X x) (hd : (x == ("__debug__" : Str)) = false := by decide) : PE X (.Name x pos) (tC v) := by
  obtain ⟨u, h, r⟩ := c.ex
  exact pe_glob hg h r hd
/-- where a def of the text stands -/
structure At (K : PySem.W.Frag) (mg : Str → Option Value) (x : Str) (st : Stmt) (ps : List Str) (f : Addr) (fd : FuncData) : Prop where
  F : Fun K x x st f fd
  b : Binds K fd ps []
  m : mg x = some (.ref f)

def rLenS (K : PySem.W.Frag) : List V → Hp → VK → Prop := fun xs H Q => ∃ p ys, xs = [.ref p] ∧ (SqL K H p ys ∨ SqT K H p ys) ∧ Q (.int (ys.length : Nat)) H
def rListS (K : PySem.W.Frag) : List V → Hp → VK → Prop := fun xs H Q => ∃ p ys, xs = [.ref p] ∧ (SqL K H p ys ∨ SqT K H p ys) ∧ ∀ l, H l = none → Q (.ref l) (upd H l (.lst ys))
def rTupS (K : PySem.W.Frag) : List V → Hp → VK → Prop := fun xs H Q => ∃ p ys, xs = [.ref p] ∧ ((SqL K H p ys ∧ ∀ l, H l = none → Q (.ref l) (upd H l (.tup ys))) ∨ (SqT K H p ys ∧ Q (.ref p) H))

/-! ### heaps -/
theorem same_new {H : Hp} {p : Addr} {o : HO} (h : H p = none) : Same H (upd H p o) := by
  intro b x e
  rw [upd_ne (ne_of_none e h)]
  exact e
theorem Same.tup {K : PySem.W.Frag} {H H' : Hp} {a : Addr} {xs : List V} (e : Same H H') (h : SqT K H a xs) : SqT K H' a xs := by
  rcases h with (h | ⟨o, h⟩) | h
  · exact .inl (.inl (e _ _ h))
  · exact .inl (.inr ⟨o, e _ _ h⟩)
  · exact .inr h
mutual
theorem dp_same {K : PySem.W.Frag} {H H' : Hp} (e : Same H H') : ∀ (d : PyData) (v : V), Dp K H v d → Dp K H' v d
  | .none, _, h => by
    cases h
    exact .non
  | .bool _, _, h => by
    cases h
    exact .bl _
  | .int _, _, h => by
    cases h
    exact .int _
  | .str _, _, h => by
    cases h
    exact .str _
  | .list ds, _, h => by
    cases h with
    | lst h1 h2 => exact .lst (L2.Same.seq e h1) (dpa_same e ds _ h2)
  | .tuple ds, _, h => by
    cases h with
    | tup h1 h2 => exact .tup (Same.tup e h1) (dpa_same e ds _ h2)
  | .dict _, _, h => by cases h
theorem dpa_same {K : PySem.W.Frag} {H H' : Hp} (e : Same H H') : ∀ (ds : List PyData) (vs : List V), DpAll K H vs ds → DpAll K H' vs ds
  | [], _, h => by
    cases h
    exact .nil
  | d :: ds, _, h => by
    cases h with
    | cons h1 h2 => exact .cons (dp_same e d _ h1) (dpa_same e ds _ h2)
end
theorem dpa_ints {K : PySem.W.Frag} {H : Hp} : ∀ ns : List Int, DpAll K H (ns.map V.int) (ns.map PyData.int)
  | [] => .nil
  | n :: ns => .cons (.int n) (dpa_ints ns)

/-! ### shapes of flat data -/
theorem canAll_ints : ∀ ns : List Int, PyData.canLayAll0 (ns.map PyData.int) = true
  | [] => by simp [PyData.canLayAll0]
  | n :: ns => by simp [PyData.canLayAll0, PyData.canLay0, canAll_ints ns]
theorem depthAll_ints : ∀ ns : List Int, PyData.depthAll (ns.map PyData.int) ≤ 1
  | [] => by simp [PyData.depthAll]
  | n :: ns => by
    have := depthAll_ints ns
    simp only [List.map_cons, PyData.depthAll, PyData.depth]
    exact Nat.max_le.mpr ⟨Nat.zero_le _, this⟩
theorem shaped_ints (ns : List Int) : SeqAt.shaped (.list (ns.map PyData.int)) = true := by
  have h1 := canAll_ints ns
  have h2 := depthAll_ints ns
  unfold SeqAt.shaped
  simp only [PyData.canLay0, PyData.depth, Bool.and_eq_true, decide_eq_true_eq]
  exact ⟨h1, decide_eq_true (by omega)⟩
theorem eqv_nil_ints (ns : List Int) : PyData.eqv (.list (ns.map PyData.int)) (.list []) = ns.isEmpty := by
  cases ns <;> simp [PyData.eqv, PyData.eqvAll]

/-! ### the law's box: a dict with a list and two ints, and nothing of it in H0 -/
def boxKv (g : Addr) (st ct : Int) : List (Key × V) := [(Sum.inr "great", .ref g), (Sum.inr "stirred", .int st), (Sum.inr "count", .int ct)]
structure Bs (H0 H : Hp) (b g : Addr) : Prop where
  sub : Same H0 H
  nb : H0 b = none
  ng : H0 g = none
  ls : ∃ ms : List Int, H g = some (.lst (ms.map V.int)) ∧ ms.length ≤ 63
  dc : ∃ st ct : Int, H b = some (.dK (boxKv g st ct))
namespace Bs
variable {H0 H H1 : Hp} {b g p : Addr} {o u : HO} {K : PySem.W.Frag}
theorem bg (B : Bs H0 H b g) : b ≠ g := by
  obtain ⟨ms, h1, _⟩ := B.ls
  obtain ⟨st, ct, h2⟩ := B.dc
  exact ne_of h2 h1 (fun z => nomatch z)
theorem pb (B : Bs H0 H b g) (n : H p = none) : p ≠ b := by
  obtain ⟨st, ct, h2⟩ := B.dc
  exact (ne_of_none h2 n).symm
theorem pg (B : Bs H0 H b g) (n : H p = none) : p ≠ g := by
  obtain ⟨ms, h2, _⟩ := B.ls
  exact (ne_of_none h2 n).symm
/-- the heap grows by what H0 does not know -/
theorem more (B : Bs H0 H b g) (s : Same H H1) : Bs H0 H1 b g := by
  obtain ⟨ms, h1, h2⟩ := B.ls
  obtain ⟨st, ct, h3⟩ := B.dc
  exact ⟨B.sub.trans s, B.nb, B.ng, ⟨ms, s _ _ h1, h2⟩, ⟨st, ct, s _ _ h3⟩⟩
/-- a new object, known to H0 from now on -/
theorem new (B : Bs H0 H b g) (n : H p = none) : Bs (upd H0 p o) (upd H p o) b g := by
  have n0 := B.sub.free n
  have B1 := B.more (same_new (o := o) n)
  refine ⟨?_, by rw [upd_ne (B.pb n).symm]; exact B.nb, by rw [upd_ne (B.pg n).symm]; exact B.ng, B1.ls, B1.dc⟩
  intro c x e
  by_cases h : c = p
  · subst h
    rw [upd_same] at e ⊢
    exact e
  · rw [upd_ne h] at e ⊢
    exact B.sub c x e
/-- what came behind a call, known to H0 from now on -/
theorem keep (B : Bs H0 H b g) (s : Same H H1) (n : H p = none) (e : H1 p = some o) : Bs (upd H0 p o) H1 b g := by
  have B1 := B.more s
  refine ⟨?_, by rw [upd_ne (B.pb n).symm]; exact B.nb, by rw [upd_ne (B.pg n).symm]; exact B.ng, B1.ls, B1.dc⟩
  intro c x h
  by_cases hc : c = p
  · subst hc
    rw [upd_same] at h
    cases h
    exact e
  · rw [upd_ne hc] at h
    exact B1.sub c x h
/-- an object that H0 knows is changed -/
theorem put (B : Bs H0 H b g) (e : H0 p = some u) : Bs (upd H0 p o) (upd H p o) b g := by
  have pb : p ≠ b := ne_of_none e B.nb
  have pg : p ≠ g := ne_of_none e B.ng
  obtain ⟨ms, h1, h2⟩ := B.ls
  obtain ⟨st, ct, h3⟩ := B.dc
  refine ⟨?_, by rw [upd_ne pb.symm]; exact B.nb, by rw [upd_ne pg.symm]; exact B.ng, ⟨ms, by rw [upd_ne pg.symm]; exact h1, h2⟩, ⟨st, ct, by rw [upd_ne pb.symm]; exact h3⟩⟩
  intro c x h
  by_cases hc : c = p
  · subst hc
    rw [upd_same] at h ⊢
    exact h
  · rw [upd_ne hc] at h ⊢
    exact B.sub c x h
/-- less is known -/
theorem less {H2 : Hp} (B : Bs H0 H b g) (s : Same H2 H0) : Bs H2 H b g := ⟨s.trans B.sub, s.free B.nb, s.free B.ng, B.ls, B.dc⟩
end Bs
theorem key_s {x : Str} {kvs : List (Key × V)} {H : Hp} {a : Addr} {v : V} (h : H a = some (.dK kvs)) (e : valV kvs (Sum.inr x) = some v) : DGet H a (.str x) (some v) := by
  have q := DGet.k (k := Sum.inr x) h
  rw [e] at q
  exact q

theorem ixN_zero (n : Nat) : ixN (n + 1) 0 = some 0 := by
  unfold ixN
  rw [if_pos (by decide), if_pos (by omega)] <;> rfl
theorem seqIx_zero (n : Nat) : seqIndex? 0 (n + 1) = some 0 := PySem.StrLaws.seqIndex_nonneg (by decide) (by omega)

/-! ### what the law's own draws promise -/
def Small (m : Int) : Prop := 0 < m ∧ m.natAbs.log2 < 9000
theorem small_of {m : Int} (h0 : 0 < m) (h1 : m < 2 ^ 60) : Small m := ⟨h0, Nat.lt_trans (PySem.Flt.log2_lt_of (k := 60) (by decide) (by omega)) (by decide)⟩
def sp__law_draw (_ : PySem.W.Frag) : Sp := fun vs H Q _ => ∃ (H0 : Hp) (b g : Addr) (m : Int), vs = [.ref b, .int m] ∧ Bs H0 H b g ∧ Small m ∧ ∀ (r : Int) (H' : Hp), 0 ≤ r → r < m → Bs H0 H' b g → Q (.int r) H'
/-- the list given stands at a; any of its items comes back -/
def sp__law_pick (K : PySem.W.Frag) : Sp := fun vs H Q _ => ∃ (H0 : Hp) (b g a : Addr) (xs : List V), vs = [.ref b, .ref a] ∧ Bs H0 H b g ∧ (SqL K H0 a xs ∨ SqT K H0 a xs) ∧ xs ≠ [] ∧ xs.length ≤ 100000 ∧
  ∀ (i : Nat) (x : V) (H' : Hp), xs[i]? = some x → Bs H0 H' b g → Q x H'
def sp__law_great (_ : PySem.W.Frag) : Sp := fun vs H Q _ => ∃ (H0 : Hp) (b g : Addr) (m : Int), vs = [.ref b, .int m] ∧ Bs H0 H b g ∧ 0 ≤ m ∧ m ≤ 40 ∧ ∀ (r : Int) (H' : Hp), 0 ≤ r → r < 1000000 ^ m.toNat → Bs H0 H' b g → Q (.int r) H'
/-- some number -/
def IsNum (n : Int) : Prop := -(10 ^ 60) ≤ n ∧ n ≤ 10 ^ 60
def sp__law_number (_ : PySem.W.Frag) : Sp := fun vs H Q _ => ∃ (H0 : Hp) (b g : Addr), vs = [.ref b] ∧ Bs H0 H b g ∧ ∀ (r : Int) (H' : Hp), IsNum r → Bs H0 H' b g → Q (.int r) H'
/-- the moduli of some machine -/
structure IsMach (ns : List Int) : Prop where
  one : 1 ≤ ns.length
  ten : ns.length ≤ 10
  mod : ∀ n ∈ ns, 2 ≤ n ∧ n ≤ 1000000
def sp__law_machine (_ : PySem.W.Frag) : Sp := fun vs H Q _ => ∃ (H0 : Hp) (b g : Addr), vs = [.ref b] ∧ Bs H0 H b g ∧ ∀ (ns : List Int) (p : Addr) (H' : Hp), IsMach ns → H0 p = none → H' p = some (.tup (ns.map V.int)) → p ≠ b → p ≠ g → Bs H0 H' b g → Q (.ref p) H'
def sp__law_box (K : PySem.W.Frag) : Sp := fun vs H Q _ => ∃ (a : Addr) (ns : List Int), vs = [.ref a] ∧ SqL K H a (ns.map V.int) ∧ ns.length ≤ 63 ∧ ∀ (b g : Addr) (H' : Hp), Bs H H' b g → Q (.ref b) H'
def sp__law_rest (_ : PySem.W.Frag) : Sp := fun vs H Q _ => ∃ (n m : Int), vs = [.int n, .int m] ∧ 0 < m ∧ m < 2 ^ 60 ∧ Q (.int (n % m)) H
def sp_law (K : PySem.W.Frag) : Sp := fun vs H Q _ => ∃ (a : Addr) (ns : List Int), vs = [.ref a] ∧ SqL K H a (ns.map V.int) ∧ ns.length ≤ 63 ∧ ∀ H', Q (.bl true) H'
end Sx
namespace Sx
open PySem PySem.Spec PyProof.Rows L2

/-! ### t * 1 is t itself -/
theorem tuple_mul1 (l : Addr) (items : Array Value) (n : Nat) (dd : Option Addr) (sl : Array (Option Value)) (u : Tok) :
    Meets (Builtin.«tuple.__mul__» ⟨[.ref l, .int 1 u], []⟩) (fun _ R s => s.heap.get? l = some { cls := .type "tuple", dict := dd, data := .seq items n, slots := sl } ∧ R (.ok (.ret (.ref l))) s) :=
  .of_wp fun prog w A R s h => by
    obtain ⟨hp, g, d, tk, os⟩ := s
    obtain ⟨hl, h⟩ := h
    have f1 := AutoSeq1.idx_int
    have c1 : (items.isEmpty || (1 : Int) == 1) = true := by simp
    wp_walk using wpAny_loadPart' hl
    repeat (first
      | (refine wpAny_ite_true (decide_eq_true (by rw [c1])) ?_; wp_walk using wpAny_loadPart' hl)
      | (refine wpAny_ite_false (by decide) ?_; wp_walk using wpAny_loadPart' hl))
    exact ⟨_, rfl, h⟩
def rRep1 (K : PySem.W.Frag) : R2 := fun x y H Q => ∃ l xs, x = .ref l ∧ y = .int 1 ∧ SqT K H l xs ∧ Q (.ref l) H
theorem op_rep1 {X : Cx} : OpR X (binaryOp .Mult) (rRep1 X.K) := by
  intro pins s σ H x y v u Q I rx ry h
  obtain ⟨l, xs, rfl, rfl, hT, q⟩ := h
  obtain rfl : v = Value.ref l := rx
  obtain ⟨t, rfl⟩ := ry
  obtain ⟨its, r, ⟨⟨cls, dd, data, sl⟩, ho, hc, n, hd⟩, hs⟩ := I.tuple hT
  simp only at hc hd
  subst hc hd
  exact wpAny_binaryOp_repeat_ref (T := "tuple") (U := "int") (by decide) ⟨_, ho, rfl⟩ (fun s' => typeIs_int s' 1 t) noFill_tuple_mul F.fills_int_mul F.slot_int_rmul repeat_tuple F.slot_int_index.lookup
    (call_meets F.slot_int_rmul (typeIs_int s 1 t) F.entry_int_rmul (F.args_int_rmul_2 _ _) (int_rmul_tuple 1 t l its.toArray n dd sl)
      ⟨ho, rfl, ⟨_, ho, rfl⟩, call_meets F.slot_tuple_mul ⟨_, ho, rfl⟩ F.entry_tuple_mul (F.args_tuple_mul_2 _ _) (tuple_mul1 l its.toArray n dd sl t) ⟨ho, ⟨.ref l, H, I, rfl, q⟩⟩⟩)
/-- t * k, 1 ≤ k -/
def rRepAny (K : PySem.W.Frag) : R2 := fun x y H Q => rRepT K x y H Q ∨ rRep1 K x y H Q
theorem op_repAny {X : Cx} : OpR X (binaryOp .Mult) (rRepAny X.K) := OpR.or op_repT op_rep1

/-! ### a word between an expression and what follows -/
def tCutE (t : TE) : TE := fun σ H Q => ∃ M : V → Hp → Prop, t σ H M ∧ ∀ v H', M v H' → Q v H'
theorem pe_cut {X : Cx} {e : Expr} {t : TE} (h : PE X e t) : PE X e (tCutE t) := by
  refine ⟨fun pins s σ H Q I q => ?_⟩
  obtain ⟨M, q1, q2⟩ := q
  exact thn (h.run pins s σ H M I q1) fun u s1 ⟨v, H1, I1, r, m⟩ => ⟨v, H1, I1, r, q2 v H1 m⟩

theorem pow_mono {n m : Nat} (h : n ≤ m) : (1000000 : Int) ^ n ≤ 1000000 ^ m := by
  have e : ∀ k : Nat, (1000000 : Int) ^ k = ((1000000 ^ k : Nat) : Int) := fun k => (Int.natCast_pow 1000000 k).symm
  rw [e, e]
  exact Int.ofNat_le.mpr (Nat.pow_le_pow_right (by decide) h)

/-! ### comprehensions whose items are drawn, one int each -/
section
variable {H0 H1 : Hp} {b g D : Addr}
/-- over range(n): each item an int with the property R -/
theorem lc_drawn {n j : Nat} {te : TE} {vs : List Nat} {σ : L2.St} {Qd : Hp → Prop} (R : Int → Prop) (B : Bs H0 H1 b g) (hD : H1 D = none) (hn : n ≤ 100000) (hw : ∀ x, wipe ((wipe σ vs).set j (some x)) vs = wipe σ vs)
    (he : ∀ (i : Nat) (H2 H3 : Hp) (Q : VK), i < n → Same H0 H2 → Bs H2 H3 b g → (∀ (m : Int) (H4 : Hp), R m → Bs H2 H4 b g → Q (.int m) H4) → te ((wipe σ vs).set j (some (.int (0 + (i : Int))))) H3 Q)
    (hd : ∀ (ms : List Int) (H3 : Hp), ms.length = n → (∀ m ∈ ms, R m) → Bs (upd H0 D (.lst (ms.map V.int))) H3 b g → Qd H3) :
    ∃ W : Nat → Nat → Hp → Prop, (∃ m, W 0 m (upd H1 D (.lst []))) ∧ ∀ i m H, W i m H →
      ((Itr 0 n).stop i H ∧ Qd H) ∨ ((Itr 0 n).go i H ∧ ∃ Nx : Hp → Prop, (∀ H', Nx H' → ∃ m', m' < m ∧ W (i + 1) m' H') ∧ ∀ x H', (Itr 0 n).yld i H x H' → gName j x (wipe σ vs) H' fun σ2 H2 => wipe σ2 vs = wipe σ vs ∧ tYes σ2 H2 fun b H3 =>
        if b = true then te σ2 H3 fun y H4 => ∃ acc, H4 D = some (.lst acc) ∧ acc.length < sizeLine ∧ Nx (upd H4 D (.lst (acc ++ [y]))) else Nx H3) := by
  have n0 : H0 D = none := B.sub.free hD
  have s0 : ∀ o, Same H0 (upd H0 D o) := fun o => same_new n0
  refine lc_range (lo := 0) (n := n) (fun i H => ∃ ms : List Int, ms.length = i ∧ (∀ m ∈ ms, R m) ∧ Bs (upd H0 D (.lst (ms.map V.int))) H b g) ⟨[], rfl, (fun _ z => nomatch z), B.new hD⟩ ?_ ?_
  · rintro i H hi ⟨ms, hl, hr, B3⟩
    refine ⟨hw _, ?_⟩
    unfold tYes
    dsimp only
    refine iteT (he i (upd H0 D (.lst (ms.map V.int))) H _ hi (s0 _) B3 fun m H4 hm B4 => ?_)
    refine ⟨ms.map V.int, B4.sub _ _ upd_same, ?_, ms ++ [m], ?_, ?_, ?_⟩
    · rw [List.length_map, hl]
      exact Nat.lt_of_lt_of_le hi (Nat.le_trans hn (by decide))
    · rw [List.length_append, hl, List.length_singleton]
    · intro x hx
      rcases List.mem_append.mp hx with h | h
      · exact hr x h
      · rw [List.mem_singleton.mp h]
        exact hm
    · have B5 := B4.put (o := .lst ((ms ++ [m]).map V.int)) upd_same
      rw [upd_upd] at B5
      rw [List.map_append] at B5 ⊢
      exact B5
  · rintro H ⟨ms, hl, hr, B3⟩
    exact hd ms H hl hr B3
end
/-! ### what the program's defs promise -/
def rests (ns : List Int) (n : Int) : List Int := ns.map fun m => n % m
def sp_rests_of (K : PySem.W.Frag) : Sp := fun vs H Q _ => ∃ (t : Addr) (ns : List Int) (n : Int), vs = [.ref t, .int n] ∧ SqT K H t (ns.map V.int) ∧ IsMach ns ∧
  ∀ (p : Addr) (H' : Hp), Same H H' → H p = none → H' p = some (.tup ((rests ns n).map V.int)) → Q (.ref p) H'
end Sx
namespace Sx
open PySem PySem.Spec PyProof.Rows L2

/-! ### enumerate of a tuple -/
section
variable {prog : Program} {w : World} {A : Around} {E : Value → Shared → Prop} {s : Shared}
set_option maxHeartbeats 1000000 in
theorem meets_enum_one {v : Value} {o : Obj} {H : Heap → Prop} (B : Begins v o H) :
    Meets (Builtin.«enumerate.__new__» ⟨[.type "enumerate", v], []⟩) (fun _ R s => H s.heap ∧
      R (.ok (.ret (.ref (s.heap.push o).objs.size))) { s with heap := (s.heap.push o).push { cls := .type "enumerate", data := .fields #[.none, .bool false, .ref s.heap.objs.size, rawInt 0, .none, .none] } }) :=
  .of_wp fun prog w A R s h => by
    obtain ⟨hp, g, d, tk, os⟩ := s
    obtain ⟨h1, h⟩ := h
    have hsub := sub_enumerate
    have q1 : ∀ {A' : Around} {E Q : Value → Shared → Prop}, Q (.ref hp.objs.size) ⟨hp.push o, g, d, tk, os⟩ → wpAny (model prog w) A' (pyIter v) Q E ⟨hp, g, d, tk, os⟩ :=
      fun q => B.iter prog w _ _ ⟨hp, g, d, tk, os⟩ _ h1 q
    wp_walk using q1
    refine wpAny_stack_any fun st => wpAny_pure ?_
    split
    · rename_i c _ _ _ _ _
      cases (c == Value.type "enumerate")
      all_goals
        wp_walk using q1
        exact ⟨_, rfl, h⟩
    · wp_walk using q1
      exact ⟨_, rfl, h⟩
theorem call_enum_one {v : Value} {o : Obj} {H : Heap → Prop} {Q : Value → Shared → Prop} (B : Begins v o H) (h1 : H s.heap)
    (h : ∀ h1 : Heap, IsEnum h1 (s.heap.objs.size + 1) s.heap.objs.size 0 .none → h1.get? s.heap.objs.size = some o → h1.objs.size = s.heap.objs.size + 2 →
      (∀ b o, s.heap.get? b = some o → h1.get? b = some o) → Q (.ref (s.heap.objs.size + 1)) { s with heap := h1 }) : wpAny (model prog w) A (call (.type "enumerate") [v]) Q E s := by
  refine callType_new F.called_enumerate (by decide) (F.typeCall_enumerate_1 _) (F.newCall_enumerate_1 _) (fun obj => F.args_object_init_2 obj _) F.entry_enumerate_new (meets_enum_one B) ⟨h1, ?_⟩
  have hz : (s.heap.push o).objs.size = s.heap.objs.size + 1 := Heap.size_push ..
  show _ ∧ _
  rw [hz]
  have hnew : IsEnum ((s.heap.push o).push { cls := .type "enumerate", data := .fields #[.none, .bool false, .ref s.heap.objs.size, rawInt 0, .none, .none] }) (s.heap.objs.size + 1) s.heap.objs.size 0 .none := by
    have q := Heap.get?_push_size (s.heap.push o) (o := { cls := .type "enumerate", data := .fields #[.none, .bool false, .ref s.heap.objs.size, rawInt 0, .none, .none] }) rfl
    rw [hz] at q
    exact q
  exact ⟨⟨_, hnew, rfl⟩, h _ hnew (Heap.get?_push_of_some _ (Heap.get?_push_size _ B.free)) (by rw [Heap.size_push, hz]) (fun b o x => Heap.get?_push_of_some _ (Heap.get?_push_of_some _ x))⟩
end
/-- the tuple at a, each item in a new pair with its place -/
def IteT (K : PySem.W.Frag) (a : Addr) : It where
  go := fun i H => ∃ (xs : List V) (x : V), SqT K H a xs ∧ xs[i]? = some x
  yld := fun i H v H1 => ∃ T x, v = .ref T ∧ H T = none ∧ H1 = upd H T (.tup [.int (i : Nat), x]) ∧ ∀ xs, SqT K H a xs → xs[i]? = some x
  stop := fun i H => ∃ xs : List V, SqT K H a xs ∧ xs.length ≤ i
theorem turn_enumT {P : Program} {w : World} {K : PySem.W.Frag} {elts : List Expr} {kk : Nat} {tpos : Pos} (a e it : Addr) :
    Turn P w K (.Tuple elts kk tpos) (IteT K a) [e, it] e (fun i h => (∃ old, IsEnum h e it ((i : Nat) : Int) old) ∧ h.IsTupleIter it a i ∧ e ≠ it ∧ e ≠ a ∧ a ≠ it) where
  mem := List.mem_cons_self
  obj := by
    rintro i h ⟨⟨old, he⟩, ⟨o, ho, hc, hd⟩, _⟩ b hb
    rcases List.mem_cons.mp hb with z | z
    · rw [z]
      exact ⟨_, he, fun v q => nomatch q⟩
    · rw [List.mem_singleton.mp z]
      refine ⟨o, ho, fun v q => ?_⟩
      rw [hd] at q
      cases q
  keep := by
    rintro i h h' ⟨⟨old, he⟩, hi, ne⟩ k
    exact ⟨⟨old, k e (by simp) _ he⟩, hi.at fun o q => k it (by simp) o q, ne⟩
  item := by
    intro X hP hw hK hc i pins s σ H E I hf st hg
    subst hP hw hK
    obtain ⟨⟨old, he⟩, hit, n1, n2, n3⟩ := st
    obtain ⟨xs, x, hq, hx⟩ := hg
    obtain ⟨its, rv, p, hz⟩ := I.tuple hq
    obtain ⟨u, hu, ru⟩ := rv.get hx
    have hel : e < s.heap.objs.size := Heap.lt_size he
    have hil : it < s.heap.objs.size := by
      obtain ⟨_, q, _⟩ := hit
      exact Heap.lt_size q
    have hlt : i < its.toArray.size := by
      have := (List.getElem?_eq_some_iff.mp hu).1
      simpa using this
    refine wpAny_pyNext_enum_itemC (Draws.tuple (A := X.A.in1) (I.ok.hd hc) it a n3 its.toArray) he ⟨hit, p⟩ hlt n1 (by simp [n1, n2]) fun y h' tk hy ho hs' hT hsz hk => ?_
    obtain rfl : y = u := by
      have hu' : its.toArray[i]? = some u := by simpa using hu
      exact Option.some.inj (hy.symm.trans hu')
    refine ⟨_, rfl, wpAny_letOwnedTupleGo_enum (s := { s with heap := h', toks := tk + 1 }) ho fun h2 he' sb => ?_⟩
    have hT2 : h2.get? s.heap.objs.size = some { cls := .type "tuple", data := .seq #[.int i tk, y] } := (sb.2 _ (Nat.ne_of_gt hel)).trans hT
    have new : ObjOk X.prog X.w (upd H s.heap.objs.size (.tup [.int (i : Nat), x])) h2 s.heap.objs.size (.tup [.int (i : Nat), x]) :=
      ⟨(show 2 ≤ sizeLine by decide), [.int i tk, y], .cons ⟨_, rfl⟩ (.cons ru .nil), ⟨_, hT2, rfl, _, rfl⟩⟩
    have I1 : Inv X pins σ (upd H s.heap.objs.size (.tup [.int (i : Nat), x])) { s with heap := h2, toks := tk + 1 } :=
      I.turnedNew (ch := [e, it]) (fun b ob hb q => (sb.2 b (fun z => hb (by simp [z]))).trans (hk b ob (fun z => hb (by simp [z])) (fun z => hb (by simp [z])) q)) hf (Nat.le_refl _) new
    refine ⟨.ref s.heap.objs.size, _, I1, rfl, ⟨_, x, rfl, I.hok.fresh (Nat.le_refl _), rfl, fun ys hy => by rw [I.tuple_inj hy hq]; exact hx⟩, ⟨⟨y, ?_⟩, hs'.1.at fun o q => (sb.2 it (Ne.symm n1)).trans q, n1, n2, n3⟩, fun b hb => ?_⟩
    · rw [show ((i + 1 : Nat) : Int) = (i : Int) + 1 by omega]
      exact he'
    · have hb' : b < s.heap.objs.size := by
        rcases List.mem_cons.mp hb with z | z
        · rw [z]
          exact hel
        · rw [List.mem_singleton.mp z]
          exact hil
      rw [upd_ne (Nat.ne_of_lt hb')]
      exact (hf b hb).1
  done := by
    intro X hP hw hK hc i pins s σ H E I hf st hg
    subst hP hw hK
    obtain ⟨⟨old, he⟩, hit, n1, n2, n3⟩ := st
    obtain ⟨xs, hq, hx⟩ := hg
    obtain ⟨its, rv, p, hz⟩ := I.tuple hq
    obtain ⟨f0, f1, f2, f3, f4, f5⟩ := hf it (by simp)
    have hl := rv.length
    have hT : s.TypeIs (.ref e) "enumerate" := ⟨_, he, rfl⟩
    unfold pyNext
    refine wpAny_bind (wpAny_attempt (wpAny_callSpecial?_slot (name := Str.ofString "__next__") hT F.slot_enumerate_next
      (wpAny_call_entry F.slot_enumerate_next hT F.entry_enumerate_next ?_ (F.args_enumerate_next_1 _))))
    show wpAny _ _ (field (.ref e) 2 >>= _) _ _ _
    refine wpAny_bind (wpAny_field he rfl (x := .ref it) rfl ?_)
    refine wpAny_bind (wpAny_nextOf_tuple_end (A := X.A.in1) (I.ok.hd hc) hit p (by simp; omega) fun h' x he' hx' => ?_)
    obtain ⟨o, ho, hc'⟩ := hx'
    refine wpAny_bind (wpAny_isInstance (T := "StopIteration") (b := true) ⟨o, ho, hc'⟩ isSubtype_stop ?_)
    exact wpAny_pure ⟨rfl, I.turned (t' := s.toks) (fun b o hb q => he' b o hb q) f0 f1 f3 f4 f5⟩
  self := by
    rintro A i s Q E ⟨⟨_, he⟩, _⟩ h
    exact wpAny_pyIter_enum he h
def iEnumT (K : PySem.W.Frag) (ta : TA) : TI := fun σ H R => ta σ H fun vs H1 => ∃ a xs, vs = [.ref a] ∧ SqT K H1 a xs ∧ R (IteT K a) H1
theorem pi_enumT {X : Cx} {e : Expr} {ta : TA} {p pos tpos : Pos} {elts : List Expr} {kk : Nat} (hg : Gl X "enumerate") (hm : X.mg "enumerate" = none) (ha : PA X [e] ta) (hs : starEach [e] X.env = [(false, eval e X.env)] := by rfl) :
    PI X (.Tuple elts kk tpos) (.Call (.Name "enumerate" p) [e] [] pos) (iEnumT X.K ta) := by
  refine ⟨fun pins s σ H R I h => Call_ (ld_blt I hg hm boot_enumerate (PyProof.Rows.callWith_type1 (thn (ha.run pos pins s σ H _ I h) ?_) hs rfl))⟩
  rintro us s1 ⟨vs, H1, I1, r1, a, xs, rfl, hq, q⟩
  obtain ⟨u, rfl, rr⟩ := vals1 r1
  obtain rfl : u = Value.ref a := rr
  obtain ⟨its, rv, tp, hz⟩ := I1.tuple hq
  have hal : a < s1.heap.objs.size := tp.lt
  refine call_enum_one (begins_tuple a its.toArray) tp fun h1 he hit hsz hk => wpAny_pyIter_enum he ?_
  have I2 : Inv X pins σ H1 { s1 with heap := h1 } := I1.kept (t' := s1.toks) hk
  have n1 : s1.heap.objs.size + 1 ≠ a := Nat.ne_of_gt (Nat.lt_succ_of_lt hal)
  have n2 : a ≠ s1.heap.objs.size := Nat.ne_of_lt hal
  refine ⟨s1.heap.objs.size + 1, [s1.heap.objs.size + 1, s1.heap.objs.size], _, _, H1, rfl, I2, turn_enumT a (s1.heap.objs.size + 1) s1.heap.objs.size, ⟨⟨.none, he⟩, ⟨_, hit, rfl, rfl⟩, Nat.succ_ne_self _, n1, n2⟩, fun b hb => ?_, q⟩
  have hle : s1.heap.objs.size ≤ b := by
    rcases List.mem_cons.mp hb with z | z
    · rw [z]
      exact Nat.le_add_right _ _
    · rw [List.mem_singleton.mp z]
      exact Nat.le_refl _
  exact I1.fpOk hle (I1.hok.fresh hle)
theorem walk_enumT {K : PySem.W.Frag} {a : Addr} {xs : List V} : Walk (IteT K a) xs.length (fun H => SqT K H a xs) (YPair (fun i => some (.int (i : Nat))) (fun i => xs[i]?)) := by
  refine ⟨fun i _ hi q => ⟨xs, xs[i], q, List.getElem?_eq_getElem hi⟩, fun _ q => ⟨xs, q, Nat.le_refl _⟩, ?_⟩
  rintro i H v H1 _ q ⟨T, x, h1, h2, h3, h4⟩
  exact ⟨T, .int (i : Nat), x, h1, h2, h3, rfl, h4 xs q⟩

/-! ### comprehensions that reckon: what a turn gives hangs on its item alone -/
theorem lc_reckon {β : Type} {J : It} {n : Nat} {zs : List β} {G : Hp → Prop} {Y : Nat → Hp → V → Hp → Prop} (w : Walk J n G Y) (hzn : zs.length = n) {g : TG} {tt : TT} {te : TE} {vs : List Nat} {σ : L2.St} {H1 : Hp} {D : Addr} {Qd : Hp → Prop} (f : β → Bool) (v : β → V) (hn : zs.length ≤ 100000)
    (hD : H1 D = none) (hG : ∀ H, Same H1 H → G H)
    (hs : ∀ i z x H H2, zs[i]? = some z → Same H1 H → Y i H x H2 → Same H H2 ∧ ∃ σ2, (∀ Q : L2.St → Hp → Prop, Q σ2 H2 → g x (wipe σ vs) H2 Q) ∧ wipe σ2 vs = wipe σ vs ∧
      (∀ Q : Bool → Hp → Prop, (∀ H3, Same H2 H3 → Q (f z) H3) → tt σ2 H2 Q) ∧ (f z = true → ∀ H3 (Q : VK), Same H1 H3 → Same H2 H3 → (∀ H4, Same H3 H4 → Q (v z) H4) → te σ2 H3 Q))
    (hd : ∀ H, Same H1 H → H D = some (.lst ((zs.filter f).map v)) → Qd H) :
    ∃ W : Nat → Nat → Hp → Prop, (∃ m, W 0 m (upd H1 D (.lst []))) ∧ ∀ i m H, W i m H →
      (J.stop i H ∧ Qd H) ∨ (J.go i H ∧ ∃ Nx : Hp → Prop, (∀ H', Nx H' → ∃ m', m' < m ∧ W (i + 1) m' H') ∧ ∀ x H', J.yld i H x H' → g x (wipe σ vs) H' fun σ2 H2 => wipe σ2 vs = wipe σ vs ∧ tt σ2 H2 fun b H3 =>
        if b = true then te σ2 H3 fun y H4 => ∃ acc, H4 D = some (.lst acc) ∧ acc.length < sizeLine ∧ Nx (upd H4 D (.lst (acc ++ [y]))) else Nx H3) := by
  subst hzn
  refine lc_it w (fun i H => Same H1 H ∧ H D = some (.lst (((zs.take i).filter f).map v))) ⟨same_new hD, upd_same⟩ (fun i H _ p => hG H p.1) ?_ ?_
  · rintro i x H H2 hi ⟨s1, e1⟩ y
    have hz : zs[i]? = some zs[i] := List.getElem?_eq_getElem hi
    obtain ⟨s2, σ2, h1, h2, h3, h4⟩ := hs i zs[i] x H H2 hz s1 y
    have tk : zs.take (i + 1) = zs.take i ++ [zs[i]] := by
      rw [List.take_add_one, hz] <;> rfl
    refine h1 _ ⟨h2, h3 _ fun H3 s3 => ?_⟩
    by_cases hf : f zs[i] = true
    · rw [hf]
      refine iteT (h4 hf H3 _ ((s1.trans s2).trans s3) s3 fun H4 s4 => ?_)
      have e4 : H4 D = some (.lst (((zs.take i).filter f).map v)) := s4 _ _ (s3 _ _ (s2 _ _ e1))
      refine ⟨_, e4, ?_, ?_, ?_⟩
      · rw [List.length_map]
        have l1 := List.length_filter_le f (zs.take i)
        rw [List.length_take] at l1
        exact Nat.lt_of_lt_of_le (show _ < 100000 by omega) (by decide)
      · intro c o h
        rw [upd_ne (ne_of_none h hD)]
        exact s4 _ _ (s3 _ _ (s2 _ _ (s1 _ _ h)))
      · rw [upd_same, tk, List.filter_append, List.map_append, List.filter_cons_of_pos hf] <;> rfl
    · rw [Bool.not_eq_true] at hf
      rw [hf]
      refine iteF ⟨(s1.trans s2).trans s3, ?_⟩
      rw [tk, List.filter_append, List.filter_cons_of_neg (by rw [hf]; decide)]
      show H3 D = some (.lst (((zs.take i).filter f ++ []).map v))
      rw [List.append_nil]
      exact s3 _ _ (s2 _ _ e1)
  · rintro H ⟨s1, e1⟩
    rw [List.take_length] at e1
    exact hd H s1 e1
end Sx
namespace Sx
open PySem PySem.Spec PyProof.Rows L2

/-! ### what may be shown, by a count of its parts -/
mutual
def nod : PyData → Nat
  | .none | .bool _ | .int _ => 1
  | .str x => 1 + x.length
  | .list xs | .tuple xs => 1 + nodAll xs
  | .dict _ => 1
def nodAll : List PyData → Nat
  | [] => 0
  | x :: xs => nod x + nodAll xs
end
def big : Nat := 10 ^ 130
mutual
/-- ints below 10 ** 130, texts of plain signs, no dicts -/
def fine : PyData → Bool
  | .none | .bool _ => true
  | .int i => decide (i.natAbs < big)
  | .str x => x.cps.toList.all fun c => decide (c < 16 ^ 8)
  | .list xs | .tuple xs => fineAll xs
  | .dict kvs => kvs.isEmpty
def fineAll : List PyData → Bool
  | [] => true
  | x :: xs => fine x && fineAll xs
end
theorem big_log {i : Nat} (h : i < big) : i.log2 < 1920 := by
  have h2 : i < 2 ^ 1920 := Nat.lt_trans h (by decide +kernel)
  exact PySem.Flt.log2_lt_of (by decide) h2
theorem big_len {i : Int} (h : i.natAbs < big) : (PyData.shown (.int i)).length ≤ 131 := by
  have e := int_text_length_le10 (k := 130) (by decide) h
  show (Str.ofString (toString i)).length ≤ 131
  rw [PySem.ofString_length]
  exact e
mutual
theorem fine_show : ∀ d : PyData, fine d = true → d.showable = true ∧ d.shown.length + 3 ≤ 300 * nod d
  | .none, _ => ⟨rfl, by decide +kernel⟩
  | .bool b, _ => by
    cases b
    · exact ⟨rfl, by decide +kernel⟩
    · exact ⟨rfl, by decide +kernel⟩
  | .int i, h => by
    have h1 : i.natAbs < big := by simpa [fine] using h
    have e := big_len h1
    refine ⟨by simpa [PyData.showable] using big_log h1, ?_⟩
    show _ ≤ 300 * 1
    omega
  | .str x, h => by
    have h1 : ∀ c ∈ x.cps.toList, c < 16 ^ 8 := by
      have h' := h
      simp only [fine, List.all_eq_true, decide_eq_true_eq] at h'
      exact h'
    have e := StrLaws.reprText_len x h1
    refine ⟨rfl, ?_⟩
    simp only [PyData.shown]
    show _ ≤ 300 * (1 + x.length)
    omega
  | .list xs, h => by
    obtain ⟨h1, h2⟩ := fineAll_show xs (by simpa [fine] using h)
    have e := listText_len_le (PyData.shownAll xs)
    rw [PyData.shownAll_length] at e
    refine ⟨by simpa [PyData.showable] using h1, ?_⟩
    simp only [PyData.shown]
    show _ ≤ 300 * (1 + nodAll xs)
    omega
  | .tuple xs, h => by
    obtain ⟨h1, h2⟩ := fineAll_show xs (by simpa [fine] using h)
    have e := tupleText_len_le (PyData.shownAll xs)
    rw [PyData.shownAll_length] at e
    refine ⟨by simpa [PyData.showable] using h1, ?_⟩
    simp only [PyData.shown]
    show _ ≤ 300 * (1 + nodAll xs)
    omega
  | .dict kvs, h => by
    cases kvs with
    | nil => exact ⟨by simp [PyData.showable, PyData.showableKv], by decide +kernel⟩
    | cons _ _ => exact nomatch h
theorem fineAll_show : ∀ xs : List PyData, fineAll xs = true → PyData.showableAll xs = true ∧ ((PyData.shownAll xs).map (·.length)).sum + 3 * xs.length ≤ 300 * nodAll xs
  | [], _ => ⟨rfl, by decide⟩
  | x :: xs, h => by
    have h' : fine x = true ∧ fineAll xs = true := by simpa [fineAll] using h
    obtain ⟨a1, a2⟩ := fine_show x h'.1
    obtain ⟨b1, b2⟩ := fineAll_show xs h'.2
    refine ⟨by simp [PyData.showableAll, a1, b1], ?_⟩
    simp only [PyData.shownAll, List.map_cons, List.sum_cons, List.length_cons]
    show _ ≤ 300 * (nod x + nodAll xs)
    omega
end
mutual
theorem depth_nod : ∀ d : PyData, d.hasDict = false → d.depth ≤ nod d
  | .none, _ => Nat.zero_le _
  | .bool _, _ => Nat.zero_le _
  | .int _, _ => Nat.zero_le _
  | .str _, _ => Nat.zero_le _
  | .list xs, h => by
    have q := depthAll_nod xs (by simpa [PyData.hasDict] using h)
    show PyData.depthAll xs + 1 ≤ 1 + nodAll xs
    omega
  | .tuple xs, h => by
    have q := depthAll_nod xs (by simpa [PyData.hasDict] using h)
    show PyData.depthAll xs + 1 ≤ 1 + nodAll xs
    omega
  | .dict _, h => by simp [PyData.hasDict] at h
theorem depthAll_nod : ∀ xs : List PyData, PyData.hasDictAll xs = false → PyData.depthAll xs ≤ nodAll xs
  | [], _ => Nat.zero_le _
  | x :: xs, h => by
    have h' : x.hasDict = false ∧ PyData.hasDictAll xs = false := by simpa [PyData.hasDictAll] using h
    have a := depth_nod x h'.1
    have b := depthAll_nod xs h'.2
    show max x.depth (PyData.depthAll xs) ≤ nod x + nodAll xs
    omega
end
theorem shows_of {d : PyData} (h : fine d = true) (hn : nod d ≤ 50000) (hd : d.depth ≤ 60) : Shows d := by
  obtain ⟨a, b⟩ := fine_show d h
  refine ⟨a, ?_, hd⟩
  rw [sizeLine_eq]
  omega

/-! ### flat lists of data -/
/-- an int, or None -/
def vO : Option Int → V
  | none => .non
  | some i => .int i
def dO : Option Int → PyData
  | none => .none
  | some i => .int i
theorem dpa_opts {K : PySem.W.Frag} {H : Hp} : ∀ ws : List (Option Int), DpAll K H (ws.map vO) (ws.map dO)
  | [] => .nil
  | none :: ws => .cons .non (dpa_opts ws)
  | some i :: ws => .cons (.int i) (dpa_opts ws)
theorem nodAll_map {α : Type} {f : α → PyData} (h : ∀ x, nod (f x) = 1) : ∀ xs : List α, nodAll (xs.map f) = xs.length
  | [] => rfl
  | x :: xs => by
    show nod (f x) + nodAll (xs.map f) = xs.length + 1
    rw [h x, nodAll_map h xs]
    omega
theorem fineAll_map {α : Type} {f : α → PyData} : ∀ xs : List α, (∀ x ∈ xs, fine (f x) = true) → fineAll (xs.map f) = true
  | [], _ => rfl
  | x :: xs, h => by
    show (fine (f x) && fineAll (xs.map f)) = true
    rw [h x List.mem_cons_self, fineAll_map xs fun y hy => h y (List.mem_cons_of_mem _ hy)] <;> rfl
theorem depthAll_map {α : Type} {f : α → PyData} {k : Nat} : ∀ xs : List α, (∀ x ∈ xs, (f x).depth ≤ k) → PyData.depthAll (xs.map f) ≤ k
  | [], _ => Nat.zero_le _
  | x :: xs, h => by
    show max (f x).depth (PyData.depthAll (xs.map f)) ≤ k
    exact Nat.max_le.mpr ⟨h x List.mem_cons_self, depthAll_map xs fun y hy => h y (List.mem_cons_of_mem _ hy)⟩
theorem canAll_map {α : Type} {f : α → PyData} : ∀ xs : List α, (∀ x ∈ xs, (f x).canLay0 = true) → PyData.canLayAll0 (xs.map f) = true
  | [], _ => by simp [PyData.canLayAll0]
  | x :: xs, h => by simp [PyData.canLayAll0, h x List.mem_cons_self, canAll_map xs fun y hy => h y (List.mem_cons_of_mem _ hy)]
theorem dO_depth (o : Option Int) : (dO o).depth = 0 := by cases o <;> rfl
theorem dO_nod (o : Option Int) : nod (dO o) = 1 := by cases o <;> rfl

/-! ### what agreeing and straying tell -/
def agree (ns : List Int) (ws : List (Option Int)) (n : Int) : List Nat := (List.range ws.length).filter fun i => decide (vO (ws.getD i none) = .int ((rests ns n).getD i 0))
def stray (ns : List Int) (ws : List (Option Int)) (n : Int) : List Nat := (List.range ws.length).filter fun i => (!decide (vO (ws.getD i none) = .non)) && !decide (vO (ws.getD i none) = .int ((rests ns n).getD i 0))
def sp_lanes (r : List Int → List (Option Int) → Int → List Nat) (K : PySem.W.Frag) : Sp := fun vs H Q _ => ∃ (t p : Addr) (ns : List Int) (ws : List (Option Int)) (n : Int), vs = [.ref t, .ref p, .int n] ∧ SqT K H t (ns.map V.int) ∧ SqT K H p (ws.map vO) ∧
  IsMach ns ∧ ws.length = ns.length ∧ ∀ (l : Addr) (H' : Hp), Same H H' → H l = none → H' l = some (.tup ((r ns ws n).map fun i => V.int (i : Nat))) → Q (.ref l) H'
def sp_agreeing (K : PySem.W.Frag) : Sp := sp_lanes agree K
def sp_straying (K : PySem.W.Frag) : Sp := sp_lanes stray K
end Sx
namespace Sx
open PySem PySem.Spec PyProof.Rows L2

/-! ### zip of three tuples -/
def ItzT3 (K : PySem.W.Frag) (a b c : Addr) : It where
  go := fun i H => ∃ (xs ys zs : List V) (x y z : V), SqT K H a xs ∧ SqT K H b ys ∧ SqT K H c zs ∧ xs[i]? = some x ∧ ys[i]? = some y ∧ zs[i]? = some z
  yld := fun i H v H1 => ∃ T x y z, v = .ref T ∧ H T = none ∧ H1 = upd H T (.tup [x, y, z]) ∧ (∀ xs, SqT K H a xs → xs[i]? = some x) ∧ (∀ ys, SqT K H b ys → ys[i]? = some y) ∧ ∀ zs, SqT K H c zs → zs[i]? = some z
  stop := fun i H => ∃ n : Nat, i = n ∧ ∃ xs ys zs : List V, SqT K H a xs ∧ SqT K H b ys ∧ SqT K H c zs ∧ xs.length = n ∧ ys.length = n ∧ zs.length = n
abbrev cells3 (z TI TO i1 i2 i3 : Addr) : List Addr := [z, TI, TO, i1, i2, i3]
theorem in_cells3 {z TI TO i1 i2 i3 b : Addr} (h : b ∈ cells3 z TI TO i1 i2 i3) : b = z ∨ b = TI ∨ b = TO ∨ b = i1 ∨ b = i2 ∨ b = i3 := by simpa using h
theorem turn_zip3 {P : Program} {w : World} {K : PySem.W.Frag} {elts : List Expr} {kk : Nat} {tpos : Pos} {a b c z TI TO i1 i2 i3 : Addr} (S : ZipSep3 z TI TO i1 i2 i3 [i1, a] [i2, b] [i3, c]) (n1 : a ≠ i1) (n2 : b ≠ i2) (n3 : c ≠ i3) :
    Turn P w K (.Tuple elts kk tpos) (ItzT3 K a b c) (cells3 z TI TO i1 i2 i3) z
      (fun i h => IsZip h z TI TO .none ∧ IsTupOf3 h TI (.ref i1) (.ref i2) (.ref i3) ∧ (∃ x y u, IsTupOf3 h TO x y u) ∧ h.IsTupleIter i1 a i ∧ h.IsTupleIter i2 b i ∧ h.IsTupleIter i3 c i) where
  mem := List.mem_cons_self
  obj := by
    rintro i h ⟨hz, hTI, ⟨x, y, u, hTO⟩, ⟨o1, e1, _, d1⟩, ⟨o2, e2, _, d2⟩, ⟨o3, e3, _, d3⟩⟩ b hb
    rcases in_cells3 hb with q | q | q | q | q | q <;> subst q
    · exact ⟨_, hz, fun v q => nomatch q⟩
    · exact ⟨_, hTI, fun v q => nomatch q⟩
    · exact ⟨_, hTO, fun v q => nomatch q⟩
    · exact ⟨o1, e1, fun v q => by rw [d1] at q; cases q⟩
    · exact ⟨o2, e2, fun v q => by rw [d2] at q; cases q⟩
    · exact ⟨o3, e3, fun v q => by rw [d3] at q; cases q⟩
  keep := by
    rintro i h h' ⟨hz, hTI, ⟨x, y, u, hTO⟩, h1, h2, h3⟩ k
    exact ⟨k z (by simp) _ hz, k TI (by simp) _ hTI, ⟨x, y, u, k TO (by simp) _ hTO⟩, h1.at fun o q => k i1 (by simp) o q, h2.at fun o q => k i2 (by simp) o q, h3.at fun o q => k i3 (by simp) o q⟩
  item := by
    intro X hP hw hK hc i pins s σ H E I hf st hg
    subst hP hw hK
    obtain ⟨hz, hTI, ⟨x0, y0, z0, hTO⟩, h1, h2, h3⟩ := st
    obtain ⟨xs, ys, zs, x, y, u, qx, qy, qz, hx, hy, hu⟩ := hg
    obtain ⟨l1, r1, p1, _⟩ := I.tuple qx
    obtain ⟨l2, r2, p2, _⟩ := I.tuple qy
    obtain ⟨l3, r3, p3, _⟩ := I.tuple qz
    obtain ⟨v1, e1, rv1⟩ := r1.get hx
    obtain ⟨v2, e2, rv2⟩ := r2.get hy
    obtain ⟨v3, e3, rv3⟩ := r3.get hu
    have hh : X.A.in1.handled = none := I.ok.hd hc
    have g1 : l1.toArray[i]? = some v1 := by simpa using e1
    have g2 : l2.toArray[i]? = some v2 := by simpa using e2
    have g3 : l3.toArray[i]? = some v3 := by simpa using e3
    have t1 := (Array.getElem?_eq_some_iff.mp g1).1
    have t2 := (Array.getElem?_eq_some_iff.mp g2).1
    have t3 := (Array.getElem?_eq_some_iff.mp g3).1
    have hzl : z < s.heap.objs.size := Heap.lt_size hz
    refine wpAny_pyNext_zipD3_item S (Draws.tuple hh i1 a n1 l1.toArray) (Draws.tuple hh i2 b n2 l2.toArray) (Draws.tuple hh i3 c n3 l3.toArray) hz hTI hTO ⟨h1, p1⟩ ⟨h2, p2⟩ ⟨h3, p3⟩ t1 t2 t3 fun w1 w2 w3 h' tk y1 y2 y3 b1 b2 d1 d2 d3 hT hsz hk => ?_
    obtain rfl : w1 = v1 := Option.some.inj (y1.symm.trans g1)
    obtain rfl : w2 = v2 := Option.some.inj (y2.symm.trans g2)
    obtain rfl : w3 = v3 := Option.some.inj (y3.symm.trans g3)
    refine ⟨_, rfl, wpAny_letOwnedTupleGo_zip (s := { s with heap := h', toks := tk }) b1 fun h'' z'' sb => ?_⟩
    have hT2 : h''.get? s.heap.objs.size = some { cls := .type "tuple", data := .seq #[w1, w2, w3] } := (sb.2 _ (Nat.ne_of_gt hzl)).trans hT
    have new : ObjOk X.prog X.w (upd H s.heap.objs.size (.tup [x, y, u])) h'' s.heap.objs.size (.tup [x, y, u]) :=
      ⟨(show 3 ≤ sizeLine by decide), [w1, w2, w3], .cons rv1 (.cons rv2 (.cons rv3 .nil)), ⟨_, hT2, rfl, _, rfl⟩⟩
    have I1 : Inv X pins σ (upd H s.heap.objs.size (.tup [x, y, u])) { s with heap := h'', toks := tk } :=
      I.turnedNew (ch := cells3 z TI TO i1 i2 i3) (fun e o hb q => (sb.2 e (fun q' => hb (by simp [q']))).trans (hk e o (fun q' => hb (by simp [q'])) (fun q' => hb (by simp [q'])) (fun q' => hb (by simp [q'])) (fun q' => hb (by simp [q'])) (fun q' => hb (by simp [q'])) q)) hf (Nat.le_refl _) new
    refine ⟨.ref s.heap.objs.size, _, I1, rfl, ⟨_, x, y, u, rfl, I.hok.fresh (Nat.le_refl _), rfl, fun l hl => by rw [I.tuple_inj hl qx]; exact hx, fun l hl => by rw [I.tuple_inj hl qy]; exact hy, fun l hl => by rw [I.tuple_inj hl qz]; exact hu⟩, ⟨z'', ?_, ⟨w1, w2, w3, ?_⟩, ?_, ?_, ?_⟩, fun e hcm => ?_⟩
    · exact (sb.2 _ S.TIz).trans (hk _ _ S.TIz S.TITO S.TIi1 S.TIi2 S.TIi3 hTI)
    · exact (sb.2 _ S.TOz).trans b2
    · exact d1.1.at fun o q => (sb.2 _ (Ne.symm S.zi1)).trans q
    · exact d2.1.at fun o q => (sb.2 _ (Ne.symm S.zi2)).trans q
    · exact d3.1.at fun o q => (sb.2 _ (Ne.symm S.zi3)).trans q
    · have hlt : e < s.heap.objs.size := by
        rcases in_cells3 hcm with q | q | q | q | q | q <;> subst q
        · exact hzl
        · exact Heap.lt_size hTI
        · exact Heap.lt_size hTO
        · obtain ⟨_, q, _⟩ := h1
          exact Heap.lt_size q
        · obtain ⟨_, q, _⟩ := h2
          exact Heap.lt_size q
        · obtain ⟨_, q, _⟩ := h3
          exact Heap.lt_size q
      rw [upd_ne (Nat.ne_of_lt hlt)]
      exact (hf e hcm).1
  done := by
    intro X hP hw hK hc i pins s σ H E I hf st hg
    subst hP hw hK
    obtain ⟨hz, hTI, ⟨x0, y0, z0, hTO⟩, h1, h2, h3⟩ := st
    obtain ⟨n, rfl, xs, ys, zs, qx, qy, qz, e1, e2, e3⟩ := hg
    obtain ⟨l1, r1, p1, _⟩ := I.tuple qx
    obtain ⟨l2, r2, p2, _⟩ := I.tuple qy
    obtain ⟨l3, r3, p3, _⟩ := I.tuple qz
    have hh : X.A.in1.handled = none := I.ok.hd hc
    have f1 : i = l1.toArray.size := by rw [List.size_toArray, ← r1.length, e1]
    have f2 : i = l2.toArray.size := by rw [List.size_toArray, ← r2.length, e2]
    have f3 : i = l3.toArray.size := by rw [List.size_toArray, ← r3.length, e3]
    exact wpAny_pyNext_zipD3_end S (Draws.tuple hh i1 a n1 l1.toArray) (Draws.tuple hh i2 b n2 l2.toArray) (Draws.tuple hh i3 c n3 l3.toArray) hz hTI hTO ⟨h1, p1⟩ ⟨h2, p2⟩ ⟨h3, p3⟩ (Nat.le_of_eq f1) (Nat.le_of_eq f2) (Nat.le_of_eq f3) (.inl f1) fun h' tk hk =>
      ⟨rfl, I.turnedL (t' := tk) (ch := cells3 z TI TO i1 i2 i3) (fun e o hb q => hk e o (fun q' => hb (by simp [q'])) (fun q' => hb (by simp [q'])) (fun q' => hb (by simp [q'])) (fun q' => hb (by simp [q'])) (fun q' => hb (by simp [q'])) q) hf⟩
  self := fun A i s Q E st h => wpAny_pyIter_zip st.1 h
def iZip3T (K : PySem.W.Frag) (ta : TA) : TI := fun σ H R => ta σ H fun vs H1 => ∃ a b c xs ys zs, vs = [.ref a, .ref b, .ref c] ∧ SqT K H1 a xs ∧ SqT K H1 b ys ∧ SqT K H1 c zs ∧ R (ItzT3 K a b c) H1
theorem pi_zip3T {X : Cx} {e e2 e3 : Expr} {ta : TA} {p pos tpos : Pos} {elts : List Expr} {kk : Nat} (hg : Gl X "zip") (hm : X.mg "zip" = none) (ha : PA X [e, e2, e3] ta)
    (hs : starEach [e, e2, e3] X.env = (false, eval e X.env) :: starEach [e2, e3] X.env := by rfl) (hpl : (backTo pos (starEach [e2, e3] X.env)).any (·.1) = false := by rfl) :
    PI X (.Tuple elts kk tpos) (.Call (.Name "zip" p) [e, e2, e3] [] pos) (iZip3T X.K ta) := by
  refine ⟨fun pins s σ H R I h => Call_ (ld_blt I hg hm PyProof.Rows.boot_zip (PyProof.Rows.callWith_type1 (thn (ha.run pos pins s σ H _ I h) ?_) hs hpl))⟩
  rintro us s1 ⟨vs, H1, I1, r1, a, b, c, xs, ys, zs, rfl, qx, qy, qz, q⟩
  cases r1 with
  | cons ra r1 =>
    cases r1 with
    | cons rb r1 =>
      cases r1 with
      | cons rc r1 =>
        cases r1
        cases ra
        cases rb
        cases rc
        obtain ⟨l1, r1, p1, _⟩ := I1.tuple qx
        obtain ⟨l2, r2, p2, _⟩ := I1.tuple qy
        obtain ⟨l3, r3, p3, _⟩ := I1.tuple qz
        refine zip_begins3 (begins_tuple a l1.toArray) (begins_tuple b l2.toArray) (begins_tuple c l3.toArray) p1 p2 p3 fun h' hz hTI hTO g1 g2 g3 hsz hk => wpAny_pyIter_zip hz ?_
        have I2 : Inv X pins σ H1 { s1 with heap := h' } := I1.kept (t' := s1.toks) hk
        have lo : ∀ {t : Addr}, t < s1.heap.objs.size → ∀ b ∈ [t], b < s1.heap.objs.size := fun h b hb => by
          rw [List.mem_singleton.mp hb]
          exact h
        refine ⟨s1.heap.objs.size + 5, cells3 (s1.heap.objs.size + 5) (s1.heap.objs.size + 3) (s1.heap.objs.size + 4) s1.heap.objs.size (s1.heap.objs.size + 1) (s1.heap.objs.size + 2), _, _, H1, rfl, I2,
          turn_zip3 (zip_sep3 (lo p1.lt) (lo p2.lt) (lo p3.lt)) (Nat.ne_of_lt p1.lt) (Nat.ne_of_lt (Nat.lt_succ_of_lt p2.lt)) (Nat.ne_of_lt (Nat.lt_succ_of_lt (Nat.lt_succ_of_lt p3.lt))), ⟨hz, hTI, ⟨_, _, _, hTO⟩, ⟨_, g1, rfl, rfl⟩, ⟨_, g2, rfl, rfl⟩, ⟨_, g3, rfl, rfl⟩⟩, fun e he => ?_, q⟩
        have hle : s1.heap.objs.size ≤ e := by
          rcases in_cells3 he with q | q | q | q | q | q <;> rw [q]
          all_goals first | exact Nat.le_refl _ | exact Nat.le_add_right _ _
        exact I1.fpOk hle (I1.hok.fresh hle)
theorem walk_zip3T {K : PySem.W.Frag} {a b c : Addr} {xs ys zs : List V} {n : Nat} (h1 : xs.length = n) (h2 : ys.length = n) (h3 : zs.length = n) : Walk (ItzT3 K a b c) n (fun H => SqT K H a xs ∧ SqT K H b ys ∧ SqT K H c zs)
    (fun i H v H1 => ∃ T x y z, v = .ref T ∧ H T = none ∧ H1 = upd H T (.tup [x, y, z]) ∧ xs[i]? = some x ∧ ys[i]? = some y ∧ zs[i]? = some z) := by
  refine ⟨fun i H hi q => ⟨xs, ys, zs, xs[i], ys[i], zs[i], q.1, q.2.1, q.2.2, List.getElem?_eq_getElem (by omega), List.getElem?_eq_getElem (by omega), List.getElem?_eq_getElem (by omega)⟩, fun H q => ⟨n, rfl, xs, ys, zs, q.1, q.2.1, q.2.2, h1, h2, h3⟩, ?_⟩
  rintro i H v H1 _ q ⟨T, x, y, z, e1, e2, e3, e4, e5, e6⟩
  exact ⟨T, x, y, z, e1, e2, e3, e4 xs q.1, e5 ys q.2.1, e6 zs q.2.2⟩
def sp__law_is_split (K : PySem.W.Frag) : Sp := fun vs H Q _ => ∃ (H0 : Hp) (b g t : Addr) (ns : List Int) (n : Int), vs = [.ref b, .ref t, .int n] ∧ Bs H0 H b g ∧ SqT K H0 t (ns.map V.int) ∧ IsMach ns ∧ ∀ H', Bs H0 H' b g → Q (.bl true) H'
end Sx
namespace Sx
open PySem PySem.Spec PyProof.Rows L2

/-! ### lists of places -/
def nI (l : List Nat) : List V := l.map fun i => V.int (i : Nat)
def dI (l : List Nat) : List PyData := l.map fun i => PyData.int (i : Nat)
theorem dpa_nI {K : PySem.W.Frag} {H : Hp} : ∀ l : List Nat, DpAll K H (nI l) (dI l)
  | [] => .nil
  | i :: l => .cons (.int _) (dpa_nI l)
theorem fine_int {i : Int} (h : i.natAbs < 10 ^ 120) : fine (.int i) = true := by
  have h2 : i.natAbs < big := Nat.lt_trans h (by decide +kernel)
  simpa [fine] using h2
theorem fineAll_dI {l : List Nat} (h : ∀ i ∈ l, i < 1000000) : fineAll (dI l) = true := fineAll_map l fun i hi => fine_int (by
  have := h i hi
  show i < 10 ^ 120
  exact Nat.lt_trans this (by decide +kernel))
theorem nodAll_dI (l : List Nat) : nodAll (dI l) = l.length := nodAll_map (fun _ => rfl) l
theorem depthAll_dI (l : List Nat) : PyData.depthAll (dI l) ≤ 0 := depthAll_map l fun _ _ => Nat.le_refl 0
theorem inV_nI (i : Nat) : ∀ l : List Nat, inV (.int (i : Nat)) (nI l) = decide (i ∈ l)
  | [] => by simp [inV, nI]
  | j :: l => by
    have e := inV_nI i l
    have h : inV (.int (i : Nat)) (nI (j :: l)) = (eqV (.int (j : Nat)) (.int (i : Nat)) || inV (.int (i : Nat)) (nI l)) := rfl
    rw [h, e]
    have e2 : eqV (.int (j : Nat)) (.int (i : Nat)) = decide (i = j) := by
      by_cases q : i = j
      · subst q
        simp [eqV]
      · have q2 : ¬ ((j : Nat) : Int) = ((i : Nat) : Int) := by omega
        simp [eqV, q, q2]
    rw [e2]
    simp
theorem flat_nI (l : List Nat) : (nI l).all flatV = true := by
  unfold nI
  rw [List.all_map, List.all_eq_true]
  intro i _
  rfl

/-! ### data of two rows -/
theorem shows1 {ds : List PyData} (h : fineAll ds = true) (hn : nodAll ds ≤ 10000) (hd : PyData.depthAll ds ≤ 9) : Shows (.tuple ds) ∧ Shows (.list ds) := by
  have e1 : nod (.tuple ds) = 1 + nodAll ds := rfl
  have e2 : PyData.depth (.tuple ds) = PyData.depthAll ds + 1 := rfl
  have e3 : nod (.list ds) = 1 + nodAll ds := rfl
  have e4 : PyData.depth (.list ds) = PyData.depthAll ds + 1 := rfl
  exact ⟨shows_of h (by omega) (by omega), shows_of h (by omega) (by omega)⟩
theorem shows2 {d1 d2 : PyData} (h1 : fine d1 = true) (h2 : fine d2 = true) (n1 : nod d1 ≤ 10000) (n2 : nod d2 ≤ 10000) (e1 : d1.depth ≤ 9) (e2 : d2.depth ≤ 9) : Shows (.list [d1, d2]) := by
  refine shows_of ?_ ?_ ?_
  · show (fine d1 && (fine d2 && true)) = true
    rw [h1, h2] <;> rfl
  · show 1 + (nod d1 + (nod d2 + 0)) ≤ 50000
    omega
  · show max d1.depth (max d2.depth 0) + 1 ≤ 60
    omega
/-- a row's facts, for shows2 -/
structure Row (d : PyData) : Prop where
  f : fine d = true
  n : nod d ≤ 10000
  d : d.depth ≤ 9
theorem Row.one {d : PyData} (a : Row d) : Shows d := shows_of a.f (by have := a.n; omega) (by have := a.d; omega)
theorem Row.tup {ds : List PyData} (h : fineAll ds = true) (hn : nodAll ds ≤ 9000) (hd : PyData.depthAll ds ≤ 8) : Row (.tuple ds) :=
  ⟨h, (by show 1 + nodAll ds ≤ 10000; omega), (by show PyData.depthAll ds + 1 ≤ 9; omega)⟩
theorem Row.lst {ds : List PyData} (h : fineAll ds = true) (hn : nodAll ds ≤ 9000) (hd : PyData.depthAll ds ≤ 8) : Row (.list ds) :=
  ⟨h, (by show 1 + nodAll ds ≤ 10000; omega), (by show PyData.depthAll ds + 1 ≤ 9; omega)⟩
theorem Row.two {d1 d2 : PyData} (a : Row d1) (b : Row d2) : Shows (.list [d1, d2]) := shows2 a.f b.f a.n b.n a.d b.d
theorem Row.mach {ns : List Int} (hm : IsMach ns) : Row (.tuple (ns.map PyData.int)) := by
  refine .tup (fineAll_map ns fun n hn => fine_int ?_) ?_ (depthAll_map ns fun _ _ => Nat.zero_le _)
  · have := hm.mod n hn
    exact Nat.lt_trans (show n.natAbs < 1000001 by omega) (by decide +kernel)
  · rw [nodAll_map (fun _ => rfl)]
    have := hm.ten
    omega
theorem Row.ints {ns : List Int} (h : ∀ n ∈ ns, n.natAbs < 10 ^ 120) (hl : ns.length ≤ 9000) : Row (.tuple (ns.map PyData.int)) := by
  refine .tup (fineAll_map ns fun n hn => fine_int (h n hn)) ?_ (depthAll_map ns fun _ _ => Nat.zero_le _)
  rw [nodAll_map (fun _ => rfl)]
  exact hl
/-- a word's items -/
def IsWord (ws : List (Option Int)) : Prop := ws.length ≤ 10 ∧ ∀ r, some r ∈ ws → 0 ≤ r ∧ r < 1000000
theorem Row.word {ws : List (Option Int)} (h : IsWord ws) : Row (.tuple (ws.map dO)) := by
  refine .tup (fineAll_map ws fun o ho => ?_) ?_ (depthAll_map ws fun o _ => by rw [dO_depth]; exact Nat.zero_le _)
  · cases o with
    | none => rfl
    | some r =>
      have := h.2 r ho
      exact fine_int (Nat.lt_trans (show r.natAbs < 1000000 by omega) (by decide +kernel))
  · rw [nodAll_map dO_nod]
    have := h.1
    omega
theorem Row.places {l : List Nat} (h : ∀ i ∈ l, i < 10) (hl : l.length ≤ 10) : Row (.tuple (dI l)) := by
  refine .tup (fineAll_dI fun i hi => by have := h i hi; omega) ?_ (Nat.le_trans (depthAll_dI l) (by decide))
  rw [nodAll_dI]
  omega

/-! ### the lanes that speak, agree, stray -/
def spoke (ws : List (Option Int)) (k : Nat) : List Nat := (List.range k).filter fun i => !decide (vO (ws.getD i none) = .non)
def fitOf (ns : List Int) (ws : List (Option Int)) (n : Int) (l : List Nat) : List Nat := l.filter fun i => decide (vO (ws.getD i none) = .int (n % ns.getD i 0))
def unfitOf (l f : List Nat) : List Nat := l.filter fun i => !inV (.int (i : Nat)) (nI f)
theorem rests_at {ns : List Int} {n : Int} {i : Nat} (h : i < ns.length) : (rests ns n).getD i 0 = n % ns.getD i 0 := by
  unfold rests
  rw [List.getD_eq_getElem?_getD, List.getD_eq_getElem?_getD, List.getElem?_map, List.getElem?_eq_getElem h] <;> rfl
theorem fit_eq {ns : List Int} {ws : List (Option Int)} {n : Int} (h : ws.length = ns.length) : fitOf ns ws n (spoke ws ns.length) = agree ns ws n := by
  unfold fitOf spoke agree
  rw [List.filter_filter, h]
  refine List.filter_congr fun i hi => ?_
  rw [rests_at (List.mem_range.mp hi)]
  generalize ws.getD i none = o
  cases o <;> simp [vO]
theorem unfit_eq {ns : List Int} {ws : List (Option Int)} {n : Int} (h : ws.length = ns.length) : unfitOf (spoke ws ns.length) (agree ns ws n) = stray ns ws n := by
  unfold unfitOf spoke
  rw [List.filter_filter]
  unfold stray
  rw [h]
  refine List.filter_congr fun i hi => ?_
  rw [inV_nI]
  have e : decide (i ∈ agree ns ws n) = decide (vO (ws.getD i none) = .int ((rests ns n).getD i 0)) := by
    unfold agree
    rw [h]
    rw [Bool.eq_iff_iff]
    simp only [decide_eq_true_eq, List.mem_filter]
    exact ⟨fun q => q.2, fun q => ⟨hi, q⟩⟩
  rw [e, Bool.and_comm]
theorem lanes_small {p : Nat → Bool} {k : Nat} (hk : k ≤ 10) : (∀ i ∈ (List.range k).filter p, i < 10) ∧ ((List.range k).filter p).length ≤ 10 := by
  constructor
  · intro i hi
    have := List.mem_range.mp (List.mem_filter.mp hi).1
    omega
  · have := List.length_filter_le p (List.range k)
    rw [List.length_range] at this
    omega
theorem getD_some {α : Type} {xs : List α} {i : Nat} (d : α) (h : i < xs.length) : xs[i]? = some (xs.getD i d) := by
  rw [List.getD_eq_getElem?_getD, List.getElem?_eq_getElem h] <;> rfl
theorem walk_range0 {n : Nat} : Walk (Itr 0 n) n (fun _ => True) (fun i H x H1 => H1 = H ∧ x = .int (i : Nat)) := by
  refine Walk.mono walk_range (fun _ h => h) ?_
  rintro i H x H1 _ _ ⟨rfl, rfl⟩
  exact ⟨rfl, congrArg V.int (Int.zero_add _)⟩
theorem range_at {k i z : Nat} (h : (List.range k)[i]? = some z) : i = z ∧ i < k := by
  have hi := (List.getElem?_eq_some_iff.mp h).1
  rw [List.length_range] at hi
  rw [List.getElem?_range hi] at h
  exact ⟨Option.some.inj h, hi⟩

/-- what stands in H and is no part of the box, known to H0 from now on -/
theorem Bs.own {H0 H : Hp} {b g p : Addr} {o : HO} (B : Bs H0 H b g) (e : H p = some o) (pb : p ≠ b) (pg : p ≠ g) : Bs (upd H0 p o) H b g := by
  refine ⟨?_, by rw [upd_ne pb.symm]; exact B.nb, by rw [upd_ne pg.symm]; exact B.ng, B.ls, B.dc⟩
  intro c x h
  by_cases hc : c = p
  · subst hc
    rw [upd_same] at h
    cases h
    exact e
  · rw [upd_ne hc] at h
    exact B.sub c x h

/-! ### equal rows of ints -/
theorem eqvAll_ints : ∀ xs ys : List Int, PyData.eqvAll (xs.map PyData.int) (ys.map PyData.int) = decide (xs = ys)
  | [], [] => by simp [PyData.eqvAll]
  | [], _ :: _ => by simp [PyData.eqvAll]
  | _ :: _, [] => by simp [PyData.eqvAll]
  | x :: xs, y :: ys => by
    have e := eqvAll_ints xs ys
    simp only [List.map_cons, PyData.eqvAll, PyData.eqv, e]
    by_cases h : x = y <;> simp [h]
theorem eqv_tup_ints (xs ys : List Int) : PyData.eqv (.tuple (xs.map PyData.int)) (.tuple (ys.map PyData.int)) = decide (xs = ys) := by
  simp only [PyData.eqv, eqvAll_ints]
theorem shaped_tup_ints (ns : List Int) : SeqAt.shaped (.tuple (ns.map PyData.int)) = true := shaped_ints ns
theorem rests_alike (ns : List Int) (a b : Int) : decide (rests ns a = rests ns b) = (ns.filter fun m => !decide (V.int ((b - a) % m) = V.int 0)).isEmpty := by
  rw [Bool.eq_iff_iff, decide_eq_true_eq, List.isEmpty_iff, List.filter_eq_nil_iff]
  have key : ∀ m : Int, (a % m = b % m) ↔ (b - a) % m = 0 := by
    intro m
    constructor
    · intro h
      exact Int.emod_eq_zero_of_dvd (Int.dvd_of_emod_eq_zero (Int.emod_eq_emod_iff_emod_sub_eq_zero.mp h.symm))
    · intro h
      exact (Int.emod_eq_emod_iff_emod_sub_eq_zero.mpr h).symm
  unfold rests
  constructor
  · intro h m hm
    have h2 := List.map_inj_left.mp h m hm
    simp [(key m).mp h2]
  · intro h
    refine List.map_inj_left.mpr fun m hm => (key m).mpr ?_
    have := h m hm
    simpa using this
theorem rSlA_of {K : PySem.W.Frag} {lo hi : Option Int} {H : Hp} {Q : VK} {a : Addr} {xs : List V} (h : SqT K H a xs) (k : ∀ (o : Addr) (H1 : Hp), SqT K H1 o (cutV xs lo hi) → Same H H1 → Q (.ref o) H1) : rSlA K (.ref a) lo hi H Q := by
  refine ⟨a, xs, rfl, h, fun hw => k a H ?_ (Same.refl H), fun _ p np => k p _ (.of upd_same) (same_new np)⟩
  have e : cutV xs lo hi = xs := by
    unfold cutV
    rw [hw.1, hw.2, List.drop_zero, Nat.sub_zero, List.take_length]
  rw [e]
  exact h
theorem mem_cutV {xs : List V} {lo hi : Option Int} {x : V} (h : x ∈ cutV xs lo hi) : x ∈ xs := List.mem_of_mem_drop (List.mem_of_mem_take h)
def op3 (j : Nat) (a b : Int) : Int := match j with | 0 => a + b | 1 => a - b | _ => a * b
theorem op3_rests (ns : List Int) (j : Nat) (a b : Int) : rests ns (op3 j a b) = ns.map fun m => op3 j (a % m) (b % m) % m := by
  unfold rests
  refine List.map_congr_left fun m _ => ?_
  match j with
  | 0 => exact Int.add_emod a b m
  | 1 => exact Int.sub_emod a b m
  | _ + 2 => exact Int.mul_emod a b m
theorem op3_at (j : Nat) (hj : j < 3) (a b : Int) : [V.int (a + b), V.int (a - b), V.int (a * b)][j]? = some (V.int (op3 j a b)) := by
  match j, hj with
  | 0, _ => rfl
  | 1, _ => rfl
  | 2, _ => rfl
end Sx
namespace Sx
open PySem PySem.Spec PyProof.Rows L2

/-! ### min, max of a tuple of ints -/
theorem alike_ints (ns : List Int) : PySem.W.AlikeAll (ns.map PyData.int) := by
  constructor
  · intro x hx y hy
    obtain ⟨a, _, rfl⟩ := List.mem_map.mp hx
    obtain ⟨b, _, rfl⟩ := List.mem_map.mp hy
    rfl
  · intro x hx
    obtain ⟨a, _, rfl⟩ := List.mem_map.mp hx
    exact fun z => nomatch z
def rMinT (K : PySem.W.Frag) : List V → Hp → VK → Prop := fun vs H Q => ∃ (a : Addr) (n : Int) (ns : List Int), vs = [V.ref a] ∧ SqT K H a ((n :: ns).map V.int) ∧ Q (.int (ns.foldl min n)) H
def rMaxT (K : PySem.W.Frag) : List V → Hp → VK → Prop := fun vs H Q => ∃ (a : Addr) (n : Int) (ns : List Int), vs = [V.ref a] ∧ SqT K H a ((n :: ns).map V.int) ∧ Q (.int (ns.foldl max n)) H
theorem cr_minT {X : Cx} (hc : X.calm = true) (hu : X.A.units + 64 < cLine) : CallR X (.builtin "min") (rMinT X.K) := by
  intro pins s σ H vs us Q I r h
  obtain ⟨a, n, ns, rfl, hs, q⟩ := h
  obtain ⟨its, rv, tp, _⟩ := I.tuple hs
  obtain ⟨as, rd⟩ := Dp.readsAll I ((n :: ns).map PyData.int) _ its (dpa_ints (n :: ns)) rv
  rw [Vals.ref1 r]
  have hd := depthAll_ints (n :: ns)
  refine PySem.W.min_tuple_data (x := .int n) (xs := ns.map PyData.int) (I.ok.hd hc) (show s.heap.IsTuple a its.toArray from tp) (by simpa using rd) (alike_ints (n :: ns)) (by
    show X.A.units + 1 + PyData.depthAll ((n :: ns).map PyData.int) < cLine
    omega) fun i v h' tk bs hv hr hk => ?_
  rw [PySem.W.minD_ints] at hr
  cases hr with
  | int _ t => exact ⟨.int (ns.foldl min n), H, I.kept hk, ⟨_, rfl⟩, q⟩
theorem cr_maxT {X : Cx} (hc : X.calm = true) (hu : X.A.units + 64 < cLine) : CallR X (.builtin "max") (rMaxT X.K) := by
  intro pins s σ H vs us Q I r h
  obtain ⟨a, n, ns, rfl, hs, q⟩ := h
  obtain ⟨its, rv, tp, _⟩ := I.tuple hs
  obtain ⟨as, rd⟩ := Dp.readsAll I ((n :: ns).map PyData.int) _ its (dpa_ints (n :: ns)) rv
  rw [Vals.ref1 r]
  have hd := depthAll_ints (n :: ns)
  refine PySem.W.max_tuple_data (x := .int n) (xs := ns.map PyData.int) (I.ok.hd hc) (show s.heap.IsTuple a its.toArray from tp) (by simpa using rd) (alike_ints (n :: ns)) (by
    show X.A.units + 1 + PyData.depthAll ((n :: ns).map PyData.int) < cLine
    omega) fun i v h' tk bs hv hr hk => ?_
  rw [PySem.W.maxD_ints] at hr
  cases hr with
  | int _ t => exact ⟨.int (ns.foldl max n), H, I.kept hk, ⟨_, rfl⟩, q⟩

/-! ### steps -/
inductive Stp where
  | inn (lo hi : Int)
  | num (c : Int)
  | op (k i j : Nat)
instance : Inhabited Stp := ⟨.num 0⟩
def opw : Nat → Str
  | 0 => "sum"
  | 1 => "less"
  | _ => "times"
def stepV : Stp → List V
  | .inn lo hi => [.str "in", .int lo, .int hi]
  | .num c => [.str "is", .int c]
  | .op k i j => [.str (opw k), .int (i : Nat), .int (j : Nat)]
def stepD : Stp → List PyData
  | .inn lo hi => [.str "in", .int lo, .int hi]
  | .num c => [.str "is", .int c]
  | .op k i j => [.str (opw k), .int (i : Nat), .int (j : Nat)]
def StepOk (n : Nat) : Stp → Prop
  | .inn lo hi => IsNum lo ∧ IsNum hi ∧ lo ≤ hi
  | .num c => IsNum c
  | .op k i j => k ≤ 2 ∧ i < n ∧ j < n
theorem wne {a b : Str} (h : (a == b) = false) : decide (V.str a = V.str b) = false := by
  refine decide_eq_false fun e => ?_
  rw [V.str.inj e] at h
  simp at h
/-! ### hulls -/
def min4 (a b c d : Int) : Int := min (min (min a b) c) d
def max4 (a b c d : Int) : Int := max (max (max a b) c) d
def hullOp (k : Nat) (x y : Int × Int) : Int × Int := match k with
  | 0 => (x.1 + y.1, x.2 + y.2)
  | 1 => (x.1 - y.2, x.2 - y.1)
  | _ => (min4 (x.1 * y.1) (x.1 * y.2) (x.2 * y.1) (x.2 * y.2), max4 (x.1 * y.1) (x.1 * y.2) (x.2 * y.1) (x.2 * y.2))
def hullS (E : List (Int × Int)) : Stp → Int × Int
  | .inn lo hi => (lo, hi)
  | .num c => (c, c)
  | .op k i j => hullOp k (E.getD i (0, 0)) (E.getD j (0, 0))
def hullsN (ss : List Stp) : Nat → List (Int × Int)
  | 0 => []
  | i + 1 => hullsN ss i ++ [hullS (hullsN ss i) (ss.getD i default)]
theorem hullsN_len (ss : List Stp) : ∀ i, (hullsN ss i).length = i
  | 0 => rfl
  | i + 1 => by
    show (hullsN ss i ++ [_]).length = i + 1
    rw [List.length_append, hullsN_len ss i] <;> rfl
def hullMost : Int := 10 ^ 120
def Bnd (e : Int × Int) : Prop := e.1.natAbs ≤ 10 ^ 120 ∧ e.2.natAbs ≤ 10 ^ 120
structure IsProg (ss : List Stp) : Prop where
  one : 1 ≤ ss.length
  most : ss.length ≤ 30
  ok : ∀ i s, ss[i]? = some s → StepOk i s
  bnd : ∀ i, i ≤ ss.length → ∀ e ∈ hullsN ss i, Bnd e
theorem bnd_wide {a b : Int} (ha : a.natAbs ≤ 10 ^ 120) (hb : b.natAbs ≤ 10 ^ 120) : CMulW a b :=
  wide_mul (a := 400) (b := 400) (Nat.lt_of_le_of_lt ha (by decide +kernel)) (Nat.lt_of_le_of_lt hb (by decide +kernel)) (by decide) (by decide) (by decide)
theorem num_bnd {n : Int} (h : IsNum n) : n.natAbs ≤ 10 ^ 120 := by
  have h2 : n.natAbs ≤ 10 ^ 60 := by
    have a := h.1
    have b := h.2
    omega
  exact Nat.le_trans h2 (by decide +kernel)
/-! ### where hulls, programs stand -/
abbrev PairAt (H : Hp) (a : Addr) (e : Int × Int) : Prop := H a = some (.tup [.int e.1, .int e.2])
def HlsAt (H : Hp) (l : Addr) (E : List (Int × Int)) : Prop := ∃ as : List Addr, H l = some (.lst (as.map V.ref)) ∧ Paired (PairAt H) as E
def HltAt (H : Hp) (t : Addr) (E : List (Int × Int)) : Prop := ∃ as : List Addr, H t = some (.tup (as.map V.ref)) ∧ Paired (PairAt H) as E
abbrev StepAt (H : Hp) (a : Addr) (s : Stp) : Prop := H a = some (.tup (stepV s))
def ProgAt (H : Hp) (t : Addr) (ss : List Stp) : Prop := ∃ as : List Addr, H t = some (.tup (as.map V.ref)) ∧ Paired (StepAt H) as ss
theorem paired_same {β : Type} {R : Hp → Addr → β → Prop} {H H1 : Hp} (h : ∀ a x, R H a x → R H1 a x) : ∀ {as : List Addr} {xs : List β}, Paired (R H) as xs → Paired (R H1) as xs
  | _, _, .nil => .nil
  | _, _, .cons r t => .cons (h _ _ r) (paired_same h t)
theorem HlsAt.same {H H1 : Hp} {l : Addr} {E : List (Int × Int)} (s : Same H H1) (h : HlsAt H l E) : HlsAt H1 l E := by
  obtain ⟨as, e, p⟩ := h
  exact ⟨as, s _ _ e, paired_same (fun a x r => s _ _ r) p⟩
theorem HltAt.same {H H1 : Hp} {l : Addr} {E : List (Int × Int)} (s : Same H H1) (h : HltAt H l E) : HltAt H1 l E := by
  obtain ⟨as, e, p⟩ := h
  exact ⟨as, s _ _ e, paired_same (fun a x r => s _ _ r) p⟩
theorem ProgAt.same {H H1 : Hp} {t : Addr} {ss : List Stp} (s : Same H H1) (h : ProgAt H t ss) : ProgAt H1 t ss := by
  obtain ⟨as, e, p⟩ := h
  exact ⟨as, s _ _ e, paired_same (fun a x r => s _ _ r) p⟩
theorem paired_at {β : Type} {R : Addr → β → Prop} : ∀ {as : List Addr} {xs : List β} {i : Nat} {x : β}, Paired R as xs → xs[i]? = some x → ∃ a, as[i]? = some a ∧ R a x
  | _, _, _, _, .nil, h => by simp at h
  | _, _, 0, x, .cons r t, h => ⟨_, rfl, by rw [← Option.some.inj h]; exact r⟩
  | _, _, i + 1, x, .cons r t, h => paired_at (i := i) t (by simpa using h)
theorem paired_len {β : Type} {R : Addr → β → Prop} {as : List Addr} {xs : List β} (h : Paired R as xs) : as.length = xs.length := Paired.length h
theorem paired_snoc {β : Type} {R : Addr → β → Prop} {a : Addr} {x : β} : ∀ {as : List Addr} {xs : List β}, Paired R as xs → R a x → Paired R (as ++ [a]) (xs ++ [x])
  | _, _, .nil, h => .cons h .nil
  | _, _, .cons r t, h => .cons r (paired_snoc t h)
/-- rows of data at once -/
theorem dpa_paired {β : Type} {K : PySem.W.Frag} {H : Hp} {R : Addr → β → Prop} {f : β → PyData} (h : ∀ a x, R a x → Dp K H (.ref a) (f x)) : ∀ {as : List Addr} {xs : List β}, Paired R as xs → DpAll K H (as.map V.ref) (xs.map f)
  | _, _, .nil => .nil
  | _, _, .cons r t => .cons (h _ _ r) (dpa_paired h t)
theorem dpa_step {K : PySem.W.Frag} {H : Hp} (s : Stp) : DpAll K H (stepV s) (stepD s) := by
  cases s with
  | inn lo hi => exact .cons (.str _) (.cons (.int _) (.cons (.int _) .nil))
  | num c => exact .cons (.str _) (.cons (.int _) .nil)
  | op k i j => exact .cons (.str _) (.cons (.int _) (.cons (.int _) .nil))
theorem dp_prog {K : PySem.W.Frag} {H : Hp} {t : Addr} {ss : List Stp} (h : ProgAt H t ss) : Dp K H (.ref t) (.tuple (ss.map fun s => .tuple (stepD s))) := by
  obtain ⟨as, e, p⟩ := h
  exact .tup (.of e) (dpa_paired (fun a s r => .tup (.of r) (dpa_step s)) p)
def hullD (e : Int × Int) : PyData := .tuple [.int e.1, .int e.2]
theorem dp_hlt {K : PySem.W.Frag} {H : Hp} {t : Addr} {E : List (Int × Int)} (h : HltAt H t E) : Dp K H (.ref t) (.tuple (E.map hullD)) := by
  obtain ⟨as, e, p⟩ := h
  exact .tup (.of e) (dpa_paired (f := hullD) (fun a x r => .tup (.of r) (.cons (.int _) (.cons (.int _) .nil))) p)
/-! ### the promises -/
abbrev HullEnd (H : Hp) (Q : VK) (e : Int × Int) : Prop := ∀ (a : Addr) (H' : Hp), Same H H' → H a = none → PairAt H' a e → Q (.ref a) H'
def sp_hull_of (_ : PySem.W.Frag) : Sp := fun vs H Q _ => ∃ (p l : Addr) (s : Stp) (E : List (Int × Int)), vs = [.ref p, .ref l] ∧ StepAt H p s ∧ HlsAt H l E ∧ StepOk E.length s ∧ (∀ e ∈ E, Bnd e) ∧ HullEnd H Q (hullS E s)
def sp__law_hull (_ : PySem.W.Frag) : Sp := fun vs H Q _ => ∃ (p l : Addr) (s : Stp) (E : List (Int × Int)), vs = [.ref l, .ref p] ∧ StepAt H p s ∧ HlsAt H l E ∧ StepOk E.length s ∧ (∀ e ∈ E, Bnd e) ∧ HullEnd H Q (hullS E s)
theorem min4_of {p q r s m : Int} (h : m ∈ [p, q, r, s]) (hl : ∀ y, y ∈ [p, q, r, s] → m ≤ y) : m = min4 p q r s := by
  have h1 := hl p (by simp)
  have h2 := hl q (by simp)
  have h3 := hl r (by simp)
  have h4 := hl s (by simp)
  have h' : m = p ∨ m = q ∨ m = r ∨ m = s := by simpa using h
  unfold min4
  omega
theorem max4_of {p q r s m : Int} (h : m ∈ [p, q, r, s]) (hl : ∀ y, y ∈ [p, q, r, s] → y ≤ m) : m = max4 p q r s := by
  have h1 := hl p (by simp)
  have h2 := hl q (by simp)
  have h3 := hl r (by simp)
  have h4 := hl s (by simp)
  have h' : m = p ∨ m = q ∨ m = r ∨ m = s := by simpa using h
  unfold max4
  omega
theorem hl_at {H : Hp} {l : Addr} {E : List (Int × Int)} {i : Nat} (h : HlsAt H l E) (hi : i < E.length) : ∃ (as : List Addr) (a : Addr), H l = some (.lst (as.map V.ref)) ∧ (as.map V.ref)[i]? = some (.ref a) ∧ PairAt H a (E.getD i (0, 0)) ∧ (E.getD i (0, 0)) ∈ E := by
  obtain ⟨as, e, p⟩ := h
  have hx : E[i]? = some (E.getD i (0, 0)) := getD_some _ hi
  obtain ⟨a, h1, h2⟩ := paired_at p hx
  exact ⟨as, a, e, by rw [List.getElem?_map, h1]; rfl, h2, List.mem_of_getElem? hx⟩
end Sx
namespace Sx
open PySem PySem.Spec PyProof.Rows L2
def sp__law_stretch (_ : PySem.W.Frag) : Sp := fun vs H Q _ => ∃ (H0 : Hp) (b g : Addr), vs = [.ref b] ∧ Bs H0 H b g ∧ ∀ (lo hi : Int) (p : Addr) (H1 H' : Hp), IsNum lo → IsNum hi → lo ≤ hi → Same H0 H1 → H0 p = none → PairAt H1 p (lo, hi) → Bs H1 H' b g → Q (.ref p) H'
def sp__law_step (_ : PySem.W.Frag) : Sp := fun vs H Q _ => ∃ (H0 : Hp) (b g : Addr) (i : Nat), vs = [.ref b, .int (i : Nat)] ∧ Bs H0 H b g ∧ i < 1000 ∧ ∀ (s : Stp) (p : Addr) (H1 H' : Hp), StepOk i s → Same H0 H1 → H0 p = none → StepAt H1 p s → Bs H1 H' b g → Q (.ref p) H'
end Sx
namespace Sx
open PySem PySem.Spec PyProof.Rows L2
def sp__law_program (_ : PySem.W.Frag) : Sp := fun vs H Q _ => ∃ (H0 : Hp) (b g : Addr) (most : Int), vs = [.ref b, .int most] ∧ Bs H0 H b g ∧ 1 ≤ most ∧ most ≤ 30 ∧
  ∀ (ss : List Stp) (p : Addr) (H1 H' : Hp), IsProg ss → Same H0 H1 → H0 p = none → ProgAt H1 p ss → Bs H1 H' b g → Q (.ref p) H'
theorem tup_put {H : Hp} {p a : Addr} {xs ys : List V} {o : HO} (hp : H p = some (.lst xs)) (h : H a = some (.tup ys)) : (upd H p o) a = some (.tup ys) := by
  rw [upd_ne (ne_of h hp (fun z => nomatch z))]
  exact h
theorem hullsN_app {ss : List Stp} {s : Stp} : ∀ {i : Nat}, i ≤ ss.length → hullsN (ss ++ [s]) i = hullsN ss i
  | 0, _ => rfl
  | i + 1, h => by
    have e := hullsN_app (ss := ss) (s := s) (i := i) (by omega)
    show hullsN (ss ++ [s]) i ++ [hullS (hullsN (ss ++ [s]) i) ((ss ++ [s]).getD i default)] = hullsN ss i ++ [hullS (hullsN ss i) (ss.getD i default)]
    rw [e]
    have h2 : (ss ++ [s]).getD i default = ss.getD i default := by
      rw [List.getD_eq_getElem?_getD, List.getD_eq_getElem?_getD, List.getElem?_append_left (by omega)]
    rw [h2]
theorem hullsN_snoc {ss : List Stp} {s : Stp} : hullsN (ss ++ [s]) (ss.length + 1) = hullsN ss ss.length ++ [hullS (hullsN ss ss.length) s] := by
  show hullsN (ss ++ [s]) ss.length ++ [hullS (hullsN (ss ++ [s]) ss.length) ((ss ++ [s]).getD ss.length default)] = _
  rw [hullsN_app (Nat.le_refl _)]
  have h2 : (ss ++ [s]).getD ss.length default = s := by
    rw [List.getD_eq_getElem?_getD, List.getElem?_append_right (Nat.le_refl _), Nat.sub_self] <;> rfl
  rw [h2]
/-- what a program under way is -/
structure Part (ss : List Stp) : Prop where
  ok : ∀ i s, ss[i]? = some s → StepOk i s
  bnd : ∀ i, i ≤ ss.length → ∀ e ∈ hullsN ss i, Bnd e
theorem Part.nil : Part [] := by
  refine ⟨fun i s h => by simp at h, fun i h e he => ?_⟩
  obtain rfl : i = 0 := Nat.le_zero.mp h
  exact nomatch he
theorem Part.snoc {ss : List Stp} {s : Stp} (P : Part ss) (h : StepOk ss.length s) (hb : Bnd (hullS (hullsN ss ss.length) s)) : Part (ss ++ [s]) := by
  constructor
  · intro i x hx
    by_cases hi : i < ss.length
    · rw [List.getElem?_append_left hi] at hx
      exact P.ok i x hx
    · rw [List.getElem?_append_right (by omega)] at hx
      have e : i - ss.length = 0 := by
        have := (List.getElem?_eq_some_iff.mp hx).1
        rw [List.length_singleton] at this
        omega
      rw [e] at hx
      have e2 : i = ss.length := by omega
      rw [e2, ← Option.some.inj hx]
      exact h
  · intro i hi e he
    rw [List.length_append, List.length_singleton] at hi
    by_cases h2 : i ≤ ss.length
    · rw [hullsN_app h2] at he
      exact P.bnd i h2 e he
    · obtain rfl : i = ss.length + 1 := by omega
      rw [hullsN_snoc] at he
      rcases List.mem_append.mp he with h3 | h3
      · exact P.bnd _ (Nat.le_refl _) e h3
      · rw [List.mem_singleton.mp h3]
        exact hb
end Sx
namespace Sx
open PySem PySem.Spec PyProof.Rows L2
theorem same_put {H0 H : Hp} {p : Addr} {o : HO} (s : Same H0 H) (n : H0 p = none) : Same H0 (upd H p o) := by
  intro c x e
  rw [upd_ne (ne_of_none e n)]
  exact s c x e
end Sx
namespace Sx
open PySem PySem.Spec PyProof.Rows L2

/-! ### zip of a tuple and a list -/
def ItzTL (K : PySem.W.Frag) (a b : Addr) : It where
  go := fun i H => ∃ (xs ys : List V) (x y : V), SqT K H a xs ∧ SqL K H b ys ∧ xs[i]? = some x ∧ ys[i]? = some y
  yld := fun i H v H1 => ∃ T x y, v = .ref T ∧ H T = none ∧ H1 = upd H T (.tup [x, y]) ∧ (∀ xs, SqT K H a xs → xs[i]? = some x) ∧ (∀ ys, SqL K H b ys → ys[i]? = some y)
  stop := fun i H => ∃ n : Nat, i = n ∧ ∃ xs ys : List V, SqT K H a xs ∧ SqL K H b ys ∧ xs.length = n ∧ ys.length = n
abbrev cells2 (z TI TO i1 i2 : Addr) : List Addr := [z, TI, TO, i1, i2]
theorem in_cells2 {z TI TO i1 i2 b : Addr} (h : b ∈ cells2 z TI TO i1 i2) : b = z ∨ b = TI ∨ b = TO ∨ b = i1 ∨ b = i2 := by simpa using h
theorem turn_zipTL {P : Program} {w : World} {K : PySem.W.Frag} {elts : List Expr} {kk : Nat} {tpos : Pos} {a b z TI TO i1 i2 : Addr} (S : ZipSep2 z TI TO i1 i2 [i1, a] [i2, b]) (n1 : a ≠ i1) (n2 : b ≠ i2) :
    Turn P w K (.Tuple elts kk tpos) (ItzTL K a b) (cells2 z TI TO i1 i2) z
      (fun i h => IsZip h z TI TO .none ∧ IsTupOf2 h TI (.ref i1) (.ref i2) ∧ (∃ x y, IsTupOf2 h TO x y) ∧ h.IsTupleIter i1 a i ∧ h.IsListIter i2 b i) where
  mem := List.mem_cons_self
  obj := by
    rintro i h ⟨hz, hTI, ⟨x, y, hTO⟩, ⟨o1, e1, _, d1⟩, ⟨o2, e2, _, d2⟩⟩ b hb
    rcases in_cells2 hb with q | q | q | q | q <;> subst q
    · exact ⟨_, hz, fun v q => nomatch q⟩
    · exact ⟨_, hTI, fun v q => nomatch q⟩
    · exact ⟨_, hTO, fun v q => nomatch q⟩
    · exact ⟨o1, e1, fun v q => by rw [d1] at q; cases q⟩
    · exact ⟨o2, e2, fun v q => by rw [d2] at q; cases q⟩
  keep := by
    rintro i h h' ⟨hz, hTI, ⟨x, y, hTO⟩, h1, h2⟩ k
    exact ⟨k z (by simp) _ hz, k TI (by simp) _ hTI, ⟨x, y, k TO (by simp) _ hTO⟩, h1.at fun o q => k i1 (by simp) o q, h2.at fun o q => k i2 (by simp) o q⟩
  item := by
    intro X hP hw hK hc i pins s σ H E I hf st hg
    subst hP hw hK
    obtain ⟨hz, hTI, ⟨x0, y0, hTO⟩, h1, h2⟩ := st
    obtain ⟨xs, ys, x, y, qx, qy, hx, hy⟩ := hg
    obtain ⟨l1, r1, p1, _⟩ := I.tuple qx
    obtain ⟨l2, r2, p2, _⟩ := I.list qy
    obtain ⟨v1, e1, rv1⟩ := r1.get hx
    obtain ⟨v2, e2, rv2⟩ := r2.get hy
    have hh : X.A.in1.handled = none := I.ok.hd hc
    have g1 : l1.toArray[i]? = some v1 := by simpa using e1
    have g2 : l2.toArray[i]? = some v2 := by simpa using e2
    have t1 := (Array.getElem?_eq_some_iff.mp g1).1
    have t2 := (Array.getElem?_eq_some_iff.mp g2).1
    have hzl : z < s.heap.objs.size := Heap.lt_size hz
    refine wpAny_pyNext_zipD2_item S (Draws.tuple hh i1 a n1 l1.toArray) (Draws.list hh i2 b n2 l2.toArray) hz hTI hTO ⟨h1, p1⟩ ⟨h2, p2.isList⟩ t1 t2 fun w1 w2 h' tk y1 y2 b1 b2 d1 d2 hT hsz hk => ?_
    obtain rfl : w1 = v1 := Option.some.inj (y1.symm.trans g1)
    obtain rfl : w2 = v2 := Option.some.inj (y2.symm.trans g2)
    refine ⟨_, rfl, wpAny_letOwnedTupleGo_zip (s := { s with heap := h', toks := tk }) b1 fun h'' z'' sb => ?_⟩
    have hT2 : h''.get? s.heap.objs.size = some { cls := .type "tuple", data := .seq #[w1, w2] } := (sb.2 _ (Nat.ne_of_gt hzl)).trans hT
    have new : ObjOk X.prog X.w (upd H s.heap.objs.size (.tup [x, y])) h'' s.heap.objs.size (.tup [x, y]) :=
      ⟨(show 2 ≤ sizeLine by decide), [w1, w2], .cons rv1 (.cons rv2 .nil), ⟨_, hT2, rfl, _, rfl⟩⟩
    have I1 : Inv X pins σ (upd H s.heap.objs.size (.tup [x, y])) { s with heap := h'', toks := tk } :=
      I.turnedNew (ch := cells2 z TI TO i1 i2) (fun e o hb q => (sb.2 e (fun q' => hb (by simp [q']))).trans (hk e o (fun q' => hb (by simp [q'])) (fun q' => hb (by simp [q'])) (fun q' => hb (by simp [q'])) (fun q' => hb (by simp [q'])) q)) hf (Nat.le_refl _) new
    refine ⟨.ref s.heap.objs.size, _, I1, rfl, ⟨_, x, y, rfl, I.hok.fresh (Nat.le_refl _), rfl, fun l hl => by rw [I.tuple_inj hl qx]; exact hx, fun l hl => by rw [I.list_inj hl qy]; exact hy⟩, ⟨z'', ?_, ⟨w1, w2, ?_⟩, ?_, ?_⟩, fun e hcm => ?_⟩
    · exact (sb.2 _ S.TIz).trans (hk _ _ S.TIz S.TITO S.TIi1 S.TIi2 hTI)
    · exact (sb.2 _ S.TOz).trans b2
    · exact d1.1.at fun o q => (sb.2 _ (Ne.symm S.zi1)).trans q
    · exact d2.1.at fun o q => (sb.2 _ (Ne.symm S.zi2)).trans q
    · have hlt : e < s.heap.objs.size := by
        rcases in_cells2 hcm with q | q | q | q | q <;> subst q
        · exact hzl
        · exact Heap.lt_size hTI
        · exact Heap.lt_size hTO
        · obtain ⟨_, q, _⟩ := h1
          exact Heap.lt_size q
        · obtain ⟨_, q, _⟩ := h2
          exact Heap.lt_size q
      rw [upd_ne (Nat.ne_of_lt hlt)]
      exact (hf e hcm).1
  done := by
    intro X hP hw hK hc i pins s σ H E I hf st hg
    subst hP hw hK
    obtain ⟨hz, hTI, ⟨x0, y0, hTO⟩, h1, h2⟩ := st
    obtain ⟨n, rfl, xs, ys, qx, qy, e1, e2⟩ := hg
    obtain ⟨l1, r1, p1, _⟩ := I.tuple qx
    obtain ⟨l2, r2, p2, _⟩ := I.list qy
    have hh : X.A.in1.handled = none := I.ok.hd hc
    have f1 : i = l1.toArray.size := by rw [List.size_toArray, ← r1.length, e1]
    have f2 : i = l2.toArray.size := by rw [List.size_toArray, ← r2.length, e2]
    exact wpAny_pyNext_zipD2_end S (Draws.tuple hh i1 a n1 l1.toArray) (Draws.list hh i2 b n2 l2.toArray) hz hTI hTO ⟨h1, p1⟩ ⟨h2, p2.isList⟩ (Nat.le_of_eq f1) (Nat.le_of_eq f2) (.inl f1) fun h' tk hk =>
      ⟨rfl, I.turnedL (t' := tk) (ch := cells2 z TI TO i1 i2) (fun e o hb q => hk e o (fun q' => hb (by simp [q'])) (fun q' => hb (by simp [q'])) (fun q' => hb (by simp [q'])) (fun q' => hb (by simp [q'])) q) hf⟩
  self := fun A i s Q E st h => wpAny_pyIter_zip st.1 h
def iZipTL (K : PySem.W.Frag) (ta : TA) : TI := fun σ H R => ta σ H fun vs H1 => ∃ a b xs ys, vs = [.ref a, .ref b] ∧ SqT K H1 a xs ∧ SqL K H1 b ys ∧ R (ItzTL K a b) H1
theorem pi_zipTL {X : Cx} {e e2 : Expr} {ta : TA} {p pos tpos : Pos} {elts : List Expr} {kk : Nat} (hg : Gl X "zip") (hm : X.mg "zip" = none) (ha : PA X [e, e2] ta)
    (hs : starEach [e, e2] X.env = (false, eval e X.env) :: starEach [e2] X.env := by rfl) (hpl : (backTo pos (starEach [e2] X.env)).any (·.1) = false := by rfl) :
    PI X (.Tuple elts kk tpos) (.Call (.Name "zip" p) [e, e2] [] pos) (iZipTL X.K ta) := by
  refine ⟨fun pins s σ H R I h => Call_ (ld_blt I hg hm PyProof.Rows.boot_zip (PyProof.Rows.callWith_type1 (thn (ha.run pos pins s σ H _ I h) ?_) hs hpl))⟩
  rintro us s1 ⟨vs, H1, I1, r1, a, b, xs, ys, rfl, qx, qy, q⟩
  cases r1 with
  | cons ra r1 =>
    cases r1 with
    | cons rb r1 =>
      cases r1
      cases ra
      cases rb
      obtain ⟨l1, r1, p1, _⟩ := I1.tuple qx
      obtain ⟨l2, r2, p2, _⟩ := I1.list qy
      have lb : b < s1.heap.objs.size := by
        obtain ⟨o, ho, _⟩ := p2.isList
        exact Heap.lt_size ho
      refine zip_begins2 (begins_tuple a l1.toArray) (begins_list b l2.toArray) p1 p2.isList fun h' hz hTI hTO g1 g2 hsz hk => wpAny_pyIter_zip hz ?_
      have I2 : Inv X pins σ H1 { s1 with heap := h' } := I1.kept (t' := s1.toks) hk
      have lo : ∀ {t : Addr}, t < s1.heap.objs.size → ∀ b ∈ [t], b < s1.heap.objs.size := fun h b hb => by
        rw [List.mem_singleton.mp hb]
        exact h
      refine ⟨s1.heap.objs.size + 4, cells2 (s1.heap.objs.size + 4) (s1.heap.objs.size + 2) (s1.heap.objs.size + 3) s1.heap.objs.size (s1.heap.objs.size + 1), _, _, H1, rfl, I2,
        turn_zipTL (zip_sep2 (lo p1.lt) (lo lb)) (Nat.ne_of_lt p1.lt) (Nat.ne_of_lt (Nat.lt_succ_of_lt lb)), ⟨hz, hTI, ⟨_, _, hTO⟩, ⟨_, g1, rfl, rfl⟩, ⟨_, g2, rfl, rfl⟩⟩, fun e he => ?_, q⟩
      have hle : s1.heap.objs.size ≤ e := by
        rcases in_cells2 he with q | q | q | q | q <;> rw [q]
        all_goals first | exact Nat.le_refl _ | exact Nat.le_add_right _ _
      exact I1.fpOk hle (I1.hok.fresh hle)
theorem walk_zipTL {K : PySem.W.Frag} {a b : Addr} {xs ys : List V} {n : Nat} (h1 : xs.length = n) (h2 : ys.length = n) : Walk (ItzTL K a b) n (fun H => SqT K H a xs ∧ SqL K H b ys)
    (fun i H v H1 => ∃ T x y, v = .ref T ∧ H T = none ∧ H1 = upd H T (.tup [x, y]) ∧ xs[i]? = some x ∧ ys[i]? = some y) := by
  refine ⟨fun i H hi q => ⟨xs, ys, xs[i], ys[i], q.1, q.2, List.getElem?_eq_getElem (by omega), List.getElem?_eq_getElem (by omega)⟩, fun H q => ⟨n, rfl, xs, ys, q.1, q.2, h1, h2⟩, ?_⟩
  rintro i H v H1 _ q ⟨T, x, y, e1, e2, e3, e4, e5⟩
  exact ⟨T, x, y, e1, e2, e3, e4 xs q.1, e5 ys q.2⟩

/-! ### what a program comes to -/
def isIn : Stp → Bool
  | .inn _ _ => true
  | _ => false
/-- how many inputs stand ahead of the place i -/
def cnt (ss : List Stp) (i : Nat) : Nat := (ss.take i).countP isIn
def givOf (ss : List Stp) (ins : List Int) (i : Nat) : Option Int := match ss.getD i default with
  | .inn _ _ => some (ins.getD (cnt ss i) 0)
  | .num c => some c
  | .op _ _ _ => none
def giv (ss : List Stp) (ins : List Int) : List (Option Int) := (List.range ss.length).map (givOf ss ins)
def valOf (acc : List Int) (o : Option Int) (s : Stp) : Int := match o, s with
  | some x, _ => x
  | none, .op k i j => op3 k (acc.getD i 0) (acc.getD j 0)
  | none, _ => 0
def valsN (ss : List Stp) (ins : List Int) : Nat → List Int
  | 0 => []
  | i + 1 => valsN ss ins i ++ [valOf (valsN ss ins i) (givOf ss ins i) (ss.getD i default)]
abbrev vals (ss : List Stp) (ins : List Int) : List Int := valsN ss ins ss.length
theorem valsN_len (ss : List Stp) (ins : List Int) : ∀ i, (valsN ss ins i).length = i
  | 0 => rfl
  | i + 1 => by
    show (valsN ss ins i ++ [_]).length = i + 1
    rw [List.length_append, valsN_len ss ins i] <;> rfl
theorem cnt_succ {ss : List Stp} {i : Nat} (h : i < ss.length) : cnt ss (i + 1) = cnt ss i + (if isIn (ss.getD i default) then 1 else 0) := by
  unfold cnt
  rw [List.take_add_one, getD_some default h, List.countP_append]
  show _ + List.countP isIn [ss.getD i default] = _
  rw [List.countP_cons, List.countP_nil, Nat.zero_add]
/-- fitting inputs -/
structure InpOk (ss : List Stp) (ins : List Int) : Prop where
  len : ins.length = cnt ss ss.length
  fit : ∀ i lo hi, ss[i]? = some (.inn lo hi) → lo ≤ ins.getD (cnt ss i) 0 ∧ ins.getD (cnt ss i) 0 ≤ hi
theorem cnt_mono {ss : List Stp} : ∀ {i j : Nat}, i ≤ j → j ≤ ss.length → cnt ss i ≤ cnt ss j
  | i, 0, h, _ => by
    obtain rfl : i = 0 := Nat.le_zero.mp h
    exact Nat.le_refl _
  | i, j + 1, h, hj => by
    by_cases e : i = j + 1
    · rw [e]
      exact Nat.le_refl _
    · rw [cnt_succ (by omega)]
      exact Nat.le_trans (cnt_mono (show i ≤ j by omega) (by omega)) (Nat.le_add_right _ _)
theorem cnt_lt {ss : List Stp} {ins : List Int} (I : InpOk ss ins) {i : Nat} (h : i < ss.length) (hi : isIn (ss.getD i default) = true) : cnt ss i < ins.length := by
  rw [I.len]
  have e := cnt_succ h
  rw [hi] at e
  have m := cnt_mono (ss := ss) (show i + 1 ≤ ss.length from h) (Nat.le_refl _)
  rw [e] at m
  exact m
theorem getD_append_left {α : Type} {xs ys : List α} {i : Nat} (d : α) (h : i < xs.length) : (xs ++ ys).getD i d = xs.getD i d := by
  rw [List.getD_eq_getElem?_getD, List.getD_eq_getElem?_getD, List.getElem?_append_left h]
theorem getD_append_last {α : Type} {xs : List α} {x : α} (d : α) : (xs ++ [x]).getD xs.length d = x := by
  rw [List.getD_eq_getElem?_getD, List.getElem?_append_right (Nat.le_refl _), Nat.sub_self] <;> rfl
/-! ### values lie in hulls -/
theorem mul_between {a b x y : Int} (h1 : a ≤ x) (h2 : x ≤ b) : (a * y ≤ x * y ∧ x * y ≤ b * y) ∨ (b * y ≤ x * y ∧ x * y ≤ a * y) := by
  by_cases h : 0 ≤ y
  · exact .inl ⟨Int.mul_le_mul_of_nonneg_right h1 h, Int.mul_le_mul_of_nonneg_right h2 h⟩
  · exact .inr ⟨Int.mul_le_mul_of_nonpos_right h2 (by omega), Int.mul_le_mul_of_nonpos_right h1 (by omega)⟩
theorem mul_hull {a b c d x y : Int} (h1 : a ≤ x) (h2 : x ≤ b) (h3 : c ≤ y) (h4 : y ≤ d) : min4 (a * c) (a * d) (b * c) (b * d) ≤ x * y ∧ x * y ≤ max4 (a * c) (a * d) (b * c) (b * d) := by
  have k1 := mul_between (y := y) h1 h2
  have k2 : (c * a ≤ y * a ∧ y * a ≤ d * a) ∨ (d * a ≤ y * a ∧ y * a ≤ c * a) := mul_between h3 h4
  have k3 : (c * b ≤ y * b ∧ y * b ≤ d * b) ∨ (d * b ≤ y * b ∧ y * b ≤ c * b) := mul_between h3 h4
  rw [Int.mul_comm c a, Int.mul_comm y a, Int.mul_comm d a] at k2
  rw [Int.mul_comm c b, Int.mul_comm y b, Int.mul_comm d b] at k3
  unfold min4 max4
  omega
def InHull (e : Int × Int) (x : Int) : Prop := e.1 ≤ x ∧ x ≤ e.2
theorem hullOp_in {k : Nat} {e f : Int × Int} {x y : Int} (h1 : InHull e x) (h2 : InHull f y) : InHull (hullOp k e f) (op3 k x y) := by
  obtain ⟨a1, a2⟩ := h1
  obtain ⟨b1, b2⟩ := h2
  match k with
  | 0 => exact ⟨by show e.1 + f.1 ≤ x + y; omega, by show x + y ≤ e.2 + f.2; omega⟩
  | 1 => exact ⟨by show e.1 - f.2 ≤ x - y; omega, by show x - y ≤ e.2 - f.1; omega⟩
  | _ + 2 => exact mul_hull a1 a2 b1 b2
theorem vals_in {ss : List Stp} {ins : List Int} (P : IsProg ss) (I : InpOk ss ins) : ∀ i, i ≤ ss.length → ∀ j, j < i → InHull ((hullsN ss i).getD j (0, 0)) ((valsN ss ins i).getD j 0)
  | 0, _, _, h => absurd h (Nat.not_lt_zero _)
  | i + 1, hi, j, hj => by
    have ih := vals_in P I i (by omega)
    have l1 := hullsN_len ss i
    have l2 := valsN_len ss ins i
    show InHull ((hullsN ss i ++ [hullS (hullsN ss i) (ss.getD i default)]).getD j (0, 0)) ((valsN ss ins i ++ [valOf (valsN ss ins i) (givOf ss ins i) (ss.getD i default)]).getD j 0)
    by_cases h : j < i
    · rw [getD_append_left _ (by omega), getD_append_left _ (by omega)]
      exact ih j h
    · obtain rfl : j = i := by omega
      have e1 := getD_append_last (xs := hullsN ss j) (x := hullS (hullsN ss j) (ss.getD j default)) (0, 0)
      have e2 := getD_append_last (xs := valsN ss ins j) (x := valOf (valsN ss ins j) (givOf ss ins j) (ss.getD j default)) 0
      rw [l1] at e1
      rw [l2] at e2
      rw [e1, e2]
      have hs := getD_some (default : Stp) (show j < ss.length by omega)
      have ok := P.ok j _ hs
      unfold givOf
      generalize ss.getD j default = s at hs ok
      cases s with
      | inn lo hi' => exact I.fit j lo hi' hs
      | num c => exact ⟨Int.le_refl _, Int.le_refl _⟩
      | op k a b => exact hullOp_in (ih a ok.2.1) (ih b ok.2.2)
theorem in_bnd {e : Int × Int} {x : Int} (h : InHull e x) (b : Bnd e) : x.natAbs ≤ 10 ^ 120 := by
  obtain ⟨h1, h2⟩ := h
  obtain ⟨b1, b2⟩ := b
  omega
theorem vals_bnd {ss : List Stp} {ins : List Int} (P : IsProg ss) (I : InpOk ss ins) {i j : Nat} (hi : i ≤ ss.length) (hj : j < i) : ((valsN ss ins i).getD j 0).natAbs ≤ 10 ^ 120 :=
  in_bnd (vals_in P I i hi j hj) (P.bnd i hi _ (List.mem_of_getElem? (getD_some (0, 0) (by rw [hullsN_len]; exact hj))))
theorem mem_getD {α : Type} {xs : List α} {x : α} (d : α) (h : x ∈ xs) : ∃ i, i < xs.length ∧ xs.getD i d = x := by
  obtain ⟨i, hi, e⟩ := List.mem_iff_getElem.mp h
  exact ⟨i, hi, by rw [List.getD_eq_getElem?_getD, List.getElem?_eq_getElem hi]; exact e⟩
theorem vals_bndAll {ss : List Stp} {ins : List Int} (P : IsProg ss) (I : InpOk ss ins) : ∀ x ∈ vals ss ins, x.natAbs ≤ 10 ^ 120 := by
  intro x hx
  obtain ⟨i, hi, rfl⟩ := mem_getD 0 hx
  rw [valsN_len] at hi
  exact vals_bnd P I (Nat.le_refl _) hi

/-! ### the promises -/
def sp_given_integers (K : PySem.W.Frag) : Sp := fun vs H Q _ => ∃ (t p : Addr) (ss : List Stp) (ins : List Int), vs = [.ref t, .ref p] ∧ ProgAt H t ss ∧ SqT K H p (ins.map V.int) ∧ IsProg ss ∧ InpOk ss ins ∧
  ∀ (l : Addr) (H' : Hp), Same H H' → H l = none → H' l = some (.lst ((giv ss ins).map vO)) → Q (.ref l) H'
def sp_reckoned (K : PySem.W.Frag) : Sp := fun vs H Q _ => ∃ (p l : Addr) (k i j : Nat) (acc : List Int), vs = [.ref p, .ref l] ∧ StepAt H p (.op k i j) ∧ SqL K H l (acc.map V.int) ∧ k ≤ 2 ∧ i < acc.length ∧ j < acc.length ∧ (∀ x ∈ acc, x.natAbs ≤ 10 ^ 120) ∧
  Q (.int (op3 k (acc.getD i 0) (acc.getD j 0))) H
def sp_run (K : PySem.W.Frag) : Sp := fun vs H Q _ => ∃ (t p : Addr) (ss : List Stp) (ins : List Int), vs = [.ref t, .ref p] ∧ ProgAt H t ss ∧ SqT K H p (ins.map V.int) ∧ IsProg ss ∧ InpOk ss ins ∧
  ∀ (l : Addr) (H' : Hp), Same H H' → H l = none → H' l = some (.tup ((vals ss ins).map V.int)) → Q (.ref l) H'
def sp_result (K : PySem.W.Frag) : Sp := fun vs H Q _ => ∃ (t p : Addr) (ss : List Stp) (ins : List Int), vs = [.ref t, .ref p] ∧ ProgAt H t ss ∧ SqT K H p (ins.map V.int) ∧ IsProg ss ∧ InpOk ss ins ∧
  ∀ (H' : Hp), Same H H' → Q (.int ((vals ss ins).getD (ss.length - 1) 0)) H'
def sp_hulls (K : PySem.W.Frag) : Sp := fun vs H Q _ => ∃ (t : Addr) (ss : List Stp), vs = [.ref t] ∧ ProgAt H t ss ∧ IsProg ss ∧
  ∀ (l : Addr) (H' : Hp), Same H H' → H l = none → HltAt H' l (hullsN ss ss.length) → Q (.ref l) H'
def sp__law_values (K : PySem.W.Frag) : Sp := fun vs H Q _ => ∃ (t p : Addr) (ss : List Stp) (ins : List Int), vs = [.ref t, .ref p] ∧ ProgAt H t ss ∧ SqT K H p (ins.map V.int) ∧ IsProg ss ∧ InpOk ss ins ∧
  ∀ (l : Addr) (H' : Hp), Same H H' → H l = none → H' l = some (.lst ((vals ss ins).map V.int)) → Q (.ref l) H'
def sp__law_inputs (_ : PySem.W.Frag) : Sp := fun vs H Q _ => ∃ (H0 : Hp) (b g t : Addr) (ss : List Stp), vs = [.ref b, .ref t] ∧ Bs H0 H b g ∧ ProgAt H0 t ss ∧ IsProg ss ∧
  ∀ (ins : List Int) (p : Addr) (H1 H' : Hp), InpOk ss ins → Same H0 H1 → H0 p = none → H1 p = some (.tup (ins.map V.int)) → Bs H1 H' b g → Q (.ref p) H'
end Sx
namespace Sx
open PySem PySem.Spec PyProof.Rows L2
def sw : Stp → Str
  | .inn _ _ => "in"
  | .num _ => "is"
  | .op k _ _ => opw k
theorem sw_at (s : Stp) : atI (stepV s) 0 = some (.str (sw s)) := by cases s <;> exact atI_nat (j := 0) rfl
def isNumS : Stp → Bool
  | .num _ => true
  | _ => false
theorem opw_in {k : Nat} (h : k ≤ 2) : decide (V.str (opw k) = V.str "in") = false ∧ decide (V.str (opw k) = V.str "is") = false := by
  match k, h with
  | 0, _ => exact ⟨wne (by decide +kernel), wne (by decide +kernel)⟩
  | 1, _ => exact ⟨wne (by decide +kernel), wne (by decide +kernel)⟩
  | 2, _ => exact ⟨wne (by decide +kernel), wne (by decide +kernel)⟩
theorem sw_in {n : Nat} {s : Stp} (h : StepOk n s) : decide (V.str (sw s) = V.str "in") = isIn s := by
  cases s with
  | inn lo hi => exact decide_eq_true rfl
  | num c => exact wne (a := "is") (b := "in") (by decide +kernel)
  | op k i j => exact (opw_in h.1).1
theorem sw_is {n : Nat} {s : Stp} (h : StepOk n s) (hi : isIn s = false) : decide (V.str (sw s) = V.str "is") = isNumS s := by
  cases s with
  | inn lo hi => exact nomatch hi
  | num c => exact decide_eq_true rfl
  | op k i j => exact (opw_in h.1).2
theorem giv_len (ss : List Stp) (ins : List Int) : (giv ss ins).length = ss.length := by
  unfold giv
  rw [List.length_map, List.length_range]
theorem giv_at {ss : List Stp} {ins : List Int} {i : Nat} (h : i < ss.length) : (giv ss ins)[i]? = some (givOf ss ins i) := by
  unfold giv
  rw [List.getElem?_map, List.getElem?_range h] <;> rfl
theorem giv_take {ss : List Stp} {ins : List Int} {i : Nat} (h : i < ss.length) : (giv ss ins).take (i + 1) = (giv ss ins).take i ++ [givOf ss ins i] := by
  rw [List.take_add_one, giv_at h] <;> rfl
theorem stps_at {R : Addr → Stp → Prop} {as : List Addr} {ss : List Stp} {i : Nat} {x : V} (p : Paired R as ss) (h : (as.map V.ref)[i]? = some x) : i < ss.length ∧ ∃ a, x = .ref a ∧ ss[i]? = some (ss.getD i default) ∧ R a (ss.getD i default) := by
  have hi : i < ss.length := by
    have := (List.getElem?_eq_some_iff.mp h).1
    rw [List.length_map, paired_len p] at this
    exact this
  have hs := getD_some (default : Stp) hi
  obtain ⟨a, h1, h2⟩ := paired_at p hs
  rw [List.getElem?_map, h1] at h
  exact ⟨hi, a, (Option.some.inj h).symm, hs, h2⟩
theorem prs_at {as : List Addr} {E : List (Int × Int)} {R : Addr → Int × Int → Prop} {i : Nat} {x : V} (p : Paired R as E) (h : (as.map V.ref)[i]? = some x) : i < E.length ∧ ∃ a, x = .ref a ∧ R a (E.getD i (0, 0)) := by
  have hi : i < E.length := by
    have := (List.getElem?_eq_some_iff.mp h).1
    rw [List.length_map, paired_len p] at this
    exact this
  obtain ⟨a, h1, h2⟩ := paired_at p (getD_some (0, 0) hi)
  rw [List.getElem?_map, h1] at h
  exact ⟨hi, a, (Option.some.inj h).symm, h2⟩
/-- a new list, appended to -/
theorem lst_put {H H1 : Hp} {l : Addr} {o : HO} (s : Same H H1) (n : H l = none) : Same H (upd H1 l o) := same_put s n
end Sx

namespace Sx
open PySem PySem.Spec PyProof.Rows L2
theorem vals_last {ss : List Stp} {ins : List Int} (h : 1 ≤ ss.length) : atI ((vals ss ins).map V.int) (-1) = some (.int ((vals ss ins).getD (ss.length - 1) 0)) := by
  obtain ⟨k, hk⟩ : ∃ k, ss.length = k + 1 := ⟨ss.length - 1, by omega⟩
  have e : vals ss ins = valsN ss ins k ++ [valOf (valsN ss ins k) (givOf ss ins k) (ss.getD k default)] := by
    unfold vals
    rw [hk] <;> rfl
  have e2 := getD_append_last (xs := valsN ss ins k) (x := valOf (valsN ss ins k) (givOf ss ins k) (ss.getD k default)) 0
  rw [valsN_len] at e2
  rw [hk, Nat.add_sub_cancel, e, e2, List.map_append]
  exact atI_last _ _
end Sx

namespace Sx
open PySem PySem.Spec PyProof.Rows L2
def opKv (x y : Int) : List (Key × V) := [(Sum.inr "sum", .int (x + y)), (Sum.inr "less", .int (x - y)), (Sum.inr "times", .int (x * y))]
theorem opKv_at {k : Nat} (h : k ≤ 2) (x y : Int) : valV (opKv x y) (Sum.inr (opw k) : Key) = some (.int (op3 k x y)) := by
  match k, h with
  | 0, _ => rfl
  | 1, _ => rfl
  | 2, _ => rfl
theorem opKv_merge (x y : Int) : mergeK [] (opKv x y) = opKv x y := rfl
end Sx
namespace Sx
open PySem PySem.Spec PyProof.Rows L2

/-! ### rows of tuples of ints -/
abbrev TupAt (K : PySem.W.Frag) (H : Hp) (a : Addr) (ns : List Int) : Prop := SqT K H a (ns.map V.int)
theorem SqT.put {K : PySem.W.Frag} {H : Hp} {p a : Addr} {xs ys : List V} {o : HO} (hp : H p = some (.lst xs)) (h : SqT K H a ys) : SqT K (upd H p o) a ys := by
  rcases h with (h | ⟨ob, h⟩) | h
  · exact .inl (.inl (by rw [upd_ne (ne_of h hp (fun z => nomatch z))]; exact h))
  · exact .inl (.inr ⟨ob, by rw [upd_ne (ne_of h hp (fun z => nomatch z))]; exact h⟩)
  · exact .inr h
/-- comprehensions whose items are new tuples -/
theorem lc_tups {K : PySem.W.Frag} {β : Type} {J : It} {n : Nat} {zs : List β} {G : Hp → Prop} {Y : Nat → Hp → V → Hp → Prop} (w : Walk J n G Y) (hzn : zs.length = n) {g : TG} {te : TE} {vs : List Nat} {σ : L2.St} {H1 : Hp} {D : Addr} {Qd : Hp → Prop} (v : β → List Int) (hn : zs.length ≤ 100000)
    (hD : H1 D = none) (hG : ∀ H, Same H1 H → G H)
    (hs : ∀ i z x H H2, zs[i]? = some z → Same H1 H → Y i H x H2 → Same H H2 ∧ ∃ σ2, (∀ Q : L2.St → Hp → Prop, Q σ2 H2 → g x (wipe σ vs) H2 Q) ∧ wipe σ2 vs = wipe σ vs ∧
      (∀ Q : VK, Same H1 H2 → (∀ a H4, Same H2 H4 → TupAt K H4 a (v z) → Q (.ref a) H4) → te σ2 H2 Q))
    (hd : ∀ (H : Hp) (as : List Addr), Same H1 H → H D = some (.lst (as.map V.ref)) → Paired (TupAt K H) as (zs.map v) → Qd H) :
    ∃ W : Nat → Nat → Hp → Prop, (∃ m, W 0 m (upd H1 D (.lst []))) ∧ ∀ i m H, W i m H →
      (J.stop i H ∧ Qd H) ∨ (J.go i H ∧ ∃ Nx : Hp → Prop, (∀ H', Nx H' → ∃ m', m' < m ∧ W (i + 1) m' H') ∧ ∀ x H', J.yld i H x H' → g x (wipe σ vs) H' fun σ2 H2 => wipe σ2 vs = wipe σ vs ∧ tYes σ2 H2 fun b H3 =>
        if b = true then te σ2 H3 fun y H4 => ∃ acc, H4 D = some (.lst acc) ∧ acc.length < sizeLine ∧ Nx (upd H4 D (.lst (acc ++ [y]))) else Nx H3) := by
  subst hzn
  refine lc_it w (fun i H => Same H1 H ∧ ∃ as : List Addr, H D = some (.lst (as.map V.ref)) ∧ Paired (TupAt K H) as ((zs.take i).map v)) ⟨same_new hD, [], upd_same, .nil⟩ (fun i H _ p => hG H p.1) ?_ ?_
  · rintro i x H H2 hi ⟨s1, as, e1, p1⟩ y
    have hz : zs[i]? = some zs[i] := List.getElem?_eq_getElem hi
    obtain ⟨s2, σ2, h1, h2, h3⟩ := hs i zs[i] x H H2 hz s1 y
    have tk : zs.take (i + 1) = zs.take i ++ [zs[i]] := by
      rw [List.take_add_one, hz] <;> rfl
    refine h1 _ ⟨h2, ?_⟩
    unfold tYes
    refine iteT (h3 _ (s1.trans s2) fun a H4 s4 ha => ?_)
    have e4 : H4 D = some (.lst (as.map V.ref)) := s4 _ _ (s2 _ _ e1)
    refine ⟨_, e4, ?_, ?_, as ++ [a], ?_, ?_⟩
    · rw [List.length_map, paired_len p1, List.length_map, List.length_take]
      exact Nat.lt_of_lt_of_le (show _ < 100000 by omega) (by decide)
    · exact same_put ((s1.trans s2).trans s4) hD
    · rw [upd_same, List.map_append] <;> rfl
    · rw [tk, List.map_append]
      exact paired_snoc (paired_same (R := fun H a ns => TupAt K H a ns) (fun b c r => SqT.put e4 (Sx.Same.tup (s2.trans s4) r)) p1) (SqT.put e4 ha)
  · rintro H ⟨s1, as, e1, p1⟩
    rw [List.take_length] at p1
    exact hd H as s1 e1 p1
theorem paired_app {β : Type} {R : Addr → β → Prop} : ∀ {as bs : List Addr} {xs ys : List β}, Paired R as xs → Paired R bs ys → Paired R (as ++ bs) (xs ++ ys)
  | _, _, _, _, .nil, h => h
  | _, _, _, _, .cons r t, h => .cons r (paired_app t h)

/-! ### all inputs of a small program -/
def rg (lo hi : Int) : List Int := (List.range (hi + 1 - lo).toNat).map fun i => lo + (i : Nat)
theorem mem_rg {lo hi z : Int} : z ∈ rg lo hi ↔ lo ≤ z ∧ z ≤ hi := by
  unfold rg
  rw [List.mem_map]
  constructor
  · rintro ⟨i, hi', rfl⟩
    have := List.mem_range.mp hi'
    omega
  · rintro ⟨h1, h2⟩
    exact ⟨(z - lo).toNat, List.mem_range.mpr (by omega), by omega⟩
theorem rg_len (lo hi : Int) : (rg lo hi).length = (hi + 1 - lo).toNat := by
  unfold rg
  rw [List.length_map, List.length_range]
theorem rgV_rg (lo hi : Int) : rgV lo (hi + 1) = (rg lo hi).map V.int := by
  unfold rgV rg
  rw [List.map_map] <;> rfl
def grow (L : List (List Int)) (zs : List Int) : List (List Int) := zs.flatMap fun z => L.map (· ++ [z])
theorem grow_len (L : List (List Int)) : ∀ zs : List Int, (grow L zs).length = zs.length * L.length
  | [] => by simp [grow]
  | z :: zs => by
    have e := grow_len L zs
    unfold grow at e ⊢
    rw [List.flatMap_cons, List.length_append, e, List.length_map, List.length_cons, Nat.succ_mul, Nat.add_comm]
theorem grow_snoc (L : List (List Int)) (zs : List Int) (z : Int) : grow L (zs ++ [z]) = grow L zs ++ L.map (· ++ [z]) := by
  unfold grow
  rw [List.flatMap_append]
  simp
def allStep (L : List (List Int)) : Stp → List (List Int)
  | .inn lo hi => grow L (rg lo hi)
  | _ => L
def numsOf : Stp → List Int
  | .inn lo hi => rg lo hi
  | _ => []
def allN (ss : List Stp) : Nat → List (List Int)
  | 0 => [[]]
  | i + 1 => allStep (allN ss i) (ss.getD i default)
theorem allN_item : ∀ {ss : List Stp} (i : Nat), ∀ ns ∈ allN ss i, ns.length ≤ i
  | ss, 0, ns, h => by
    rw [List.mem_singleton.mp (show ns ∈ [[]] from h)]
    exact Nat.le_refl _
  | ss, i + 1, ns, h => by
    have h : ns ∈ allStep (allN ss i) (ss.getD i default) := h
    generalize ss.getD i default = s at h
    cases s with
    | inn lo hi =>
      obtain ⟨z, _, h2⟩ := List.mem_flatMap.mp (show ns ∈ (rg lo hi).flatMap fun z => (allN ss i).map (· ++ [z]) from h)
      obtain ⟨l, hl, rfl⟩ := List.mem_map.mp h2
      have := allN_item i l hl
      rw [List.length_append, List.length_singleton]
      omega
    | num c =>
      have := allN_item i ns h
      omega
    | op k a b =>
      have := allN_item i ns h
      omega
structure Tiny (ss : List Stp) : Prop where
  most : ss.length ≤ 3
  ok : ∀ (i : Nat) (s : Stp), ss[i]? = some s → StepOk i s
  near : ∀ (i : Nat) (lo hi : Int), ss[i]? = some (Stp.inn lo hi) → -100 ≤ lo ∧ lo ≤ hi ∧ hi < lo + 5 ∧ lo ≤ 100
theorem allN_len {ss : List Stp} (T : Tiny ss) : ∀ i, i ≤ ss.length → (allN ss i).length ≤ 5 ^ i
  | 0, _ => Nat.le_refl _
  | i + 1, h => by
    have ih := allN_len T i (by omega)
    have hs := getD_some (default : Stp) (show i < ss.length by omega)
    have n := T.near i
    show (allStep (allN ss i) (ss.getD i default)).length ≤ 5 ^ (i + 1)
    have h5 : 5 ^ (i + 1) = 5 ^ i * 5 := Nat.pow_succ 5 i
    generalize ss.getD i default = s at *
    cases s with
    | inn lo hi =>
      obtain ⟨n1, n2, n3, n4⟩ := n lo hi hs
      show (grow _ _).length ≤ _
      rw [grow_len, rg_len, h5, Nat.mul_comm]
      exact Nat.mul_le_mul ih (by omega)
    | num c =>
      show (allN ss i).length ≤ _
      omega
    | op k a b =>
      show (allN ss i).length ≤ _
      omega
theorem allN_small {ss : List Stp} (T : Tiny ss) {i : Nat} (h : i ≤ ss.length) : (allN ss i).length ≤ 125 := by
  have h1 := allN_len T i h
  have h2 : 5 ^ i ≤ 5 ^ 3 := Nat.pow_le_pow_right (by decide) (Nat.le_trans h T.most)
  omega
def sp__law_all_inputs (K : PySem.W.Frag) : Sp := fun vs H Q _ => ∃ (t : Addr) (ss : List Stp), vs = [.ref t] ∧ ProgAt H t ss ∧ Tiny ss ∧
  ∀ (l : Addr) (H' : Hp) (as : List Addr), Same H H' → H l = none → H' l = some (.lst (as.map V.ref)) → Paired (TupAt K H') as (allN ss ss.length) → Q (.ref l) H'
def sp__law_is_filled (_ : PySem.W.Frag) : Sp := fun vs H Q _ => ∃ (H0 : Hp) (b g : Addr), vs = [.ref b] ∧ Bs H0 H b g ∧ ∀ H' : Hp, Bs H0 H' b g → Q (.bl true) H'

/-! ### a program of two inputs and one op -/
/-- its two places -/
def tri (a b c d : Int) (k : Nat) (sw : Bool) : List Stp := [.inn a b, .inn c d, if sw then .op k 1 0 else .op k 0 1]
def hullTri (a b c d : Int) (k : Nat) (sw : Bool) : Int × Int := if sw then hullOp k (c, d) (a, b) else hullOp k (a, b) (c, d)
def valTri (k : Nat) (sw : Bool) (x y : Int) : Int := if sw then op3 k y x else op3 k x y
theorem hulls_tri (a b c d : Int) (k : Nat) (sw : Bool) : hullsN (tri a b c d k sw) 3 = [(a, b), (c, d), hullTri a b c d k sw] := by cases sw <;> rfl
theorem vals_tri (a b c d : Int) (k : Nat) (sw : Bool) (x y : Int) : vals (tri a b c d k sw) [x, y] = [x, y, valTri k sw x y] := by cases sw <;> rfl
theorem all_tri (a b c d : Int) (k : Nat) (sw : Bool) (ins : List Int) : ins ∈ allN (tri a b c d k sw) 3 ↔ ∃ x y, ins = [x, y] ∧ a ≤ x ∧ x ≤ b ∧ c ≤ y ∧ y ≤ d := by
  have e : allN (tri a b c d k sw) 3 = grow (grow [[]] (rg a b)) (rg c d) := by cases sw <;> rfl
  rw [e]
  unfold grow
  simp only [List.mem_flatMap, List.mem_map, mem_rg, List.mem_singleton]
  constructor
  · rintro ⟨y, hy, l, ⟨x, hx, l2, rfl, rfl⟩, rfl⟩
    exact ⟨x, y, rfl, hx.1, hx.2, hy.1, hy.2⟩
  · rintro ⟨x, y, rfl, h1, h2, h3, h4⟩
    exact ⟨y, ⟨h3, h4⟩, [x], ⟨x, ⟨h1, h2⟩, [], rfl, rfl⟩, rfl⟩
theorem mul_abs {x y : Int} (hx : x.natAbs ≤ 100) (hy : y.natAbs ≤ 100) : (x * y).natAbs ≤ 10000 := by
  rw [Int.natAbs_mul]
  exact Nat.mul_le_mul hx hy
theorem hullOp_small {k : Nat} {e f : Int × Int} (h1 : e.1.natAbs ≤ 100) (h2 : e.2.natAbs ≤ 100) (h3 : f.1.natAbs ≤ 100) (h4 : f.2.natAbs ≤ 100) : (hullOp k e f).1.natAbs ≤ 10000 ∧ (hullOp k e f).2.natAbs ≤ 10000 := by
  match k with
  | 0 => exact ⟨by show (e.1 + f.1).natAbs ≤ _; omega, by show (e.2 + f.2).natAbs ≤ _; omega⟩
  | 1 => exact ⟨by show (e.1 - f.2).natAbs ≤ _; omega, by show (e.2 - f.1).natAbs ≤ _; omega⟩
  | k + 2 =>
    have m1 := mul_abs h1 h3
    have m2 := mul_abs h1 h4
    have m3 := mul_abs h2 h3
    have m4 := mul_abs h2 h4
    constructor
    · show (min4 _ _ _ _).natAbs ≤ _
      unfold min4
      omega
    · show (max4 _ _ _ _).natAbs ≤ _
      unfold max4
      omega
structure TriOk (a b c d : Int) (k : Nat) : Prop where
  ab : a ≤ b
  b5 : b < a + 5
  cd : c ≤ d
  d5 : d < c + 5
  al : -50 ≤ a
  ah : a ≤ 50
  cl : -50 ≤ c
  ch : c ≤ 50
  k2 : k ≤ 2
theorem tri_ok {a b c d : Int} {k : Nat} (T : TriOk a b c d k) (sw : Bool) : ∀ i s, (tri a b c d k sw)[i]? = some s → StepOk i s := by
  have t1 := T.ab
  have t2 := T.b5
  have t3 := T.cd
  have t4 := T.d5
  have t5 := T.al
  have t6 := T.ah
  have t7 := T.cl
  have t8 := T.ch
  intro i s h
  match i with
  | 0 =>
    cases h
    exact ⟨⟨by omega, by omega⟩, ⟨by omega, by omega⟩, t1⟩
  | 1 =>
    cases h
    exact ⟨⟨by omega, by omega⟩, ⟨by omega, by omega⟩, t3⟩
  | 2 =>
    cases sw with
    | true =>
      cases h
      exact ⟨T.k2, by decide, by decide⟩
    | false =>
      cases h
      exact ⟨T.k2, by decide, by decide⟩
  | i + 3 => simp [tri] at h
theorem tri_tiny {a b c d : Int} {k : Nat} (T : TriOk a b c d k) (sw : Bool) : Tiny (tri a b c d k sw) := by
  refine ⟨Nat.le_refl 3, tri_ok T sw, fun i lo hi h => ?_⟩
  have t1 := T.ab
  have t2 := T.b5
  have t3 := T.cd
  have t4 := T.d5
  have t5 := T.al
  have t6 := T.ah
  have t7 := T.cl
  have t8 := T.ch
  match i with
  | 0 =>
    cases h
    exact ⟨by omega, by omega, by omega, by omega⟩
  | 1 =>
    cases h
    exact ⟨by omega, by omega, by omega, by omega⟩
  | 2 => cases sw <;> exact nomatch h
  | i + 3 => simp [tri] at h
theorem tri_prog {a b c d : Int} {k : Nat} (T : TriOk a b c d k) (sw : Bool) : IsProg (tri a b c d k sw) := by
  have t1 := T.ab
  have t2 := T.b5
  have t3 := T.cd
  have t4 := T.d5
  have t5 := T.al
  have t6 := T.ah
  have t7 := T.cl
  have t8 := T.ch
  have big : 10000 ≤ 10 ^ 120 := by decide +kernel
  have b1 : Bnd (a, b) := ⟨Nat.le_trans (show a.natAbs ≤ 10000 by omega) big, Nat.le_trans (show b.natAbs ≤ 10000 by omega) big⟩
  have b2 : Bnd (c, d) := ⟨Nat.le_trans (show c.natAbs ≤ 10000 by omega) big, Nat.le_trans (show d.natAbs ≤ 10000 by omega) big⟩
  have b3 : Bnd (hullTri a b c d k sw) := by
    unfold hullTri
    have h1 : a.natAbs ≤ 100 := by omega
    have h2 : b.natAbs ≤ 100 := by omega
    have h3 : c.natAbs ≤ 100 := by omega
    have h4 : d.natAbs ≤ 100 := by omega
    cases sw with
    | true =>
      have q := hullOp_small (k := k) (e := (c, d)) (f := (a, b)) h3 h4 h1 h2
      exact ⟨Nat.le_trans q.1 big, Nat.le_trans q.2 big⟩
    | false =>
      have q := hullOp_small (k := k) (e := (a, b)) (f := (c, d)) h1 h2 h3 h4
      exact ⟨Nat.le_trans q.1 big, Nat.le_trans q.2 big⟩
  refine ⟨by show 1 ≤ 3; decide, by show 3 ≤ 30; decide, tri_ok T sw, fun i hi e he => ?_⟩
  have e3 : ∀ e ∈ hullsN (tri a b c d k sw) 3, Bnd e := by
    rw [hulls_tri]
    intro e he
    simp only [List.mem_cons, List.mem_nil_iff, or_false] at he
    rcases he with h | h | h <;> rw [h]
    · exact b1
    · exact b2
    · exact b3
  match i, (show i ≤ 3 from hi) with
  | 0, _ => exact nomatch he
  | 1, _ => exact e3 e (List.mem_append_left _ (List.mem_append_left _ he))
  | 2, _ => exact e3 e (List.mem_append_left _ he)
  | 3, _ => exact e3 e he
theorem inp_tri {a b c d x y : Int} {k : Nat} {sw : Bool} (h1 : a ≤ x) (h2 : x ≤ b) (h3 : c ≤ y) (h4 : y ≤ d) : InpOk (tri a b c d k sw) [x, y] := by
  constructor
  · cases sw <;> rfl
  · intro i lo hi h
    match i with
    | 0 =>
      cases h
      exact ⟨h1, h2⟩
    | 1 =>
      cases h
      exact ⟨h3, h4⟩
    | 2 => cases sw <;> exact nomatch h
    | i + 3 => simp [tri] at h
theorem ends_op {k : Nat} (hk : k ≤ 2) {a b c d : Int} (h1 : a ≤ b) (h2 : c ≤ d) : (∃ x y, (x = a ∨ x = b) ∧ (y = c ∨ y = d) ∧ op3 k x y = (hullOp k (a, b) (c, d)).1) ∧ (∃ x y, (x = a ∨ x = b) ∧ (y = c ∨ y = d) ∧ op3 k x y = (hullOp k (a, b) (c, d)).2) := by
  match k, hk with
  | 0, _ => exact ⟨⟨a, c, .inl rfl, .inl rfl, rfl⟩, ⟨b, d, .inr rfl, .inr rfl, rfl⟩⟩
  | 1, _ => exact ⟨⟨a, d, .inl rfl, .inr rfl, rfl⟩, ⟨b, c, .inr rfl, .inl rfl, rfl⟩⟩
  | 2, _ =>
    constructor
    · have h : min4 (a * c) (a * d) (b * c) (b * d) = a * c ∨ min4 (a * c) (a * d) (b * c) (b * d) = a * d ∨ min4 (a * c) (a * d) (b * c) (b * d) = b * c ∨ min4 (a * c) (a * d) (b * c) (b * d) = b * d := by
        unfold min4
        omega
      rcases h with h | h | h | h
      · exact ⟨a, c, .inl rfl, .inl rfl, h.symm⟩
      · exact ⟨a, d, .inl rfl, .inr rfl, h.symm⟩
      · exact ⟨b, c, .inr rfl, .inl rfl, h.symm⟩
      · exact ⟨b, d, .inr rfl, .inr rfl, h.symm⟩
    · have h : max4 (a * c) (a * d) (b * c) (b * d) = a * c ∨ max4 (a * c) (a * d) (b * c) (b * d) = a * d ∨ max4 (a * c) (a * d) (b * c) (b * d) = b * c ∨ max4 (a * c) (a * d) (b * c) (b * d) = b * d := by
        unfold max4
        omega
      rcases h with h | h | h | h
      · exact ⟨a, c, .inl rfl, .inl rfl, h.symm⟩
      · exact ⟨a, d, .inl rfl, .inr rfl, h.symm⟩
      · exact ⟨b, c, .inr rfl, .inl rfl, h.symm⟩
      · exact ⟨b, d, .inr rfl, .inr rfl, h.symm⟩
/-- the ends of the hull are the least and the greatest value -/
theorem tri_min {a b c d : Int} {k : Nat} (T : TriOk a b c d k) (sw : Bool) {m M : Int} {vs : List Int} (hv : vs = (allN (tri a b c d k sw) 3).map fun ins => (vals (tri a b c d k sw) ins).getD 2 0)
    (hm : m ∈ vs) (hml : ∀ y, y ∈ vs → m ≤ y) (hM : M ∈ vs) (hMg : ∀ y, y ∈ vs → y ≤ M) : hullTri a b c d k sw = (m, M) := by
  subst hv
  have mem : ∀ z : Int, z ∈ ((allN (tri a b c d k sw) 3).map fun ins => (vals (tri a b c d k sw) ins).getD 2 0) ↔ ∃ x y, (a ≤ x ∧ x ≤ b ∧ c ≤ y ∧ y ≤ d) ∧ z = valTri k sw x y := by
    intro z
    rw [List.mem_map]
    constructor
    · rintro ⟨ins, h, rfl⟩
      obtain ⟨x, y, rfl, h1⟩ := (all_tri a b c d k sw ins).mp h
      exact ⟨x, y, h1, by rw [vals_tri] <;> rfl⟩
    · rintro ⟨x, y, h1, rfl⟩
      exact ⟨[x, y], (all_tri a b c d k sw _).mpr ⟨x, y, rfl, h1⟩, by rw [vals_tri] <;> rfl⟩
  have ab := T.ab
  have cd := T.cd
  have inn : ∀ x y, a ≤ x → x ≤ b → c ≤ y → y ≤ d → InHull (hullTri a b c d k sw) (valTri k sw x y) := by
    intro x y h1 h2 h3 h4
    unfold hullTri valTri
    cases sw with
    | true => exact hullOp_in (e := (c, d)) (f := (a, b)) ⟨h3, h4⟩ ⟨h1, h2⟩
    | false => exact hullOp_in (e := (a, b)) (f := (c, d)) ⟨h1, h2⟩ ⟨h3, h4⟩
  have att : (∃ x y, (a ≤ x ∧ x ≤ b ∧ c ≤ y ∧ y ≤ d) ∧ (hullTri a b c d k sw).1 = valTri k sw x y) ∧ (∃ x y, (a ≤ x ∧ x ≤ b ∧ c ≤ y ∧ y ≤ d) ∧ (hullTri a b c d k sw).2 = valTri k sw x y) := by
    unfold hullTri valTri
    cases sw with
    | true =>
      obtain ⟨⟨x, y, hx, hy, e⟩, ⟨x2, y2, hx2, hy2, e2⟩⟩ := ends_op T.k2 (a := c) (b := d) (c := a) (d := b) cd ab
      exact ⟨⟨y, x, ⟨by omega, by omega, by omega, by omega⟩, e.symm⟩, ⟨y2, x2, ⟨by omega, by omega, by omega, by omega⟩, e2.symm⟩⟩
    | false =>
      obtain ⟨⟨x, y, hx, hy, e⟩, ⟨x2, y2, hx2, hy2, e2⟩⟩ := ends_op T.k2 (a := a) (b := b) (c := c) (d := d) ab cd
      exact ⟨⟨x, y, ⟨by omega, by omega, by omega, by omega⟩, e.symm⟩, ⟨x2, y2, ⟨by omega, by omega, by omega, by omega⟩, e2.symm⟩⟩
  obtain ⟨⟨x1, y1, r1, e1⟩, ⟨x2, y2, r2, e2⟩⟩ := att
  obtain ⟨x3, y3, r3, e3⟩ := (mem m).mp hm
  obtain ⟨x4, y4, r4, e4⟩ := (mem M).mp hM
  have k1 := hml _ ((mem _).mpr ⟨x1, y1, r1, rfl⟩)
  have k2 := hMg _ ((mem _).mpr ⟨x2, y2, r2, rfl⟩)
  have k3 := (inn x3 y3 r3.1 r3.2.1 r3.2.2.1 r3.2.2.2).1
  have k4 := (inn x4 y4 r4.1 r4.2.1 r4.2.2.1 r4.2.2.2).2
  refine Prod.ext ?_ ?_
  · show (hullTri a b c d k sw).1 = m
    omega
  · show (hullTri a b c d k sw).2 = M
    omega
theorem tri_small {a b c d : Int} {k : Nat} (T : TriOk a b c d k) (sw : Bool) : (hullTri a b c d k sw).1.natAbs ≤ 10000 ∧ (hullTri a b c d k sw).2.natAbs ≤ 10000 := by
  have t1 := T.ab
  have t2 := T.b5
  have t3 := T.cd
  have t4 := T.d5
  have t5 := T.al
  have t6 := T.ah
  have t7 := T.cl
  have t8 := T.ch
  have h1 : a.natAbs ≤ 100 := by omega
  have h2 : b.natAbs ≤ 100 := by omega
  have h3 : c.natAbs ≤ 100 := by omega
  have h4 : d.natAbs ≤ 100 := by omega
  unfold hullTri
  cases sw with
  | true => exact hullOp_small (k := k) (e := (c, d)) (f := (a, b)) h3 h4 h1 h2
  | false => exact hullOp_small (k := k) (e := (a, b)) (f := (c, d)) h1 h2 h3 h4
theorem row_two {x y : Int} (h1 : x.natAbs ≤ 10000) (h2 : y.natAbs ≤ 10000) : Shows (.tuple [.int x, .int y]) :=
  (Row.ints (ns := [x, y]) (fun n hn => by
    rcases List.mem_cons.mp hn with h | h
    · rw [h]
      exact Nat.lt_of_le_of_lt h1 (by decide +kernel)
    · rw [List.mem_singleton.mp h]
      exact Nat.lt_of_le_of_lt h2 (by decide +kernel)) (by show 2 ≤ 9000; decide)).one
end Sx
namespace Sx
open PySem PySem.Spec PyProof.Rows L2
theorem fine_int' {i : Int} (h : i.natAbs ≤ 10 ^ 120) : fine (.int i) = true := by
  have h2 : i.natAbs < big := Nat.lt_of_le_of_lt h (by decide +kernel)
  simpa [fine] using h2
theorem nodAll_le {α : Type} {f : α → PyData} {k : Nat} (h : ∀ x, nod (f x) ≤ k) : ∀ xs : List α, nodAll (xs.map f) ≤ k * xs.length
  | [] => Nat.le_refl _
  | x :: xs => by
    show nod (f x) + nodAll (xs.map f) ≤ k * (xs.length + 1)
    have := nodAll_le h xs
    have := h x
    rw [Nat.mul_succ]
    omega
theorem stepD_nod (s : Stp) : nod (.tuple (stepD s)) ≤ 12 := by
  cases s with
  | inn lo hi => exact (by decide +kernel : nod (.tuple [.str "in", .int 0, .int 0]) ≤ 12)
  | num c => exact (by decide +kernel : nod (.tuple [.str "is", .int 0]) ≤ 12)
  | op k i j =>
    match k with
    | 0 => exact (by decide +kernel : nod (.tuple [.str "sum", .int 0, .int 0]) ≤ 12)
    | 1 => exact (by decide +kernel : nod (.tuple [.str "less", .int 0, .int 0]) ≤ 12)
    | _ + 2 => exact (by decide +kernel : nod (.tuple [.str "times", .int 0, .int 0]) ≤ 12)
theorem stepD_depth (s : Stp) : PyData.depth (.tuple (stepD s)) ≤ 1 := by
  cases s with
  | inn lo hi => exact (by decide +kernel : PyData.depth (.tuple [.str "in", .int 0, .int 0]) ≤ 1)
  | num c => exact (by decide +kernel : PyData.depth (.tuple [.str "is", .int 0]) ≤ 1)
  | op k i j => exact (by decide +kernel : PyData.depth (.tuple [.str "", .int 0, .int 0]) ≤ 1)
theorem fine3 {x y z : PyData} (h1 : fine x = true) (h2 : fine y = true) (h3 : fine z = true) : fine (.tuple [x, y, z]) = true := by
  show (fine x && (fine y && (fine z && true))) = true
  rw [h1, h2, h3] <;> rfl
theorem fine2 {x y : PyData} (h1 : fine x = true) (h2 : fine y = true) : fine (.tuple [x, y]) = true := by
  show (fine x && (fine y && true)) = true
  rw [h1, h2] <;> rfl
theorem stepD_fine {n : Nat} {s : Stp} (h : StepOk n s) (hn : n ≤ 1000) : fine (.tuple (stepD s)) = true := by
  cases s with
  | inn lo hi =>
    obtain ⟨h1, h2, _⟩ := h
    exact fine3 (by decide +kernel : fine (.str "in") = true) (fine_int' (num_bnd h1)) (fine_int' (num_bnd h2))
  | num c =>
    exact fine2 (by decide +kernel : fine (.str "is") = true) (fine_int' (num_bnd h))
  | op k i j =>
    obtain ⟨_, h1, h2⟩ := h
    have hw : fine (.str (opw k)) = true := by
      match k with
      | 0 => decide +kernel
      | 1 => decide +kernel
      | _ + 2 => exact (by decide +kernel : fine (.str "times") = true)
    have big : 1000 ≤ 10 ^ 120 := by decide +kernel
    exact fine3 hw (fine_int' (Nat.le_trans (show ((i : Nat) : Int).natAbs ≤ 1000 by omega) big)) (fine_int' (Nat.le_trans (show ((j : Nat) : Int).natAbs ≤ 1000 by omega) big))
theorem Row.prog {ss : List Stp} (P : IsProg ss) : Row (.tuple (ss.map fun s => .tuple (stepD s))) := by
  have h30 := P.most
  refine .tup (fineAll_map ss fun s hs => ?_) ?_ (Nat.le_trans (depthAll_map (k := 1) ss fun s _ => stepD_depth s) (by decide))
  · obtain ⟨i, hi, e⟩ := List.mem_iff_getElem.mp hs
    exact stepD_fine (P.ok i s (by rw [List.getElem?_eq_getElem hi, e])) (by omega)
  · have := nodAll_le (f := fun s => PyData.tuple (stepD s)) (k := 12) stepD_nod ss
    omega
theorem Row.hlt {E : List (Int × Int)} (hb : ∀ e ∈ E, Bnd e) (hl : E.length ≤ 1000) : Row (.tuple (E.map hullD)) := by
  refine .tup (fineAll_map E fun e he => ?_) ?_ (Nat.le_trans (depthAll_map (k := 1) E fun e _ => Nat.le_refl _) (by decide))
  · obtain ⟨h1, h2⟩ := hb e he
    exact fine2 (fine_int' h1) (fine_int' h2)
  · have := nodAll_le (f := hullD) (k := 3) (fun e => Nat.le_refl _) E
    omega
theorem Row.nums {ns : List Int} (h : ∀ n ∈ ns, n.natAbs ≤ 10 ^ 120) (hl : ns.length ≤ 9000) : Row (.tuple (ns.map PyData.int)) := by
  refine .tup (fineAll_map ns fun n hn => fine_int' (h n hn)) ?_ (depthAll_map ns fun _ _ => Nat.zero_le _)
  rw [nodAll_map (fun _ => rfl)]
  exact hl
theorem Row.int {n : Int} (h : n.natAbs ≤ 10 ^ 120) : Row (.int n) := ⟨fine_int' h, by show 1 ≤ 10000; decide, Nat.zero_le _⟩
end Sx
namespace Sx
open PySem PySem.Spec PyProof.Rows L2

/-! ### data of all kinds, the empty dict among it -/
mutual
inductive Dt (K : PySem.W.Frag) (H : Hp) : V → PyData → Prop
  | non : Dt K H .non .none
  | bl (b : Bool) : Dt K H (.bl b) (.bool b)
  | int (i : Int) : Dt K H (.int i) (.int i)
  | str (x : Str) : Dt K H (.str x) (.str x)
  | lst {a : Addr} {xs : List V} {ds : List PyData} (e : SqL K H a xs) (h : DtAll K H xs ds) : Dt K H (.ref a) (.list ds)
  | tup {a : Addr} {xs : List V} {ds : List PyData} (e : SqT K H a xs) (h : DtAll K H xs ds) : Dt K H (.ref a) (.tuple ds)
  | dct {a : Addr} (e : H a = some (.dK [])) : Dt K H (.ref a) (.dict [])
inductive DtAll (K : PySem.W.Frag) (H : Hp) : List V → List PyData → Prop
  | nil : DtAll K H [] []
  | cons {v : V} {vs : List V} {d : PyData} {ds : List PyData} : Dt K H v d → DtAll K H vs ds → DtAll K H (v :: vs) (d :: ds)
end
mutual
theorem dt_same {K : PySem.W.Frag} {H H' : Hp} (e : Same H H') : ∀ (d : PyData) (v : V), Dt K H v d → Dt K H' v d
  | .none, _, h => by
    cases h
    exact .non
  | .bool _, _, h => by
    cases h
    exact .bl _
  | .int _, _, h => by
    cases h
    exact .int _
  | .str _, _, h => by
    cases h
    exact .str _
  | .list ds, _, h => by
    cases h with
    | lst h1 h2 => exact .lst (L2.Same.seq e h1) (dta_same e ds _ h2)
  | .tuple ds, _, h => by
    cases h with
    | tup h1 h2 => exact .tup (Same.tup e h1) (dta_same e ds _ h2)
  | .dict _, _, h => by
    cases h with
    | dct h1 => exact .dct (e _ _ h1)
theorem dta_same {K : PySem.W.Frag} {H H' : Hp} (e : Same H H') : ∀ (ds : List PyData) (vs : List V), DtAll K H vs ds → DtAll K H' vs ds
  | [], _, h => by
    cases h
    exact .nil
  | d :: ds, _, h => by
    cases h with
    | cons h1 h2 => exact .cons (dt_same e d _ h1) (dta_same e ds _ h2)
end
mutual
theorem dt_of {K : PySem.W.Frag} {H : Hp} : ∀ (d : PyData) (v : V), Dp K H v d → Dt K H v d
  | .none, _, h => by
    cases h
    exact .non
  | .bool _, _, h => by
    cases h
    exact .bl _
  | .int _, _, h => by
    cases h
    exact .int _
  | .str _, _, h => by
    cases h
    exact .str _
  | .list ds, _, h => by
    cases h with
    | lst h1 h2 => exact .lst h1 (dta_of ds _ h2)
  | .tuple ds, _, h => by
    cases h with
    | tup h1 h2 => exact .tup h1 (dta_of ds _ h2)
  | .dict _, _, h => by cases h
theorem dta_of {K : PySem.W.Frag} {H : Hp} : ∀ (ds : List PyData) (vs : List V), DpAll K H vs ds → DtAll K H vs ds
  | [], _, h => by
    cases h
    exact .nil
  | d :: ds, _, h => by
    cases h with
    | cons h1 h2 => exact .cons (dt_of d _ h1) (dta_of ds _ h2)
end
section
variable {X : Cx} {pins : List (Addr × Obj)} {σ : L2.St} {H : Hp} {s : Shared}
theorem empty_dict {a : Addr} (I : Inv X pins σ H s) (e : H a = some (.dK [])) : (a == sysModules) = false ∧ ∃ o n, s.heap.get? a = some o ∧ o.cls = .type "dict" ∧ o.data = .dict #[] n := by
  obtain ⟨_, hd, vs, rel, o, es, ep, h1, h2, h3, h4⟩ := dk_of I.hok e
  cases rel
  obtain ⟨_, hp, _⟩ := h4
  have he : es = #[] := by
    have := hp.length
    simpa using this
  subst he
  exact ⟨hd, o, ep, h1, h2.1, h3⟩
/-- each part, and how it shows -/
def Sh (X : Cx) (s : Shared) (u : Value) (d : PyData) : Prop := (∃ as, Reads s.heap u d as) ∧ ∃ bs, ReadAtMost s.heap d.depth bs ∧ ReprK X.prog X.w bs s.heap d.depth u d.shown
def ShAll (X : Cx) (s : Shared) (us : List Value) (ds : List PyData) : Prop := (∃ as, ReadsAll s.heap us ds as) ∧ ∃ bs, ReadAtMost s.heap (PyData.depthAll ds) bs ∧ ReprAllK X.prog X.w bs s.heap (PyData.depthAll ds) us (PyData.shownAll ds)
mutual
theorem Dt.sh (I : Inv X pins σ H s) : ∀ (d : PyData) (v : V) (u : Value), Dt X.K H v d → RelV v u → d.showable = true → d.shown.length ≤ sizeLine → Sh X s u d
  | .none, _, _, h, r, _, _ => by
    cases h
    cases r
    exact ⟨⟨_, .none⟩, [], (fun _ z => nomatch z), by simp only [PyData.shown]; exact .of_is ReprIs.none _ _ _⟩
  | .bool b, _, _, h, r, _, _ => by
    cases h
    cases r
    exact ⟨⟨_, .bool b⟩, [], (fun _ z => nomatch z), by simp only [PyData.shown]; exact .of_is (ReprIs.bool b) _ _ _⟩
  | .int i, _, _, h, r, hs, _ => by
    cases h
    obtain ⟨t, rfl⟩ := r
    exact ⟨⟨_, .int i t⟩, [], (fun _ z => nomatch z), by simp only [PyData.shown]; exact .of_is (ReprIs.int t (by simpa [PyData.showable] using hs)) _ _ _⟩
  | .str x, _, _, h, r, _, hz => by
    cases h
    obtain ⟨t, rfl⟩ := r
    exact ⟨⟨_, .str x t⟩, [], (fun _ z => nomatch z), by simp only [PyData.shown]; exact .of_is (ReprIs.str x t (by simpa only [PyData.shown] using hz)) _ _ _⟩
  | .list ds, _, _, h, r, hs, hz => by
    cases h with
    | lst e ha =>
      cases r
      obtain ⟨its, rv, ⟨o, n, ho, hc, _, hd⟩, _⟩ := I.list e
      have hz' : (listText (PyData.shownAll ds)).length ≤ sizeLine := by simpa only [PyData.shown] using hz
      obtain ⟨⟨as, ra⟩, bs, hb, hk⟩ := DtAll.sh I ds _ its ha rv (by simpa [PyData.showable] using hs) fun t ht => Nat.le_trans (listText_mem_le ht) hz'
      have r0 := Reads.list ho hc hd ra
      have hna := not_mem_of_deeper r0 (by simp only [PyData.depth]; omega) hb
      refine ⟨⟨_, r0⟩, _, ReadAtMost.cons r0 (by simp only [PyData.depth]; omega) hb, ?_⟩
      simp only [PyData.depth, PyData.shown]
      cases its with
      | nil =>
        cases ra
        simp only [PyData.shownAll, listText_nil]
        exact ReprK.listEmpty ho hc hd
      | cons x l => exact ReprK.list ho hc hd hna (by simpa using hk.length_eq) fun i y z => hk.item i y (by simpa using z)
  | .tuple ds, _, _, h, r, hs, hz => by
    cases h with
    | tup e ha =>
      cases r
      obtain ⟨its, rv, ⟨o, ho, hc, n, hd⟩, _⟩ := I.tuple e
      have hz' : (tupleText (PyData.shownAll ds)).length ≤ sizeLine := by simpa only [PyData.shown] using hz
      obtain ⟨⟨as, ra⟩, bs, hb, hk⟩ := DtAll.sh I ds _ its ha rv (by simpa [PyData.showable] using hs) fun t ht => Nat.le_trans (tupleText_mem_le ht) hz'
      have r0 := Reads.tuple ho hc hd ra
      have hna := not_mem_of_deeper r0 (by simp only [PyData.depth]; omega) hb
      refine ⟨⟨_, r0⟩, _, ReadAtMost.cons r0 (by simp only [PyData.depth]; omega) hb, ?_⟩
      simp only [PyData.depth, PyData.shown]
      exact ReprK.tuple ho hc hd hna hk
  | .dict kvs, _, _, h, r, hs, hz => by
    cases h with
    | dct e =>
      cases r
      obtain ⟨hsys, o, n, ho, hc, hd⟩ := empty_dict I e
      have r0 : Reads s.heap (.ref _) (.dict []) _ := Reads.dict ho hc hd ReadsAll.nil ReadsAll.nil
      refine ⟨⟨_, r0⟩, [_], ReadAtMost.cons (n := 0) (bs := []) r0 (Nat.zero_le _) (fun _ z => nomatch z), ?_⟩
      simp only [PyData.depth, PyData.shown, PyData.shownKv_eq]
      exact ReprK.dict (as := []) ho hc hd hsys (fun z => nomatch z) .nil
theorem DtAll.sh (I : Inv X pins σ H s) : ∀ (ds : List PyData) (vs : List V) (us : List Value), DtAll X.K H vs ds → Vals vs us → PyData.showableAll ds = true → (∀ t ∈ PyData.shownAll ds, t.length ≤ sizeLine) → ShAll X s us ds
  | [], _, _, h, r, _, _ => by
    cases h
    cases r
    exact ⟨⟨_, .nil⟩, [], (fun _ z => nomatch z), by simp only [PyData.shownAll]; exact .nil⟩
  | d :: ds, _, _, h, r, hs, hz => by
    cases h with
    | cons h1 h2 =>
      cases r with
      | cons r1 r2 =>
        have hs' : d.showable = true ∧ PyData.showableAll ds = true := by simpa [PyData.showableAll] using hs
        obtain ⟨⟨a1, q1⟩, b1, m1, k1⟩ := Dt.sh I d _ _ h1 r1 hs'.1 (hz _ (by simp only [PyData.shownAll]; exact List.mem_cons_self ..))
        obtain ⟨⟨a2, q2⟩, b2, m2, k2⟩ := DtAll.sh I ds _ _ h2 r2 hs'.2 fun t ht => hz t (by simp only [PyData.shownAll]; exact List.mem_cons_of_mem _ ht)
        refine ⟨⟨_, .cons q1 q2⟩, b1 ++ b2, ?_, ?_⟩
        · simp only [PyData.depthAll]
          exact (m1.mono (Nat.le_max_left _ _)).append (m2.mono (Nat.le_max_right _ _))
        · simp only [PyData.depthAll, PyData.shownAll]
          exact .cons ((k1.more fun b z => List.mem_append_left _ z).level_le (Nat.le_max_left _ _)) (k2.more_le (fun b z => List.mem_append_right _ z) (Nat.le_max_right _ _))
end
end
def rShowD (K : PySem.W.Frag) : List V → Hp → VK → Prop := fun xs H Q => ∃ v d, xs = [v] ∧ Dt K H v d ∧ Shows d ∧ Q (.str d.shown) H
theorem call_showD {X : Cx} (hg : X.A.guards = some []) (hu : X.A.units + 64 < cLine) : CallR X (.builtin "repr") (rShowD X.K) := by
  intro pins s σ H xs us Q I r h
  obtain ⟨v, d, rfl, hd, S, q⟩ := h
  obtain ⟨u, rfl, r1⟩ := vals1 r
  obtain ⟨⟨as, rd⟩, _⟩ := Dt.sh I d v u hd r1 S.ok S.sz
  have hdp := S.dp
  have fin : ∀ {a : Addr} {T idr : String}, u = .ref a → ShowsBy X.prog X.w s.heap a d T idr → wpAny (model X.prog X.w) X.A (call (.builtin "repr") [u]) (EP X pins σ Q) X.xe s := by
    rintro a T idr rfl SB
    exact call_repr_slot (by omega) (SB.typeIs s fun _ _ e => e) SB.slotRepr (SB.call X.A.in1 _ s _ hg (by show X.A.units + 1 + d.depth < cLine; omega) (fun _ _ e => e) fun h' tu tk hk => ⟨_, _, rfl, .str _, H, I.kept hk, ⟨_, rfl⟩, q⟩)
  cases hd with
  | non => exact call_show hg hu pins s σ H _ _ Q I r ⟨_, _, rfl, .non, S, q⟩
  | bl b => exact call_show hg hu pins s σ H _ _ Q I r ⟨_, _, rfl, .bl b, S, q⟩
  | int i => exact call_show hg hu pins s σ H _ _ Q I r ⟨_, _, rfl, .int i, S, q⟩
  | str y => exact call_show hg hu pins s σ H _ _ Q I r ⟨_, _, rfl, .str y, S, q⟩
  | @lst a ys ds e ha =>
    obtain rfl : u = Value.ref a := r1
    obtain ⟨its, rv, ⟨o, n, ho, hc, _, hdd⟩, _⟩ := I.list e
    have hz' : (listText (PyData.shownAll ds)).length ≤ sizeLine := by simpa only [PyData.shown] using S.sz
    obtain ⟨⟨as2, ra⟩, bs, hb, hk⟩ := DtAll.sh I ds _ its ha rv (by simpa [PyData.showable] using S.ok) fun t ht => Nat.le_trans (listText_mem_le ht) hz'
    have hna := not_mem_of_deeper (Reads.list ho hc hdd ra) (by simp only [PyData.depth]; omega) hb
    refine fin rfl (T := "list") (idr := "list.__repr__") ⟨F.slot_list_repr.toG, F.slot_list_str, F.slot_list_format, fun s hk0 => ⟨o, hk0 _ _ ho, hc⟩, fun A E s Q hg hu hk0 hQ => ?_⟩
    simp only [PyData.depth] at hu
    simp only [PyData.shown] at hQ
    cases its with
    | nil =>
      cases ra
      simp only [PyData.shownAll, listText_nil] at hQ
      exact call_list_repr_empty ⟨o, hk0 _ _ ho, hc⟩ (hk0 _ _ ho) hdd (hQ s.heap _ _ fun _ _ e => e)
    | cons x l => exact call_list_reprK ho hc hdd hna (by simpa using hk.length_eq) (fun i y z => hk.item i y (by simpa using z)) hg (fun b _ => Clear.nil b) hu hk0 hQ hz'
  | @tup a ys ds e ha =>
    obtain rfl : u = Value.ref a := r1
    obtain ⟨its, rv, ⟨o, ho, hc, n, hdd⟩, _⟩ := I.tuple e
    have hz' : (tupleText (PyData.shownAll ds)).length ≤ sizeLine := by simpa only [PyData.shown] using S.sz
    obtain ⟨⟨as2, ra⟩, bs, hb, hk⟩ := DtAll.sh I ds _ its ha rv (by simpa [PyData.showable] using S.ok) fun t ht => Nat.le_trans (tupleText_mem_le ht) hz'
    have hna := not_mem_of_deeper (Reads.tuple ho hc hdd ra) (by simp only [PyData.depth]; omega) hb
    refine fin rfl (T := "tuple") (idr := "tuple.__repr__") ⟨F.slot_tuple_repr, F.slot_tuple_str, F.slot_tuple_format, fun s hk0 => ⟨o, hk0 _ _ ho, hc⟩, fun A E s Q hg hu hk0 hQ => ?_⟩
    simp only [PyData.depth] at hu
    simp only [PyData.shown] at hQ
    exact call_tuple_reprK ho hc hdd hna hk hg (fun b _ => Clear.nil b) hu hk0 hQ hz'
  | @dct a e =>
    obtain rfl : u = Value.ref a := r1
    obtain ⟨hsys, o, n, ho, hc, hdd⟩ := empty_dict I e
    refine fin rfl (T := "dict") (idr := "dict.__repr__") ⟨F.slot_dict_repr, F.slot_dict_str, F.slot_dict_format, fun s hk0 => ⟨o, hk0 _ _ ho, hc⟩, fun A E s Q hg hu hk0 hQ => ?_⟩
    simp only [PyData.depth] at hu
    simp only [PyData.shown, PyData.shownKv_eq] at hQ
    exact call_dict_reprK (as := []) ho hc hdd hsys (fun z => nomatch z) .nil hg (fun b _ => Clear.nil b) hu hk0 hQ (by decide +kernel)
end Sx
namespace Sx
open PySem PySem.Spec PyProof.Rows L2

/-! ### the class of a piece of data -/
def clsOf : PyData → String
  | .none => "NoneType"
  | .bool _ => "bool"
  | .int _ => "int"
  | .str _ => "str"
  | .list _ => "list"
  | .tuple _ => "tuple"
  | .dict _ => "dict"
theorem tyx_of {K : PySem.W.Frag} {H : Hp} {v : V} {d : PyData} (h : Dt K H v d) : TyX K H v (.type (clsOf d)) := by
  cases h with
  | non => exact .base .non
  | bl b => exact .base (.bl b)
  | int i => exact .base (.int i)
  | str x => exact .base (.str x)
  | lst e _ =>
    rcases e with (e | ⟨o, e⟩) | ⟨o, its, n, e, c, _⟩
    · exact .base (.lst e)
    · exact .base (.frz e)
    · exact .kList e c
  | tup e _ =>
    rcases e with (e | ⟨o, e⟩) | ⟨o, its, n, e, c, _⟩
    · exact .base (.tup e)
    · exact .fTuple e
    · exact .kTuple e c
  | dct e => exact .base (.dK e)
def isOf (n : String) (d : PyData) : Bool := (kitB (clsOf d) n).getD false
theorem isi_of {K : PySem.W.Frag} {H : Hp} {v : V} {d : PyData} {n : String} {b : Bool} {Q : VK} (h : Dt K H v d) (e : kitB (clsOf d) n = some b) (q : Q (.bl b) H) : rIsi K [v, .ty n] H Q :=
  ⟨v, .ty n, _, _, b, rfl, .ty n, tyx_of h, kit_ty e, q⟩
def wholeD : PyData → Bool
  | .int _ => true
  | _ => false
def tupD : PyData → Bool
  | .tuple _ => true
  | _ => false
theorem kit_int (d : PyData) : kitB (clsOf d) "int" = some (match d with | .int _ => true | .bool _ => true | _ => false) := by
  cases d
  · exact (by decide +kernel : kitB "NoneType" "int" = some false)
  · exact (by decide +kernel : kitB "bool" "int" = some true)
  · exact (by decide +kernel : kitB "int" "int" = some true)
  · exact (by decide +kernel : kitB "str" "int" = some false)
  · exact (by decide +kernel : kitB "list" "int" = some false)
  · exact (by decide +kernel : kitB "tuple" "int" = some false)
  · exact (by decide +kernel : kitB "dict" "int" = some false)
theorem kit_bool (d : PyData) : kitB (clsOf d) "bool" = some (match d with | .bool _ => true | _ => false) := by
  cases d
  · exact (by decide +kernel : kitB "NoneType" "bool" = some false)
  · exact (by decide +kernel : kitB "bool" "bool" = some true)
  · exact (by decide +kernel : kitB "int" "bool" = some false)
  · exact (by decide +kernel : kitB "str" "bool" = some false)
  · exact (by decide +kernel : kitB "list" "bool" = some false)
  · exact (by decide +kernel : kitB "tuple" "bool" = some false)
  · exact (by decide +kernel : kitB "dict" "bool" = some false)
theorem kit_tuple (d : PyData) : kitB (clsOf d) "tuple" = some (tupD d) := by
  cases d
  · exact (by decide +kernel : kitB "NoneType" "tuple" = some false)
  · exact (by decide +kernel : kitB "bool" "tuple" = some false)
  · exact (by decide +kernel : kitB "int" "tuple" = some false)
  · exact (by decide +kernel : kitB "str" "tuple" = some false)
  · exact (by decide +kernel : kitB "list" "tuple" = some false)
  · exact (by decide +kernel : kitB "tuple" "tuple" = some true)
  · exact (by decide +kernel : kitB "dict" "tuple" = some false)
theorem kit_str (d : PyData) : kitB (clsOf d) "str" = some (match d with | .str _ => true | _ => false) := by
  cases d
  · exact (by decide +kernel : kitB "NoneType" "str" = some false)
  · exact (by decide +kernel : kitB "bool" "str" = some false)
  · exact (by decide +kernel : kitB "int" "str" = some false)
  · exact (by decide +kernel : kitB "str" "str" = some true)
  · exact (by decide +kernel : kitB "list" "str" = some false)
  · exact (by decide +kernel : kitB "tuple" "str" = some false)
  · exact (by decide +kernel : kitB "dict" "str" = some false)
def withinD (d : PyData) (lo hi : Int) : Bool := match d with
  | .int i => decide (lo ≤ i) && decide (i ≤ hi)
  | _ => false
def sp_is_whole (K : PySem.W.Frag) : Sp := fun vs H Q _ => ∃ (v : V) (d : PyData), vs = [v] ∧ Dt K H v d ∧ Q (.bl (wholeD d)) H
def sp_is_within (K : PySem.W.Frag) : Sp := fun vs H Q _ => ∃ (v : V) (d : PyData) (lo hi : Int), vs = [v, .int lo, .int hi] ∧ Dt K H v d ∧ Q (.bl (withinD d lo hi)) H
def sp__law_is_from (K : PySem.W.Frag) : Sp := sp_is_within K

/-! ### rows of data -/
theorem dta_len {K : PySem.W.Frag} {H : Hp} : ∀ {vs : List V} {ds : List PyData}, DtAll K H vs ds → vs.length = ds.length
  | _, _, .nil => rfl
  | _, _, .cons _ t => congrArg (· + 1) (dta_len t)
theorem dta_at {K : PySem.W.Frag} {H : Hp} : ∀ {vs : List V} {ds : List PyData} {i : Nat} {d : PyData}, DtAll K H vs ds → ds[i]? = some d → ∃ v, vs[i]? = some v ∧ Dt K H v d
  | _, _, _, _, .nil, h => by simp at h
  | _, _, 0, d, .cons r t, h => ⟨_, rfl, by rw [← Option.some.inj h]; exact r⟩
  | _, _, i + 1, d, .cons r t, h => dta_at (i := i) t (by simpa using h)
theorem dta_app {K : PySem.W.Frag} {H : Hp} : ∀ {vs ws : List V} {ds es : List PyData}, DtAll K H vs ds → DtAll K H ws es → DtAll K H (vs ++ ws) (ds ++ es)
  | _, _, _, _, .nil, h => h
  | _, _, _, _, .cons r t, h => .cons r (dta_app t h)
theorem dta_take {K : PySem.W.Frag} {H : Hp} : ∀ {vs : List V} {ds : List PyData} (n : Nat), DtAll K H vs ds → DtAll K H (vs.take n) (ds.take n)
  | _, _, 0, _ => .nil
  | _, _, _ + 1, .nil => .nil
  | _, _, n + 1, .cons r t => .cons r (dta_take n t)
theorem dta_drop {K : PySem.W.Frag} {H : Hp} : ∀ {vs : List V} {ds : List PyData} (n : Nat), DtAll K H vs ds → DtAll K H (vs.drop n) (ds.drop n)
  | _, _, 0, h => h
  | _, _, _ + 1, .nil => .nil
  | _, _, n + 1, .cons _ t => dta_drop n t
theorem dta_val {K : PySem.W.Frag} {H : Hp} {vs : List V} {ds : List PyData} {i : Nat} {v : V} (h : DtAll K H vs ds) (e : vs[i]? = some v) : i < ds.length ∧ Dt K H v (ds.getD i .none) := by
  have hi : i < ds.length := by
    rw [← dta_len h]
    exact (List.getElem?_eq_some_iff.mp e).1
  obtain ⟨w, h1, h2⟩ := dta_at h (getD_some PyData.none hi)
  rw [e] at h1
  cases h1
  exact ⟨hi, h2⟩
theorem dta_three {K : PySem.W.Frag} {H : Hp} {xs : List V} {ds : List PyData} (h : DtAll K H xs ds) (hl : ds.length = 3) : ∃ x y z dx dy dz, xs = [x, y, z] ∧ ds = [dx, dy, dz] ∧ Dt K H x dx ∧ Dt K H y dy ∧ Dt K H z dz := by
  cases h with
  | nil => exact nomatch hl
  | cons r1 h =>
    cases h with
    | nil => exact nomatch hl
    | cons r2 h =>
      cases h with
      | nil => exact nomatch hl
      | cons r3 h =>
        cases h with
        | nil => exact ⟨_, _, _, _, _, _, rfl, rfl, r1, r2, r3⟩
        | cons r4 h => simp at hl

/-! ### strays -/
/-- the greatest rest of the lane that a names -/
def topOf (ns : List Int) : PyData → Int
  | .int i => ns.getD i.toNat 0 - 1
  | _ => -1
def strayD (ns : List Int) (m : Nat) : PyData → Bool
  | .tuple [a, b, c] => withinD a 0 ((ns.length : Int) - 1) && (withinD b 0 ((m : Int) - 1) && withinD c 0 (topOf ns a))
  | _ => false
def le2 (a b a' b' : Int) : Bool := Ob.lexAt (fun j => decide ([a, b].getD j 0 = [a', b'].getD j 0)) (fun j => decide ([a, b].getD j 0 ≤ [a', b'].getD j 0)) (decide ([a, b].length ≤ [a', b'].length)) 0 (min [a, b].length [a', b'].length)
def ordD : PyData → PyData → Bool
  | .tuple (.int a :: .int b :: _), .tuple (.int a' :: .int b' :: _) => le2 a b a' b'
  | _, _ => false
def faultS (ns : List Int) (m : Nat) (ds : List PyData) : PyData := match (List.range ds.length).find? (fun i => !strayD ns m (ds.getD i .none)) with
  | some i => .tuple [.str "stray", .int (i : Nat)]
  | none => match (List.range ds.length).find? (fun i => decide (1 ≤ i) && ordD (ds.getD i .none) (ds.getD (i - 1) .none)) with
    | some i => .tuple [.str "order", .int (i : Nat)]
    | none => .none
def faultD (ns : List Int) (m : Nat) : PyData → PyData
  | .tuple ds => faultS ns m ds
  | _ => .str "form"
theorem find_at {p : Nat → Bool} {n i : Nat} (hi : i < n) (h : p i = true) (hj : ∀ j, j < i → p j = false) : (List.range n).find? p = some i :=
  List.find?_range_eq_some.mpr ⟨h, List.mem_range.mpr hi, fun j z => by rw [hj j z] <;> rfl⟩
theorem find_no {p : Nat → Bool} {n : Nat} (hj : ∀ j, j < n → p j = false) : (List.range n).find? p = none :=
  List.find?_eq_none.mpr fun j z => by
    rw [hj j (List.mem_range.mp z)]
    decide
theorem fault_stray {ns : List Int} {m : Nat} {ds : List PyData} {i : Nat} (hi : i < ds.length) (h : strayD ns m (ds.getD i .none) = false) (hj : ∀ j, j < i → strayD ns m (ds.getD j .none) = true) : faultS ns m ds = .tuple [.str "stray", .int (i : Nat)] := by
  unfold faultS
  rw [find_at hi (by rw [h] <;> rfl) fun j z => by rw [hj j z] <;> rfl]
theorem fault_none {ns : List Int} {m : Nat} {ds : List PyData} (hj : ∀ j, j < ds.length → strayD ns m (ds.getD j .none) = true) : faultS ns m ds = match (List.range ds.length).find? (fun i => decide (1 ≤ i) && ordD (ds.getD i .none) (ds.getD (i - 1) .none)) with
    | some i => .tuple [.str "order", .int (i : Nat)]
    | none => .none := by
  unfold faultS
  rw [find_no fun j z => by rw [hj j z] <;> rfl]
theorem stray_is {ns : List Int} {m : Nat} {d : PyData} (h : strayD ns m d = true) : ∃ a b c : Int, d = .tuple [.int a, .int b, .int c] := by
  match d with
  | .tuple [a, b, c] =>
    obtain ⟨h1, h23⟩ := Bool.and_eq_true_iff.mp (show (withinD a 0 ((ns.length : Int) - 1) && (withinD b 0 ((m : Int) - 1) && withinD c 0 (topOf ns a))) = true from h)
    obtain ⟨h2, h3⟩ := Bool.and_eq_true_iff.mp h23
    have num : ∀ {d : PyData} {lo hi : Int}, withinD d lo hi = true → ∃ i, d = .int i := by
      intro d lo hi h
      cases d with
      | int i => exact ⟨i, rfl⟩
      | none => exact nomatch h
      | bool b => exact nomatch h
      | str x => exact nomatch h
      | list x => exact nomatch h
      | tuple x => exact nomatch h
      | dict x => exact nomatch h
    obtain ⟨i, rfl⟩ := num h1
    obtain ⟨j, rfl⟩ := num h2
    obtain ⟨k, rfl⟩ := num h3
    exact ⟨i, j, k, rfl⟩
  | .tuple [] => exact nomatch h
  | .tuple [a] => exact nomatch h
  | .tuple [a, b] => exact nomatch h
  | .tuple (a :: b :: c :: e :: r) => exact nomatch h
  | .none => exact nomatch h
  | .bool b => exact nomatch h
  | .int i => exact nomatch h
  | .str x => exact nomatch h
  | .list x => exact nomatch h
  | .dict x => exact nomatch h
theorem stray_not3 {ns : List Int} {m : Nat} {ds : List PyData} (h : ds.length ≠ 3) : strayD ns m (.tuple ds) = false := by
  match ds, h with
  | [], _ => rfl
  | [a], _ => rfl
  | [a, b], _ => rfl
  | [a, b, c], h3 => exact absurd rfl h3
  | a :: b :: c :: e :: r, _ => rfl
theorem within_num {d : PyData} {lo hi : Int} (h : withinD d lo hi = true) : ∃ i, d = .int i ∧ lo ≤ i ∧ i ≤ hi := by
  cases d with
  | int i =>
    have h' : (decide (lo ≤ i) && decide (i ≤ hi)) = true := h
    exact ⟨i, rfl, by simpa using h'⟩
  | none => exact nomatch h
  | bool b => exact nomatch h
  | str x => exact nomatch h
  | list x => exact nomatch h
  | tuple x => exact nomatch h
  | dict x => exact nomatch h
theorem lane_at {ns : List Int} {i : Int} (h0 : 0 ≤ i) (h1 : i ≤ (ns.length : Int) - 1) : atI (ns.map V.int) i = some (.int (ns.getD i.toNat 0)) := by
  have hi : i = ((i.toNat : Nat) : Int) := by omega
  rw [hi]
  refine atI_nat ?_
  rw [Int.toNat_natCast, List.getElem?_map, getD_some 0 (by omega)] <;> rfl
def sp_is_stray (K : PySem.W.Frag) : Sp := fun vs H Q _ => ∃ (t p : Addr) (v : V) (ns : List Int) (ss : List Stp) (d : PyData), vs = [.ref t, .ref p, v] ∧ SqT K H t (ns.map V.int) ∧ ProgAt H p ss ∧ Dt K H v d ∧ Q (.bl (strayD ns ss.length d)) H
def dlen : PyData → Nat
  | .tuple ds => ds.length
  | _ => 0
def sp_strays_error (K : PySem.W.Frag) : Sp := fun vs H Q _ => ∃ (t p : Addr) (v : V) (ns : List Int) (ss : List Stp) (d : PyData), vs = [.ref t, .ref p, v] ∧ SqT K H t (ns.map V.int) ∧ ProgAt H p ss ∧ Dt K H v d ∧ dlen d ≤ 100000 ∧
  ∀ (r : V) (H' : Hp), Same H H' → Dt K H' r (faultD ns ss.length d) → Q r H'
def sp__law_fault (K : PySem.W.Frag) : Sp := sp_strays_error K
/-- the order of two strays that stand side by side -/
def orderS (ds : List PyData) : PyData := match (List.range ds.length).find? (fun i => decide (1 ≤ i) && ordD (ds.getD i .none) (ds.getD (i - 1) .none)) with
    | some i => .tuple [.str "order", .int (i : Nat)]
    | none => .none
theorem fault_order {ns : List Int} {m : Nat} {ds : List PyData} (hj : ∀ j, j < ds.length → strayD ns m (ds.getD j .none) = true) : faultS ns m ds = orderS ds := fault_none hj
theorem order_at {ds : List PyData} {i : Nat} (hi : i < ds.length) (h1 : 1 ≤ i) (h : ordD (ds.getD i .none) (ds.getD (i - 1) .none) = true) (hj : ∀ j, 1 ≤ j → j < i → ordD (ds.getD j .none) (ds.getD (j - 1) .none) = false) : orderS ds = .tuple [.str "order", .int (i : Nat)] := by
  unfold orderS
  rw [find_at hi (by rw [h, decide_eq_true h1] <;> rfl) fun j z => by
    by_cases hz : 1 ≤ j
    · rw [hj j hz z, Bool.and_false]
    · rw [decide_eq_false hz] <;> rfl]
theorem order_no {ds : List PyData} (hj : ∀ j, 1 ≤ j → j < ds.length → ordD (ds.getD j .none) (ds.getD (j - 1) .none) = false) : orderS ds = .none := by
  unfold orderS
  rw [find_no fun j z => by
    by_cases hz : 1 ≤ j
    · rw [hj j hz z, Bool.and_false]
    · rw [decide_eq_false hz] <;> rfl]
/-- where a stray stands -/
theorem stray_cells {K : PySem.W.Frag} {H : Hp} {v : V} {ns : List Int} {m : Nat} {d : PyData} (h : Dt K H v d) (hs : strayD ns m d = true) : ∃ (a : Addr) (i j k : Int), v = .ref a ∧ d = .tuple [.int i, .int j, .int k] ∧ SqT K H a ([i, j, k].map V.int) := by
  obtain ⟨i, j, k, rfl⟩ := stray_is hs
  cases h with
  | tup e ha =>
    cases ha with
    | cons r1 ha =>
      cases r1
      cases ha with
      | cons r2 ha =>
        cases r2
        cases ha with
        | cons r3 ha =>
          cases r3
          cases ha
          exact ⟨_, i, j, k, rfl, rfl, e⟩
end Sx
namespace Sx
open PySem PySem.Spec PyProof.Rows L2 HT

/-! ### t[::-1] of a tuple -/
theorem fm_congr {α β : Type} {f g : α → Option β} : ∀ l : List α, (∀ m ∈ l, f m = g m) → l.filterMap f = l.filterMap g
  | [], _ => rfl
  | x :: l, h => by
    rw [List.filterMap_cons, List.filterMap_cons, h x List.mem_cons_self, fm_congr l fun m z => h m (List.mem_cons_of_mem _ z)]
theorem rev_pick (xs : Array Value) : ((List.range xs.size).filterMap fun (m : Nat) => xs[(((xs.size : Int) - 1) + (m : Int) * (-1)).toNat]?).toArray = xs.toList.reverse.toArray := by
  have e := pick_gen xs.toList.reverse.toArray 0 xs.size
  rw [List.drop_zero, List.take_of_length_le (by rw [List.length_reverse, Array.length_toList]; exact Nat.le_refl _)] at e
  rw [← e]
  congr 1
  refine fm_congr _ fun m hm => ?_
  have hm := List.mem_range.mp hm
  have e1 : (((xs.size : Int) - 1) + (m : Int) * (-1)).toNat = xs.size - 1 - m := by omega
  have e2 : (((0 : Nat) : Int) + (m : Int) * 1).toNat = m := by omega
  have e3 : xs.toList.reverse.toArray[m]? = xs.toList.reverse[m]? := by simp
  rw [e1, e2, e3, List.getElem?_reverse (by rw [Array.length_toList]; exact hm), Array.length_toList, Array.getElem?_toList]
theorem rev_bounds (n : Nat) : Builtin.Slice.sliceAdjust none none (-1) (n : Int) = ((n : Int) - 1, -1) := rfl
theorem rev_places (n : Nat) : Builtin.Slice.slicePlaces ((n : Int) - 1) (-1) (-1) = n := by
  unfold Builtin.Slice.slicePlaces
  have h1 : ¬ ((-1 : Int) > 0) := by decide
  rw [if_neg h1]
  by_cases h : (n : Int) - 1 > -1
  · rw [if_pos h]
    have : -(-1 : Int) = 1 := rfl
    rw [this, Int.ediv_one]
    omega
  · rw [if_neg h]
    omega
section
variable {prog : Program} {w : World} {A : Around} {E : Value → Shared → Prop} {s : Shared}
theorem getItem_tuple_rev {t sl : Addr} {items : Array Value} {u : Tok} {Q : Value → Shared → Prop} (ht : IsTup s.heap t items) (hs : s.heap.IsSliceOf sl .none .none (.int (-1) u)) (hsz : items.size ≤ sizeLine)
    (h : Q (.ref s.heap.objs.size) { s with heap := s.heap.push { cls := .type "tuple", data := .seq items.toList.reverse.toArray } }) : wpAny (model prog w) A (getItem (.ref t) (.ref sl)) Q E s := by
  have okz : sizeOk (.seq items.toList.reverse.toArray) := by
    show items.toList.reverse.toArray.size ≤ sizeLine
    rw [List.size_toArray, List.length_reverse, Array.length_toList]
    exact hsz
  obtain ⟨os, hos, hcs, hds⟩ := id hs
  have tys : s.TypeIs (.ref sl) "slice" := ⟨os, hos, hcs⟩
  unfold getItem
  try with_reducible refine wpAny_holding ?_
  first | refine wpAny_bind (wpAny_pure ?_) | skip
  refine wpAny_bind (wpAny_sequenceKey ht.typeIs (by decide) ?_)
  refine wpAny_bind (wpAny_callSpecial?_slot (name := Str.ofString "__getitem__") ht.typeIs PyProof.Rows.slot_tuple_getitem (wpAny_call_entry PyProof.Rows.slot_tuple_getitem ht.typeIs entry_tuple_getitem ?_ (args_tuple_getitem _ _)))
  show wpAny _ _ (Builtin.Tuple.tupleItemsOf (.ref t) >>= _) _ _ s
  refine wpAny_bind (tupleItemsOf_ ht (wpAny_bind (wpAny_typeOf tys ?_)))
  rw [if_pos (by decide)]
  have ap : ∀ {R : Int × Int × Nat → Shared → Prop}, R ((items.size : Int) - 1, -1, items.size) s → wpAny (model prog w) A.in1 (Builtin.Slice.sliceApplied (.ref sl) (pure (items.size : Int))) R E s := by
    intro R q
    unfold Builtin.Slice.sliceApplied Builtin.Slice.sliceFields
    refine wpAny_bind (wpAny_bind (wpAny_field hos hds (x := .none) rfl (wpAny_bind (wpAny_field hos hds (x := .none) rfl (wpAny_bind (wpAny_field hos hds (x := .int (-1) u) rfl (wpAny_pure ?_)))))))
    refine wpAny_bind (slicePart_int ?_)
    show wpAny _ _ (if ((-1 : Int) == 0) = true then _ else _) _ _ s
    rw [if_neg (by decide)]
    refine wpAny_bind (slicePart_none (wpAny_bind (slicePart_none (wpAny_bind (wpAny_pure ?_)))))
    show wpAny _ _ (pure ((items.size : Int) - 1, (-1 : Int), Builtin.Slice.slicePlaces ((items.size : Int) - 1) (-1) (-1))) _ _ s
    rw [rev_places]
    exact wpAny_pure q
  refine wpAny_bind (ap ?_)
  have hno : ¬ (((items.size : Int) - 1 == 0 && (-1 : Int) == 1 && items.size == items.size) = true) := by
    rw [show ((-1 : Int) == 1) = false from rfl, Bool.and_false, Bool.false_and]
    decide
  show wpAny _ _ (if ((items.size : Int) - 1 == 0 && (-1 : Int) == 1 && items.size == items.size) = true then _ else _) _ _ s
  rw [if_neg hno, rev_pick]
  first
    | exact wpAny_bind (m := Builtin.Tuple.tupleExact _) (wpAny_newObj_type (wpAny_pure ⟨_, rfl, wpAny_pure h⟩) okz)
    | exact wpAny_bind (m := Builtin.Tuple.tupleExact _) (wpAny_newObj_type (wpAny_bind (wpAny_pure (wpAny_pure ⟨_, rfl, wpAny_pure h⟩))) okz)
    | exact wpAny_bind (wpAny_bind (m := Builtin.Tuple.tupleExact _) (wpAny_newObj_type (wpAny_pure (wpAny_pure ⟨_, rfl, wpAny_pure h⟩)) okz))
    | exact wpAny_bind (wpAny_bind (m := Builtin.Tuple.tupleExact _) (wpAny_newObj_type (wpAny_pure ⟨_, rfl, wpAny_pure h⟩) okz))
end
def tRevT (K : PySem.W.Frag) (te : TE) : TE := fun σ H Q => te σ H fun x H1 => ∃ a xs, x = .ref a ∧ SqT K H1 a xs ∧ ∀ p, H1 p = none → Q (.ref p) (upd H1 p (.tup xs.reverse))
theorem pe_revT {X : Cx} {e : Expr} {te : TE} {k : Nat} {p1 p2 p3 pos : Pos} (he : PE X e te) : PE X (.Subscript e (.Slice none none (some (.UnaryOp .USub (.Constant (.int 1) k p1) p2)) p3) pos) (tRevT X.K te) := by
  refine ⟨fun pins s σ H Q I h => Subscript_ (thn (he.run pins s σ H _ I h) ?_)⟩
  rintro v s1 ⟨x, H1, I1, r1, a, xs, rfl, hx, q⟩
  cases r1
  have hst : PO X (some (.UnaryOp .USub (.Constant (.int 1) k p1) p2)) (tPart (tUn (rU fun i => .int (-i)) (tC (.int 1)))) := po_some (pe_un un_neg pe_int)
  refine wpAny_Slice (thn (po_none.run pins s1 σ H1 (fun o G => o = none ∧ G = H1) I1 ⟨rfl, rfl⟩) ?_)
  rintro vl s2 ⟨l, _, I2, pl, rfl, rfl⟩
  refine thn (po_none.run pins s2 σ _ (fun o G => o = none ∧ G = _) I2 ⟨rfl, rfl⟩) ?_
  rintro vu s3 ⟨l, _, I3, pu, rfl, rfl⟩
  refine thn (hst.run pins s3 σ _ (fun o G => o = some (-1) ∧ G = _) I3 ⟨1, rfl, -1, rfl, rfl, rfl⟩) ?_
  rintro vs s4 ⟨l, _, I4, ps, rfl, rfl⟩
  cases pl
  cases pu
  cases ps with
  | int _ t =>
    rename_i G
    have I5 : Inv X pins σ G { s4 with heap := s4.heap.push { cls := .type "slice", data := .fields #[.none, .none, .int (-1) t] } } := I4.kept (t' := s4.toks) fun b ob z => Heap.get?_push_of_some _ z
    obtain ⟨its, r, tp, hz⟩ := I5.tuple hx
    have hlen := r.length
    show wpAny (model X.prog X.w) X.A (subscriptTail e (.Slice none none (some (.UnaryOp .USub (.Constant (.int 1) k p1) p2)) p3) (.ref a) (.ref s4.heap.objs.size)) (EP X pins σ Q) X.xe { s4 with heap := s4.heap.push { cls := .type "slice", data := .fields #[.none, .none, .int (-1) t] } }
    refine tail_any (ops := [.ref a, .ref s4.heap.objs.size]) tp.typeIs (PyProof.Rows.slot_tuple_getitem.lookup) ?_ (by with_unfolding_all rfl)
    refine getItem_tuple_rev tp (Heap.IsSliceOf.new _ _ _ _) (by rw [List.size_toArray]; omega) ?_
    refine ⟨.ref _, _, I5.laid (t' := s4.toks) (o := .tup xs.reverse) (fun b ob z => Heap.get?_push_of_some _ z) (Nat.le_refl _) ?_, rfl, q _ (I5.hok.fresh (Nat.le_refl _))⟩
    exact ⟨by rw [List.length_reverse]; omega, _, r.reverse, IsTup.new _ _⟩
end Sx
namespace Sx
open PySem PySem.Spec PyProof.Rows L2

/-! ### how great a piece of data is -/
structure Ok (n k : Nat) (d : PyData) : Prop where
  f : fine d = true
  n : nod d ≤ n
  d : d.depth ≤ k
structure OkAll (n k : Nat) (ds : List PyData) : Prop where
  f : fineAll ds = true
  n : nodAll ds ≤ n
  d : PyData.depthAll ds ≤ k
theorem fineAll_app : ∀ xs ys : List PyData, fineAll (xs ++ ys) = (fineAll xs && fineAll ys)
  | [], _ => rfl
  | x :: xs, ys => by
    show (fine x && fineAll (xs ++ ys)) = ((fine x && fineAll xs) && fineAll ys)
    rw [fineAll_app xs ys, Bool.and_assoc]
theorem nodAll_app : ∀ xs ys : List PyData, nodAll (xs ++ ys) = nodAll xs + nodAll ys
  | [], _ => (Nat.zero_add _).symm
  | x :: xs, ys => by
    show nod x + nodAll (xs ++ ys) = (nod x + nodAll xs) + nodAll ys
    rw [nodAll_app xs ys, Nat.add_assoc]
theorem depthAll_app : ∀ xs ys : List PyData, PyData.depthAll (xs ++ ys) = max (PyData.depthAll xs) (PyData.depthAll ys)
  | [], ys => by
    show PyData.depthAll ys = max 0 (PyData.depthAll ys)
    omega
  | x :: xs, ys => by
    show max x.depth (PyData.depthAll (xs ++ ys)) = max (max x.depth (PyData.depthAll xs)) (PyData.depthAll ys)
    rw [depthAll_app xs ys]
    omega
namespace OkAll
variable {n m k j : Nat} {xs ys ds : List PyData} {d : PyData}
theorem app (a : OkAll n k xs) (b : OkAll m k ys) : OkAll (n + m) k (xs ++ ys) :=
  ⟨by rw [fineAll_app, a.f, b.f] <;> rfl, by rw [nodAll_app]; exact Nat.add_le_add a.n b.n, by rw [depthAll_app]; exact Nat.max_le.mpr ⟨a.d, b.d⟩⟩
theorem ge (a : OkAll n k xs) (h : n ≤ m) (h2 : k ≤ j) : OkAll m j xs := ⟨a.f, Nat.le_trans a.n h, Nat.le_trans a.d h2⟩
theorem parts (a : OkAll n k (xs ++ ys)) : OkAll n k xs ∧ OkAll n k ys := by
  obtain ⟨f, l, d⟩ := a
  rw [fineAll_app] at f
  rw [nodAll_app] at l
  rw [depthAll_app] at d
  obtain ⟨f1, f2⟩ := Bool.and_eq_true_iff.mp f
  exact ⟨⟨f1, by omega, by omega⟩, ⟨f2, by omega, by omega⟩⟩
theorem take (a : OkAll n k xs) (i : Nat) : OkAll n k (xs.take i) := by
  rw [← List.take_append_drop i xs] at a
  exact a.parts.1
theorem drop (a : OkAll n k xs) (i : Nat) : OkAll n k (xs.drop i) := by
  rw [← List.take_append_drop i xs] at a
  exact a.parts.2
theorem one (a : Ok n k d) : OkAll n k [d] := by
  obtain ⟨f, l, h⟩ := a
  refine ⟨?_, ?_, ?_⟩
  · show (fine d && true) = true
    rw [f] <;> rfl
  · show nod d + 0 ≤ n
    exact l
  · show max d.depth 0 ≤ k
    omega
theorem cons (a : Ok n k d) (b : OkAll m k xs) : OkAll (n + m) k (d :: xs) := (one a).app b
theorem nil : OkAll 0 k [] := ⟨rfl, Nat.le_refl _, Nat.zero_le _⟩
theorem mem (a : OkAll n k xs) (h : d ∈ xs) : Ok n k d := by
  obtain ⟨l, r, rfl⟩ := List.append_of_mem h
  have b := (a.parts.2).f
  have c := (a.parts.2).n
  have e := (a.parts.2).d
  have b' : (fine d && fineAll r) = true := b
  have c' : nod d + nodAll r ≤ n := c
  have e' : max d.depth (PyData.depthAll r) ≤ k := e
  obtain ⟨b1, _⟩ := Bool.and_eq_true_iff.mp b'
  exact ⟨b1, by omega, by omega⟩
theorem rev : ∀ {xs : List PyData}, fineAll xs.reverse = fineAll xs ∧ nodAll xs.reverse = nodAll xs ∧ PyData.depthAll xs.reverse = PyData.depthAll xs
  | [] => ⟨rfl, rfl, rfl⟩
  | x :: xs => by
    obtain ⟨h1, h2, h3⟩ := rev (xs := xs)
    rw [List.reverse_cons]
    refine ⟨?_, ?_, ?_⟩
    · rw [fineAll_app, h1]
      show (fineAll xs && (fine x && true)) = (fine x && fineAll xs)
      rw [Bool.and_true, Bool.and_comm]
    · rw [nodAll_app, h2]
      show nodAll xs + (nod x + 0) = nod x + nodAll xs
      omega
    · rw [depthAll_app, h3]
      show max (PyData.depthAll xs) (max x.depth 0) = max x.depth (PyData.depthAll xs)
      omega
theorem reverse (a : OkAll n k xs) : OkAll n k xs.reverse := by
  obtain ⟨h1, h2, h3⟩ := rev (xs := xs)
  exact ⟨by rw [h1]; exact a.f, by rw [h2]; exact a.n, by rw [h3]; exact a.d⟩
theorem tup (a : OkAll n k xs) : Ok (1 + n) (k + 1) (.tuple xs) := ⟨a.f, Nat.add_le_add_left a.n 1, Nat.add_le_add_right a.d 1⟩
theorem lst (a : OkAll n k xs) : Ok (1 + n) (k + 1) (.list xs) := ⟨a.f, Nat.add_le_add_left a.n 1, Nat.add_le_add_right a.d 1⟩
end OkAll
theorem nod_pos : ∀ d : PyData, 1 ≤ nod d
  | .none | .bool _ | .int _ | .dict _ => Nat.le_refl _
  | .str _ | .list _ | .tuple _ => Nat.le_add_right _ _
theorem nodAll_len : ∀ xs : List PyData, xs.length ≤ nodAll xs
  | [] => Nat.le_refl _
  | x :: xs => by
    show xs.length + 1 ≤ nod x + nodAll xs
    have := nodAll_len xs
    have := nod_pos x
    omega
theorem OkAll.len {n k : Nat} {xs : List PyData} (a : OkAll n k xs) : xs.length ≤ n := Nat.le_trans (nodAll_len xs) a.n
theorem Ok.ge {n m k j : Nat} {d : PyData} (a : Ok n k d) (h : n ≤ m) (h2 : k ≤ j) : Ok m j d := ⟨a.f, Nat.le_trans a.n h, Nat.le_trans a.d h2⟩
theorem Ok.shows {n k : Nat} {d : PyData} (a : Ok n k d) (h : n ≤ 50000) (h2 : k ≤ 60) : Shows d := shows_of a.f (Nat.le_trans a.n h) (Nat.le_trans a.d h2)
theorem Ok.tup_in {n k : Nat} {ds : List PyData} (a : Ok n (k + 1) (.tuple ds)) : OkAll n k ds := by
  obtain ⟨f, l, d⟩ := a
  have l' : 1 + nodAll ds ≤ n := l
  have d' : PyData.depthAll ds + 1 ≤ k + 1 := d
  exact ⟨f, by omega, by omega⟩
theorem Row.ok {d : PyData} (a : Row d) : Ok 10000 9 d := ⟨a.f, a.n, a.d⟩
theorem Ok.small {i : Int} {k : Nat} (h : i.natAbs ≤ 10 ^ 120) : Ok 1 k (.int i) := ⟨fine_int' h, Nat.le_refl _, Nat.zero_le _⟩

/-! ### data known to the heap beside the box -/
def cutD (xs : List PyData) (lo hi : Option Int) : List PyData := (xs.drop (HT.sIx xs.length 0 lo)).take (HT.sIx xs.length xs.length hi - HT.sIx xs.length 0 lo)
theorem OkAll.cut {n k : Nat} {xs : List PyData} (a : OkAll n k xs) (lo hi : Option Int) : OkAll n k (cutD xs lo hi) := (a.drop _).take _
theorem dta_cut {K : PySem.W.Frag} {H : Hp} {vs : List V} {ds : List PyData} (h : DtAll K H vs ds) (lo hi : Option Int) : DtAll K H (cutV vs lo hi) (cutD ds lo hi) := by
  unfold cutV cutD
  rw [dta_len h]
  exact dta_take _ (dta_drop _ h)
theorem dta_rev {K : PySem.W.Frag} {H : Hp} : ∀ {vs : List V} {ds : List PyData}, DtAll K H vs ds → DtAll K H vs.reverse ds.reverse
  | _, _, .nil => .nil
  | _, _, .cons r t => by
    rw [List.reverse_cons, List.reverse_cons]
    exact dta_app (dta_rev t) (.cons r .nil)
theorem tup_in {K : PySem.W.Frag} {H : Hp} {v : V} {ds : List PyData} (h : Dt K H v (.tuple ds)) : ∃ a xs, v = .ref a ∧ SqT K H a xs ∧ DtAll K H xs ds := by
  cases h with
  | tup e ha => exact ⟨_, _, rfl, e, ha⟩
/-- G: what data stands on; H0: all that is known (lists under way too) -/
structure Kn (G0 F0 G F H : Hp) (b g : Addr) : Prop where
  B : Bs F H b g
  sG : Same G0 G
  sF : Same F0 F
  s : Same G F
  ap : ∀ D, G0 D = none → F0 D ≠ none → G D = none
namespace Kn
variable {G0 F0 G F H H' : Hp} {b g p : Addr}
theorem start (B : Bs F H b g) (s : Same G F) : Kn G F G F H b g := ⟨B, Same.refl _, Same.refl _, s, fun _ h _ => h⟩
theorem new (k : Kn G0 F0 G F H b g) (np : H p = none) (o : HO) : Kn G0 F0 (upd G p o) (upd F p o) (upd H p o) b g := by
  have nF := k.B.sub.free np
  refine ⟨k.B.new np, k.sG.trans (same_new (k.s.free nF)), k.sF.trans (same_new nF), ?_, fun D h1 h2 => ?_⟩
  · intro c x e
    by_cases h : c = p
    · subst h
      rw [upd_same] at e ⊢
      exact e
    · rw [upd_ne h] at e ⊢
      exact k.s c x e
  · have hD : D ≠ p := by
      intro e
      cases hx : F0 D with
      | none => exact h2 hx
      | some x =>
        have := k.sF _ _ hx
        rw [e, nF] at this
        cases this
    rw [upd_ne hD]
    exact k.ap D h1 h2
theorem draw (k : Kn G0 F0 G F H b g) (B : Bs F H' b g) : Kn G0 F0 G F H' b g := ⟨B, k.sG, k.sF, k.s, k.ap⟩
theorem trans {G1 F1 : Hp} (k : Kn G0 F0 G F H b g) (k2 : Kn G F G1 F1 H' b g) : Kn G0 F0 G1 F1 H' b g :=
  ⟨k2.B, k.sG.trans k2.sG, k.sF.trans k2.sF, k2.s, fun D h1 h2 => k2.ap D (k.ap D h1 h2) (by
    cases hx : F0 D with
    | none => exact absurd hx h2
    | some x =>
      rw [k.sF _ _ hx]
      exact fun z => nomatch z)⟩
end Kn
section
variable {K : PySem.W.Frag} {G0 F0 G F H : Hp} {b g : Addr} {Q : VK}
theorem newK {p : Addr} (k : Kn G0 F0 G F H b g) (np : H p = none) (o : HO) : Kn G0 F0 (upd G p o) (upd F p o) (upd H p o) b g ∧ Same G (upd G p o) ∧ (upd G p o) p = some o := ⟨k.new np o, same_new (k.s.free (k.B.sub.free np)), upd_same⟩
theorem sl_k {a : Addr} {ds : List PyData} {lo hi : Option Int} (B : Kn G0 F0 G F H b g) (h : Dt K G (.ref a) (.tuple ds)) (k : ∀ (o : Addr) (G1 F1 H' : Hp), Same G G1 → Dt K G1 (.ref o) (.tuple (cutD ds lo hi)) → Kn G0 F0 G1 F1 H' b g → Q (.ref o) H') : rSlA K (.ref a) lo hi H Q := by
  obtain ⟨_, xs, e, hx, hd⟩ := tup_in h
  cases e
  have hc := dta_cut hd lo hi
  refine ⟨a, xs, rfl, Sx.Same.tup (B.s.trans B.B.sub) hx, fun hw => k a G F H (Same.refl _) ?_ B, fun _ p np => ?_⟩
  · have e : cutV xs lo hi = xs := by
      unfold cutV
      rw [hw.1, hw.2, List.drop_zero, Nat.sub_zero, List.take_length]
    rw [e] at hc
    exact .tup hx hc
  · obtain ⟨B1, s1, e1⟩ := newK B np (.tup (cutV xs lo hi))
    exact k p _ _ _ s1 (.tup (.of e1) (dta_same s1 _ _ hc)) B1
theorem cat_k {a c : Addr} {ds es : List PyData} (B : Kn G0 F0 G F H b g) (h1 : Dt K G (.ref a) (.tuple ds)) (h2 : Dt K G (.ref c) (.tuple es)) (hz : ds.length + es.length ≤ 100000) (k : ∀ (o : Addr) (G1 F1 H' : Hp), Same G G1 → Dt K G1 (.ref o) (.tuple (ds ++ es)) → Kn G0 F0 G1 F1 H' b g → Q (.ref o) H') : rCatA K (.ref a) (.ref c) H Q := by
  obtain ⟨_, xs, e, hx, hd⟩ := tup_in h1
  cases e
  obtain ⟨_, ys, e, hy, he⟩ := tup_in h2
  cases e
  have l1 := dta_len hd
  have l2 := dta_len he
  have hc := dta_app hd he
  have sB := B.s.trans B.B.sub
  refine ⟨a, c, xs, ys, rfl, rfl, Sx.Same.tup sB hx, Sx.Same.tup sB hy, ?_, ?_, ?_, ?_⟩
  · exact Nat.le_trans (show xs.length + ys.length ≤ 100000 by omega) (by decide)
  · rintro rfl
    exact k c G F H (Same.refl _) (.tup hy hc) B
  · rintro _ rfl
    rw [List.append_nil] at hc
    exact k a G F H (Same.refl _) (.tup hx hc) B
  · intro _ _ p np
    obtain ⟨B1, s1, e1⟩ := newK B np (.tup (xs ++ ys))
    exact k p _ _ _ s1 (.tup (.of e1) (dta_same s1 _ _ hc)) B1
end
/-- over range(n): each item a piece of data, drawn -/
theorem lc_drawnD {K : PySem.W.Frag} {G F H1 : Hp} {b g D : Addr} {n j : Nat} {te : TE} {vs : List Nat} {σ : L2.St} {Qd : Hp → Prop} (R : PyData → Prop) (B : Bs F H1 b g) (sg : Same G F) (hD : H1 D = none) (hn : n ≤ 100000) (hw : ∀ x, wipe ((wipe σ vs).set j (some x)) vs = wipe σ vs)
    (he : ∀ (i : Nat) (G2 F2 H3 : Hp) (Q : VK), i < n → Same G G2 → Same F F2 → Same G2 F2 → Bs F2 H3 b g → (∀ (v : V) (d : PyData) (G4 F4 H5 : Hp), R d → Kn G2 F2 G4 F4 H5 b g → Dt K G4 v d → Q v H5) → te ((wipe σ vs).set j (some (.int (0 + (i : Int))))) H3 Q)
    (hd : ∀ (ws : List V) (ds : List PyData) (G2 F2 H3 : Hp), ds.length = n → (∀ d ∈ ds, R d) → Same G G2 → Same F F2 → Same G2 F2 → G2 D = none → F2 D = some (.lst ws) → DtAll K G2 ws ds → Bs F2 H3 b g → Qd H3) :
    ∃ W : Nat → Nat → Hp → Prop, (∃ m, W 0 m (upd H1 D (.lst []))) ∧ ∀ i m H, W i m H →
      ((Itr 0 n).stop i H ∧ Qd H) ∨ ((Itr 0 n).go i H ∧ ∃ Nx : Hp → Prop, (∀ H', Nx H' → ∃ m', m' < m ∧ W (i + 1) m' H') ∧ ∀ x H', (Itr 0 n).yld i H x H' → gName j x (wipe σ vs) H' fun σ2 H2 => wipe σ2 vs = wipe σ vs ∧ tYes σ2 H2 fun b H3 =>
        if b = true then te σ2 H3 fun y H4 => ∃ acc, H4 D = some (.lst acc) ∧ acc.length < sizeLine ∧ Nx (upd H4 D (.lst (acc ++ [y]))) else Nx H3) := by
  have n0 : F D = none := B.sub.free hD
  have g0 : G D = none := sg.free n0
  refine lc_range (lo := 0) (n := n) (fun i H => ∃ (ws : List V) (ds : List PyData) (G2 F2 : Hp), ds.length = i ∧ (∀ d ∈ ds, R d) ∧ Same G G2 ∧ Same F F2 ∧ Same G2 F2 ∧ G2 D = none ∧ F2 D = some (.lst ws) ∧ DtAll K G2 ws ds ∧ Bs F2 H b g)
    ⟨[], [], G, _, rfl, (fun _ z => nomatch z), Same.refl _, same_new n0, same_put sg g0, g0, upd_same, .nil, B.new hD⟩ ?_ ?_
  · rintro i H hi ⟨ws, ds, G2, F2, hl, hr, s2, s2', s3, g2, e2, hds, B3⟩
    refine ⟨hw _, ?_⟩
    unfold tYes
    dsimp only
    refine iteT (he i G2 F2 H _ hi s2 s2' s3 B3 fun v d G4 F4 H5 hdr k4 hdt => ?_)
    have e4 := k4.sF _ _ e2
    have g4 : G4 D = none := k4.ap D g2 (by rw [e2]; exact fun z => nomatch z)
    have hlw := dta_len hds
    refine ⟨ws, k4.B.sub _ _ e4, ?_, ws ++ [v], ds ++ [d], G4, upd F4 D (.lst (ws ++ [v])), ?_, ?_, s2.trans k4.sG, same_put (s2'.trans k4.sF) n0, same_put k4.s g4, g4, upd_same, ?_, k4.B.put e4⟩
    · rw [hlw, hl]
      exact Nat.lt_of_lt_of_le hi (Nat.le_trans hn (by decide))
    · rw [List.length_append, hl, List.length_singleton]
    · intro x hx
      rcases List.mem_append.mp hx with h | h
      · exact hr x h
      · rw [List.mem_singleton.mp h]
        exact hdr
    · exact dta_app (dta_same k4.sG _ _ hds) (.cons hdt .nil)
  · rintro H ⟨ws, ds, G2, F2, hl, hr, s2, s2', s3, g2, e2, hds, B3⟩
    exact hd ws ds G2 F2 H hl hr s2 s2' s3 g2 e2 hds B3
/-! ### the promises of k08's own draws -/
def sp__law_strays (K : PySem.W.Frag) : Sp := fun vs H Q _ => ∃ (H0 : Hp) (b g t p : Addr) (ns : List Int) (ss : List Stp), vs = [.ref b, .ref t, .ref p] ∧ Bs H0 H b g ∧ SqT K H0 t (ns.map V.int) ∧ IsMach ns ∧ ProgAt H0 p ss ∧ IsProg ss ∧
  ∀ (r : Addr) (ds : List PyData) (H1 H' : Hp), Same H0 H1 → Dt K H1 (.ref r) (.tuple ds) → OkAll 1300 4 ds → Bs H1 H' b g → Q (.ref r) H'
def sp__law_turned (K : PySem.W.Frag) : Sp := fun vs H Q _ => ∃ (G F : Hp) (b g t p w : Addr) (ns : List Int) (ss : List Stp) (ds : List PyData) (n : Nat), vs = [.ref b, .ref t, .ref p, .ref w] ∧ Bs F H b g ∧ Same G F ∧ SqT K G t (ns.map V.int) ∧ IsMach ns ∧ ProgAt G p ss ∧ IsProg ss ∧
  Dt K G (.ref w) (.tuple ds) ∧ OkAll n 8 ds ∧ n ≤ 8000 ∧ ∀ (r : Addr) (es : List PyData) (G1 F1 H' : Hp), Kn G F G1 F1 H' b g → Dt K G1 (.ref r) (.tuple es) → OkAll (4 * n + 100) 8 es → Q (.ref r) H'
/-! ### a word between a test and what follows -/
def tCutT (t : TT) : TT := fun σ H Q => ∃ M : Bool → Hp → Prop, t σ H M ∧ ∀ c H', M c H' → Q c H'
theorem pt_cut {X : Cx} {e : Expr} {t : TT} (h : PT X e t) : PT X e (tCutT t) := by
  refine ⟨fun pins s σ H Q I q => ?_⟩
  obtain ⟨M, q1, q2⟩ := q
  exact thn (h.run pins s σ H M I q1) fun c s1 ⟨H1, I1, m⟩ => ⟨H1, I1, q2 c H1 m⟩
theorem noPart {σ : L2.St} {H : Hp} {Q : Option Int → Hp → Prop} (h : Q none H) : tNoPart σ H Q := h
/-- what strange items are -/
def odds1 : List PyData := [.none, .tuple [], .list [.int 0, .int 0, .int 0], .tuple [.int 0, .int 0], .tuple [.int 0, .int 0, .int 0, .int 0], .str "000", .int 5, .dict [], .tuple [.tuple [.int 0, .int 0, .int 0]], .tuple [.int 0, .list [.int 0], .int 0], .bool true]
theorem odds1_ok : OkAll 60 4 odds1 := ⟨by decide +kernel, by decide +kernel, by decide +kernel⟩
def odds2 (a b c : Int) : List PyData := ([.int (-1), .bool true, .bool false, .none, .str "0", .tuple [.int 0], .list [.int 0], .int 0, .int 1] ++ [.int a, .int b, .int c]) ++ ([.int (10 ^ 30), .dict []] ++ [.int (a - 1), .int (b - 1), .int (c - 1)])
theorem odds2_ok {a b c : Int} (ha : a.natAbs ≤ 1000000) (hb : b.natAbs ≤ 1000000) (hc : c.natAbs ≤ 1000000) : OkAll 60 4 (odds2 a b c) := by
  have big : 1000001 ≤ 10 ^ 120 := by decide +kernel
  have num : ∀ i : Int, i.natAbs ≤ 1000001 → Ok 1 4 (.int i) := fun i h => Ok.small (Nat.le_trans h big)
  have t3 : ∀ i j k : Int, i.natAbs ≤ 1000001 → j.natAbs ≤ 1000001 → k.natAbs ≤ 1000001 → OkAll 3 4 [.int i, .int j, .int k] := fun i j k h1 h2 h3 => (num i h1 |>.ge (Nat.le_refl _) (Nat.le_refl _) |> fun x => OkAll.cons x (OkAll.cons (num j h2) (OkAll.one (num k h3))))
  have c1 : OkAll 20 4 [.int (-1), .bool true, .bool false, .none, .str "0", .tuple [.int 0], .list [.int 0], .int 0, .int 1] := ⟨by decide +kernel, by decide +kernel, by decide +kernel⟩
  have c2 : OkAll 10 4 [.int (10 ^ 30), .dict []] := ⟨by decide +kernel, by decide +kernel, by decide +kernel⟩
  exact ((c1.app (t3 a b c (by omega) (by omega) (by omega))).app (c2.app (t3 (a - 1) (b - 1) (c - 1) (by omega) (by omega) (by omega)))).ge (by decide) (Nat.le_refl _)
def threeD : PyData → Bool
  | .tuple [_, _, _] => true
  | _ => false
theorem three_is {d : PyData} (h : threeD d = true) : ∃ x y z, d = .tuple [x, y, z] := by
  match d, h with
  | .tuple [x, y, z], _ => exact ⟨x, y, z, rfl⟩
theorem three_of {ds : List PyData} (h : ds.length = 3) : threeD (.tuple ds) = true := by
  match ds, h with
  | [_, _, _], _ => rfl
end Sx
namespace Sx
open PySem PySem.Spec PyProof.Rows L2
/-- a list that is still to change -/
theorem Kn.newL {G0 F0 G F H : Hp} {b g p : Addr} (k : Kn G0 F0 G F H b g) (np : H p = none) (o : HO) : Kn G0 F0 G (upd F p o) (upd H p o) b g ∧ (upd F p o) p = some o ∧ G p = none ∧ Same F (upd F p o) :=
  have nF := k.B.sub.free np
  have nG := k.s.free nF
  ⟨⟨k.B.new np, k.sG, k.sF.trans (same_new nF), same_put k.s nG, k.ap⟩, upd_same, nG, same_new nF⟩
theorem Kn.putL {G0 F0 G F H : Hp} {b g p : Addr} {u : HO} (k : Kn G0 F0 G F H b g) (e : F p = some u) (nG : G p = none) (n0 : F0 p = none) (o : HO) : Kn G0 F0 G (upd F p o) (upd H p o) b g :=
  ⟨k.B.put e, k.sG, same_put k.sF n0, same_put k.s nG, k.ap⟩
theorem Kn.off {G0 F0 G F H : Hp} {b g p L : Addr} {u : HO} (k : Kn G0 F0 G F H b g) (e : F L = some u) (gL : G L = none) (np : H p = none) (o : HO) : (upd F p o) L = some u ∧ (upd G p o) L = none := by
  have h := ne_of_none e (k.B.sub.free np)
  exact ⟨by rw [upd_ne h]; exact e, by rw [upd_ne h]; exact gL⟩
abbrev Thing (d : PyData) : Prop := Ok 22000 10 d
theorem fault_ok {ns : List Int} {m : Nat} {d : PyData} (h : dlen d ≤ 100000) : Ok 20 3 (faultD ns m d) := by
  have big : 100000 ≤ 10 ^ 120 := by decide +kernel
  have num : ∀ i : Nat, i ≤ 100000 → Ok 1 2 (.int (i : Nat)) := fun i hi => Ok.small (Nat.le_trans (show ((i : Nat) : Int).natAbs ≤ 100000 by omega) big)
  have txt : ∀ x : Str, Ok 12 2 (.str x) → ∀ i : Nat, i ≤ 100000 → Ok 20 3 (.tuple [.str x, .int (i : Nat)]) := fun x hx i hi => ((OkAll.cons hx (OkAll.one (num i hi))).tup).ge (by decide) (by decide)
  have bound : ∀ {n i : Nat} {p : Nat → Bool}, (List.range n).find? p = some i → i < n := fun e => List.mem_range.mp (List.mem_of_find?_eq_some e)
  have frm : Ok 20 3 (.str "form") := ⟨by decide +kernel, by decide +kernel, Nat.zero_le _⟩
  cases d with
  | tuple ds =>
    have h : ds.length ≤ 100000 := h
    show Ok 20 3 (faultS ns m ds)
    unfold faultS
    split
    · rename_i i e
      exact txt _ ⟨by decide +kernel, by decide +kernel, Nat.zero_le _⟩ i (by have := bound e; omega)
    · split
      · rename_i i e
        exact txt _ ⟨by decide +kernel, by decide +kernel, Nat.zero_le _⟩ i (by have := bound e; omega)
      · exact ⟨rfl, by decide, Nat.zero_le _⟩
  | none => exact frm
  | bool x => exact frm
  | int x => exact frm
  | str x => exact frm
  | list x => exact frm
  | dict x => exact frm
theorem thing_len {d : PyData} (h : Thing d) : dlen d ≤ 100000 := by
  cases d with
  | tuple ds =>
    have h1 := (Ok.tup_in (n := 22000) (k := 9) h).len
    exact Nat.le_trans h1 (by decide)
  | none => exact Nat.zero_le _
  | bool x => exact Nat.zero_le _
  | int x => exact Nat.zero_le _
  | str x => exact Nat.zero_le _
  | list x => exact Nat.zero_le _
  | dict x => exact Nat.zero_le _
def odds3 : List PyData := [.none, .int 5, .dict [], .bool true, .str "()", .tuple [.none], .tuple [.tuple [.int 0, .int 0]], .list [.list [.int 0, .int 0, .int 0]], .tuple [.int 0, .int 0, .int 0]]
theorem odds3_ok : OkAll 60 4 odds3 := ⟨by decide +kernel, by decide +kernel, by decide +kernel⟩
theorem dta_ints {K : PySem.W.Frag} {H : Hp} (ns : List Int) : DtAll K H (ns.map V.int) (ns.map PyData.int) := dta_of _ _ (dpa_ints ns)
theorem last_of {ns : List Int} (h : 1 ≤ ns.length) : ∃ m, m ∈ ns ∧ atI (ns.map V.int) (-1) = some (.int m) := by
  rcases List.eq_nil_or_concat ns with e | ⟨l, m, e⟩
  · rw [e] at h
    exact absurd h (by decide)
  · rw [List.concat_eq_append] at e
    refine ⟨m, by rw [e]; exact List.mem_append_right _ List.mem_cons_self, ?_⟩
    rw [e, List.map_append]
    exact atI_last _ _
end Sx
namespace Sx
open PySem PySem.Spec PyProof.Rows L2
/-! ### the vat: a list of a list and two ints -/
def vatL (g : Addr) (st ct : Int) : List V := [.ref g, .int st, .int ct]
structure Vs (H0 H : Hp) (b g : Addr) : Prop where
  sub : Same H0 H
  nb : H0 b = none
  ng : H0 g = none
  ls : ∃ ms : List Int, H g = some (.lst (ms.map V.int)) ∧ ms.length ≤ 63
  dc : ∃ st ct : Int, H b = some (.lst (vatL g st ct))
theorem vat_ne {g : Addr} {st ct : Int} {ms : List Int} : HO.lst (vatL g st ct) ≠ HO.lst (ms.map V.int) := by
  intro e
  have e := HO.lst.inj e
  cases ms with
  | nil => exact nomatch e
  | cons m ms =>
    have := (List.cons.inj e).1
    exact nomatch this
namespace Vs
variable {H0 H H1 : Hp} {b g p : Addr} {o u : HO}
theorem bg (B : Vs H0 H b g) : b ≠ g := by
  obtain ⟨ms, h1, _⟩ := B.ls
  obtain ⟨st, ct, h2⟩ := B.dc
  rintro rfl
  rw [h2] at h1
  exact vat_ne (Option.some.inj h1)
theorem pb (B : Vs H0 H b g) (n : H p = none) : p ≠ b := by
  obtain ⟨st, ct, h2⟩ := B.dc
  exact (ne_of_none h2 n).symm
theorem pg (B : Vs H0 H b g) (n : H p = none) : p ≠ g := by
  obtain ⟨ms, h2, _⟩ := B.ls
  exact (ne_of_none h2 n).symm
theorem more (B : Vs H0 H b g) (s : Same H H1) : Vs H0 H1 b g := by
  obtain ⟨ms, h1, h2⟩ := B.ls
  obtain ⟨st, ct, h3⟩ := B.dc
  exact ⟨B.sub.trans s, B.nb, B.ng, ⟨ms, s _ _ h1, h2⟩, ⟨st, ct, s _ _ h3⟩⟩
theorem new (B : Vs H0 H b g) (n : H p = none) : Vs (upd H0 p o) (upd H p o) b g := by
  have B1 := B.more (same_new (o := o) n)
  refine ⟨?_, by rw [upd_ne (B.pb n).symm]; exact B.nb, by rw [upd_ne (B.pg n).symm]; exact B.ng, B1.ls, B1.dc⟩
  intro c x e
  by_cases h : c = p
  · subst h
    rw [upd_same] at e ⊢
    exact e
  · rw [upd_ne h] at e ⊢
    exact B.sub c x e
theorem put (B : Vs H0 H b g) (e : H0 p = some u) : Vs (upd H0 p o) (upd H p o) b g := by
  have pb : p ≠ b := ne_of_none e B.nb
  have pg : p ≠ g := ne_of_none e B.ng
  obtain ⟨ms, h1, h2⟩ := B.ls
  obtain ⟨st, ct, h3⟩ := B.dc
  refine ⟨?_, by rw [upd_ne pb.symm]; exact B.nb, by rw [upd_ne pg.symm]; exact B.ng, ⟨ms, by rw [upd_ne pg.symm]; exact h1, h2⟩, ⟨st, ct, by rw [upd_ne pb.symm]; exact h3⟩⟩
  intro c x h
  by_cases hc : c = p
  · subst hc
    rw [upd_same] at h ⊢
    exact h
  · rw [upd_ne hc] at h ⊢
    exact B.sub c x h
theorem less {H2 : Hp} (B : Vs H0 H b g) (s : Same H2 H0) : Vs H2 H b g := ⟨s.trans B.sub, s.free B.nb, s.free B.ng, B.ls, B.dc⟩
theorem own (B : Vs H0 H b g) (e : H p = some o) (pb : p ≠ b) (pg : p ≠ g) : Vs (upd H0 p o) H b g := by
  refine ⟨?_, by rw [upd_ne pb.symm]; exact B.nb, by rw [upd_ne pg.symm]; exact B.ng, B.ls, B.dc⟩
  intro c x h
  by_cases hc : c = p
  · subst hc
    rw [upd_same] at h
    cases h
    exact e
  · rw [upd_ne hc] at h
    exact B.sub c x h
end Vs
end Sx
namespace Vat
open PySem PySem.Spec PyProof.Rows L2 Sx
section
variable {H0 H1 : Hp} {b g D : Addr}
/-- over range(n): each item an int with the property R -/
theorem lc_drawn {n j : Nat} {te : TE} {vs : List Nat} {σ : L2.St} {Qd : Hp → Prop} (R : Int → Prop) (B : Vs H0 H1 b g) (hD : H1 D = none) (hn : n ≤ 100000) (hw : ∀ x, wipe ((wipe σ vs).set j (some x)) vs = wipe σ vs)
    (he : ∀ (i : Nat) (H2 H3 : Hp) (Q : VK), i < n → Same H0 H2 → Vs H2 H3 b g → (∀ (m : Int) (H4 : Hp), R m → Vs H2 H4 b g → Q (.int m) H4) → te ((wipe σ vs).set j (some (.int (0 + (i : Int))))) H3 Q)
    (hd : ∀ (ms : List Int) (H3 : Hp), ms.length = n → (∀ m ∈ ms, R m) → Vs (upd H0 D (.lst (ms.map V.int))) H3 b g → Qd H3) :
    ∃ W : Nat → Nat → Hp → Prop, (∃ m, W 0 m (upd H1 D (.lst []))) ∧ ∀ i m H, W i m H →
      ((Itr 0 n).stop i H ∧ Qd H) ∨ ((Itr 0 n).go i H ∧ ∃ Nx : Hp → Prop, (∀ H', Nx H' → ∃ m', m' < m ∧ W (i + 1) m' H') ∧ ∀ x H', (Itr 0 n).yld i H x H' → gName j x (wipe σ vs) H' fun σ2 H2 => wipe σ2 vs = wipe σ vs ∧ tYes σ2 H2 fun b H3 =>
        if b = true then te σ2 H3 fun y H4 => ∃ acc, H4 D = some (.lst acc) ∧ acc.length < sizeLine ∧ Nx (upd H4 D (.lst (acc ++ [y]))) else Nx H3) := by
  have n0 : H0 D = none := B.sub.free hD
  have s0 : ∀ o, Same H0 (upd H0 D o) := fun o => same_new n0
  refine lc_range (lo := 0) (n := n) (fun i H => ∃ ms : List Int, ms.length = i ∧ (∀ m ∈ ms, R m) ∧ Vs (upd H0 D (.lst (ms.map V.int))) H b g) ⟨[], rfl, (fun _ z => nomatch z), B.new hD⟩ ?_ ?_
  · rintro i H hi ⟨ms, hl, hr, B3⟩
    refine ⟨hw _, ?_⟩
    unfold tYes
    dsimp only
    refine iteT (he i (upd H0 D (.lst (ms.map V.int))) H _ hi (s0 _) B3 fun m H4 hm B4 => ?_)
    refine ⟨ms.map V.int, B4.sub _ _ upd_same, ?_, ms ++ [m], ?_, ?_, ?_⟩
    · rw [List.length_map, hl]
      exact Nat.lt_of_lt_of_le hi (Nat.le_trans hn (by decide))
    · rw [List.length_append, hl, List.length_singleton]
    · intro x hx
      rcases List.mem_append.mp hx with h | h
      · exact hr x h
      · rw [List.mem_singleton.mp h]
        exact hm
    · have B5 := B4.put (o := .lst ((ms ++ [m]).map V.int)) upd_same
      rw [upd_upd] at B5
      rw [List.map_append] at B5 ⊢
      exact B5
  · rintro H ⟨ms, hl, hr, B3⟩
    exact hd ms H hl hr B3
end
theorem perm_erase {α : Type} : ∀ (l : List α) (i : Nat) (h : i < l.length), (l[i] :: l.eraseIdx i).Perm l
  | x :: l, 0, _ => List.Perm.refl _
  | x :: l, i + 1, h => by
    have h' : i < l.length := Nat.lt_of_succ_lt_succ h
    have ih := perm_erase l i h'
    show (l[i] :: x :: l.eraseIdx i).Perm (x :: l)
    exact (List.Perm.swap x _ _).trans (List.Perm.cons x ih)
theorem map_erase {α β : Type} (f : α → β) : ∀ (l : List α) (i : Nat), (l.map f).eraseIdx i = (l.eraseIdx i).map f
  | [], _ => rfl
  | x :: l, 0 => rfl
  | x :: l, i + 1 => congrArg (f x :: ·) (map_erase f l i)
def sp__law_draw (_ : PySem.W.Frag) : Sp := fun vs H Q _ => ∃ (H0 : Hp) (b g : Addr) (m : Int), vs = [.ref b, .int m] ∧ Vs H0 H b g ∧ Small m ∧ ∀ (r : Int) (H' : Hp), 0 ≤ r → r < m → Vs H0 H' b g → Q (.int r) H'
def sp__law_pick (K : PySem.W.Frag) : Sp := fun vs H Q _ => ∃ (H0 : Hp) (b g a : Addr) (xs : List V), vs = [.ref b, .ref a] ∧ Vs H0 H b g ∧ (SqL K H0 a xs ∨ SqT K H0 a xs) ∧ xs ≠ [] ∧ xs.length ≤ 100000 ∧
  ∀ (i : Nat) (x : V) (H' : Hp), xs[i]? = some x → Vs H0 H' b g → Q x H'
def sp__law_vat (K : PySem.W.Frag) : Sp := fun vs H Q _ => ∃ (a : Addr) (ns : List Int), vs = [.ref a] ∧ SqL K H a (ns.map V.int) ∧ ns.length ≤ 63 ∧ ∀ (b g : Addr) (H' : Hp), Vs H H' b g → Q (.ref b) H'
/-- ints in another order -/
def sp__law_mixed (K : PySem.W.Frag) : Sp := fun vs H Q _ => ∃ (H0 : Hp) (b g a : Addr) (ns : List Int), vs = [.ref b, .ref a] ∧ Vs H0 H b g ∧ (SqL K H0 a (ns.map V.int) ∨ SqT K H0 a (ns.map V.int)) ∧ ns.length ≤ 1000 ∧
  ∀ (ms : List Int) (p : Addr) (H' : Hp), ms.Perm ns → H0 p = none → H' p = some (.lst (ms.map V.int)) → p ≠ b → p ≠ g → Vs H0 H' b g → Q (.ref p) H'
def sp__law_far (_ : PySem.W.Frag) : Sp := fun vs H Q _ => ∃ (H0 : Hp) (b g : Addr) (n : Nat), vs = [.ref b, .int (n : Nat)] ∧ Vs H0 H b g ∧ n ≤ 100 ∧ ∀ (r : Int) (H' : Hp), r.natAbs < 10 ^ n → Vs H0 H' b g → Q (.int r) H'
structure Mods (most : Int) (ns : List Int) : Prop where
  one : 1 ≤ ns.length
  ten : ns.length ≤ 10
  mod : ∀ n ∈ ns, 2 ≤ n ∧ n ≤ most
def sp__law_mods (_ : PySem.W.Frag) : Sp := fun vs H Q _ => ∃ (H0 : Hp) (b g : Addr) (w most : Int), vs = [.ref b, .int w, .int most] ∧ Vs H0 H b g ∧ 1 ≤ w ∧ w ≤ 10 ∧ 4 ≤ most ∧ most ≤ 1000000 ∧
  ∀ (ns : List Int) (p : Addr) (H' : Hp), Mods most ns → ns.length = w.toNat → H0 p = none → H' p = some (.tup (ns.map V.int)) → p ≠ b → p ≠ g → Vs H0 H' b g → Q (.ref p) H'
def sp__law_common (_ : PySem.W.Frag) : Sp := fun vs H Q _ => ∃ (x y : Nat), vs = [.int (x : Nat), .int (y : Nat)] ∧ x < 2 ^ 8000 ∧ y < 2 ^ 8000 ∧ Q (.int ((Nat.gcd x y : Nat) : Int)) H
/-- a word of a machine -/
structure Wrd (ns : List Int) (ws : List (Option Int)) : Prop where
  len : ws.length = ns.length
  fit : ∀ i r, ws[i]? = some (some r) → 0 ≤ r ∧ r < ns.getD i 0
def sp__law_word (K : PySem.W.Frag) : Sp := fun vs H Q _ => ∃ (H0 : Hp) (b g t : Addr) (ns : List Int), vs = [.ref b, .ref t] ∧ Vs H0 H b g ∧ SqT K H0 t (ns.map V.int) ∧ Mods 1000000 ns ∧
  ∀ (ws : List (Option Int)) (p : Addr) (H' : Hp), Wrd ns ws → H0 p = none → H' p = some (.tup (ws.map vO)) → p ≠ b → p ≠ g → Vs H0 H' b g → Q (.ref p) H'
theorem Wrd.put {ns : List Int} {ws : List (Option Int)} {k : Nat} {o : Option Int} (w : Wrd ns ws) (h : ∀ r, o = some r → 0 ≤ r ∧ r < ns.getD k 0) : Wrd ns (ws.set k o) := by
  refine ⟨by rw [List.length_set]; exact w.len, fun i r e => ?_⟩
  rw [List.getElem?_set] at e
  split at e
  · rename_i hk
    subst hk
    split at e
    · exact h r (Option.some.inj e)
    · exact nomatch e
  · exact w.fit i r e
theorem map_set {α β : Type} (f : α → β) : ∀ (l : List α) (i : Nat) (x : α), (l.map f).set i (f x) = (l.set i x).map f
  | [], _, _ => rfl
  | y :: l, 0, x => rfl
  | y :: l, i + 1, x => congrArg (f y :: ·) (map_set f l i x)
theorem ixN_in {n : Nat} {i : Int} (h0 : 0 ≤ i) (h1 : i < n) : ixN n i = some i.toNat := by
  unfold ixN
  rw [if_pos h0, if_pos h1]
end Vat
namespace K12
open PySem PySem.Spec PyProof.Rows L2 Sx Vat
abbrev spk (ws : List (Option Int)) : List Nat := spoke ws ws.length
def rv (ws : List (Option Int)) (i : Nat) : Int := (ws.getD i none).getD 0
def gg (ns : List Int) (i j : Nat) : Int := ((Nat.gcd (ns.getD i 0).natAbs (ns.getD j 0).natAbs : Nat) : Int)
def cl (ns : List Int) (ws : List (Option Int)) (i j : Nat) : Bool := !decide (V.int ((rv ws i - rv ws j) % gg ns i j) = V.int 0)
def row (ns : List Int) (ws : List (Option Int)) (S : List Nat) (i : Nat) : List (Int × Int) := (S.filter fun j => decide ((i : Int) < (j : Nat)) && cl ns ws i j).map fun j => (((i : Nat) : Int), ((j : Nat) : Int))
def prs (ns : List Int) (ws : List (Option Int)) : List (Int × Int) := (spk ws).flatMap (row ns ws (spk ws))
def spanN (ns : List Int) (L : List Nat) : Nat := L.foldl (fun f i => Nat.lcm f (ns.getD i 0).natAbs) 1
def astr (ns : List Int) (ws : List (Option Int)) (x : Int) : List Nat := (List.range ws.length).filter fun i => (!decide (vO (ws.getD i none) = .non)) && !decide (V.int (x % ns.getD i 0) = vO (ws.getD i none))
structure Fit (K : PySem.W.Frag) (H : Hp) (t p : Addr) (ns : List Int) (ws : List (Option Int)) : Prop where
  t : SqT K H t (ns.map V.int)
  p : SqT K H p (ws.map vO)
  w : Wrd ns ws
  m : Mods 1000000 ns
theorem Fit.same {K : PySem.W.Frag} {H H' : Hp} {t p : Addr} {ns : List Int} {ws : List (Option Int)} (f : Fit K H t p ns ws) (s : Same H H') : Fit K H' t p ns ws := ⟨Sx.Same.tup s f.t, Sx.Same.tup s f.p, f.w, f.m⟩
def sp_speaking (K : PySem.W.Frag) : Sp := fun vs H Q _ => ∃ (p : Addr) (ws : List (Option Int)), vs = [.ref p] ∧ SqT K H p (ws.map vO) ∧ ws.length ≤ 1000 ∧ ∀ (l : Addr) (H' : Hp), Same H H' → H l = none → H' l = some (.tup (nI (spk ws))) → Q (.ref l) H'
def sp_is_clash (K : PySem.W.Frag) : Sp := fun vs H Q _ => ∃ (t p : Addr) (ns : List Int) (ws : List (Option Int)) (i j : Nat), vs = [.ref t, .ref p, .int (i : Nat), .int (j : Nat)] ∧ Fit K H t p ns ws ∧ i ∈ spk ws ∧ j ∈ spk ws ∧ Q (.bl (cl ns ws i j)) H
def sp_clashes (K : PySem.W.Frag) : Sp := fun vs H Q _ => ∃ (t p : Addr) (ns : List Int) (ws : List (Option Int)), vs = [.ref t, .ref p] ∧ Fit K H t p ns ws ∧ ∀ (l : Addr) (H' : Hp), Same H H' → H l = none → HltAt H' l (prs ns ws) → Q (.ref l) H'
def sp__law_pairs (K : PySem.W.Frag) : Sp := sp_clashes K
def sp__law_span (K : PySem.W.Frag) : Sp := fun vs H Q _ => ∃ (t a : Addr) (ns : List Int) (L : List Nat), vs = [.ref t, .ref a] ∧ SqT K H t (ns.map V.int) ∧ SqL K H a (nI L) ∧ (∀ i ∈ L, i < ns.length) ∧ L.length ≤ 10 ∧ Mods 1000000 ns ∧ Q (.int ((spanN ns L : Nat) : Int)) H
def sp__law_astray (K : PySem.W.Frag) : Sp := fun vs H Q _ => ∃ (t p : Addr) (ns : List Int) (ws : List (Option Int)) (x : Int), vs = [.ref t, .ref p, .int x] ∧ Fit K H t p ns ws ∧ ∀ (l : Addr) (H' : Hp), Same H H' → H l = none → H' l = some (.tup (nI (astr ns ws x))) → Q (.ref l) H'
def sp__law_is_right (K : PySem.W.Frag) : Sp := fun vs H Q _ => ∃ (t p : Addr) (ns : List Int) (ws : List (Option Int)) (c : Bool), vs = [.ref t, .ref p, .bl c] ∧ Fit K H t p ns ws ∧ ∀ H' : Hp, Same H H' → Q (.bl true) H'
theorem spk_in {ws : List (Option Int)} {i : Nat} (h : i ∈ spk ws) : i < ws.length ∧ ws[i]? = some (some (rv ws i)) := by
  obtain ⟨h1, h2⟩ := List.mem_filter.mp h
  have h1 := List.mem_range.mp h1
  refine ⟨h1, ?_⟩
  have e := getD_some (none : Option Int) h1
  rw [e]
  unfold rv
  generalize ws.getD i none = o at h2
  cases o with
  | none => simp [vO] at h2
  | some r => rfl
theorem span_succ (ns : List Int) (L : List Nat) {i : Nat} (h : i < L.length) : spanN ns (L.take (i + 1)) = Nat.lcm (spanN ns (L.take i)) (ns.getD (L.getD i 0) 0).natAbs := by
  unfold spanN
  rw [List.take_add_one, getD_some 0 h, List.foldl_append] <;> rfl
theorem span_pos {ns : List Int} (hm : Mods 1000000 ns) : ∀ L : List Nat, (∀ j ∈ L, j < ns.length) → L.length ≤ 10 → 0 < spanN ns L ∧ spanN ns L < 10 ^ 61 := by
  have key : ∀ (L : List Nat) (k : Nat), (∀ j ∈ L, j < ns.length) → L.length = k → 0 < spanN ns L ∧ spanN ns L ≤ 1000000 ^ k := by
    intro L k
    induction k generalizing L with
    | zero =>
      intro _ h
      have := List.eq_nil_of_length_eq_zero h
      subst this
      exact ⟨by show 0 < 1; decide, by show 1 ≤ 1; decide⟩
    | succ k ih =>
      intro hj hk
      rcases List.eq_nil_or_concat L with h | ⟨l, x, h⟩
      · rw [h] at hk
        exact nomatch hk
      · rw [List.concat_eq_append] at h
        subst h
        rw [List.length_append, List.length_singleton] at hk
        obtain ⟨h1, h2⟩ := ih l (fun j q => hj j (List.mem_append_left _ q)) (by omega)
        have e : spanN ns (l ++ [x]) = Nat.lcm (spanN ns l) (ns.getD x 0).natAbs := by
          unfold spanN
          rw [List.foldl_append] <;> rfl
        have hx := hm.mod _ (List.mem_of_getElem? (getD_some 0 (hj x (List.mem_append_right _ List.mem_cons_self))))
        rw [e]
        refine ⟨Nat.lcm_pos h1 (by omega), ?_⟩
        refine Nat.le_trans (Nat.div_le_self _ _) ?_
        rw [Nat.pow_succ]
        exact Nat.mul_le_mul h2 (by omega)
  intro L h1 h2
  obtain ⟨a, b⟩ := key L L.length h1 rfl
  have c : 1000000 ^ L.length ≤ 1000000 ^ 10 := Nat.pow_le_pow_right (by decide) h2
  have d : 1000000 ^ 10 < 10 ^ 61 := by decide +kernel
  exact ⟨a, by omega⟩
/-- [(i, j) for i in t for j in t if ..] -/
theorem lc2_pairs {K : PySem.W.Frag} {p : Addr} {S : List Nat} {te : TE} {tt1 : TT} {wi1 : TI} {a b : Nat} {σ : L2.St} {vs vs1 : List Nat} {H1 : Hp} {D : Addr} {Qd : Hp → Prop} (f : Nat → Nat → Bool) (hS : SqT K H1 p (nI S)) (hlen : S.length ≤ 100) (hD : H1 D = none)
    (hw : ∀ x, wipe ((wipe σ vs).set a (some x)) vs = wipe σ vs)
    (hw1 : ∀ x y, wipe ((wipe ((wipe σ vs).set a (some x)) vs1).set b (some y)) vs1 = wipe ((wipe σ vs).set a (some x)) vs1)
    (hi1 : ∀ x H (R : It → Hp → Prop), Same H1 H → R (Itt K p) H → wi1 ((wipe σ vs).set a (some x)) H R)
    (ht : ∀ (i j : Nat) H (Q : Bool → Hp → Prop), i ∈ S → j ∈ S → Same H1 H → Q (f i j) H → tt1 ((wipe ((wipe σ vs).set a (some (.int (i : Nat)))) vs1).set b (some (.int (j : Nat)))) H Q)
    (he : ∀ (i j : Nat) H (Q : VK), (∀ T, H T = none → Q (.ref T) (upd H T (.tup [.int (i : Nat), .int (j : Nat)]))) → te ((wipe ((wipe σ vs).set a (some (.int (i : Nat)))) vs1).set b (some (.int (j : Nat)))) H Q)
    (hd : ∀ (H : Hp) (as : List Addr), Same H1 H → H D = some (.lst (as.map V.ref)) → Paired (PairAt H) as (S.flatMap fun i => (S.filter (f i)).map fun j => (((i : Nat) : Int), ((j : Nat) : Int))) → Qd H) :
    ∃ W : Nat → Nat → Hp → Prop, (∃ m, W 0 m (upd H1 D (.lst []))) ∧ ∀ i m H, W i m H →
      ((Itt K p).stop i H ∧ Qd H) ∨ ((Itt K p).go i H ∧ ∃ Nx : Hp → Prop, (∀ H', Nx H' → ∃ m', m' < m ∧ W (i + 1) m' H') ∧ ∀ x H', (Itt K p).yld i H x H' → gName a x (wipe σ vs) H' fun σ2 H2 => wipe σ2 vs = wipe σ vs ∧ tYes σ2 H2 fun c H3 =>
        if c = true then wi1 σ2 H3 fun J1 H4 => ∃ W1 : Nat → Nat → Hp → Prop, (∃ m, W1 0 m H4) ∧ ∀ j k H, W1 j k H →
          (J1.stop j H ∧ Nx H) ∨ (J1.go j H ∧ ∃ Nx1 : Hp → Prop, (∀ H', Nx1 H' → ∃ k', k' < k ∧ W1 (j + 1) k' H') ∧ ∀ x H', J1.yld j H x H' → gName b x (wipe σ2 vs1) H' fun σ3 H5 => wipe σ3 vs1 = wipe σ2 vs1 ∧ tt1 σ3 H5 fun c H6 =>
            if c = true then te σ3 H6 fun y H7 => ∃ acc, H7 D = some (.lst acc) ∧ acc.length < sizeLine ∧ Nx1 (upd H7 D (.lst (acc ++ [y]))) else Nx1 H6)
        else Nx H3) := by
  have wk := walk_tup (K := K) (a := p) (xs := nI S)
  have ln : (nI S).length = S.length := by
    unfold nI
    rw [List.length_map]
  have at_ : ∀ {i : Nat} {x : V}, (nI S)[i]? = some x → i < S.length ∧ x = .int ((S.getD i 0 : Nat) : Int) ∧ S.getD i 0 ∈ S ∧ S.take (i + 1) = S.take i ++ [S.getD i 0] := by
    intro i x h
    have hi : i < S.length := by
      have := (List.getElem?_eq_some_iff.mp h).1
      rwa [ln] at this
    have e := getD_some 0 hi
    unfold nI at h
    rw [List.getElem?_map, e] at h
    exact ⟨hi, (Option.some.inj h).symm, List.mem_of_getElem? e, by rw [List.take_add_one, e] <;> rfl⟩
  let rw_ : List Nat → Nat → List (Int × Int) := fun T i => (T.filter (f i)).map fun j => (((i : Nat) : Int), ((j : Nat) : Int))
  have rlen : ∀ (T : List Nat) i, (rw_ T i).length ≤ T.length := fun T i => by
    show ((T.filter (f i)).map _).length ≤ _
    rw [List.length_map]
    exact List.length_filter_le _ _
  have flen : ∀ T : List Nat, (T.flatMap (rw_ S)).length ≤ T.length * S.length := fun T => by
    induction T with
    | nil => simp
    | cons x T ih =>
      rw [List.flatMap_cons, List.length_append, List.length_cons, Nat.succ_mul]
      have := rlen S x
      omega
  refine ⟨fun i m H => m = S.length - i ∧ i ≤ S.length ∧ Same H1 H ∧ ∃ as : List Addr, H D = some (.lst (as.map V.ref)) ∧ Paired (PairAt H) as ((S.take i).flatMap (rw_ S)), ⟨_, rfl, Nat.zero_le _, same_new hD, [], upd_same, .nil⟩, ?_⟩
  rintro i m H ⟨rfl, hi, s1, as, e1, pr⟩
  have hq : SqT K H p (nI S) := Sx.Same.tup s1 hS
  by_cases hlt : i < S.length
  · refine .inr ⟨wk.goes i H (by rw [ln]; exact hlt) hq, fun H' => i + 1 ≤ S.length ∧ Same H1 H' ∧ ∃ as : List Addr, H' D = some (.lst (as.map V.ref)) ∧ Paired (PairAt H') as ((S.take (i + 1)).flatMap (rw_ S)), fun H' ⟨h1, h2, h3⟩ => ⟨S.length - (i + 1), by omega, rfl, h1, h2, h3⟩, fun x H' y => ?_⟩
    obtain ⟨rfl, hx⟩ := wk.yields i H x H' (by rw [ln]; exact hlt) hq y
    obtain ⟨_, rfl, hmem, htk⟩ := at_ hx
    generalize S.getD i 0 = z at hx hmem htk
    refine ⟨hw _, ?_⟩
    unfold tYes
    refine iteT (hi1 _ _ _ s1 ?_)
    refine ⟨fun j k H => k = S.length - j ∧ j ≤ S.length ∧ Same H1 H ∧ ∃ as : List Addr, H D = some (.lst (as.map V.ref)) ∧ Paired (PairAt H) as ((S.take i).flatMap (rw_ S) ++ rw_ (S.take j) z), ⟨_, rfl, Nat.zero_le _, s1, as, e1, by rw [List.take_zero]; show Paired _ as (_ ++ []); rw [List.append_nil]; exact pr⟩, ?_⟩
    rintro j k H2 ⟨rfl, hj, s2, as2, e2, pr2⟩
    have hq2 : SqT K H2 p (nI S) := Sx.Same.tup s2 hS
    by_cases hjl : j < S.length
    · refine .inr ⟨wk.goes j H2 (by rw [ln]; exact hjl) hq2, fun H' => j + 1 ≤ S.length ∧ Same H1 H' ∧ ∃ as : List Addr, H' D = some (.lst (as.map V.ref)) ∧ Paired (PairAt H') as ((S.take i).flatMap (rw_ S) ++ rw_ (S.take (j + 1)) z), fun H' ⟨h1, h2, h3⟩ => ⟨S.length - (j + 1), by omega, rfl, h1, h2, h3⟩, fun x2 H' y2 => ?_⟩
      obtain ⟨rfl, hx2⟩ := wk.yields j H2 x2 H' (by rw [ln]; exact hjl) hq2 y2
      obtain ⟨_, rfl, hmem2, htk2⟩ := at_ hx2
      generalize S.getD j 0 = z2 at hx2 hmem2 htk2
      refine ⟨hw1 _ _, ht z z2 _ _ hmem hmem2 s2 ?_⟩
      cases hf : f z z2 with
      | true =>
        refine iteT (he z z2 _ _ fun T nT => ?_)
        have sT := same_new (o := .tup [.int (z : Nat), .int (z2 : Nat)]) nT
        have eT := sT _ _ e2
        refine ⟨_, eT, ?_, hjl, same_put (s2.trans sT) hD, as2 ++ [T], ?_, ?_⟩
        · rw [List.length_map, paired_len pr2, List.length_append]
          have h1 := flen (S.take i)
          have h2 := rlen (S.take j) z
          rw [List.length_take] at h1 h2
          have h3 : min i S.length * S.length ≤ 100 * 100 := Nat.mul_le_mul (by omega) hlen
          exact Nat.lt_of_lt_of_le (show _ < 100000 by omega) (by decide)
        · rw [upd_same, List.map_append] <;> rfl
        · have e3 : rw_ (S.take (j + 1)) z = rw_ (S.take j) z ++ [(((z : Nat) : Int), ((z2 : Nat) : Int))] := by
            show ((S.take (j + 1)).filter (f z)).map _ = _
            rw [htk2, List.filter_append, List.filter_cons_of_pos hf, List.map_append] <;> rfl
          rw [e3, ← List.append_assoc]
          exact paired_snoc (paired_same (fun a x r => tup_put eT (sT _ _ r)) pr2) (tup_put eT upd_same)
      | false =>
        refine iteF ⟨hjl, s2, as2, e2, ?_⟩
        have e3 : rw_ (S.take (j + 1)) z = rw_ (S.take j) z := by
          show ((S.take (j + 1)).filter (f z)).map _ = ((S.take j).filter (f z)).map _
          rw [htk2, List.filter_append, List.filter_cons_of_neg (by rw [hf]; decide)]
          show (List.filter (f z) (S.take j) ++ []).map _ = _
          rw [List.append_nil]
        rw [e3]
        exact pr2
    · have ej : j = S.length := by omega
      subst ej
      refine .inl ⟨wk.stops H2 hq2 |> fun h => by rw [ln] at h; exact h, hlt, s2, as2, e2, ?_⟩
      rw [htk, List.flatMap_append]
      rw [List.take_length] at pr2
      have e4 : List.flatMap (rw_ S) [z] = rw_ S z := by simp
      rw [e4]
      exact pr2
  · have e : i = S.length := by omega
    subst e
    refine .inl ⟨wk.stops H hq |> fun h => by rw [ln] at h; exact h, ?_⟩
    rw [List.take_length] at pr
    exact hd H as s1 e1 pr
theorem spk_sorted (ws : List (Option Int)) : (spk ws).Pairwise (· < ·) := List.Pairwise.filter _ List.pairwise_lt_range
theorem row_drop {c : Nat → Bool} : ∀ {S : List Nat} {i z : Nat}, S.Pairwise (· < ·) → S[i]? = some z → (S.filter fun j => decide ((z : Int) < (j : Nat)) && c j) = (S.drop (i + 1)).filter c
  | [], _, _, _, h => by simp at h
  | x :: S, 0, z, hp, h => by
    obtain rfl : x = z := by simpa using h
    obtain ⟨h1, h2⟩ := List.pairwise_cons.mp hp
    rw [List.filter_cons_of_neg (by rw [decide_eq_false (by omega), Bool.false_and]; decide)]
    show _ = S.filter c
    refine List.filter_congr fun j hj => ?_
    have := h1 j hj
    rw [decide_eq_true (by omega), Bool.true_and]
  | x :: S, i + 1, z, hp, h => by
    obtain ⟨h1, h2⟩ := List.pairwise_cons.mp hp
    have h : S[i]? = some z := by simpa using h
    have := h1 z (List.mem_of_getElem? h)
    rw [List.filter_cons_of_neg (by rw [decide_eq_false (by omega), Bool.false_and]; decide)]
    exact row_drop h2 h
theorem flat_len (ns : List Int) (ws : List (Option Int)) (S : List Nat) : ∀ T : List Nat, (T.flatMap (row ns ws S)).length ≤ T.length * S.length
  | [] => by simp
  | x :: T => by
    have ih := flat_len ns ws S T
    rw [List.flatMap_cons, List.length_append, List.length_cons, Nat.succ_mul]
    have : (row ns ws S x).length ≤ S.length := by
      unfold row
      rw [List.length_map]
      exact List.length_filter_le _ _
    omega
/-! ### what the numbers say -/
theorem gcd_lcm_dvd {a b m d : Nat} (ha : Nat.gcd a m ∣ d) (hb : Nat.gcd b m ∣ d) (hp : 0 < a) : Nat.gcd (Nat.lcm a b) m ∣ d := by
  have hg : 0 < Nat.gcd a b := Nat.gcd_pos_of_pos_left b hp
  obtain ⟨a', b', hc, ea, eb⟩ : ∃ a' b' : Nat, Nat.gcd a' b' = 1 ∧ a = Nat.gcd a b * a' ∧ b = Nat.gcd a b * b' := by
    refine ⟨a / Nat.gcd a b, b / Nat.gcd a b, Nat.coprime_div_gcd_div_gcd hg, ?_, ?_⟩
    · exact (Nat.mul_div_cancel' (Nat.gcd_dvd_left a b)).symm
    · exact (Nat.mul_div_cancel' (Nat.gcd_dvd_right a b)).symm
  have hl := Nat.gcd_mul_lcm a b
  have hl1 : Nat.lcm a b = a * b' := by
    refine Nat.eq_of_mul_eq_mul_left hg ?_
    rw [hl]
    generalize Nat.gcd a b = g at *
    rw [Nat.mul_left_comm, ← eb]
  have hl2 : Nat.lcm a b = b * a' := by
    refine Nat.eq_of_mul_eq_mul_left hg ?_
    rw [hl]
    generalize Nat.gcd a b = g at *
    rw [Nat.mul_left_comm, ← ea, Nat.mul_comm]
  generalize hh : Nat.gcd (Nat.lcm a b) m = h
  have h1 : h ∣ Nat.lcm a b := hh ▸ Nat.gcd_dvd_left _ _
  have h2 : h ∣ m := hh ▸ Nat.gcd_dvd_right _ _
  have k1 : h ∣ d * b' := by
    have e1 : h ∣ Nat.gcd (a * b') (h * b') := Nat.dvd_gcd (hl1 ▸ h1) (Nat.dvd_mul_right h b')
    rw [Nat.gcd_mul_right] at e1
    refine Nat.dvd_trans e1 (Nat.mul_dvd_mul ?_ (Nat.dvd_refl _))
    exact Nat.dvd_trans (Nat.dvd_gcd (Nat.gcd_dvd_left a h) (Nat.dvd_trans (Nat.gcd_dvd_right a h) h2)) ha
  have k2 : h ∣ d * a' := by
    have e1 : h ∣ Nat.gcd (b * a') (h * a') := Nat.dvd_gcd (hl2 ▸ h1) (Nat.dvd_mul_right h a')
    rw [Nat.gcd_mul_right] at e1
    refine Nat.dvd_trans e1 (Nat.mul_dvd_mul ?_ (Nat.dvd_refl _))
    exact Nat.dvd_trans (Nat.dvd_gcd (Nat.gcd_dvd_left b h) (Nat.dvd_trans (Nat.gcd_dvd_right b h) h2)) hb
  have k3 := Nat.dvd_gcd k2 k1
  rw [Nat.gcd_mul_left, hc, Nat.mul_one] at k3
  exact k3
theorem bezout (a b : Nat) : ∃ u v : Int, ((Nat.gcd a b : Nat) : Int) = u * a + v * b := by
  induction a, b using Nat.gcd.induction with
  | H0 n => exact ⟨0, 1, by rw [Nat.gcd_zero_left]; omega⟩
  | H1 m n hm ih =>
    obtain ⟨u, v, e⟩ := ih
    refine ⟨v - u * (n / m : Nat), u, ?_⟩
    rw [Nat.gcd_rec, e]
    have h : ((n % m : Nat) : Int) = n - (m : Int) * (n / m : Nat) := by
      have := Nat.mod_add_div n m
      have h2 : ((n % m + m * (n / m) : Nat) : Int) = n := by rw [this]
      rw [Int.natCast_add, Int.natCast_mul] at h2
      omega
    rw [h, Int.mul_sub, Int.sub_mul]
    have e1 : u * ((m : Int) * (n / m : Nat)) = u * (n / m : Nat) * m := by
      rw [Int.mul_assoc]
      congr 1
      exact Int.mul_comm _ _
    omega
theorem solve {M m : Nat} {c : Int} (h : ((Nat.gcd M m : Nat) : Int) ∣ c) : ∃ t : Int, (m : Int) ∣ M * t - c := by
  obtain ⟨u, v, e⟩ := bezout M m
  obtain ⟨k, rfl⟩ := h
  refine ⟨u * k, -(v * k), ?_⟩
  rw [e, Int.add_mul]
  have e1 : (M : Int) * (u * k) = u * M * k := by
    rw [← Int.mul_assoc, Int.mul_comm (M : Int) u]
  have e2 : (m : Int) * -(v * k) = -(v * m * k) := by
    rw [Int.mul_neg, ← Int.mul_assoc, Int.mul_comm (m : Int) v]
  omega
def lcmL : List (Nat × Int) → Nat
  | [] => 1
  | x :: L => Nat.lcm x.1 (lcmL L)
theorem lcmL_pos : ∀ {L : List (Nat × Int)}, (∀ x ∈ L, 0 < x.1) → 0 < lcmL L
  | [], _ => by decide
  | x :: L, h => Nat.lcm_pos (h x List.mem_cons_self) (lcmL_pos fun y hy => h y (List.mem_cons_of_mem _ hy))
theorem dvd_lcmL : ∀ {L : List (Nat × Int)} {x : Nat × Int}, x ∈ L → x.1 ∣ lcmL L
  | y :: L, x, h => by
    rcases List.mem_cons.mp h with e | e
    · rw [e]
      exact Nat.dvd_lcm_left _ _
    · exact Nat.dvd_trans (dvd_lcmL e) (Nat.dvd_lcm_right _ _)
theorem gcd_lcmL {m d : Nat} : ∀ {L : List (Nat × Int)}, (∀ x ∈ L, 0 < x.1) → (∀ x ∈ L, Nat.gcd x.1 m ∣ d) → Nat.gcd (lcmL L) m ∣ d
  | [], _, _ => by
    show Nat.gcd 1 m ∣ d
    rw [Nat.gcd_one_left]
    exact Nat.one_dvd d
  | x :: L, hp, h => gcd_lcm_dvd (h x List.mem_cons_self) (gcd_lcmL (fun y hy => hp y (List.mem_cons_of_mem _ hy)) fun y hy => h y (List.mem_cons_of_mem _ hy)) (hp x List.mem_cons_self)
theorem crt : ∀ {L : List (Nat × Int)}, (∀ x ∈ L, 0 < x.1) → L.Pairwise (fun x y => ((Nat.gcd x.1 y.1 : Nat) : Int) ∣ x.2 - y.2) → ∃ z : Int, ∀ x ∈ L, (x.1 : Int) ∣ z - x.2
  | [], _, _ => ⟨0, fun _ h => nomatch h⟩
  | x :: L, hp, hc => by
    obtain ⟨c1, c2⟩ := List.pairwise_cons.mp hc
    have hp' : ∀ y ∈ L, 0 < y.1 := fun y hy => hp y (List.mem_cons_of_mem _ hy)
    obtain ⟨z, hz⟩ := crt hp' c2
    have key : ((Nat.gcd (lcmL L) x.1 : Nat) : Int) ∣ x.2 - z := by
      have h1 : Nat.gcd (lcmL L) x.1 ∣ (x.2 - z).natAbs := by
        refine gcd_lcmL hp' fun y hy => ?_
        have h2 := c1 y hy
        have h3 := hz y hy
        have h4 : ((Nat.gcd y.1 x.1 : Nat) : Int) ∣ z - y.2 := Int.dvd_trans (Int.natCast_dvd_natCast.mpr (Nat.gcd_dvd_left _ _)) h3
        rw [Nat.gcd_comm] at h2
        have h5 : ((Nat.gcd y.1 x.1 : Nat) : Int) ∣ x.2 - z := by
          have := Int.dvd_sub h2 h4
          rwa [show x.2 - y.2 - (z - y.2) = x.2 - z by omega] at this
        exact Int.ofNat_dvd_left.mp h5
      exact Int.ofNat_dvd_left.mpr h1
    obtain ⟨t, ht⟩ := solve key
    refine ⟨z + lcmL L * t, fun y hy => ?_⟩
    rcases List.mem_cons.mp hy with e | e
    · rw [e]
      rwa [show z + (lcmL L : Int) * t - x.2 = lcmL L * t - (x.2 - z) by omega]
    · have h1 := hz y e
      have h2 : (y.1 : Int) ∣ lcmL L * t := Int.dvd_trans (Int.natCast_dvd_natCast.mpr (dvd_lcmL e)) (Int.dvd_mul_right _ _)
      have := Int.dvd_add h1 h2
      rwa [show z - y.2 + lcmL L * t = z + lcmL L * t - y.2 by omega] at this
end K12
namespace K12
open PySem PySem.Spec PyProof.Rows L2 Sx Vat
theorem fold_dvd (ns : List Int) : ∀ (L : List Nat) (acc : Nat), acc ∣ L.foldl (fun f i => Nat.lcm f (ns.getD i 0).natAbs) acc ∧ ∀ i ∈ L, (ns.getD i 0).natAbs ∣ L.foldl (fun f i => Nat.lcm f (ns.getD i 0).natAbs) acc
  | [], acc => ⟨Nat.dvd_refl _, fun _ h => nomatch h⟩
  | x :: L, acc => by
    obtain ⟨h1, h2⟩ := fold_dvd ns L (Nat.lcm acc (ns.getD x 0).natAbs)
    refine ⟨Nat.dvd_trans (Nat.dvd_lcm_left _ _) h1, fun i hi => ?_⟩
    rcases List.mem_cons.mp hi with e | e
    · rw [e]
      exact Nat.dvd_trans (Nat.dvd_lcm_right _ _) h1
    · exact h2 i e
theorem dvd_fold (ns : List Int) {d : Nat} : ∀ (L : List Nat) (acc : Nat), acc ∣ d → (∀ i ∈ L, (ns.getD i 0).natAbs ∣ d) → L.foldl (fun f i => Nat.lcm f (ns.getD i 0).natAbs) acc ∣ d
  | [], acc, h, _ => h
  | x :: L, acc, h, h2 => dvd_fold ns L _ (Nat.lcm_dvd h (h2 x List.mem_cons_self)) fun i hi => h2 i (List.mem_cons_of_mem _ hi)
theorem emod_iff {x r n : Int} (h0 : 0 ≤ r) (h1 : r < n) : x % n = r ↔ n ∣ x - r := by
  have hr : r % n = r := Int.emod_eq_of_lt h0 h1
  constructor
  · intro h
    exact Int.dvd_of_emod_eq_zero (Int.emod_eq_emod_iff_emod_sub_eq_zero.mp (by rw [hr, h]))
  · intro h
    rw [← hr]
    exact Int.emod_eq_emod_iff_emod_sub_eq_zero.mpr (Int.emod_eq_zero_of_dvd h)
theorem count_one {S k : Nat} {p : Nat → Bool} (hk : k < S) (hpk : p k = true) (hu : ∀ x, x < S → p x = true → x = k) : ((List.range S).filter p).length = 1 := by
  have nd : ((List.range S).filter p).Nodup := List.Pairwise.filter _ List.nodup_range
  have hm : k ∈ (List.range S).filter p := List.mem_filter.mpr ⟨List.mem_range.mpr hk, hpk⟩
  have ha : ∀ x ∈ (List.range S).filter p, x = k := fun x hx => by
    obtain ⟨h1, h2⟩ := List.mem_filter.mp hx
    exact hu x (List.mem_range.mp h1) h2
  generalize (List.range S).filter p = l at nd hm ha
  match l, nd, hm, ha with
  | [x], _, _, _ => rfl
  | x :: y :: l, nd, _, ha =>
    have e1 := ha x List.mem_cons_self
    have e2 := ha y (List.mem_cons_of_mem _ List.mem_cons_self)
    have := (List.nodup_cons.mp nd).1
    rw [e1, e2] at this
    exact absurd List.mem_cons_self this
section
variable {ns : List Int} {ws : List (Option Int)}
theorem lane_ok (w : Wrd ns ws) (m : Mods 1000000 ns) {i : Nat} (h : i ∈ spk ws) : 2 ≤ ns.getD i 0 ∧ ns.getD i 0 ≤ 1000000 ∧ 0 ≤ rv ws i ∧ rv ws i < ns.getD i 0 := by
  obtain ⟨h1, h2⟩ := spk_in h
  have h3 := w.fit i _ h2
  have h4 := m.mod _ (List.mem_of_getElem? (getD_some 0 (show i < ns.length by rw [← w.len]; exact h1)))
  exact ⟨h4.1, h4.2, h3.1, h3.2⟩
theorem astr_nil (w : Wrd ns ws) (m : Mods 1000000 ns) (x : Int) : (astr ns ws x).isEmpty = true ↔ ∀ i ∈ spk ws, ns.getD i 0 ∣ x - rv ws i := by
  rw [List.isEmpty_iff]
  unfold astr
  rw [List.filter_eq_nil_iff]
  constructor
  · intro h i hi
    obtain ⟨h1, h2⟩ := spk_in hi
    obtain ⟨_, _, h3, h4⟩ := lane_ok w m hi
    have h5 := h i (List.mem_range.mpr h1)
    rw [List.getD_eq_getElem?_getD, h2] at h5
    have h6 : x % ns.getD i 0 = rv ws i := by
      by_cases e : x % ns.getD i 0 = rv ws i
      · exact e
      · exfalso
        refine h5 ?_
        show ((!decide (V.int (rv ws i) = .non)) && !decide (V.int (x % ns.getD i 0) = V.int (rv ws i))) = true
        rw [decide_eq_false (fun z => nomatch z), decide_eq_false fun z => e (V.int.inj z)] <;> rfl
    exact (emod_iff h3 h4).mp h6
  · intro h i hi
    have hi := List.mem_range.mp hi
    cases ho : ws.getD i none with
    | none =>
      show ¬ ((!decide (V.non = .non)) && _) = true
      rw [decide_eq_true rfl, Bool.not_true, Bool.false_and]
      decide
    | some r =>
      have hs : i ∈ spk ws := by
        refine List.mem_filter.mpr ⟨List.mem_range.mpr hi, ?_⟩
        rw [ho]
        show (!decide (V.int r = .non)) = true
        rw [decide_eq_false (fun z => nomatch z)] <;> rfl
      have hr : rv ws i = r := by
        unfold rv
        rw [ho] <;> rfl
      obtain ⟨_, _, h3, h4⟩ := lane_ok w m hs
      have h5 := (emod_iff h3 h4).mpr (h i hs)
      rw [hr] at h5
      show ¬ ((!decide (V.int r = .non)) && !decide (V.int (x % ns.getD i 0) = V.int r)) = true
      rw [h5, decide_eq_true rfl, Bool.not_true, Bool.and_false]
      decide
theorem prs_nil : (prs ns ws).isEmpty = true ↔ ∀ i ∈ spk ws, ∀ j ∈ spk ws, i < j → gg ns i j ∣ rv ws i - rv ws j := by
  rw [List.isEmpty_iff]
  unfold prs
  rw [List.flatMap_eq_nil_iff]
  constructor
  · intro h i hi j hj hij
    have h1 := h i hi
    unfold row at h1
    rw [List.map_eq_nil_iff, List.filter_eq_nil_iff] at h1
    have h2 := h1 j hj
    rw [decide_eq_true (by omega), Bool.true_and] at h2
    unfold cl at h2
    by_cases e : (rv ws i - rv ws j) % gg ns i j = 0
    · exact Int.dvd_of_emod_eq_zero e
    · rw [decide_eq_false fun z => e (V.int.inj z)] at h2
      exact absurd rfl h2
  · intro h i hi
    unfold row
    rw [List.map_eq_nil_iff, List.filter_eq_nil_iff]
    intro j hj h2
    obtain ⟨h3, h4⟩ := Bool.and_eq_true_iff.mp h2
    have h3 := of_decide_eq_true h3
    have h5 := h i hi j hj (by omega)
    unfold cl at h4
    rw [Int.emod_eq_zero_of_dvd h5, decide_eq_true rfl] at h4
    exact nomatch h4
theorem agree_count (w : Wrd ns ws) (m : Mods 1000000 ns) : ((List.range (spanN ns (spk ws))).filter fun x : Nat => (astr ns ws (x : Nat)).isEmpty).length = if (prs ns ws).isEmpty = true then 1 else 0 := by
  have hin : ∀ i ∈ spk ws, i < ns.length := fun i hi => by
    rw [← w.len]
    exact (spk_in hi).1
  have ten := m.ten
  have hl := w.len
  have sp := (span_pos m (spk ws) hin (lanes_small (by omega)).2).1
  have f1 := (fold_dvd ns (spk ws) 1).2
  have f2 : ∀ d : Nat, (∀ i ∈ spk ws, (ns.getD i 0).natAbs ∣ d) → spanN ns (spk ws) ∣ d := fun d h => dvd_fold ns (d := d) (spk ws) 1 (Nat.one_dvd d) h
  have nat : ∀ i ∈ spk ws, ((ns.getD i 0).natAbs : Int) = ns.getD i 0 := fun i hi => by
    have := (lane_ok w m hi).1
    omega
  have f1 : ∀ i ∈ spk ws, ns.getD i 0 ∣ ((spanN ns (spk ws) : Nat) : Int) := fun i hi => by
    rw [← nat i hi]
    exact Int.natCast_dvd_natCast.mpr (f1 i hi)
  by_cases hp : (prs ns ws).isEmpty = true
  · rw [if_pos hp]
    have hc := prs_nil.mp hp
    obtain ⟨z, hz⟩ := crt (L := (spk ws).map fun i => ((ns.getD i 0).natAbs, rv ws i)) (fun x hx => by
      obtain ⟨i, hi, rfl⟩ := List.mem_map.mp hx
      have := (lane_ok w m hi).1
      show 0 < (ns.getD i 0).natAbs
      omega) (by
      rw [List.pairwise_map]
      exact List.Pairwise.imp_of_mem (fun {a b} ha hb h => hc a ha b hb h) (spk_sorted ws))
    have hz : ∀ i ∈ spk ws, ns.getD i 0 ∣ z - rv ws i := fun i hi => by
      have := hz _ (List.mem_map.mpr ⟨i, hi, rfl⟩)
      rwa [show (((ns.getD i 0).natAbs, rv ws i).1 : Int) = ns.getD i 0 from nat i hi] at this
    generalize spanN ns (spk ws) = S at *
    have k0 : 0 ≤ z % (S : Int) := Int.emod_nonneg z (by omega)
    have k1 : z % (S : Int) < S := Int.emod_lt_of_pos z (by omega)
    obtain ⟨k, hk⟩ : ∃ k : Nat, z % (S : Int) = k := ⟨(z % (S : Int)).toNat, by omega⟩
    have hkz : ∀ i ∈ spk ws, ns.getD i 0 ∣ (k : Int) - rv ws i := fun i hi => by
      have h1 := hz i hi
      have h2 : (S : Int) ∣ z - z % (S : Int) := Int.dvd_self_sub_emod
      have h3 := Int.dvd_sub h1 (Int.dvd_trans (f1 i hi) h2)
      rwa [show z - rv ws i - (z - z % (S : Int)) = (k : Int) - rv ws i by omega] at h3
    refine count_one (k := k) (by omega) ((astr_nil w m _).mpr hkz) fun x hx hpx => ?_
    have hx2 := (astr_nil w m _).mp hpx
    have hd : S ∣ ((x : Int) - k).natAbs := f2 _ fun i hi => by
      have h1 := Int.dvd_sub (hx2 i hi) (hkz i hi)
      rw [show (x : Int) - rv ws i - ((k : Int) - rv ws i) = (x : Int) - k by omega] at h1
      exact Int.ofNat_dvd_left.mp (by rw [nat i hi]; exact h1)
    have := Nat.eq_zero_of_dvd_of_lt hd (by omega)
    omega
  · rw [if_neg hp]
    rw [List.length_eq_zero_iff, List.filter_eq_nil_iff]
    intro x _ h
    refine hp (prs_nil.mpr fun i hi j hj _ => ?_)
    have h1 := (astr_nil w m _).mp h
    have a1 := h1 i hi
    have a2 := h1 j hj
    have g1 : gg ns i j ∣ ns.getD i 0 := by
      rw [← nat i hi]
      exact Int.natCast_dvd_natCast.mpr (Nat.gcd_dvd_left _ _)
    have g2 : gg ns i j ∣ ns.getD j 0 := by
      rw [← nat j hj]
      exact Int.natCast_dvd_natCast.mpr (Nat.gcd_dvd_right _ _)
    have := Int.dvd_sub (Int.dvd_trans g2 a2) (Int.dvd_trans g1 a1)
    rwa [show (x : Int) - rv ws j - ((x : Int) - rv ws i) = rv ws i - rv ws j by omega] at this
end
theorem dI_ints (l : List Nat) : dI l = (l.map fun i => ((i : Nat) : Int)).map PyData.int := by
  unfold dI
  rw [List.map_map] <;> rfl
theorem shaped_dI (l : List Nat) : SeqAt.shaped (.tuple (dI l)) = true := by
  rw [dI_ints]
  exact shaped_tup_ints _
theorem eqv_nil_dI (l : List Nat) : PyData.eqv (.tuple (dI l)) (.tuple []) = l.isEmpty := by
  cases l <;> simp [PyData.eqv, PyData.eqvAll, dI]
theorem shaped_hlt (E : List (Int × Int)) : SeqAt.shaped (.tuple (E.map hullD)) = true := by
  have h1 : PyData.canLayAll0 (E.map hullD) = true := canAll_map E fun e _ => by simp [hullD, PyData.canLay0, PyData.canLayAll0]
  have h2 : PyData.depthAll (E.map hullD) ≤ 1 := depthAll_map E fun e _ => Nat.le_refl _
  unfold SeqAt.shaped
  simp only [PyData.canLay0, PyData.depth, Bool.and_eq_true, decide_eq_true_eq]
  exact ⟨h1, decide_eq_true (by omega)⟩
theorem eqv_nil_hlt (E : List (Int × Int)) : PyData.eqv (.tuple (E.map hullD)) (.tuple []) = E.isEmpty := by
  cases E <;> simp [PyData.eqv, PyData.eqvAll]
theorem prs1 : prs [4, 6, 9] [some 1, some 2, some 0] = [(0, 1), (1, 2)] := by decide +kernel
theorem prs2 : prs [5, 5] [some 1, some 2] = [(0, 1)] := by decide +kernel
theorem wrd1 : Wrd [4, 6, 9] [some 1, some 2, some 0] := by
  refine ⟨rfl, fun i r h => ?_⟩
  match i, h with
  | 0, h => cases h; exact ⟨by decide, by decide⟩
  | 1, h => cases h; exact ⟨by decide, by decide⟩
  | 2, h => cases h; exact ⟨by decide, by decide⟩
  | i + 3, h => simp at h
theorem wrd2 : Wrd [5, 5] [some 1, some 2] := by
  refine ⟨rfl, fun i r h => ?_⟩
  match i, h with
  | 0, h => cases h; exact ⟨by decide, by decide⟩
  | 1, h => cases h; exact ⟨by decide, by decide⟩
  | i + 2, h => simp at h
theorem mods1 : Mods 1000000 [4, 6, 9] := ⟨by decide, by decide, by decide⟩
theorem mods2 : Mods 1000000 [5, 5] := ⟨by decide, by decide, by decide⟩
end K12
namespace K12
open PySem PySem.Spec PyProof.Rows L2 Sx
def topS (i : Nat) : Stmt := PySem.Challenge.pw_straylanes_k12_whole_clashes_by_going_th.main.body.getD i (.Pass ⟨0, 0, 0, 0⟩)
abbrev sp__law_vat := Vat.sp__law_vat
abbrev sp__law_draw := Vat.sp__law_draw
abbrev sp__law_pick := Vat.sp__law_pick
abbrev sp__law_mixed := Vat.sp__law_mixed
abbrev sp__law_far := Vat.sp__law_far
abbrev sp__law_mods := Vat.sp__law_mods
abbrev sp__law_common := Vat.sp__law_common
abbrev sp__law_word := Vat.sp__law_word
abbrev s_speaking : Stmt := topS 2
theorem sc_speaking : FnScope ["word", "lane", "item"] ["word"] (defScope s_speaking) := ⟨rfl, rfl, rfl, by decide +kernel, rfl, by decide +kernel, by decide +kernel⟩
abbrev s_clashes : Stmt := topS 4
theorem sc_clashes : FnScope ["machine", "word", "lanes", "i", "j"] ["machine", "word"] (defScope s_clashes) := ⟨rfl, rfl, rfl, by decide +kernel, rfl, by decide +kernel, by decide +kernel⟩
abbrev s_is_clash : Stmt := topS 5
theorem sc_is_clash : FnScope ["machine", "word", "i", "j"] ["machine", "word", "i", "j"] (defScope s_is_clash) := ⟨rfl, rfl, rfl, by decide +kernel, rfl, by decide +kernel, by decide +kernel⟩
abbrev s__law_vat : Stmt := topS 7
theorem sc__law_vat : FnScope ["script", "cell", "cells", "stirred"] ["script"] (defScope s__law_vat) := ⟨rfl, rfl, rfl, by decide +kernel, rfl, by decide +kernel, by decide +kernel⟩
abbrev s__law_draw : Stmt := topS 8
theorem sc__law_draw : FnScope ["vat", "most", "found", "cell"] ["vat", "most"] (defScope s__law_draw) := ⟨rfl, rfl, rfl, by decide +kernel, rfl, by decide +kernel, by decide +kernel⟩
abbrev s__law_pick : Stmt := topS 9
theorem sc__law_pick : FnScope ["vat", "items"] ["vat", "items"] (defScope s__law_pick) := ⟨rfl, rfl, rfl, by decide +kernel, rfl, by decide +kernel, by decide +kernel⟩
abbrev s__law_mixed : Stmt := topS 10
theorem sc__law_mixed : FnScope ["vat", "items", "rest", "found"] ["vat", "items"] (defScope s__law_mixed) := ⟨rfl, rfl, rfl, by decide +kernel, rfl, by decide +kernel, by decide +kernel⟩
abbrev s__law_far : Stmt := topS 11
theorem sc__law_far : FnScope ["vat", "figures", "found", "turn"] ["vat", "figures"] (defScope s__law_far) := ⟨rfl, rfl, rfl, by decide +kernel, rfl, by decide +kernel, by decide +kernel⟩
abbrev s__law_mods : Stmt := topS 12
theorem sc__law_mods : FnScope ["vat", "width", "most", "primes", "way", "base", "own", "lane"] ["vat", "width", "most"] (defScope s__law_mods) := ⟨rfl, rfl, rfl, by decide +kernel, rfl, by decide +kernel, by decide +kernel⟩
abbrev s__law_common : Stmt := topS 13
theorem sc__law_common : FnScope ["near", "off"] ["near", "off"] (defScope s__law_common) := ⟨rfl, rfl, rfl, by decide +kernel, rfl, by decide +kernel, by decide +kernel⟩
abbrev s__law_span : Stmt := topS 14
theorem sc__law_span : FnScope ["mods", "these", "found", "lane"] ["mods", "these"] (defScope s__law_span) := ⟨rfl, rfl, rfl, by decide +kernel, rfl, by decide +kernel, by decide +kernel⟩
abbrev s__law_astray : Stmt := topS 15
theorem sc__law_astray : FnScope ["mods", "rests", "number", "lane", "own"] ["mods", "rests", "number"] (defScope s__law_astray) := ⟨rfl, rfl, rfl, by decide +kernel, rfl, by decide +kernel, by decide +kernel⟩
abbrev s__law_word : Stmt := topS 16
theorem sc__law_word : FnScope ["vat", "mods", "number", "rests", "turn", "lane", "own"] ["vat", "mods"] (defScope s__law_word) := ⟨rfl, rfl, rfl, by decide +kernel, rfl, by decide +kernel, by decide +kernel⟩
abbrev s__law_pairs : Stmt := topS 17
theorem sc__law_pairs : FnScope ["mods", "rests", "speak", "found", "at", "near", "two", "lane", "own"] ["mods", "rests"] (defScope s__law_pairs) := ⟨rfl, rfl, rfl, by decide +kernel, rfl, by decide +kernel, by decide +kernel⟩
abbrev s__law_is_right : Stmt := topS 18
theorem sc__law_is_right : FnScope ["mods", "rests", "is_named", "told", "step", "agree", "due", "kept", "number", "lane", "own"] ["mods", "rests", "is_named"] (defScope s__law_is_right) := ⟨rfl, rfl, rfl, by decide +kernel, rfl, by decide +kernel, by decide +kernel⟩
abbrev s_law : Stmt := topS 19
theorem sc_law : FnScope ["script", "vat", "turn", "mods", "again"] ["script"] (defScope s_law) := ⟨rfl, rfl, rfl, by decide +kernel, rfl, by decide +kernel, by decide +kernel⟩
structure Adr where
  f_speaking : Addr
  d_speaking : FuncData
  f_clashes : Addr
  d_clashes : FuncData
  f_is_clash : Addr
  d_is_clash : FuncData
  f__law_vat : Addr
  d__law_vat : FuncData
  f__law_draw : Addr
  d__law_draw : FuncData
  f__law_pick : Addr
  d__law_pick : FuncData
  f__law_mixed : Addr
  d__law_mixed : FuncData
  f__law_far : Addr
  d__law_far : FuncData
  f__law_mods : Addr
  d__law_mods : FuncData
  f__law_common : Addr
  d__law_common : FuncData
  f__law_span : Addr
  d__law_span : FuncData
  f__law_astray : Addr
  d__law_astray : FuncData
  f__law_word : Addr
  d__law_word : FuncData
  f__law_pairs : Addr
  d__law_pairs : FuncData
  f__law_is_right : Addr
  d__law_is_right : FuncData
  f_law : Addr
  d_law : FuncData
structure Txt (K : PySem.W.Frag) (mg : Str → Option Value) (a : Adr) : Prop where
  speaking : At K mg "speaking" s_speaking ["word"] a.f_speaking a.d_speaking
  clashes : At K mg "clashes" s_clashes ["machine", "word"] a.f_clashes a.d_clashes
  is_clash : At K mg "is_clash" s_is_clash ["machine", "word", "i", "j"] a.f_is_clash a.d_is_clash
  _law_vat : At K mg "_law_vat" s__law_vat ["script"] a.f__law_vat a.d__law_vat
  _law_draw : At K mg "_law_draw" s__law_draw ["vat", "most"] a.f__law_draw a.d__law_draw
  _law_pick : At K mg "_law_pick" s__law_pick ["vat", "items"] a.f__law_pick a.d__law_pick
  _law_mixed : At K mg "_law_mixed" s__law_mixed ["vat", "items"] a.f__law_mixed a.d__law_mixed
  _law_far : At K mg "_law_far" s__law_far ["vat", "figures"] a.f__law_far a.d__law_far
  _law_mods : At K mg "_law_mods" s__law_mods ["vat", "width", "most"] a.f__law_mods a.d__law_mods
  _law_common : At K mg "_law_common" s__law_common ["near", "off"] a.f__law_common a.d__law_common
  _law_span : At K mg "_law_span" s__law_span ["mods", "these"] a.f__law_span a.d__law_span
  _law_astray : At K mg "_law_astray" s__law_astray ["mods", "rests", "number"] a.f__law_astray a.d__law_astray
  _law_word : At K mg "_law_word" s__law_word ["vat", "mods"] a.f__law_word a.d__law_word
  _law_pairs : At K mg "_law_pairs" s__law_pairs ["mods", "rests"] a.f__law_pairs a.d__law_pairs
  _law_is_right : At K mg "_law_is_right" s__law_is_right ["mods", "rests", "is_named"] a.f__law_is_right a.d__law_is_right
  law : At K mg "law" s_law ["script"] a.f_law a.d_law
  b_abs : mg "abs" = none
  b_enumerate : mg "enumerate" = none
  b_int : mg "int" = none
  b_len : mg "len" = none
  b_list : mg "list" = none
  b_max : mg "max" = none
  b_min : mg "min" = none
  b_range : mg "range" = none
  b_repr : mg "repr" = none
  b_tuple : mg "tuple" = none
  i_gcd : mg "gcd" = some (.builtin "math.gcd")
section
variable {P : Program} {w : World} {K : PySem.W.Frag} {mg : Str → Option Value} {base : Heap} {a : Adr}
def g_clashes_word_machine {α : Type} (us ws : List α) : List α := match us, ws with
  | [], [z0, z1] => [z1, z0]
  | _, _ => []
theorem kb_clashes_word_machine (T : Txt K mg a) : KBinds K a.d_clashes ["machine", "word"] ["word", "machine"] (g_clashes_word_machine (α := Value)) (g_clashes_word_machine (α := V)) := by
  refine Sx.Fun.kb T.clashes.F (fun _ _ _ _ _ _ us ws hl => ?_) (fun r1 r2 => ?_)
  · unfold g_clashes_word_machine at hl ⊢
    split at hl
    · rfl
    · exact absurd hl (by decide)
  · unfold g_clashes_word_machine
    cases r1 with
    | nil =>
      cases r2 with
      | nil => exact .nil
      | cons q0 r2 =>
        cases r2 with
        | nil => exact .nil
        | cons q1 r2 =>
          cases r2 with
          | nil =>
            exact (.cons q1 (.cons q0 .nil))
          | cons _ _ => exact .nil
    | cons _ _ => exact .nil
theorem ok_speaking (T : Txt K mg a) : FnOk P w K mg base CX0 1 a.f_speaking a.d_speaking ["word"] (sp_speaking K) := by
  refine T.speaking.F.ok sc_speaking (fun vs H Q E h => ?_) (fun cdv A outer s H vs Q E hr h => ?_)
  · obtain ⟨_, _, rfl, _⟩ := h
    rfl
  · have hu := hu_of hr
    obtain ⟨p, ws, rfl, hP, hl, q⟩ := h
    refine ⟨_, (pss_one (ps_ret (pe_callTy (show CallR _ _ (rTupS K) from call_tuple_of) (by rfl) T.b_tuple (by decide +kernel) (pa_cons (pe_lc (own := [("lane", 1), ("item", 2)]) rfl sc_speaking.nd (show PI _ _ _ (iEnumT K _) from pi_enumT (by rfl) T.b_enumerate (pa_cons (pv 0) pa_nil)) (blkOk_by (N := ["word", "lane", "item"]) (sc := defScope s_speaking) (by decide +kernel)) (fun _ _ _ _ _ => (show PG _ _ (gTup K 2 _) from pg_tup rfl (pgs_cons (pg_name (i := 1) sc_speaking.nd rfl (by first | exact Or.inl rfl | exact Or.inr rfl)) (pgs_cons (pg_name (i := 2) sc_speaking.nd rfl (by first | exact Or.inl rfl | exact Or.inr rfl)) pgs_nil)))) (fun _ _ _ _ _ => (pts_one (pt_cmpR op_notN (pv 2) pe_non (nomark _)))) (fun _ _ _ _ _ => (pv 1))) pa_nil)))), ?_⟩
    refine ⟨_, rfl, p, _, rfl, hP, fun D hD => ?_⟩
    refine lc_reckon (walk_enumT (xs := ws.map vO)) (zs := List.range ws.length) (by rw [List.length_range, List.length_map]) (fun i => !decide (vO (ws.getD i none) = .non)) (fun i => .int (i : Nat)) (by rw [List.length_range]; omega) hD (fun H2 s => Sx.Same.tup s hP) ?_ ?_
    · rintro i z x H2 H3 hz s2 ⟨T, y1, y2, rfl, nT, rfl, e1, e2⟩
      have hi := (List.getElem?_eq_some_iff.mp hz).1
      rw [List.length_range] at hi
      obtain rfl : i = z := by
        rw [List.getElem?_range hi] at hz
        exact Option.some.inj hz
      obtain rfl : V.int (i : Nat) = y1 := Option.some.inj e1
      have ew : ws[i]? = some (ws.getD i none) := getD_some none hi
      obtain rfl : vO (ws.getD i none) = y2 := by
        have e3 : (ws.map vO)[i]? = some y2 := e2
        rw [List.getElem?_map, ew] at e3
        exact Option.some.inj e3
      generalize ho : ws.getD i none = o
      have sT : Same H2 (upd H2 T (.tup [.int (i : Nat), vO o])) := same_new nT
      refine ⟨sT, _, fun Q q => ⟨T, _, rfl, .of upd_same, rfl, _, _, rfl, _, _, rfl, rfl, q⟩, rfl, fun Q q => ?_, fun _ H4 Q _ s4 q => ⟨_, rfl, q _ (Same.refl _)⟩⟩
      have q' : Q (!decide (vO o = .non)) (upd H2 T (.tup [.int (i : Nat), vO o])) := by
        rw [← ho] at q ⊢
        exact q _ (Same.refl _)
      exact ⟨_, rfl, rfl, _, rfl, q'⟩
    intro H2 s2 e2
    refine ⟨D, _, rfl, .inl ⟨.of e2, fun l nl => ?_⟩⟩
    exact q l _ (s2.trans (same_new nl)) (s2.free nl) upd_same
theorem ok_is_clash (T : Txt K mg a) : FnOk P w K mg base CX0 1 a.f_is_clash a.d_is_clash ["machine", "word", "i", "j"] (sp_is_clash K) := by
  refine T.is_clash.F.ok sc_is_clash (fun vs H Q E h => ?_) (fun cdv A outer s H vs Q E hr h => ?_)
  · obtain ⟨_, _, _, _, _, _, rfl, _⟩ := h
    rfl
  · have hu := hu_of hr
    obtain ⟨t, p, ns, ws, i, j, rfl, F, hi, hj, q⟩ := h
    obtain ⟨i1, wi⟩ := spk_in hi
    obtain ⟨j1, wj⟩ := spk_in hj
    have hl := F.w.len
    have mi := F.m.mod _ (List.mem_of_getElem? (getD_some 0 (show i < ns.length by omega)))
    have mj := F.m.mod _ (List.mem_of_getElem? (getD_some 0 (show j < ns.length by omega)))
    have ai : atI (ws.map vO) (i : Nat) = some (.int (rv ws i)) := atI_nat (by rw [List.getElem?_map, wi] <;> rfl)
    have aj : atI (ws.map vO) (j : Nat) = some (.int (rv ws j)) := atI_nat (by rw [List.getElem?_map, wj] <;> rfl)
    have ni : atI (ns.map V.int) (i : Nat) = some (.int (ns.getD i 0)) := atI_nat (by rw [List.getElem?_map, getD_some 0 (show i < ns.length by omega)] <;> rfl)
    have nj : atI (ns.map V.int) (j : Nat) = some (.int (ns.getD j 0)) := atI_nat (by rw [List.getElem?_map, getD_some 0 (show j < ns.length by omega)] <;> rfl)
    have gp : 0 < gg ns i j := by
      have : 0 < Nat.gcd (ns.getD i 0).natAbs (ns.getD j 0).natAbs := Nat.gcd_pos_of_pos_left _ (by omega)
      unfold gg
      omega
    refine ⟨_, (pss_one (ps_ret (pe_cmpR op_ne (pe_op op_modN (pe_op op_sub (pe_ix (show IxR _ (rIx K) from ix_seq) (pv 1) (pv 2) (fun _ _ => rfl)) (pe_ix (show IxR _ (rIx K) from ix_seq) (pv 1) (pv 3) (fun _ _ => rfl))) (pe_callBfun cr_gcd (by rfl) T.i_gcd (pa_cons (pe_ix (show IxR _ (rIx K) from ix_seq) (pv 0) (pv 2) (fun _ _ => rfl)) (pa_cons (pe_ix (show IxR _ (rIx K) from ix_seq) (pv 0) (pv 3) (fun _ _ => rfl)) pa_nil)))) pe_int (nomark _)))), ?_⟩
    refine ⟨_, rfl, _, rfl, .inr (.inl ⟨p, _, _, _, rfl, rfl, F.p, ai, _, rfl, _, rfl, .inr (.inl ⟨p, _, _, _, rfl, rfl, F.p, aj, _, _, rfl, rfl, ?_⟩)⟩)⟩
    refine ⟨_, rfl, _, rfl, .inr (.inl ⟨t, _, _, _, rfl, rfl, F.t, ni, _, rfl, _, rfl, .inr (.inl ⟨t, _, _, _, rfl, rfl, F.t, nj, _, _, rfl, _, gg ns i j, rfl, rfl, by omega, rfl, ?_⟩)⟩)⟩
    rw [show (fun i j : Int => V.int (i.fmod j)) (rv ws i - rv ws j) (gg ns i j) = V.int ((rv ws i - rv ws j) % gg ns i j) from congrArg V.int (Int.fmod_eq_emod_of_nonneg _ (by omega))]
    exact q
theorem ok__law_vat (T : Txt K mg a) : FnOk P w K mg base CX0 1 a.f__law_vat a.d__law_vat ["script"] (sp__law_vat K) := by
  refine T._law_vat.F.ok sc__law_vat (fun vs H Q E h => ?_) (fun cdv A outer s H vs Q E hr h => ?_)
  · obtain ⟨_, _, rfl, _⟩ := h
    rfl
  · have hu := hu_of hr
    obtain ⟨s0, ns, rfl, hS, hlen, q⟩ := h
    have ecut : cutV (ns.map V.int) none (some 63) = ns.map V.int := by
      have h1 : (ns.map V.int).length ≤ 63 := by rw [List.length_map]; exact hlen
      unfold cutV
      rw [HT.sIx_none, show HT.sIx (ns.map V.int).length (ns.map V.int).length (some 63) = min 63 (ns.map V.int).length from HT.sIx_nat _ _ 63, Nat.min_eq_right h1]
      show List.take ((ns.map V.int).length - 0) (List.drop 0 (ns.map V.int)) = ns.map V.int
      rw [List.drop_zero, Nat.sub_zero, List.take_length]
    refine ⟨_, (pss_cons (ps_par (i := 2) (j := 3) (by rfl) sc__law_vat.nd rfl rfl (by decide) rfl rfl (pa_cons (pe_lc (own := [("cell", 1)]) rfl sc__law_vat.nd (show PI _ _ _ (iSeq K _) from pi_seq (pe_slice (show SlR _ (rSlL K) from sl_list) (pv 0) po_none (po_some pe_int))) (blkOk_by (N := ["script", "cell", "cells", "stirred"]) (sc := defScope s__law_vat) (by decide +kernel)) (fun _ _ _ _ _ => (pg_name (i := 1) sc__law_vat.nd rfl (by first | exact Or.inl rfl | exact Or.inr rfl))) (fun _ _ _ _ _ => pts_nil) (fun _ _ _ _ _ => (pe_op op_add (pe_op op_mul pe_int (pe_callB call_abs (by rfl) T.b_abs (by decide +kernel) (pa_cons (pv 1) pa_nil))) (pe_callTy call_int1 (by rfl) T.b_int (by decide +kernel) (pa_cons (pe_cmpR op_lt (pv 1) pe_int (nomark _)) pa_nil))))) (pa_cons (pe_op op_add pe_int (pe_callB (show CallR _ _ (rLenS K) from call_len_seq) (by rfl) T.b_len (by decide +kernel) (pa_cons (pv 0) pa_nil))) pa_nil)) (by rfl))
      (pss_cons (ps_for PassesOwn.never rfl (show PI _ _ _ (iSeq K _) from pi_seq (pv 2)) (pg_name (i := 1) sc__law_vat.nd rfl (by first | exact Or.inl rfl | exact Or.inr rfl)) (pss_one (ps_set (i := 3) sc__law_vat.nd rfl (by first | exact Or.inl rfl | exact Or.inr rfl) (pe_op op_modN (pe_callTy call_int1 (by rfl) T.b_int (by decide +kernel) (pa_cons (pe_op op_add (pe_op op_mul (pv 3) pe_int) (pv 1)) pa_nil)) pe_int))))
      (pss_one (ps_ret (pe_lst (pa_cons (pe_lc (own := [("cell", 1)]) rfl sc__law_vat.nd (show PI _ _ _ (iSeq K _) from pi_seq (pv 2)) (blkOk_by (N := ["script", "cell", "cells", "stirred"]) (sc := defScope s__law_vat) (by decide +kernel)) (fun _ _ _ _ _ => (pg_name (i := 1) sc__law_vat.nd rfl (by first | exact Or.inl rfl | exact Or.inr rfl))) (fun _ _ _ _ _ => (pts_one (pt_cmpR op_gt (pv 1) (pe_op op_pow pe_int pe_int) (nomark _)))) (fun _ _ _ _ _ => (pv 1))) (pa_cons (pv 3) (pa_cons pe_int pa_nil)))))))), ?_⟩
    -- marks, stirred
    refine .inl ⟨_, rfl, 63, rfl, s0, ns.map V.int, rfl, hS, fun p np => ⟨p, rfl, ⟨_, .of upd_same⟩, fun D hD => ?_⟩⟩
    rw [ecut] at hD ⊢
    have s1 : Same H (upd H p (.lst (ns.map V.int))) := same_new np
    refine lc_reckon (walk_list (xs := ns.map V.int)) (zs := ns) (List.length_map _).symm (fun _ => true) (fun m => .int (2 * (if m < 0 then -m else m) + (if decide (m < 0) then 1 else 0))) (by omega) hD (fun H1 s => .of (s _ _ upd_same)) ?_ ?_
    · rintro i m x H1 H2 hz s2 ⟨rfl, hx⟩
      rw [List.getElem?_map, hz] at hx
      obtain rfl : V.int m = x := Option.some.inj hx
      refine ⟨Same.refl _, _, fun Q q => q, rfl, fun Q q => q _ (Same.refl _), fun _ H3 Q s3 _ q => ?_⟩
      refine ⟨_, rfl, m, rfl, 2, _, rfl, rfl, .inl ⟨by decide, by decide⟩, _, rfl, m, 0, rfl, rfl, .inr ⟨_, rfl, _, _, rfl, rfl, ?_⟩⟩
      exact q _ (Same.refl _)
    intro H1 t1 e1
    rw [List.filter_eq_self.mpr (fun _ _ => rfl)] at e1
    generalize hms : (ns.map fun m : Int => 2 * (if m < 0 then -m else m) + (if decide (m < 0) then 1 else 0)) = ms
    have hml : ms.length = ns.length := by rw [← hms, List.length_map]
    have e2 : H1 D = some (.lst (ms.map V.int)) := by
      rw [e1, ← hms, List.map_map] <;> rfl
    have s3 : Same H H1 := s1.trans t1
    refine ⟨_, rfl, s0, ns.map V.int, rfl, .inl (L2.Same.seq s3 hS), _, _, rfl, rfl, _, _, rfl, ?_⟩
    -- stirred
    refine .inl ⟨_, rfl, D, rfl, ⟨_, .of e2⟩, for_list (K := K) (a := D) (xs := ms.map V.int) (fun i σ H' => ∃ (st : Int) (v : Option V), σ = [some (.ref s0), v, some (.ref D), some (.int st)] ∧ H' = H1)
      ⟨_, none, rfl, rfl⟩ (fun i σ H' _ ⟨_, _, _, e⟩ => by rw [e]; exact .of e2) ?_ ?_⟩
    · rintro i x σ H' hx ⟨st, v, rfl, rfl⟩
      rw [List.getElem?_map] at hx
      obtain ⟨m, hm, rfl⟩ := Option.map_eq_some_iff.mp hx
      refine ⟨_, rfl, st, 16807, rfl, rfl, .inr ⟨by decide, by decide⟩, _, rfl, _, m, rfl, rfl, .inl ⟨_, rfl, _, 4294967291, rfl, rfl, (show (4294967291 : Int) ≠ 0 by decide), ?_⟩⟩
      exact ⟨_, _, rfl, rfl⟩
    rintro σ H' ⟨st, v, rfl, rfl⟩
    refine .inl ⟨_, rfl, D, rfl, ⟨_, .of e2⟩, fun g ng => ?_⟩
    refine lc_reckon (walk_list (xs := ms.map V.int)) (zs := ms) (List.length_map _).symm (fun m => decide (10 ^ 15 < m)) V.int (by omega) ng (fun H2 s => .of (s _ _ e2)) ?_ ?_
    · rintro i m x H2 H3 hz s2 ⟨rfl, hx⟩
      rw [List.getElem?_map, hz] at hx
      obtain rfl : V.int m = x := Option.some.inj hx
      refine ⟨Same.refl _, _, fun Q q => q, rfl, fun Q q => ?_, fun _ H3 Q s3 _ q => ⟨_, rfl, q _ (Same.refl _)⟩⟩
      exact ⟨_, rfl, 10, 15, rfl, rfl, ⟨by decide, by decide, by decide⟩, m, _, rfl, rfl, _, rfl, q _ (Same.refl _)⟩
    intro H2 t2 e3
    refine ⟨_, rfl, by show 3 ≤ sizeLine; decide, fun b nb => ?_⟩
    have s4 := same_new (o := .lst [.ref g, .int st, .int 0]) nb
    have ng1 : H g = none := s3.free ng
    refine q b g _ ⟨s3.trans (t2.trans s4), (s3.trans t2).free nb, ng1, ⟨ms.filter fun m => decide (10 ^ 15 < m), s4 _ _ e3, ?_⟩, ⟨st, 0, upd_same⟩⟩
    have := List.length_filter_le (fun m => decide ((10 : Int) ^ 15 < m)) ms
    omega
theorem ok__law_draw (T : Txt K mg a) : FnOk P w K mg base CX0 1 a.f__law_draw a.d__law_draw ["vat", "most"] (sp__law_draw K) := by
  refine T._law_draw.F.ok sc__law_draw (fun vs H Q E h => ?_) (fun cdv A outer s H vs Q E hr h => ?_)
  · obtain ⟨_, _, _, _, rfl, _⟩ := h
    rfl
  · have hu := hu_of hr
    obtain ⟨H0, b, g, m, rfl, B, hm, q⟩ := h
    obtain ⟨ms, hl, hz⟩ := B.ls
    obtain ⟨st, ct, hd⟩ := B.dc
    have hm0 := hm.1
    refine ⟨_, (pss_cons (ps_if (pt_cmpR (show OpR _ _ (rNeD K) from op_neD hr.units) (pe_ix (show IxR _ (rIx K) from ix_seq) (pv 0) pe_int (fun _ _ => rfl)) (pe_lst pa_nil) (nomark _)) (pss_cons (ps_set (i := 3) sc__law_draw.nd rfl (by first | exact Or.inl rfl | exact Or.inr rfl) (pe_ix (show IxR _ (rIx K) from ix_seq) (pe_ix (show IxR _ (rIx K) from ix_seq) (pv 0) pe_int (fun _ _ => rfl)) pe_int (fun _ _ => rfl)))
        (pss_cons (ps_asg (pe_op op_fdivW (pv 3) (pv 1)) (pg_sub (pe_ix (show IxR _ (rIx K) from ix_seq) (pv 0) pe_int (fun _ _ => rfl)) pe_int set_list))
        (Evl.pss_cut (ps_if (pt_cmpR op_lt (pv 3) (pv 1) (nomark _)) (pss_one (ps_expr (show PE _ _ (tBM K "list" _ _ _) from pe_bm PySem.F.plainAttrs_list PySem.F.slot_list_pop PySem.F.type_list_pop mt_popAt (pe_ix (show IxR _ (rIx K) from ix_seq) (pv 0) pe_int (fun _ _ => rfl)) (pa_cons pe_int pa_nil)))) pss_nil)
        (pss_one (ps_ret (pe_op op_modN (pe_callTy call_int1 (by rfl) T.b_int (by decide +kernel) (pa_cons (pv 3) pa_nil)) (pv 1))))))) pss_nil)
      (pss_cons (ps_asg (pe_op op_add (pe_ix (show IxR _ (rIx K) from ix_seq) (pv 0) pe_int (fun _ _ => rfl)) pe_int) (pg_sub (pv 0) pe_int set_list))
      (pss_cons (ps_set (i := 2) sc__law_draw.nd rfl (by first | exact Or.inl rfl | exact Or.inr rfl) (pe_op op_modN (pe_callTy call_int1 (by rfl) T.b_int (by decide +kernel) (pa_cons (pe_op op_add (pe_ix (show IxR _ (rIx K) from ix_seq) (pv 0) pe_int (fun _ _ => rfl)) (pe_op op_mul pe_int (pe_ix (show IxR _ (rIx K) from ix_seq) (pv 0) pe_int (fun _ _ => rfl)))) pa_nil)) pe_int))
      (pss_cons (ps_set (i := 2) sc__law_draw.nd rfl (by first | exact Or.inl rfl | exact Or.inr rfl) (pe_op op_modN (pe_callTy call_int1 (by rfl) T.b_int (by decide +kernel) (pa_cons (pe_op op_add (pe_op op_add (pe_op op_mul (pv 2) (pv 2)) (pe_op op_mul pe_int (pe_ix (show IxR _ (rIx K) from ix_seq) (pv 0) pe_int (fun _ _ => rfl)))) pe_int) pa_nil)) pe_int))
      (pss_cons (ps_set (i := 2) sc__law_draw.nd rfl (by first | exact Or.inl rfl | exact Or.inr rfl) (pe_op op_modN (pe_callTy call_int1 (by rfl) T.b_int (by decide +kernel) (pa_cons (pe_op op_add (pe_op op_mul (pv 2) (pv 2)) (pe_ix (show IxR _ (rIx K) from ix_seq) (pv 0) pe_int (fun _ _ => rfl))) pa_nil)) pe_int))
      (pss_one (ps_ret (pe_op op_modN (pe_callTy call_int1 (by rfl) T.b_int (by decide +kernel) (pa_cons (pe_op op_fdivW (pv 2) pe_int) pa_nil)) (pv 1))))))))), ?_⟩
    have a0 : ∀ st ct, atI (vatL g st ct) 0 = some (.ref g) := fun _ _ => atI_nat (j := 0) rfl
    have a1 : ∀ st ct, atI (vatL g st ct) 1 = some (.int st) := fun st _ => atI_nat (j := 1) rfl
    have a2 : ∀ st ct, atI (vatL g st ct) 2 = some (.int ct) := fun _ ct => atI_nat (j := 2) rfl
    refine ⟨_, rfl, .inl ⟨b, _, _, _, rfl, rfl, .of hd, a0 _ _, ?_⟩⟩
    refine ⟨Nat.zero_le _, fun p np => ?_⟩
    have B1 := B.more (same_new (o := .lst []) np)
    have hl1 : (upd H p (.lst [])) g = some (.lst (ms.map V.int)) := same_new np _ _ hl
    have hd1 : (upd H p (.lst [])) b = some (.lst (vatL g st ct)) := same_new np _ _ hd
    refine ⟨_, _, .lst (.of hl1) (dpa_ints ms), .lst (.of upd_same) .nil, shaped_ints ms, shaped_ints [], _, rfl, ?_⟩
    rw [eqv_nil_ints]
    have md : ∀ x d : Int, 0 < d → x.fmod d = x % d := fun x d hx => Int.fmod_eq_emod_of_nonneg x (by omega)
    have lo : ∀ x d : Int, 0 < d → 0 ≤ x % d ∧ x % d < d := fun x d hx => ⟨Int.emod_nonneg x (by omega), Int.emod_lt_of_pos x hx⟩
    cases ms with
    | cons k ms =>
      refine iteT ?_
      refine ⟨_, rfl, .inl ⟨b, _, _, _, rfl, rfl, .of hd1, a0 _ _, .inl ⟨g, _, 0, .int k, rfl, rfl, .of hl1, atI_nat (j := 0) rfl, ?_⟩⟩⟩
      refine ⟨_, rfl, _, rfl, k, m, rfl, rfl, hm, _, rfl, .inl ⟨b, _, _, _, rfl, rfl, .of hd1, a0 _ _, g, _, 0, 0, rfl, rfl, hl1, (by rw [List.map_cons, List.length_cons]; exact ixN_zero _), ?_⟩⟩
      have B2 : Vs H0 (upd (upd H p (.lst [])) g (.lst (V.int (k / m) :: ms.map V.int))) b g := by
        refine ⟨fun c x e => ?_, B.nb, B.ng, ⟨(k / m) :: ms, upd_same, hz⟩, ⟨st, ct, ?_⟩⟩
        · rw [upd_ne (ne_of_none e B.ng)]
          exact B1.sub c x e
        · rw [upd_ne B.bg]
          exact hd1
      have fin : ∀ H', Vs H0 H' b g → Q (.int (k.fmod m)) H' := fun H' B' => by
        rw [Int.fmod_eq_emod_of_nonneg k (by omega)]
        exact q _ H' (Int.emod_nonneg k (by omega)) (Int.emod_lt_of_pos k hm0) B'
      have hd2 : (upd (upd H p (.lst [])) g (.lst (V.int (k / m) :: ms.map V.int))) b = some (.lst (vatL g st ct)) := by
        rw [upd_ne B.bg]
        exact hd1
      refine ⟨fun σ H' => σ[1]? = some (some (.int m)) ∧ σ[3]? = some (some (.int k)) ∧ Vs H0 H' b g, ?_, ?_⟩
      · refine ⟨_, rfl, _, rfl, k, m, rfl, rfl, _, rfl, ?_⟩
        refine ite2 (fun _ => ?_) (fun _ => ?_)
        · refine ⟨_, rfl, .inl ⟨b, _, _, _, rfl, rfl, .of hd2, a0 _ _, .inl ⟨rfl, _, .of upd_same⟩, g, _, 0, 0, .int (k / m), rfl, rfl, upd_same, by decide, by decide, seqIx_zero _, rfl, rfl, rfl, ?_⟩⟩
          refine ⟨fun c x e => ?_, B.nb, B.ng, ⟨ms, upd_same, ?_⟩, ⟨st, ct, ?_⟩⟩
          · rw [upd_ne (ne_of_none e B.ng)]
            exact B2.sub c x e
          · rw [List.length_cons] at hz
            omega
          · rw [upd_ne B.bg]
            exact hd2
        · exact ⟨rfl, rfl, B2⟩
      · rintro σ H' ⟨e1, e5, B3⟩
        refine ⟨_, e5, .inl ⟨k, rfl, _, e1, k, m, rfl, rfl, by omega, ?_⟩⟩
        exact fin _ B3
    | nil =>
      refine iteF ?_
      refine ⟨_, rfl, .inl ⟨b, _, _, _, rfl, rfl, .of hd1, a2 _ _, ct, 1, rfl, rfl, _, rfl, b, _, 2, 2, rfl, rfl, hd1, rfl, ?_⟩⟩
      have B2 : Vs H0 (upd (upd H p (.lst [])) b (.lst (vatL g st (ct + 1)))) b g := by
        refine ⟨fun c x e => ?_, B.nb, B.ng, ⟨[], ?_, hz⟩, ⟨st, ct + 1, upd_same⟩⟩
        · rw [upd_ne (ne_of_none e B.nb)]
          exact B1.sub c x e
        · rw [upd_ne B.bg.symm]
          exact hl1
      have hd2 : (upd (upd H p (.lst [])) b (.lst (vatL g st (ct + 1)))) b = some (.lst (vatL g st (ct + 1))) := upd_same
      refine ⟨_, rfl, .inl ⟨b, _, _, _, rfl, rfl, .of hd2, a1 _ _, _, rfl, .inl ⟨b, _, _, _, rfl, rfl, .of hd2, a2 _ _, 2654435761, _, rfl, rfl, .inl ⟨by decide, by decide⟩, st, _, rfl, rfl, .inl ⟨_, rfl, _, 4294967291, rfl, rfl, (show (4294967291 : Int) ≠ 0 by decide), ?_⟩⟩⟩⟩
      rw [show ∀ x : Int, (fun i j : Int => V.int (i.fmod j)) x 4294967291 = V.int (x % 4294967291) from fun x => congrArg V.int (md x _ (by decide))]
      obtain ⟨l1, u1⟩ := lo (st + 2654435761 * (ct + 1)) 4294967291 (by decide)
      generalize (st + 2654435761 * (ct + 1)) % 4294967291 = f1 at l1 u1 ⊢
      refine ⟨_, rfl, _, rfl, f1, f1, rfl, rfl, .inl ⟨by omega, by omega⟩, _, rfl, .inl ⟨b, _, _, _, rfl, rfl, .of hd2, a2 _ _, 40503, _, rfl, rfl, .inl ⟨by decide, by decide⟩, _, _, rfl, rfl, _, 37, rfl, rfl, .inl ⟨_, rfl, _, 4294967279, rfl, rfl, (show (4294967279 : Int) ≠ 0 by decide), ?_⟩⟩⟩
      rw [show ∀ x : Int, (fun i j : Int => V.int (i.fmod j)) x 4294967279 = V.int (x % 4294967279) from fun x => congrArg V.int (md x _ (by decide))]
      obtain ⟨l2, u2⟩ := lo (f1 * f1 + 40503 * (ct + 1) + 37) 4294967279 (by decide)
      generalize (f1 * f1 + 40503 * (ct + 1) + 37) % 4294967279 = f2 at l2 u2 ⊢
      refine ⟨_, rfl, _, rfl, f2, f2, rfl, rfl, .inl ⟨by omega, by omega⟩, _, rfl, .inl ⟨b, _, _, _, rfl, rfl, .of hd2, a1 _ _, _, _, rfl, rfl, .inl ⟨_, rfl, _, 4294967231, rfl, rfl, (show (4294967231 : Int) ≠ 0 by decide), ?_⟩⟩⟩
      rw [show ∀ x : Int, (fun i j : Int => V.int (i.fmod j)) x 4294967231 = V.int (x % 4294967231) from fun x => congrArg V.int (md x _ (by decide))]
      generalize (f2 * f2 + st) % 4294967231 = f3
      refine ⟨_, rfl, f3, 256, rfl, rfl, ⟨by decide, by decide⟩, .inl ⟨_, rfl, _, rfl, _, m, rfl, rfl, by omega, ?_⟩⟩
      show Q (V.int ((f3 / 256).fmod m)) _
      rw [md _ m hm0]
      exact q _ _ (lo _ m hm0).1 (lo _ m hm0).2 B2
theorem ok__law_common (T : Txt K mg a) : FnOk P w K mg base CX0 1 a.f__law_common a.d__law_common ["near", "off"] (sp__law_common K) := by
  refine T._law_common.F.ok sc__law_common (fun vs H Q E h => ?_) (fun cdv A outer s H vs Q E hr h => ?_)
  · obtain ⟨_, _, rfl, _⟩ := h
    rfl
  · have hu := hu_of hr
    obtain ⟨x, y, rfl, hx, hy, q⟩ := h
    refine ⟨_, (pss_cons (ps_while PassesOwn.never (pt_cmpR op_ne (pv 1) pe_int (nomark _)) (pss_one (ps_par (i := 0) (j := 1) (by rfl) sc__law_common.nd rfl rfl (by decide) rfl rfl (pa_cons (pv 1) (pa_cons (pe_op op_modN (pe_callTy call_int1 (by rfl) T.b_int (by decide +kernel) (pa_cons (pv 0) pa_nil)) (pv 1)) pa_nil)) (by rfl))))
      (pss_one (ps_ret (pe_callB call_abs (by rfl) T.b_abs (by decide +kernel) (pa_cons (pv 0) pa_nil))))), ?_⟩
    refine ⟨fun m σ H' => ∃ u v : Nat, σ = [some (.int (u : Nat)), some (.int (v : Nat))] ∧ H = H' ∧ v = m ∧ Nat.gcd u v = Nat.gcd x y, ⟨_, x, y, rfl, rfl, rfl, rfl⟩, ?_⟩
    rintro m σ H' ⟨u, v, rfl, rfl, rfl, hd⟩
    refine ⟨_, rfl, rfl, _, rfl, ?_⟩
    by_cases hv : v = 0
    · subst hv
      refine iteF ⟨_, rfl, (u : Nat), rfl, ?_⟩
      have e : (if ((u : Nat) : Int) < 0 then -((u : Nat) : Int) else ((u : Nat) : Int)) = ((Nat.gcd x y : Nat) : Int) := by
        rw [if_neg (by omega), ← hd, Nat.gcd_zero_right]
      rw [e]
      exact q
    · rw [show (!decide (V.int (v : Nat) = V.int 0)) = true by
        rw [decide_eq_false fun z => hv (by have := V.int.inj z; omega)] <;> rfl]
      refine iteT ⟨fun σ H' => ∃ u' v' : Nat, σ = [some (.int (u' : Nat)), some (.int (v' : Nat))] ∧ H = H' ∧ v' < v ∧ Nat.gcd u' v' = Nat.gcd x y, ?_, ?_⟩
      · rintro σ H' ⟨u', v', rfl, rfl, h1, h2⟩
        exact ⟨v', h1, u', v', rfl, rfl, rfl, h2⟩
      refine ⟨_, rfl, _, rfl, .inl ⟨(u : Nat), rfl, _, rfl, (u : Nat), (v : Nat), rfl, rfl, by omega, ?_⟩⟩
      have e : ((u : Nat) : Int).fmod (v : Nat) = ((u % v : Nat) : Int) := by
        rw [Int.fmod_eq_emod_of_nonneg _ (by omega)] <;> rfl
      refine ⟨_, _, rfl, v, u % v, by rw [← e] <;> rfl, rfl, Nat.mod_lt _ (by omega), ?_⟩
      rw [← hd, Nat.gcd_comm u v, Nat.gcd_rec v u, Nat.gcd_comm]
theorem ok__law_astray (T : Txt K mg a) : FnOk P w K mg base CX0 1 a.f__law_astray a.d__law_astray ["mods", "rests", "number"] (sp__law_astray K) := by
  refine T._law_astray.F.ok sc__law_astray (fun vs H Q E h => ?_) (fun cdv A outer s H vs Q E hr h => ?_)
  · obtain ⟨_, _, _, _, _, rfl, _⟩ := h
    rfl
  · have hu := hu_of hr
    obtain ⟨t, p, ns, ws, x, rfl, F, q⟩ := h
    have hP := F.p
    have hl := F.w.len
    have ten := F.m.ten
    refine ⟨_, (pss_one (ps_ret (pe_callTy (show CallR _ _ (rTupS K) from call_tuple_of) (by rfl) T.b_tuple (by decide +kernel) (pa_cons (pe_lc (own := [("lane", 3), ("own", 4)]) rfl sc__law_astray.nd (show PI _ _ _ (iEnumT K _) from pi_enumT (by rfl) T.b_enumerate (pa_cons (pv 1) pa_nil)) (blkOk_by (N := ["mods", "rests", "number", "lane", "own"]) (sc := defScope s__law_astray) (by decide +kernel)) (fun _ _ _ _ _ => (show PG _ _ (gTup K 2 _) from pg_tup rfl (pgs_cons (pg_name (i := 3) sc__law_astray.nd rfl (by first | exact Or.inl rfl | exact Or.inr rfl)) (pgs_cons (pg_name (i := 4) sc__law_astray.nd rfl (by first | exact Or.inl rfl | exact Or.inr rfl)) pgs_nil)))) (fun _ _ _ _ _ => (pts_one (PW.pt (pw_and (pt_cmpR op_notN (pv 4) pe_non (nomark _)) (pw_and1 (pt_cmpR op_ne (pe_op op_modN (pe_callTy call_int1 (by rfl) T.b_int (by decide +kernel) (pa_cons (pv 2) pa_nil)) (pe_ix (show IxR _ (rIx K) from ix_seq) (pv 0) (pv 3) (fun _ _ => rfl))) (pv 4) (nomark _))))))) (fun _ _ _ _ _ => (pv 3))) pa_nil)))), ?_⟩
    refine ⟨_, rfl, p, _, rfl, hP, fun D hD => ?_⟩
    refine lc_reckon (walk_enumT (xs := ws.map vO)) (zs := List.range ws.length) (by rw [List.length_range, List.length_map]) (fun i => (!decide (vO (ws.getD i none) = .non)) && !decide (V.int (x % ns.getD i 0) = vO (ws.getD i none))) (fun i => .int (i : Nat)) (by rw [List.length_range]; omega) hD (fun H2 s => Sx.Same.tup s hP) ?_ ?_
    · rintro i z v H2 H3 hz s2 ⟨T, y1, y2, rfl, nT, rfl, e1, e2⟩
      have hi := (List.getElem?_eq_some_iff.mp hz).1
      rw [List.length_range] at hi
      obtain rfl : i = z := by
        rw [List.getElem?_range hi] at hz
        exact Option.some.inj hz
      obtain rfl : V.int (i : Nat) = y1 := Option.some.inj e1
      have ew : ws[i]? = some (ws.getD i none) := getD_some none hi
      obtain rfl : vO (ws.getD i none) = y2 := by
        have e3 : (ws.map vO)[i]? = some y2 := e2
        rw [List.getElem?_map, ew] at e3
        exact Option.some.inj e3
      generalize ho : ws.getD i none = o
      have sT : Same H2 (upd H2 T (.tup [.int (i : Nat), vO o])) := same_new nT
      have mi := F.m.mod _ (List.mem_of_getElem? (getD_some 0 (show i < ns.length by omega)))
      have ni : atI (ns.map V.int) (i : Nat) = some (.int (ns.getD i 0)) := atI_nat (by rw [List.getElem?_map, getD_some 0 (show i < ns.length by omega)] <;> rfl)
      refine ⟨sT, _, fun Q q => ⟨T, _, rfl, .of upd_same, rfl, _, _, rfl, _, _, rfl, rfl, q⟩, rfl, fun Q q => ?_, fun _ H4 Q _ s4 q => ⟨_, rfl, q _ (Same.refl _)⟩⟩
      have q' : Q ((!decide (vO o = .non)) && !decide (V.int (x % ns.getD i 0) = vO o)) (upd H2 T (.tup [.int (i : Nat), vO o])) := by
        rw [← ho] at q ⊢
        exact q _ (Same.refl _)
      refine ⟨_, rfl, rfl, _, rfl, ?_⟩
      cases o with
      | none => exact iteF q'
      | some k =>
        refine iteT ⟨_, rfl, .inl ⟨x, rfl, _, rfl, _, rfl, .inr (.inl ⟨t, _, _, _, rfl, rfl, Sx.Same.tup (s2.trans sT) F.t, ni, x, _, rfl, rfl, by omega, _, rfl, rfl, _, rfl, ?_⟩)⟩⟩
        rw [show (fun i j : Int => V.int (i.fmod j)) x (ns.getD i 0) = V.int (x % ns.getD i 0) from congrArg V.int (Int.fmod_eq_emod_of_nonneg _ (by omega))]
        exact q'
    intro H2 s2 e2
    refine ⟨D, _, rfl, .inl ⟨.of e2, fun l nl => ?_⟩⟩
    exact q l _ (s2.trans (same_new nl)) (s2.free nl) upd_same
theorem ok_clashes (T : Txt K mg a) : FnOk P w K mg base CX0 2 a.f_clashes a.d_clashes ["machine", "word"] (sp_clashes K) := by
  have G_speaking : FnOk P w K mg base CX0 1 a.f_speaking a.d_speaking ["word"] (sp_speaking K) := ok_speaking T
  have G_is_clash : FnOk P w K mg base CX0 1 a.f_is_clash a.d_is_clash ["machine", "word", "i", "j"] (sp_is_clash K) := ok_is_clash T
  refine T.clashes.F.ok sc_clashes (fun vs H Q E h => ?_) (fun cdv A outer s H vs Q E hr h => ?_)
  · obtain ⟨_, _, _, _, rfl, _⟩ := h
    rfl
  · have hu := hu_of hr
    obtain ⟨t, p, ns, ws, rfl, F, q⟩ := h
    have hl := F.w.len
    have ten := F.m.ten
    refine ⟨_, (pss_cons (ps_set (i := 2) sc_clashes.nd rfl (by first | exact Or.inl rfl | exact Or.inr rfl) (pe_call G_speaking hr (by rfl) T.speaking.m T.speaking.F.kp T.speaking.b .nil pass0 (pa_cons (pv 1) pa_nil)))
      (pss_one (ps_ret (pe_callTy (show CallR _ _ (rTupS K) from call_tuple_of) (by rfl) T.b_tuple (by decide +kernel) (pa_cons (pe_lc2 (own := [("i", 3), ("j", 4)]) (vs1 := [4]) rfl sc_clashes.nd (show PI _ _ _ (iSeq K _) from pi_seq (pv 2)) (blkOk_by (N := ["machine", "word", "lanes", "i", "j"]) (sc := defScope s_clashes) (by decide +kernel)) (by decide) (fun _ _ _ _ _ => (pg_name (i := 3) sc_clashes.nd rfl (by first | exact Or.inl rfl | exact Or.inr rfl))) (fun _ _ _ _ _ => pts_nil) (fun _ _ _ _ _ => (show PI _ _ _ (iSeq K _) from pi_seq (pv 2))) (fun _ _ _ _ _ => (pg_name (i := 4) sc_clashes.nd rfl (by first | exact Or.inl rfl | exact Or.inr rfl))) (fun _ _ _ _ _ => (pts_one (PW.pt (pw_and (pt_cmpR op_lt (pv 3) (pv 4) (nomark _)) (pw_and1 (pt_val (pe_call G_is_clash hr (by rfl) T.is_clash.m T.is_clash.F.kp T.is_clash.b .nil pass0 (pa_cons (pv 0) (pa_cons (pv 1) (pa_cons (pv 3) (pa_cons (pv 4) pa_nil))))))))))) (fun _ _ _ _ _ => (pe_tup (pa_cons (pv 3) (pa_cons (pv 4) pa_nil))))) pa_nil))))), ?_⟩
    refine ⟨_, rfl, p, ws, rfl, F.p, by omega, fun l H1 s1 nl el => ?_⟩
    have F1 := F.same s1
    have slen : (spk ws).length ≤ 10 := (lanes_small (by omega)).2
    refine .inr ⟨_, rfl, l, rfl, ⟨_, .of el⟩, fun D hD => ?_⟩
    refine lc2_pairs (K := K) (p := l) (S := spk ws) (fun i j => decide ((i : Int) < (j : Nat)) && cl ns ws i j) (.of el) (by omega) hD (fun _ => rfl) (fun _ _ => rfl) ?_ ?_ ?_ ?_
    · intro x H2 R s2 hR
      exact .inr ⟨_, rfl, l, rfl, ⟨_, .of (s2 _ _ el)⟩, hR⟩
    · intro i j H2 Q2 hi hj s2 q2
      refine ⟨_, rfl, _, rfl, _, _, rfl, rfl, _, rfl, ?_⟩
      by_cases h : (i : Int) < (j : Nat)
      · rw [decide_eq_true h] at q2 ⊢
        rw [Bool.true_and] at q2
        refine iteT ⟨_, rfl, _, rfl, _, rfl, _, rfl, t, p, ns, ws, i, j, rfl, F1.same s2, hi, hj, _, rfl, ?_⟩
        exact q2
      · rw [decide_eq_false h] at q2 ⊢
        rw [Bool.false_and] at q2
        exact iteF q2
    · intro i j H2 Q2 q2
      exact ⟨_, rfl, _, rfl, by show 2 ≤ sizeLine; decide, fun T nT => q2 T nT⟩
    intro H2 as s2 e2 pr
    refine ⟨D, _, rfl, .inl ⟨.of e2, fun z nz => ?_⟩⟩
    exact q z _ (s1.trans (s2.trans (same_new nz))) ((s1.trans s2).free nz) ⟨as, upd_same, paired_same (fun a x r => same_new nz _ _ r) pr⟩
theorem ok__law_pick (T : Txt K mg a) : FnOk P w K mg base CX0 2 a.f__law_pick a.d__law_pick ["vat", "items"] (sp__law_pick K) := by
  have G__law_draw : FnOk P w K mg base CX0 1 a.f__law_draw a.d__law_draw ["vat", "most"] (sp__law_draw K) := ok__law_draw T
  refine T._law_pick.F.ok sc__law_pick (fun vs H Q E h => ?_) (fun cdv A outer s H vs Q E hr h => ?_)
  · obtain ⟨_, _, _, _, _, rfl, _⟩ := h
    rfl
  · have hu := hu_of hr
    obtain ⟨H0, b, g, p, xs, rfl, B, hs, hne, hlen, q⟩ := h
    have hs' : SqL K H p xs ∨ SqT K H p xs := hs.imp (fun z => L2.Same.seq B.sub z) (fun z => Sx.Same.tup B.sub z)
    have hpos : 0 < xs.length := List.length_pos_iff.mpr hne
    refine ⟨_, (pss_one (ps_ret (pe_ix (show IxR _ (rIx K) from ix_seq) (pv 1) (pe_call G__law_draw hr (by rfl) T._law_draw.m T._law_draw.F.kp T._law_draw.b .nil pass0 (pa_cons (pv 0) (pa_cons (pe_callB (show CallR _ _ (rLenS K) from call_len_seq) (by rfl) T.b_len (by decide +kernel) (pa_cons (pv 1) pa_nil)) pa_nil))) (fun _ _ => rfl)))), ?_⟩
    refine ⟨_, rfl, _, rfl, _, rfl, p, xs, rfl, hs', H0, b, g, _, rfl, B, small_of (by omega) (by omega), fun r H' lo hi B' => ?_⟩
    obtain ⟨i, rfl⟩ : ∃ i : Nat, r = (i : Int) := ⟨r.toNat, by omega⟩
    have hi' : i < xs.length := by omega
    have hx : xs[i]? = some xs[i] := List.getElem?_eq_getElem hi'
    rcases hs with hs | hs
    · exact .inl ⟨p, xs, _, _, rfl, rfl, L2.Same.seq B'.sub hs, atI_nat hx, q i _ H' hx B'⟩
    · exact .inr (.inl ⟨p, xs, _, _, rfl, rfl, Sx.Same.tup B'.sub hs, atI_nat hx, q i _ H' hx B'⟩)
theorem ok__law_mixed (T : Txt K mg a) : FnOk P w K mg base CX0 2 a.f__law_mixed a.d__law_mixed ["vat", "items"] (sp__law_mixed K) := by
  have G__law_draw : FnOk P w K mg base CX0 1 a.f__law_draw a.d__law_draw ["vat", "most"] (sp__law_draw K) := ok__law_draw T
  refine T._law_mixed.F.ok sc__law_mixed (fun vs H Q E h => ?_) (fun cdv A outer s H vs Q E hr h => ?_)
  · obtain ⟨_, _, _, _, _, rfl, _⟩ := h
    rfl
  · have hu := hu_of hr
    obtain ⟨H0, b, g, a, ns, rfl, B, hs, hlen, q⟩ := h
    have hs' : SqL K H a (ns.map V.int) ∨ SqT K H a (ns.map V.int) := hs.imp (fun z => L2.Same.seq B.sub z) (fun z => Sx.Same.tup B.sub z)
    refine ⟨_, (pss_cons (ps_par (i := 2) (j := 3) (by rfl) sc__law_mixed.nd rfl rfl (by decide) rfl rfl (pa_cons (pe_callTy (show CallR _ _ (rListS K) from call_list_of) (by rfl) T.b_list (by decide +kernel) (pa_cons (pv 1) pa_nil)) (pa_cons (pe_lst pa_nil) pa_nil)) (by rfl))
      (pss_cons (ps_while PassesOwn.never (pt_cmpR (show OpR _ _ (rNeD K) from op_neD hr.units) (pv 2) (pe_lst pa_nil) (nomark _)) (pss_one (ps_expr (show PE _ _ (tBM K "list" _ _ _) from pe_bm PySem.F.plainAttrs_list PySem.F.slot_list_append PySem.F.type_list_append mt_append (pv 3) (pa_cons (show PE _ _ (tBM K "list" _ _ _) from pe_bm PySem.F.plainAttrs_list PySem.F.slot_list_pop PySem.F.type_list_pop mt_popAt (pv 2) (pa_cons (pe_call G__law_draw hr (by rfl) T._law_draw.m T._law_draw.F.kp T._law_draw.b .nil pass0 (pa_cons (pv 0) (pa_cons (pe_callB (show CallR _ _ (rLenS K) from call_len_seq) (by rfl) T.b_len (by decide +kernel) (pa_cons (pv 2) pa_nil)) pa_nil))) pa_nil)) pa_nil)))))
      (pss_one (ps_ret (pv 3))))), ?_⟩
    refine ⟨_, rfl, a, _, rfl, hs', fun r nr => ⟨Nat.zero_le _, fun f nf => ⟨_, _, rfl, ?_⟩⟩⟩
    have nr0 := B.sub.free nr
    have B1 := B.new (o := .lst (ns.map V.int)) nr
    have nf1 := B1.sub.free nf
    have B2 := B1.new (o := .lst []) nf
    have rf : r ≠ f := ne_of_none (upd_same (H := H) (a := r) (o := .lst (ns.map V.int))) nf
    have nf0 : H0 f = none := by
      rw [upd_ne rf.symm] at nf1
      exact nf1
    have bf := B1.pb nf
    have gf := B1.pg nf
    -- what is known: r, f and nothing else of ours
    refine ⟨fun m σ H' => ∃ (xs ys : List Int) (F : Hp), σ = [some (.ref b), some (.ref a), some (.ref r), some (.ref f)] ∧ m = xs.length ∧ (xs ++ ys).Perm ns ∧ Same H0 F ∧ F r = some (.lst (xs.map V.int)) ∧ F f = some (.lst (ys.map V.int)) ∧ Vs F H' b g,
      ⟨_, ns, [], _, rfl, rfl, by rw [List.append_nil], (same_new nr0).trans (same_new nf1), by rw [upd_ne rf]; exact upd_same, upd_same, B2⟩, ?_⟩
    rintro m σ H1 ⟨xs, ys, F, rfl, rfl, pm, sF, er, ef, B3⟩
    have hl : xs.length ≤ 1000 := by
      have := pm.length_eq
      rw [List.length_append] at this
      omega
    have hl2 : ys.length ≤ 1000 := by
      have := pm.length_eq
      rw [List.length_append] at this
      omega
    refine ⟨_, rfl, Nat.zero_le _, fun p np => ?_⟩
    have B4 := B3.more (same_new (o := .lst []) np)
    have er4 := B4.sub _ _ er
    refine ⟨_, _, .lst (.of er4) (dpa_ints xs), .lst (.of upd_same) .nil, shaped_ints xs, shaped_ints [], _, rfl, ?_⟩
    rw [eqv_nil_ints]
    generalize upd H1 p (.lst []) = H2 at B4 er4 ⊢
    cases xs with
    | nil =>
      refine iteF ⟨_, rfl, q ys f H2 (by rw [List.nil_append] at pm; exact pm) nf0 (B4.sub _ _ ef) ?_ ?_ (B4.less sF)⟩
      · exact bf
      · exact gf
    | cons x xs =>
      refine iteT ⟨fun σ H' => ∃ (xs' ys' : List Int) (F : Hp), σ = [some (.ref b), some (.ref a), some (.ref r), some (.ref f)] ∧ xs'.length < (x :: xs).length ∧ (xs' ++ ys').Perm ns ∧ Same H0 F ∧ F r = some (.lst (xs'.map V.int)) ∧ F f = some (.lst (ys'.map V.int)) ∧ Vs F H' b g, ?_, ?_⟩
      · rintro σ H' ⟨xs', ys', F, h1, h2, h3, h4, h5, h6, h7⟩
        exact ⟨xs'.length, h2, xs', ys', F, h1, rfl, h3, h4, h5, h6, h7⟩
      refine ⟨_, rfl, .inl ⟨rfl, _, .of (B4.sub _ _ ef)⟩, _, rfl, .inl ⟨rfl, _, .of er4⟩, _, rfl, _, rfl, r, _, rfl, .inl (.of er4), F, b, g, _, rfl, B4, small_of (by rw [List.length_map, List.length_cons]; omega) (by rw [List.length_map]; omega), fun k H3 k0 k1 B5 => ?_⟩
      rw [List.length_map] at k1
      have hk : k.toNat < (x :: xs).length := by omega
      have e5 := B5.sub _ _ er
      have hx : (x :: xs)[k.toNat]? = some ((x :: xs)[k.toNat]) := List.getElem?_eq_getElem hk
      refine ⟨r, _, k, k.toNat, .int ((x :: xs)[k.toNat]), rfl, rfl, e5, by omega, by omega, ?_, ?_, ?_⟩
      · rw [List.length_map]
        exact PySem.StrLaws.seqIndex_nonneg k0 (by omega)
      · rw [List.getElem?_map, hx] <;> rfl
      have B6 := B5.put (o := .lst (((x :: xs).map V.int).eraseIdx k.toNat)) er
      have ef6 : (upd F r (.lst (((x :: xs).map V.int).eraseIdx k.toNat))) f = some (.lst (ys.map V.int)) := by
        rw [upd_ne rf.symm]
        exact ef
      have B7 := B6.put (o := .lst (ys.map V.int ++ [.int ((x :: xs)[k.toNat])])) ef6
      refine ⟨f, _, _, rfl, rfl, B6.sub _ _ ef6, by rw [List.length_map]; exact small1000 hl2, ?_⟩
      refine ⟨(x :: xs).eraseIdx k.toNat, ys ++ [(x :: xs)[k.toNat]], _, rfl, ?_, ?_, same_put (same_put sF nr0) nf0, ?_, ?_, B7⟩
      · rw [List.length_eraseIdx_of_lt hk]
        exact Nat.sub_lt (Nat.succ_pos _) (by decide)
      · refine List.Perm.trans ?_ pm
        have p1 : ((x :: xs)[k.toNat] :: (x :: xs).eraseIdx k.toNat).Perm (x :: xs) := Vat.perm_erase _ _ hk
        refine List.Perm.trans ?_ (List.Perm.append_right ys p1)
        rw [List.cons_append, ← List.append_assoc]
        exact (List.perm_append_singleton _ _)
      · rw [upd_ne rf, upd_same]
        congr 2
        exact Vat.map_erase _ _ _
      · rw [upd_same, List.map_append] <;> rfl
theorem ok__law_far (T : Txt K mg a) : FnOk P w K mg base CX0 2 a.f__law_far a.d__law_far ["vat", "figures"] (sp__law_far K) := by
  have G__law_draw : FnOk P w K mg base CX0 1 a.f__law_draw a.d__law_draw ["vat", "most"] (sp__law_draw K) := ok__law_draw T
  refine T._law_far.F.ok sc__law_far (fun vs H Q E h => ?_) (fun cdv A outer s H vs Q E hr h => ?_)
  · obtain ⟨_, _, _, _, rfl, _⟩ := h
    rfl
  · have hu := hu_of hr
    obtain ⟨H0, b, g, n, rfl, B, hn, q⟩ := h
    have dr : ∀ m : Int, 0 < m → m < 2 ^ 60 → Small m := fun m h0 h1 => small_of h0 h1
    refine ⟨_, (pss_cons (ps_set (i := 2) sc__law_far.nd rfl (by first | exact Or.inl rfl | exact Or.inr rfl) pe_int)
      (pss_cons (ps_for PassesOwn.never rfl (pi_range1 rfl T.b_range (pa_cons (pe_call G__law_draw hr (by rfl) T._law_draw.m T._law_draw.F.kp T._law_draw.b .nil pass0 (pa_cons (pv 0) (pa_cons (pe_op op_add (pv 1) pe_int) pa_nil))) pa_nil)) (pg_name (i := 3) sc__law_far.nd rfl (by first | exact Or.inl rfl | exact Or.inr rfl)) (pss_one (ps_set (i := 2) sc__law_far.nd rfl (by first | exact Or.inl rfl | exact Or.inr rfl) (pe_op op_add (pe_op op_mul pe_int (pv 2)) (pe_call G__law_draw hr (by rfl) T._law_draw.m T._law_draw.F.kp T._law_draw.b .nil pass0 (pa_cons (pv 0) (pa_cons pe_int pa_nil)))))))
      (pss_one (ps_ret (pe_cut (pe_ifExp (pt_cmpR op_gt (pe_call G__law_draw hr (by rfl) T._law_draw.m T._law_draw.F.kp T._law_draw.b .nil pass0 (pa_cons (pv 0) (pa_cons pe_int pa_nil))) pe_int (nomark _)) (pv 2) (pe_op op_sub pe_int (pv 2)))))))), ?_⟩
    refine ⟨_, rfl, _, rfl, _, 1, rfl, rfl, H0, b, g, _, rfl, B, dr _ (by omega) (by omega), fun r H1 r0 r1 B1 => ?_⟩
    obtain ⟨r, rfl⟩ : ∃ k : Nat, r = (k : Int) := ⟨r.toNat, by omega⟩
    refine ⟨r, rfl, by omega, by omega, for_range (lo := 0) (n := r) (fun i σ H' => ∃ (x : Int) (v3 : Option V), σ = [some (.ref b), some (.int (n : Nat)), some (.int x), v3] ∧ 0 ≤ x ∧ x < 10 ^ i ∧ Vs H0 H' b g)
      ⟨0, none, rfl, by decide, by decide, B1⟩ ?_ ?_⟩
    · rintro i σ H2 hi ⟨x, v3, rfl, x0, x1, B2⟩
      refine ⟨_, rfl, 10, x, rfl, rfl, .inl ⟨by decide, by decide⟩, _, rfl, H0, b, g, 10, rfl, B2, dr _ (by decide) (by decide), fun z H3 z0 z1 B3 => ⟨_, _, rfl, rfl, ?_⟩⟩
      refine ⟨_, _, rfl, by omega, ?_, B3⟩
      rw [Int.pow_succ]
      omega
    rintro σ H2 ⟨x, v3, rfl, x0, x1, B2⟩
    have hp : (10 : Int) ^ r ≤ 10 ^ n := by
      have e : ∀ k : Nat, (10 : Int) ^ k = ((10 ^ k : Nat) : Int) := fun k => (Int.natCast_pow 10 k).symm
      rw [e, e]
      exact Int.ofNat_le.mpr (Nat.pow_le_pow_right (by decide) (by omega))
    have e : ((10 ^ n : Nat) : Int) = (10 : Int) ^ n := Int.natCast_pow 10 n
    refine ⟨fun v H' => ∃ y : Int, v = .int y ∧ y.natAbs < 10 ^ n ∧ Vs H0 H' b g, ?_, ?_⟩
    · refine ⟨_, rfl, H0, b, g, 3, rfl, B2, dr _ (by decide) (by decide), fun z H3 z0 z1 B3 => ⟨_, _, rfl, rfl, _, rfl, ite2 (fun _ => ?_) (fun _ => ?_)⟩⟩
      · exact ⟨_, rfl, x, rfl, by omega, B3⟩
      · exact ⟨_, rfl, 0, x, rfl, rfl, 0 - x, rfl, by omega, B3⟩
    rintro v H3 ⟨y, rfl, hy, B3⟩
    exact q y H3 hy B3
theorem ok__law_span (T : Txt K mg a) : FnOk P w K mg base CX0 2 a.f__law_span a.d__law_span ["mods", "these"] (sp__law_span K) := by
  have G__law_common : FnOk P w K mg base CX0 1 a.f__law_common a.d__law_common ["near", "off"] (sp__law_common K) := ok__law_common T
  refine T._law_span.F.ok sc__law_span (fun vs H Q E h => ?_) (fun cdv A outer s H vs Q E hr h => ?_)
  · obtain ⟨_, _, _, _, rfl, _⟩ := h
    rfl
  · have hu := hu_of hr
    obtain ⟨t, a, ns, L, rfl, hT, hA, hL, hlen, hm, q⟩ := h
    refine ⟨_, (pss_cons (ps_set (i := 2) sc__law_span.nd rfl (by first | exact Or.inl rfl | exact Or.inr rfl) pe_int)
      (pss_cons (ps_for PassesOwn.never rfl (show PI _ _ _ (iSeq K _) from pi_seq (pv 1)) (pg_name (i := 3) sc__law_span.nd rfl (by first | exact Or.inl rfl | exact Or.inr rfl)) (pss_one (ps_set (i := 2) sc__law_span.nd rfl (by first | exact Or.inl rfl | exact Or.inr rfl) (pe_op op_fdivW (pe_op op_mul (pv 2) (pe_ix (show IxR _ (rIx K) from ix_seq) (pv 0) (pv 3) (fun _ _ => rfl))) (pe_call G__law_common hr (by rfl) T._law_common.m T._law_common.F.kp T._law_common.b .nil pass0 (pa_cons (pv 2) (pa_cons (pe_ix (show IxR _ (rIx K) from ix_seq) (pv 0) (pv 3) (fun _ _ => rfl)) pa_nil)))))))
      (pss_one (ps_ret (pv 2))))), ?_⟩
    refine .inl ⟨_, rfl, a, rfl, ⟨_, hA⟩, for_list (K := K) (a := a) (xs := nI L) (fun i σ H' => ∃ v3 : Option V, σ = [some (.ref t), some (.ref a), some (.int ((spanN ns (L.take i) : Nat) : Int)), v3] ∧ H = H')
      ⟨none, rfl, rfl⟩ (fun i σ H' _ ⟨_, _, e⟩ => by rw [← e]; exact hA) ?_ ?_⟩
    · rintro i x σ H' hx ⟨v3, rfl, rfl⟩
      have hi : i < L.length := by
        have := (List.getElem?_eq_some_iff.mp hx).1
        unfold nI at this
        rwa [List.length_map] at this
      have e : L[i]? = some (L.getD i 0) := getD_some 0 hi
      unfold nI at hx
      rw [List.getElem?_map, e] at hx
      obtain rfl := Option.some.inj hx
      have hb := hL _ (List.mem_of_getElem? e)
      have hs := span_succ ns L hi
      have sp := span_pos hm (L.take i) (fun j hj => hL j (List.mem_of_mem_take hj)) (by rw [List.length_take]; omega)
      generalize L.getD i 0 = k at *
      generalize spanN ns (L.take i) = S at *
      have mi := hm.mod _ (List.mem_of_getElem? (getD_some 0 hb))
      have ni : atI (ns.map V.int) (k : Nat) = some (.int (ns.getD k 0)) := atI_nat (by rw [List.getElem?_map, getD_some 0 hb] <;> rfl)
      obtain ⟨m, hmm⟩ : ∃ m : Nat, ns.getD k 0 = (m : Int) := ⟨(ns.getD k 0).toNat, by omega⟩
      rw [hmm] at mi ni hs
      have hm2 : ((m : Nat) : Int).natAbs = m := rfl
      rw [hm2] at hs
      have gpos : 0 < Nat.gcd S m := Nat.gcd_pos_of_pos_right _ (by omega)
      have gle : Nat.gcd S m ≤ m := Nat.gcd_le_right _ (by omega)
      refine ⟨_, rfl, _, rfl, _, rfl, .inr (.inl ⟨t, _, _, _, rfl, rfl, hT, ni, _, (m : Nat), rfl, rfl, .inr ⟨by omega, by omega⟩, ?_⟩)⟩
      refine ⟨_, rfl, _, rfl, _, rfl, .inr (.inl ⟨t, _, _, _, rfl, rfl, hT, ni, S, m, rfl, Nat.lt_trans sp.2 (by decide +kernel), Nat.lt_of_le_of_lt (show m ≤ 1000000 by omega) (by decide +kernel), ?_⟩)⟩
      refine ⟨_, ((Nat.gcd S m : Nat) : Int), rfl, rfl, small_of (by omega) (by omega), ?_⟩
      refine ⟨some (.int (k : Nat)), ?_, rfl⟩
      rw [hs]
      have e3 : ((S : Nat) : Int) * (m : Nat) / ((Nat.gcd S m : Nat) : Int) = ((Nat.lcm S m : Nat) : Int) := by
        unfold Nat.lcm
        rw [← Int.natCast_mul] <;> rfl
      rw [← e3] <;> rfl
    rintro σ H' ⟨v3, rfl, rfl⟩
    refine ⟨_, rfl, ?_⟩
    rw [List.take_of_length_le (by unfold nI; rw [List.length_map]; exact Nat.le_refl _)]
    exact q
theorem ok__law_pairs (T : Txt K mg a) : FnOk P w K mg base CX0 2 a.f__law_pairs a.d__law_pairs ["mods", "rests"] (sp__law_pairs K) := by
  have G__law_common : FnOk P w K mg base CX0 1 a.f__law_common a.d__law_common ["near", "off"] (sp__law_common K) := ok__law_common T
  refine T._law_pairs.F.ok sc__law_pairs (fun vs H Q E h => ?_) (fun cdv A outer s H vs Q E hr h => ?_)
  · obtain ⟨_, _, _, _, rfl, _⟩ := h
    rfl
  · have hu := hu_of hr
    obtain ⟨t, p, ns, ws, rfl, F, q⟩ := h
    have hP := F.p
    have hl := F.w.len
    have ten := F.m.ten
    refine ⟨_, (pss_cons (ps_par (i := 2) (j := 3) (by rfl) sc__law_pairs.nd rfl rfl (by decide) rfl rfl (pa_cons (pe_lc (own := [("lane", 7), ("own", 8)]) rfl sc__law_pairs.nd (show PI _ _ _ (iEnumT K _) from pi_enumT (by rfl) T.b_enumerate (pa_cons (pv 1) pa_nil)) (blkOk_by (N := ["mods", "rests", "speak", "found", "at", "near", "two", "lane", "own"]) (sc := defScope s__law_pairs) (by decide +kernel)) (fun _ _ _ _ _ => (show PG _ _ (gTup K 2 _) from pg_tup rfl (pgs_cons (pg_name (i := 7) sc__law_pairs.nd rfl (by first | exact Or.inl rfl | exact Or.inr rfl)) (pgs_cons (pg_name (i := 8) sc__law_pairs.nd rfl (by first | exact Or.inl rfl | exact Or.inr rfl)) pgs_nil)))) (fun _ _ _ _ _ => (pts_one (pt_cmpR op_notN (pv 8) pe_non (nomark _)))) (fun _ _ _ _ _ => (pv 7))) (pa_cons (pe_lst pa_nil) pa_nil)) (by rfl))
      (pss_cons (ps_for PassesOwn.never rfl (show PI _ _ _ (iEnum K _) from pi_enum (by rfl) T.b_enumerate (pa_cons (pv 2) pa_nil)) (show PG _ _ (gTup K 2 _) from pg_tup rfl (pgs_cons (pg_name (i := 4) sc__law_pairs.nd rfl (by first | exact Or.inl rfl | exact Or.inr rfl)) (pgs_cons (pg_name (i := 5) sc__law_pairs.nd rfl (by first | exact Or.inl rfl | exact Or.inr rfl)) pgs_nil))) (pss_one (ps_for PassesOwn.never rfl (show PI _ _ _ (iSeq K _) from pi_seq (pe_slice (show SlR _ (rSlL K) from sl_list) (pv 2) (po_some (pe_op op_add (pv 4) pe_int)) po_none)) (pg_name (i := 6) sc__law_pairs.nd rfl (by first | exact Or.inl rfl | exact Or.inr rfl)) (pss_one (ps_if (pt_cmpR op_ne (pe_op op_modN (pe_callTy call_int1 (by rfl) T.b_int (by decide +kernel) (pa_cons (pe_op op_sub (pe_ix (show IxR _ (rIx K) from ix_seq) (pv 1) (pv 5) (fun _ _ => rfl)) (pe_ix (show IxR _ (rIx K) from ix_seq) (pv 1) (pv 6) (fun _ _ => rfl))) pa_nil)) (pe_call G__law_common hr (by rfl) T._law_common.m T._law_common.F.kp T._law_common.b .nil pass0 (pa_cons (pe_ix (show IxR _ (rIx K) from ix_seq) (pv 0) (pv 5) (fun _ _ => rfl)) (pa_cons (pe_ix (show IxR _ (rIx K) from ix_seq) (pv 0) (pv 6) (fun _ _ => rfl)) pa_nil)))) pe_int (nomark _)) (pss_one (ps_expr (show PE _ _ (tBM K "list" _ _ _) from pe_bm PySem.F.plainAttrs_list PySem.F.slot_list_append PySem.F.type_list_append mt_append (pv 3) (pa_cons (pe_tup (pa_cons (pv 5) (pa_cons (pv 6) pa_nil))) pa_nil)))) pss_nil)))))
      (pss_one (ps_ret (pe_callTy (show CallR _ _ (rTupS K) from call_tuple_of) (by rfl) T.b_tuple (by decide +kernel) (pa_cons (pv 3) pa_nil)))))), ?_⟩
    refine ⟨_, rfl, p, _, rfl, hP, fun D hD => ?_⟩
    refine lc_reckon (walk_enumT (xs := ws.map vO)) (zs := List.range ws.length) (by rw [List.length_range, List.length_map]) (fun i => !decide (vO (ws.getD i none) = .non)) (fun i => .int (i : Nat)) (by rw [List.length_range]; omega) hD (fun H2 s => Sx.Same.tup s hP) ?_ ?_
    · rintro i z x H2 H3 hz s2 ⟨T, y1, y2, rfl, nT, rfl, e1, e2⟩
      have hi := (List.getElem?_eq_some_iff.mp hz).1
      rw [List.length_range] at hi
      obtain rfl : i = z := by
        rw [List.getElem?_range hi] at hz
        exact Option.some.inj hz
      obtain rfl : V.int (i : Nat) = y1 := Option.some.inj e1
      have ew : ws[i]? = some (ws.getD i none) := getD_some none hi
      obtain rfl : vO (ws.getD i none) = y2 := by
        have e3 : (ws.map vO)[i]? = some y2 := e2
        rw [List.getElem?_map, ew] at e3
        exact Option.some.inj e3
      generalize ho : ws.getD i none = o
      have sT : Same H2 (upd H2 T (.tup [.int (i : Nat), vO o])) := same_new nT
      refine ⟨sT, _, fun Q q => ⟨T, _, rfl, .of upd_same, rfl, _, _, rfl, _, _, rfl, rfl, q⟩, rfl, fun Q q => ?_, fun _ H4 Q _ s4 q => ⟨_, rfl, q _ (Same.refl _)⟩⟩
      have q' : Q (!decide (vO o = .non)) (upd H2 T (.tup [.int (i : Nat), vO o])) := by
        rw [← ho] at q ⊢
        exact q _ (Same.refl _)
      exact ⟨_, rfl, rfl, _, rfl, q'⟩
    intro H2 s2 e2
    have e2 : H2 D = some (.lst (nI (spk ws))) := e2
    have slen : (spk ws).length ≤ 10 := (lanes_small (by omega)).2
    have srt := spk_sorted ws
    refine ⟨Nat.zero_le _, fun f nf => ⟨_, _, rfl, ?_⟩⟩
    have s3 := same_new (o := .lst []) nf
    have nHf : H f = none := s2.free nf
    have ef : (upd H2 f (.lst [])) f = some (.lst ([].map V.ref)) := upd_same
    have eD := s3 _ _ e2
    have sA := s2.trans s3
    generalize upd H2 f (.lst []) = HA at ef eD sA ⊢
    clear s3 nf e2 s2
    refine ⟨_, rfl, D, _, rfl, .of eD, ?_⟩
    refine for_it (walk_enum (xs := nI (spk ws))) (fun i σ H' => ∃ (v4 v5 v6 : Option V) (as : List Addr), σ = [some (.ref t), some (.ref p), some (.ref D), some (.ref f), v4, v5, v6, none, none] ∧ Same H H' ∧ H' D = some (.lst (nI (spk ws))) ∧ H' f = some (.lst (as.map V.ref)) ∧ Paired (PairAt H') as (((spk ws).take i).flatMap (row ns ws (spk ws))))
      ⟨none, none, none, [], rfl, sA, eD, ef, .nil⟩ (fun i σ H' _ ⟨_, _, _, _, _, _, e, _⟩ => .of e) ?_ ?_
    · rintro i x σ H1 H2 hi ⟨v4, v5, v6, as, rfl, s1, eD1, e1, pr⟩ ⟨T1, x1', v', rfl, nT, rfl, f1, f2⟩
      cases f1
      have f2 : (nI (spk ws))[i]? = some v' := f2
      have hi : i < (spk ws).length := by
        unfold nI at hi
        rwa [List.length_map] at hi
      have ez := getD_some 0 hi
      unfold nI at f2
      rw [List.getElem?_map, ez] at f2
      obtain rfl := Option.some.inj f2
      have htk : (spk ws).take (i + 1) = (spk ws).take i ++ [(spk ws).getD i 0] := by
        rw [List.take_add_one, ez] <;> rfl
      have hrow := row_drop (c := cl ns ws ((spk ws).getD i 0)) srt ez
      have hz := List.mem_of_getElem? ez
      generalize (spk ws).getD i 0 = z at *
      have sT := same_new (o := .tup [.int (i : Nat), .int (z : Nat)]) nT
      refine ⟨T1, _, rfl, .of upd_same, rfl, _, _, rfl, _, _, rfl, rfl, ?_⟩
      have s2 := s1.trans sT
      have eD2 := sT _ _ eD1
      have ef2 := sT _ _ e1
      have pr2 := paired_same (fun a x r => sT _ _ r) pr
      generalize upd H1 T1 _ = H2 at s2 eD2 ef2 pr2 ⊢
      refine .inl ⟨_, rfl, _, rfl, (i : Nat), 1, rfl, rfl, _, rfl, ?_⟩
      refine noPart ?_
      refine ⟨D, _, rfl, .of eD2, fun l nl => ⟨l, rfl, ⟨_, .of upd_same⟩, ?_⟩⟩
      have ec : cutV (nI (spk ws)) (some ((i : Nat) + 1)) none = nI ((spk ws).drop (i + 1)) := by
        unfold cutV nI
        rw [HT.sIx_none, List.length_map, show ((i : Nat) : Int) + 1 = ((i + 1 : Nat) : Int) by omega, HT.sIx_nat, Nat.min_eq_left (by omega), ← List.map_drop, List.take_of_length_le]
        rw [List.length_map, List.length_drop]
        exact Nat.le_refl _
      rw [ec]
      have sl := same_new (o := .lst (nI ((spk ws).drop (i + 1)))) nl
      have s3 := s2.trans sl
      have eD3 := sl _ _ eD2
      have ef3 := sl _ _ ef2
      have pr3 := paired_same (fun a x r => sl _ _ r) pr2
      have el3 : (upd H2 l (.lst (nI ((spk ws).drop (i + 1))))) l = some (.lst (nI ((spk ws).drop (i + 1)))) := upd_same
      have lf : l ≠ f := (ne_of_none ef2 nl).symm
      generalize upd H2 l (.lst (nI ((spk ws).drop (i + 1)))) = H3 at s3 eD3 ef3 pr3 el3 ⊢
      have Df : D ≠ f := fun e => by
        rw [e, ef3] at eD3
        have h1 := HO.lst.inj (Option.some.inj eD3)
        have h2 := congrArg (fun l : List V => l.head?) h1
        unfold nI at h2
        cases as with
        | nil =>
          have h3 := congrArg List.length h1
          unfold nI at h3
          rw [List.length_map, List.length_map] at h3
          have : (spk ws).length = 0 := h3.symm
          omega
        | cons a as =>
          cases hsp : spk ws with
          | nil =>
            rw [hsp] at hz
            exact nomatch hz
          | cons b bs =>
            rw [hsp] at h2
            simp at h2
      refine for_list (K := K) (a := l) (xs := nI ((spk ws).drop (i + 1))) (fun j σ H' => ∃ (v6 : Option V) (as : List Addr), σ = [some (.ref t), some (.ref p), some (.ref D), some (.ref f), some (.int (i : Nat)), some (.int (z : Nat)), v6, none, none] ∧ Same H H' ∧ H' D = some (.lst (nI (spk ws))) ∧ H' l = some (.lst (nI ((spk ws).drop (i + 1)))) ∧ H' f = some (.lst (as.map V.ref)) ∧ Paired (PairAt H') as (((spk ws).take i).flatMap (row ns ws (spk ws)) ++ ((((spk ws).drop (i + 1)).take j).filter (cl ns ws z)).map fun j => (((z : Nat) : Int), ((j : Nat) : Int))))
        ⟨v6, as, rfl, s3, eD3, el3, ef3, by rw [List.take_zero]; show Paired _ as (_ ++ []); rw [List.append_nil]; exact pr3⟩ (fun j σ H' _ ⟨_, _, _, _, _, e, _⟩ => .of e) ?_ ?_
      · rintro j x σ H4 hx ⟨v6, as, rfl, s4, eD4, el4, ef4, pr4⟩
        have hj : j < ((spk ws).drop (i + 1)).length := by
          have := (List.getElem?_eq_some_iff.mp hx).1
          unfold nI at this
          rwa [List.length_map] at this
        have e2 := getD_some 0 hj
        unfold nI at hx
        rw [List.getElem?_map, e2] at hx
        obtain rfl := Option.some.inj hx
        have htk2 : ((spk ws).drop (i + 1)).take (j + 1) = ((spk ws).drop (i + 1)).take j ++ [((spk ws).drop (i + 1)).getD j 0] := by
          rw [List.take_add_one, e2] <;> rfl
        have hz2 : ((spk ws).drop (i + 1)).getD j 0 ∈ spk ws := List.mem_of_mem_drop (List.mem_of_getElem? e2)
        generalize ((spk ws).drop (i + 1)).getD j 0 = z2 at *
        obtain ⟨i1, wi⟩ := spk_in hz
        obtain ⟨j1, wj⟩ := spk_in hz2
        have mi := F.m.mod _ (List.mem_of_getElem? (getD_some 0 (show z < ns.length by omega)))
        have mj := F.m.mod _ (List.mem_of_getElem? (getD_some 0 (show z2 < ns.length by omega)))
        have ai : atI (ws.map vO) (z : Nat) = some (.int (rv ws z)) := atI_nat (by rw [List.getElem?_map, wi] <;> rfl)
        have aj : atI (ws.map vO) (z2 : Nat) = some (.int (rv ws z2)) := atI_nat (by rw [List.getElem?_map, wj] <;> rfl)
        have ni : atI (ns.map V.int) (z : Nat) = some (.int (ns.getD z 0)) := atI_nat (by rw [List.getElem?_map, getD_some 0 (show z < ns.length by omega)] <;> rfl)
        have nj : atI (ns.map V.int) (z2 : Nat) = some (.int (ns.getD z2 0)) := atI_nat (by rw [List.getElem?_map, getD_some 0 (show z2 < ns.length by omega)] <;> rfl)
        have hcl : cl ns ws z z2 = !decide (V.int ((rv ws z - rv ws z2) % gg ns z z2) = V.int 0) := rfl
        have hgg : gg ns z z2 = ((Nat.gcd (ns.getD z 0).natAbs (ns.getD z2 0).natAbs : Nat) : Int) := rfl
        obtain ⟨m1, hm1⟩ : ∃ m : Nat, ns.getD z 0 = (m : Int) := ⟨(ns.getD z 0).toNat, by omega⟩
        obtain ⟨m2, hm2⟩ : ∃ m : Nat, ns.getD z2 0 = (m : Int) := ⟨(ns.getD z2 0).toNat, by omega⟩
        rw [hm1] at mi ni
        rw [hm2] at mj nj
        rw [hgg, hm1, hm2] at hcl
        have hcl : cl ns ws z z2 = !decide (V.int ((rv ws z - rv ws z2) % ((Nat.gcd m1 m2 : Nat) : Int)) = V.int 0) := hcl
        have gp : 0 < Nat.gcd m1 m2 := Nat.gcd_pos_of_pos_left _ (by omega)
        have F4 := F.same s4
        have sm : ∀ m : Nat, m ≤ 1000000 → m < 2 ^ 8000 := fun m h => Nat.lt_of_le_of_lt h (by decide +kernel)
        refine ⟨_, rfl, _, rfl, .inr (.inl ⟨p, _, _, _, rfl, rfl, F4.p, ai, _, rfl, _, rfl, .inr (.inl ⟨p, _, _, _, rfl, rfl, F4.p, aj, _, _, rfl, rfl, .inl ⟨_, rfl, ?_⟩⟩)⟩)⟩
        refine ⟨_, rfl, _, rfl, .inr (.inl ⟨t, _, _, _, rfl, rfl, F4.t, ni, _, rfl, _, rfl, .inr (.inl ⟨t, _, _, _, rfl, rfl, F4.t, nj, m1, m2, rfl, sm _ (by omega), sm _ (by omega), ?_⟩)⟩)⟩
        refine ⟨_, ((Nat.gcd m1 m2 : Nat) : Int), rfl, rfl, by omega, rfl, _, rfl, ?_⟩
        rw [show (fun i j : Int => V.int (i.fmod j)) (rv ws z - rv ws z2) ((Nat.gcd m1 m2 : Nat) : Int) = V.int ((rv ws z - rv ws z2) % ((Nat.gcd m1 m2 : Nat) : Int)) from congrArg V.int (Int.fmod_eq_emod_of_nonneg _ (by omega)), ← hcl]
        rw [htk2]
        cases hc : cl ns ws z z2 with
        | true =>
          refine iteT ⟨_, rfl, .inl ⟨rfl, _, .of ef4⟩, _, rfl, _, rfl, by show 2 ≤ sizeLine; decide, fun T nT => ?_⟩
          have sT := same_new (o := .tup [.int (z : Nat), .int (z2 : Nat)]) nT
          have efT := sT _ _ ef4
          refine ⟨f, _, _, rfl, rfl, efT, ?_, ?_⟩
          · rw [List.length_map, paired_len pr4]
            rw [List.length_append, List.length_map]
            have h1 := flat_len ns ws (spk ws) ((spk ws).take i)
            have h2 := List.length_filter_le (cl ns ws z) (((spk ws).drop (i + 1)).take j)
            rw [List.length_take] at h1 h2
            have h3 : min i (spk ws).length * (spk ws).length ≤ 10 * 10 := Nat.mul_le_mul (by omega) slen
            rw [List.length_drop] at h2
            exact small1000 (by omega)
          refine ⟨_, as ++ [T], rfl, ?_, ?_, ?_, ?_, ?_⟩
          · intro c o h
            rw [upd_ne (ne_of_none h nHf)]
            exact sT _ _ (s4 _ _ h)
          · rw [upd_ne Df]
            exact sT _ _ eD4
          · rw [upd_ne lf]
            exact sT _ _ el4
          · rw [upd_same, List.map_append] <;> rfl
          · rw [List.filter_append, List.filter_cons_of_pos hc, List.map_append, ← List.append_assoc]
            exact paired_snoc (paired_same (fun a x r => tup_put efT (sT _ _ r)) pr4) (tup_put efT upd_same)
        | false =>
          refine iteF ⟨_, as, rfl, s4, eD4, el4, ef4, ?_⟩
          rw [List.filter_append, List.filter_cons_of_neg (by rw [hc]; decide)]
          show Paired _ as (_ ++ (List.filter _ _ ++ []).map _)
          rw [List.append_nil]
          exact pr4
      rintro σ H4 ⟨v6, as, rfl, s4, eD4, el4, ef4, pr4⟩
      refine ⟨_, _, _, as, rfl, s4, eD4, ef4, ?_⟩
      rw [htk, List.flatMap_append]
      have e5 : [z].flatMap (row ns ws (spk ws)) = (((spk ws).drop (i + 1)).filter (cl ns ws z)).map fun j => (((z : Nat) : Int), ((j : Nat) : Int)) := by
        rw [← hrow]
        simp [row]
      rw [e5]
      have e6 : ((spk ws).drop (i + 1)).take (nI ((spk ws).drop (i + 1))).length = (spk ws).drop (i + 1) := List.take_of_length_le (by unfold nI; rw [List.length_map]; exact Nat.le_refl _)
      rw [e6] at pr4
      exact pr4
    rintro σ H1 ⟨v4, v5, v6, as, rfl, s1, eD1, e1, pr⟩
    rw [List.take_of_length_le (by unfold nI; rw [List.length_map]; exact Nat.le_refl _)] at pr
    refine ⟨_, rfl, f, _, rfl, .inl ⟨.of e1, fun z nz => ?_⟩⟩
    exact q z _ (s1.trans (same_new nz)) (s1.free nz) ⟨as, upd_same, paired_same (fun a x r => same_new nz _ _ r) pr⟩
theorem ok__law_mods (T : Txt K mg a) : FnOk P w K mg base CX0 3 a.f__law_mods a.d__law_mods ["vat", "width", "most"] (sp__law_mods K) := by
  have G__law_draw : FnOk P w K mg base CX0 1 a.f__law_draw a.d__law_draw ["vat", "most"] (sp__law_draw K) := ok__law_draw T
  have G__law_mixed : FnOk P w K mg base CX0 2 a.f__law_mixed a.d__law_mixed ["vat", "items"] (sp__law_mixed K) := ok__law_mixed T
  refine T._law_mods.F.ok sc__law_mods (fun vs H Q E h => ?_) (fun cdv A outer s H vs Q E hr h => ?_)
  · obtain ⟨_, _, _, _, _, rfl, _⟩ := h
    rfl
  · have hu := hu_of hr
    obtain ⟨H0, b, g, wi, most, rfl, B, w0, w1, m0, m1, q⟩ := h
    have dr : ∀ m : Int, 0 < m → m < 2 ^ 60 → Small m := fun m h0 h1 => small_of h0 h1
    have fin0 : ∀ (ms : List Int) (H3 : Hp) (F : Hp), Vat.Mods most ms → ms.length = wi.toNat → Vs F H3 b g → Same H0 F → ∀ l, H3 l = none → Q (.ref l) (upd H3 l (.tup (ms.map V.int))) := fun ms H3 F hm hl B3 s l nl =>
      q ms l _ hm hl ((B3.less s).sub.free nl) upd_same (B3.pb nl) (B3.pg nl) ((B3.less s).more (same_new nl))
    have fin : ∀ (ms : List Int) (D : Addr) (H3 : Hp), Vat.Mods most ms → ms.length = wi.toNat → Vs (upd H0 D (.lst (ms.map V.int))) H3 b g → H0 D = none → ∀ l, H3 l = none → Q (.ref l) (upd H3 l (.tup (ms.map V.int))) := fun ms D H3 hm hl B3 n0 =>
      fin0 ms H3 _ hm hl B3 (same_new n0)
    refine ⟨_, (pss_cons (ps_asg (pe_tup (pa_cons (pe_call G__law_draw (hr.mono (by decide)) (by rfl) T._law_draw.m T._law_draw.F.kp T._law_draw.b .nil pass0 (pa_cons (pv 0) (pa_cons pe_int pa_nil))) (pa_cons (pe_op op_add pe_int (pe_call G__law_draw (hr.mono (by decide)) (by rfl) T._law_draw.m T._law_draw.F.kp T._law_draw.b .nil pass0 (pa_cons (pv 0) (pa_cons (pe_callB (call_max2 rfl) (by rfl) T.b_max (by decide +kernel) (pa_cons pe_int (pa_cons (pe_op op_sub (pe_callB (call_min2 rfl) (by rfl) T.b_min (by decide +kernel) (pa_cons (pe_op op_fdivW (pv 2) pe_int) (pa_cons pe_int pa_nil))) pe_int) pa_nil))) pa_nil)))) pa_nil))) (show PG _ _ (gTup K 2 _) from pg_tup rfl (pgs_cons (pg_name (i := 4) sc__law_mods.nd rfl (by first | exact Or.inl rfl | exact Or.inr rfl)) (pgs_cons (pg_name (i := 5) sc__law_mods.nd rfl (by first | exact Or.inl rfl | exact Or.inr rfl)) pgs_nil))))
      (pss_cons (ps_setLc (i := 3) (own := [("own", 6)]) rfl sc__law_mods.nd rfl rfl (sw_true rfl rfl rfl (by decide +kernel)) (show PI _ _ _ (iSeq K _) from pi_seq (pe_tup (pa_cons pe_int (pa_cons pe_int (pa_cons pe_int (pa_cons pe_int (pa_cons pe_int (pa_cons pe_int (pa_cons pe_int (pa_cons pe_int (pa_cons pe_int (pa_cons pe_int pa_nil)))))))))))) (blkOk_by (N := ["vat", "width", "most", "primes", "way", "base", "own", "lane"]) (sc := defScope s__law_mods) (by decide +kernel)) (fun _ _ _ _ _ => (pg_name (i := 6) sc__law_mods.nd rfl (by first | exact Or.inl rfl | exact Or.inr rfl))) (fun _ _ _ _ _ => (pts_one (pt_cmpR op_le (pv 6) (pv 2) (nomark _)))) (fun _ _ _ _ _ => (pv 6)))
      (pss_cons (ps_if (pt_cmpR op_eq (pv 4) pe_int (nomark _)) (pss_one (ps_ret (pe_op (show OpR _ _ (rRepAny K) from op_repAny) (pe_tup (pa_cons (pe_op op_add pe_int (pe_call G__law_draw (hr.mono (by decide)) (by rfl) T._law_draw.m T._law_draw.F.kp T._law_draw.b .nil pass0 (pa_cons (pv 0) (pa_cons (pe_op op_sub (pv 2) pe_int) pa_nil)))) pa_nil)) (pv 1)))) pss_nil)
      (pss_cons (ps_if (pt_cmpR op_eq (pv 4) pe_int (nomark _)) (pss_one (ps_ret (pe_callTy (show CallR _ _ (rTupS K) from call_tuple_of) (by rfl) T.b_tuple (by decide +kernel) (pa_cons (pe_lc (own := [("lane", 7)]) rfl sc__law_mods.nd (pi_range1 rfl T.b_range (pa_cons (pv 1) pa_nil)) (blkOk_by (N := ["vat", "width", "most", "primes", "way", "base", "own", "lane"]) (sc := defScope s__law_mods) (by decide +kernel)) (fun _ _ _ _ _ => (pg_name (i := 7) sc__law_mods.nd rfl (by first | exact Or.inl rfl | exact Or.inr rfl))) (fun _ _ _ _ _ => pts_nil) (fun _ _ _ _ _ => (pe_op op_mul (pv 5) (pe_op op_add pe_int (pe_call G__law_draw (hr.mono (by decide)) (by rfl) T._law_draw.m T._law_draw.F.kp T._law_draw.b .nil pass0 (pa_cons (pv 0) (pa_cons (pe_op op_fdivW (pv 2) (pv 5)) pa_nil))))))) pa_nil)))) pss_nil)
      (pss_cons (ps_if (PW.pt (pw_and (pt_cmpR op_eq (pv 4) pe_int (nomark _)) (pw_and1 (pt_cmpR op_ge (pe_callB (show CallR _ _ (rLenS K) from call_len_seq) (by rfl) T.b_len (by decide +kernel) (pa_cons (pv 3) pa_nil)) (pv 1) (nomark _))))) (pss_one (ps_ret (pe_callTy (show CallR _ _ (rTupS K) from call_tuple_of) (by rfl) T.b_tuple (by decide +kernel) (pa_cons (pe_slice (show SlR _ (rSlL K) from sl_list) (pe_call G__law_mixed hr (by rfl) T._law_mixed.m T._law_mixed.F.kp T._law_mixed.b .nil pass0 (pa_cons (pv 0) (pa_cons (pv 3) pa_nil))) po_none (po_some (pv 1))) pa_nil)))) pss_nil)
      (pss_one (ps_ret (pe_callTy (show CallR _ _ (rTupS K) from call_tuple_of) (by rfl) T.b_tuple (by decide +kernel) (pa_cons (pe_lc (own := [("lane", 7)]) rfl sc__law_mods.nd (pi_range1 rfl T.b_range (pa_cons (pv 1) pa_nil)) (blkOk_by (N := ["vat", "width", "most", "primes", "way", "base", "own", "lane"]) (sc := defScope s__law_mods) (by decide +kernel)) (fun _ _ _ _ _ => (pg_name (i := 7) sc__law_mods.nd rfl (by first | exact Or.inl rfl | exact Or.inr rfl))) (fun _ _ _ _ _ => pts_nil) (fun _ _ _ _ _ => (pe_op op_add pe_int (pe_call G__law_draw (hr.mono (by decide)) (by rfl) T._law_draw.m T._law_draw.F.kp T._law_draw.b .nil pass0 (pa_cons (pv 0) (pa_cons (pe_op op_sub (pv 2) pe_int) pa_nil)))))) pa_nil))))))))), ?_⟩
    refine ⟨_, rfl, H0, b, g, 5, rfl, B, dr _ (by decide) (by decide), fun way H1 y0 y1 B1 => ?_⟩
    refine ⟨_, rfl, _, rfl, most, 2, rfl, rfl, ⟨by decide, by decide⟩, most / 2, 9, rfl, _, 1, rfl, rfl, 1, _, rfl, ?_⟩
    generalize hmn : (if (9 : Int) < most / 2 then (9 : Int) else most / 2) = mn
    generalize hmx : (if mn - 1 > 1 then mn - 1 else 1) = mx
    have hb : 1 ≤ mx ∧ mx + 1 ≤ most / 2 := by
      rw [← hmx, ← hmn]
      split <;> split <;> omega
    refine ⟨H0, b, g, mx, rfl, B1, dr _ (by omega) (by omega), fun z H2 z0 z1 B2 => ⟨_, _, rfl, rfl, by show 2 ≤ sizeLine; decide, fun p np => ⟨p, _, rfl, .of upd_same, rfl, _, _, rfl, _, _, rfl, rfl, ?_⟩⟩⟩
    have B3 := B2.more (same_new (o := .tup [.int way, .int (2 + z)]) np)
    have hz : 2 ≤ 2 + z ∧ 2 + z ≤ most / 2 := by omega
    rw [show (fun i j : Int => V.int (i + j)) 2 z = V.int (2 + z) from rfl]
    generalize 2 + z = base at hz B3 ⊢
    generalize upd H2 p _ = H3 at B3 ⊢
    clear z0 z1 B2 np hb hmn hmx
    -- primes
    refine .inr ⟨by show 10 ≤ sizeLine; decide, fun p2 np2 => ⟨p2, rfl, ⟨_, .of upd_same⟩, fun D hD => ?_⟩⟩
    have B4 := B3.more (same_new (o := .tup ([2, 3, 5, 7, 11, 13, 17, 19, 23, 29].map V.int)) np2)
    refine lc_reckon (β := Int) (walk_tup (xs := [2, 3, 5, 7, 11, 13, 17, 19, 23, 29].map V.int)) (zs := [2, 3, 5, 7, 11, 13, 17, 19, 23, 29]) rfl (fun m : Int => decide (m ≤ most)) V.int (by decide) hD (fun H2 s => .of (s _ _ upd_same)) ?_ ?_
    · rintro i m x H5 H6 hz' s2 ⟨rfl, hx⟩
      rw [List.getElem?_map, hz'] at hx
      obtain rfl : V.int m = x := Option.some.inj hx
      refine ⟨Same.refl _, _, fun Q q => q, rfl, fun Q q => ?_, fun _ H3 Q s3 _ q => ⟨_, rfl, q _ (Same.refl _)⟩⟩
      exact ⟨_, rfl, _, rfl, m, most, rfl, rfl, _, rfl, q _ (Same.refl _)⟩
    intro H5 t2 e3
    have B5 := B4.more t2
    have nD : H0 D = none := B4.sub.free hD
    have B4pb := B4.pb hD
    have B4pg := B4.pg hD
    generalize hps : ([2, 3, 5, 7, 11, 13, 17, 19, 23, 29].filter fun m : Int => decide (m ≤ most)) = ps at e3
    have hpsl : ps.length ≤ 10 := by
      rw [← hps]
      exact List.length_filter_le _ _
    have hpsm : ∀ m ∈ ps, 2 ≤ m ∧ m ≤ most := by
      intro m hm
      rw [← hps] at hm
      obtain ⟨h1, h2⟩ := List.mem_filter.mp hm
      have h3 := of_decide_eq_true h2
      simp only [List.mem_cons, List.mem_nil_iff, or_false] at h1
      omega
    clear hps B4 B3 t2
    -- way == 0
    refine ⟨_, rfl, rfl, _, rfl, ite2 (fun _ => ?_) (fun _ => ?_)⟩
    · refine ⟨_, rfl, _, rfl, most, 1, rfl, rfl, H0, b, g, most - 1, rfl, B5, dr _ (by omega) (by omega), fun r H6 r0 r1 B6 => ⟨_, _, rfl, rfl, by show 1 ≤ sizeLine; decide, fun p np => ⟨_, rfl, ?_⟩⟩⟩
      have B7 := B6.more (same_new (o := .tup [.int (2 + r)]) np)
      by_cases h1 : wi = 1
      · subst h1
        refine .inr ⟨p, _, rfl, rfl, .of upd_same, ?_⟩
        exact q [2 + r] p _ ⟨Nat.le_refl 1, (show 1 ≤ 10 by decide), fun n hn => by rw [List.mem_singleton.mp hn]; omega⟩ rfl (B6.sub.free np) upd_same (B6.pb np) (B6.pg np) B7
      · refine .inl ⟨p, wi, _, rfl, rfl, .of upd_same, (fun z => nomatch z), by omega, by omega, (show 1 ≤ 1000 by decide), fun l nl => ?_⟩
        have e : (List.replicate wi.toNat [V.int (2 + r)]).flatten = (List.replicate wi.toNat (2 + r)).map V.int := by
          rw [List.map_replicate]
          generalize wi.toNat = c
          induction c with
          | zero => rfl
          | succ c ih => rw [List.replicate_succ, List.replicate_succ, List.flatten_cons, ih] <;> rfl
        rw [e]
        refine q (List.replicate wi.toNat (2 + r)) l _ ⟨?_, ?_, ?_⟩ (by rw [List.length_replicate]) (B7.sub.free nl) upd_same (B7.pb nl) (B7.pg nl) (B7.more (same_new nl))
        · rw [List.length_replicate]
          omega
        · rw [List.length_replicate]
          omega
        · intro n hn
          rw [(List.mem_replicate.mp hn).2]
          omega
    -- way == 1
    refine ⟨_, rfl, rfl, _, rfl, ite2 (fun _ => ?_) (fun _ => ?_)⟩
    · refine ⟨_, rfl, _, rfl, by omega, by omega, fun D2 hD2 => ?_⟩
      refine Vat.lc_drawn (fun n => 2 ≤ n ∧ n ≤ most) B5 hD2 (by omega) (fun x => rfl) ?_ ?_
      · intro i H6 H7 Q' hi s4 B6 hq
        have hq1 : 1 ≤ most / base := Int.le_ediv_of_mul_le (by omega) (by omega)
        have hq2 : most / base ≤ most := Int.ediv_le_self base (by omega)
        have hq3 : base * (most / base) ≤ most := Int.mul_ediv_self_le (by omega)
        refine ⟨_, rfl, _, rfl, _, rfl, _, rfl, most, base, rfl, rfl, dr _ (by omega) (by omega), H6, b, g, most / base, rfl, B6, dr _ (by omega) (by omega), fun z H8 z0 z1 B8 => ?_⟩
        refine ⟨_, _, rfl, rfl, _, _, rfl, rfl, .inl ⟨by omega, by omega⟩, ?_⟩
        refine hq _ _ ⟨?_, ?_⟩ B8
        · have h1 : base * 1 ≤ base * (1 + z) := Int.mul_le_mul_of_nonneg_left (by omega) (by omega)
          omega
        · have h1 : base * (1 + z) ≤ base * (most / base) := Int.mul_le_mul_of_nonneg_left (by omega) (by omega)
          omega
      · intro ms H6 hl hm B6
        exact ⟨D2, _, rfl, .inl ⟨.of (B6.sub _ _ upd_same), fin ms D2 H6 ⟨by omega, by omega, hm⟩ hl B6 (B5.sub.free hD2)⟩⟩
    -- way == 2
    have tail : ∀ {H' : Hp}, Vs H0 H' b g → ∀ D2, H' D2 = none → True := fun _ _ _ => trivial
    refine ⟨_, rfl, rfl, _, rfl, ite2 (fun _ => ⟨_, rfl, D, _, rfl, .inl (.of e3), _, rfl, _, _, rfl, rfl, _, rfl, ite2 (fun hge => ?_) (fun _ => ?_)⟩) (fun _ => ?_)⟩
    · have hge : wi ≤ ((ps.map V.int).length : Nat) := of_decide_eq_true hge
      rw [List.length_map] at hge
      have Db : D ≠ b := B4pb
      have Dg : D ≠ g := B4pg
      have Bo := B5.own e3 Db Dg
      refine ⟨_, rfl, _, rfl, _, b, g, D, ps, rfl, Bo, .inl (.of upd_same), by omega, fun ms p3 H6 hp np3 e6 p3b p3g B6 => ?_⟩
      have hml : ms.length = ps.length := hp.length_eq
      refine ⟨_, rfl, wi, rfl, p3, _, rfl, .of e6, fun l nl => ?_⟩
      have ec : cutV (ms.map V.int) none (some wi) = (ms.take wi.toNat).map V.int := by
        have e1 : HT.sIx (ms.map V.int).length (ms.map V.int).length (some wi) = wi.toNat := by
          show (if wi < 0 then _ else min wi.toNat _) = _
          rw [if_neg (by omega), List.length_map]
          omega
        unfold cutV
        rw [HT.sIx_none, e1, List.drop_zero, Nat.sub_zero, List.map_take]
      rw [ec]
      have B7 := (B6.less (same_new nD)).more (same_new (o := .lst ((ms.take wi.toNat).map V.int)) nl)
      refine ⟨l, _, rfl, .inl ⟨.of upd_same, fin0 (ms.take wi.toNat) _ H0 ⟨?_, ?_, fun n hn => hpsm n (hp.mem_iff.mp (List.mem_of_mem_take hn))⟩ ?_ B7 (Same.refl _)⟩⟩
      · rw [List.length_take]
        omega
      · rw [List.length_take]
        omega
      · rw [List.length_take]
        omega
    all_goals
      refine ⟨_, rfl, _, rfl, by omega, by omega, fun D2 hD2 => ?_⟩
      refine Vat.lc_drawn (fun n => 2 ≤ n ∧ n ≤ most) B5 hD2 (by omega) (fun x => rfl) ?_ ?_
      · intro i H6 H7 Q' hi s4 B6 hq
        refine ⟨_, rfl, _, rfl, most, 1, rfl, rfl, H6, b, g, most - 1, rfl, B6, dr _ (by omega) (by omega), fun z H8 z0 z1 B8 => ?_⟩
        exact ⟨_, _, rfl, rfl, hq _ _ ⟨by omega, by omega⟩ B8⟩
      · intro ms H6 hl hm B6
        exact ⟨D2, _, rfl, .inl ⟨.of (B6.sub _ _ upd_same), fin ms D2 H6 ⟨by omega, by omega, hm⟩ hl B6 (B5.sub.free hD2)⟩⟩
theorem ok__law_word (T : Txt K mg a) : FnOk P w K mg base CX0 3 a.f__law_word a.d__law_word ["vat", "mods"] (sp__law_word K) := by
  have G__law_far : FnOk P w K mg base CX0 2 a.f__law_far a.d__law_far ["vat", "figures"] (sp__law_far K) := ok__law_far T
  have G__law_pick : FnOk P w K mg base CX0 2 a.f__law_pick a.d__law_pick ["vat", "items"] (sp__law_pick K) := ok__law_pick T
  have G__law_draw : FnOk P w K mg base CX0 1 a.f__law_draw a.d__law_draw ["vat", "most"] (sp__law_draw K) := ok__law_draw T
  refine T._law_word.F.ok sc__law_word (fun vs H Q E h => ?_) (fun cdv A outer s H vs Q E hr h => ?_)
  · obtain ⟨_, _, _, _, _, rfl, _⟩ := h
    rfl
  · have hu := hu_of hr
    obtain ⟨H0, b, g, t, ns, rfl, B, hT, hm, q⟩ := h
    have dr : ∀ m : Int, 0 < m → m < 2 ^ 60 → Small m := fun m h0 h1 => small_of h0 h1
    have one := hm.one
    have ten := hm.ten
    refine ⟨_, (pss_cons (ps_set (i := 2) sc__law_word.nd rfl (by first | exact Or.inl rfl | exact Or.inr rfl) (pe_call G__law_far hr (by rfl) T._law_far.m T._law_far.F.kp T._law_far.b .nil pass0 (pa_cons (pv 0) (pa_cons pe_int pa_nil))))
      (pss_cons (ps_setLc (i := 3) (own := [("own", 6)]) rfl sc__law_word.nd rfl rfl (sw_true rfl rfl rfl (by decide +kernel)) (show PI _ _ _ (iSeq K _) from pi_seq (pv 1)) (blkOk_by (N := ["vat", "mods", "number", "rests", "turn", "lane", "own"]) (sc := defScope s__law_word) (by decide +kernel)) (fun _ _ _ _ _ => (pg_name (i := 6) sc__law_word.nd rfl (by first | exact Or.inl rfl | exact Or.inr rfl))) (fun _ _ _ _ _ => pts_nil) (fun _ _ _ _ _ => (pe_op op_modN (pe_callTy call_int1 (by rfl) T.b_int (by decide +kernel) (pa_cons (pv 2) pa_nil)) (pv 6))))
      (pss_cons (ps_for PassesOwn.never rfl (pi_range1 rfl T.b_range (pa_cons (pe_call G__law_pick hr (by rfl) T._law_pick.m T._law_pick.F.kp T._law_pick.b .nil pass0 (pa_cons (pv 0) (pa_cons (pe_lst (pa_cons pe_int (pa_cons pe_int (pa_cons pe_int (pa_cons pe_int (pa_cons (pe_callB (show CallR _ _ (rLenS K) from call_len_seq) (by rfl) T.b_len (by decide +kernel) (pa_cons (pv 1) pa_nil)) pa_nil)))))) pa_nil))) pa_nil)) (pg_name (i := 4) sc__law_word.nd rfl (by first | exact Or.inl rfl | exact Or.inr rfl)) (pss_cons (ps_set (i := 5) sc__law_word.nd rfl (by first | exact Or.inl rfl | exact Or.inr rfl) (pe_call G__law_draw (hr.mono (by decide)) (by rfl) T._law_draw.m T._law_draw.F.kp T._law_draw.b .nil pass0 (pa_cons (pv 0) (pa_cons (pe_callB (show CallR _ _ (rLenS K) from call_len_seq) (by rfl) T.b_len (by decide +kernel) (pa_cons (pv 1) pa_nil)) pa_nil))))
        (pss_one (ps_asg (pe_call G__law_draw (hr.mono (by decide)) (by rfl) T._law_draw.m T._law_draw.F.kp T._law_draw.b .nil pass0 (pa_cons (pv 0) (pa_cons (pe_ix (show IxR _ (rIx K) from ix_seq) (pv 1) (pv 5) (fun _ _ => rfl)) pa_nil))) (pg_sub (pv 3) (pv 5) set_list)))))
      (pss_cons (ps_for PassesOwn.never rfl (pi_range1 rfl T.b_range (pa_cons (pe_callB (show CallR _ _ (rLenS K) from call_len_seq) (by rfl) T.b_len (by decide +kernel) (pa_cons (pv 1) pa_nil)) pa_nil)) (pg_name (i := 5) sc__law_word.nd rfl (by first | exact Or.inl rfl | exact Or.inr rfl)) (pss_one (ps_if (pt_cmpR op_eq (pe_call G__law_draw (hr.mono (by decide)) (by rfl) T._law_draw.m T._law_draw.F.kp T._law_draw.b .nil pass0 (pa_cons (pv 0) (pa_cons pe_int pa_nil))) pe_int (nomark _)) (pss_one (ps_asg pe_non (pg_sub (pv 3) (pv 5) set_list))) pss_nil)))
      (pss_one (ps_ret (pe_callTy (show CallR _ _ (rTupS K) from call_tuple_of) (by rfl) T.b_tuple (by decide +kernel) (pa_cons (pv 3) pa_nil)))))))), ?_⟩
    refine ⟨_, rfl, H0, b, g, 4, rfl, B, by decide, fun num H1 _ B1 => ?_⟩
    refine .inr ⟨_, rfl, t, rfl, ⟨_, Sx.Same.tup B1.sub hT⟩, fun D hD => ?_⟩
    refine lc_reckon (β := Int) (walk_tup (xs := ns.map V.int)) (zs := ns) (List.length_map _).symm (fun _ => true) (fun m => .int (num % m)) (by omega) hD (fun H2 s => Sx.Same.tup (B1.sub.trans s) hT) ?_ ?_
    · rintro i m x H5 H6 hz' s2 ⟨rfl, hx⟩
      rw [List.getElem?_map, hz'] at hx
      obtain rfl : V.int m = x := Option.some.inj hx
      have h2 := hm.mod m (List.mem_of_getElem? hz')
      refine ⟨Same.refl _, _, fun Q q => q, rfl, fun Q q => q _ (Same.refl _), fun _ H3 Q _ s3 q => ?_⟩
      refine ⟨_, rfl, .inl ⟨num, rfl, _, rfl, num, m, rfl, rfl, (show m ≠ 0 by omega), ?_⟩⟩
      rw [show (fun i j : Int => V.int (i.fmod j)) num m = V.int (num % m) from congrArg V.int (Int.fmod_eq_emod_of_nonneg num (by omega))]
      exact q _ (Same.refl _)
    intro H2 t2 e2
    rw [List.filter_eq_self.mpr (fun _ _ => rfl)] at e2
    have nD : H0 D = none := B1.sub.free hD
    have B2 := (B1.more t2).own e2 (B1.pb hD) (B1.pg hD)
    -- the invariant: a word in the making
    have start : ∃ ws : List (Option Int), Vat.Wrd ns ws ∧ (ns.map fun m => V.int (num % m)) = ws.map vO := by
      refine ⟨ns.map fun m => some (num % m), ⟨List.length_map _, fun i r h => ?_⟩, by rw [List.map_map] <;> rfl⟩
      rw [List.getElem?_map] at h
      obtain ⟨m, hm', e⟩ := Option.map_eq_some_iff.mp h
      have e := Option.some.inj e
      have h2 := hm.mod m (List.mem_of_getElem? hm')
      rw [List.getD_eq_getElem?_getD, hm', ← e]
      exact ⟨Int.emod_nonneg _ (by omega), Int.emod_lt_of_pos _ (by show 0 < m; omega)⟩
    obtain ⟨ws, hw, ew⟩ := start
    rw [ew] at B2
    have sD : ∀ ws : List (Option Int), Same H0 (upd H0 D (.lst (ws.map vO))) := fun ws => same_new nD
    refine ⟨_, rfl, _, rfl, t, _, rfl, .inr (Sx.Same.tup ((sD ws).trans B2.sub) hT), by show 5 ≤ sizeLine; decide, fun l nl => ?_⟩
    refine ⟨_, b, g, l, _, rfl, B2.new nl, .inl (.of upd_same), (fun z => nomatch z), by show 5 ≤ 100000; decide, fun i v H3 hv B3' => ?_⟩
    have B3 := B3'.less (same_new (B2.sub.free nl))
    have hvn : ∃ n : Nat, v = .int (n : Nat) ∧ n ≤ 10 := by
      match i, hv with
      | 0, h => cases h; exact ⟨0, rfl, by decide⟩
      | 1, h => cases h; exact ⟨1, rfl, by decide⟩
      | 2, h => cases h; exact ⟨1, rfl, by decide⟩
      | 3, h => cases h; exact ⟨2, rfl, by decide⟩
      | 4, h => cases h; exact ⟨(ns.map V.int).length, rfl, by rw [List.length_map]; exact ten⟩
      | i + 5, h => simp at h
    obtain ⟨n, rfl, hn⟩ := hvn
    clear hv B3' B2 e2 t2 ew
    refine ⟨n, rfl, by omega, by omega, for_range (lo := 0) (n := n) (fun i σ H' => ∃ (v4 v5 : Option V) (ws : List (Option Int)), σ = [some (.ref b), some (.ref t), some (.int num), some (.ref D), v4, v5, none] ∧ Vat.Wrd ns ws ∧ Vs (upd H0 D (.lst (ws.map vO))) H' b g)
      ⟨_, _, ws, rfl, hw, B3⟩ ?_ ?_⟩
    · rintro i σ H4 hi ⟨v4, v5, ws, rfl, hw, B4⟩
      have hT4 : ∀ {H' : Hp}, Vs (upd H0 D (.lst (ws.map vO))) H' b g → SqT K H' t (ns.map V.int) := fun B => Sx.Same.tup ((sD ws).trans B.sub) hT
      refine ⟨_, rfl, _, rfl, t, _, rfl, .inr (hT4 B4), _, b, g, _, rfl, B4, dr _ (by rw [List.length_map]; omega) (by rw [List.length_map]; omega), fun lane H5 l0 l1 B5 => ?_⟩
      rw [List.length_map] at l1
      have hl : lane.toNat < ns.length := by omega
      have hat : atI (ns.map V.int) lane = some (.int (ns.getD lane.toNat 0)) := lane_at l0 (by omega)
      have hmm := hm.mod _ (List.mem_of_getElem? (getD_some 0 hl))
      refine ⟨_, rfl, _, rfl, _, rfl, .inr (.inl ⟨t, _, _, _, rfl, rfl, hT4 B5, hat, _, b, g, _, rfl, B5, dr _ (by omega) (by omega), fun r H6 r0 r1 B6 => ?_⟩)⟩
      refine ⟨_, rfl, _, rfl, D, _, lane, lane.toNat, rfl, rfl, B6.sub _ _ upd_same, Vat.ixN_in l0 (by rw [List.length_map, hw.len]; exact l1), ?_⟩
      have B7 := B6.put (o := .lst ((ws.set lane.toNat (some r)).map vO)) upd_same
      rw [upd_upd] at B7
      refine ⟨_, _, ws.set lane.toNat (some r), rfl, hw.put fun r' e => ?_, ?_⟩
      · cases e
        exact ⟨r0, r1⟩
      · rw [show ((ws.map vO).set lane.toNat (V.int r)) = (ws.set lane.toNat (some r)).map vO from Vat.map_set vO ws lane.toNat (some r)]
        exact B7
    rintro σ H4 ⟨v4, v5, ws, rfl, hw, B4⟩
    refine ⟨_, rfl, t, _, rfl, .inr (Sx.Same.tup ((sD ws).trans B4.sub) hT), (ns.map V.int).length, rfl, by omega, by rw [List.length_map]; omega, for_range (lo := 0) (n := (ns.map V.int).length) (fun i σ H' => ∃ (v5 : Option V) (ws : List (Option Int)), σ = [some (.ref b), some (.ref t), some (.int num), some (.ref D), v4, v5, none] ∧ Vat.Wrd ns ws ∧ Vs (upd H0 D (.lst (ws.map vO))) H' b g)
      ⟨_, ws, rfl, hw, B4⟩ ?_ ?_⟩
    · rintro i σ H5 hi ⟨v5, ws, rfl, hw, B5⟩
      rw [List.length_map] at hi
      refine ⟨_, rfl, _, b, g, 5, rfl, B5, dr _ (by decide) (by decide), fun r H6 r0 r1 B6 => ⟨rfl, _, rfl, ite2 (fun _ => ?_) (fun _ => ⟨_, ws, rfl, hw, B6⟩)⟩⟩
      refine ⟨_, rfl, _, rfl, D, _, _, i, rfl, rfl, B6.sub _ _ upd_same, ?_, ?_⟩
      · rw [Vat.ixN_in (by omega) (by rw [List.length_map, hw.len]; omega)]
        congr 1
        omega
      have B7 := B6.put (o := .lst ((ws.set i none).map vO)) upd_same
      rw [upd_upd] at B7
      refine ⟨_, ws.set i none, rfl, hw.put (fun r' e => nomatch e), ?_⟩
      rw [show ((ws.map vO).set i V.non) = (ws.set i none).map vO from Vat.map_set vO ws i none]
      exact B7
    rintro σ H5 ⟨v5, ws, rfl, hw, B5⟩
    refine ⟨_, rfl, D, _, rfl, .inl ⟨.of (B5.sub _ _ upd_same), fun p np => ?_⟩⟩
    have B6 := B5.less (sD ws)
    exact q ws p _ hw (B6.sub.free np) upd_same (B6.pb np) (B6.pg np) (B6.more (same_new np))
theorem ok__law_is_right (T : Txt K mg a) : FnG P w K mg base CX0 3 a.f__law_is_right a.d__law_is_right ["mods", "rests", "is_named"] (sp__law_is_right K) := by
  have G__law_span : FnOk P w K mg base CX0 2 a.f__law_span a.d__law_span ["mods", "these"] (sp__law_span K) := ok__law_span T
  have G__law_pairs : FnOk P w K mg base CX0 2 a.f__law_pairs a.d__law_pairs ["mods", "rests"] (sp__law_pairs K) := ok__law_pairs T
  have G_clashes : FnOk P w K mg base CX0 2 a.f_clashes a.d_clashes ["machine", "word"] (sp_clashes K) := ok_clashes T
  have G__law_astray : FnOk P w K mg base CX0 1 a.f__law_astray a.d__law_astray ["mods", "rests", "number"] (sp__law_astray K) := ok__law_astray T
  refine Sx.okG T._law_is_right.F sc__law_is_right (fun vs H Q E h => ?_) (fun cdv A outer s H vs Q E hg hr h => ?_)
  · obtain ⟨_, _, _, _, _, rfl, _⟩ := h
    rfl
  · have hu := hu_of hr
    obtain ⟨t, p, ns, ws, c, rfl, F, q⟩ := h
    have hl := F.w.len
    have ten := F.m.ten
    have one := F.m.one
    have slen : (spk ws).length ≤ 10 := (lanes_small (by omega)).2
    have hin : ∀ i ∈ spk ws, i < ns.length := fun i hi => by
      rw [← F.w.len]
      exact (spk_in hi).1
    have big : 1000000 ≤ 10 ^ 120 := by decide +kernel
    have rM : Row (.tuple (ns.map PyData.int)) := Row.mach ⟨one, ten, F.m.mod⟩
    have rW : Row (.tuple (ws.map dO)) := Row.word ⟨by omega, fun r h => by
      obtain ⟨i, hi, e⟩ := List.mem_iff_getElem.mp h
      have h1 := F.w.fit i r (by rw [List.getElem?_eq_getElem hi, e])
      have h2 := F.m.mod _ (List.mem_of_getElem? (getD_some 0 (show i < ns.length by omega)))
      omega⟩
    have rP : Row (.tuple ((prs ns ws).map hullD)) := by
      refine Row.hlt (fun e he => ?_) ?_
      · obtain ⟨i, hi, h2⟩ := List.mem_flatMap.mp he
        unfold row at h2
        obtain ⟨j, hj, rfl⟩ := List.mem_map.mp h2
        have h3 := hin i hi
        have h4 := hin j (List.mem_filter.mp hj).1
        exact ⟨Nat.le_trans (show ((i : Nat) : Int).natAbs ≤ 1000000 by omega) big, Nat.le_trans (show ((j : Nat) : Int).natAbs ≤ 1000000 by omega) big⟩
      · have h1 := flat_len ns ws (spk ws) (spk ws)
        have h3 : (spk ws).length * (spk ws).length ≤ 10 * 10 := Nat.mul_le_mul slen slen
        show ((spk ws).flatMap _).length ≤ 1000
        omega
    refine ⟨_, (pss_cons (ps_par (i := 6) (j := 7) (by rfl) sc__law_is_right.nd rfl rfl (by decide) rfl rfl (pa_cons (pe_call G__law_pairs hr (by rfl) T._law_pairs.m T._law_pairs.F.kp T._law_pairs.b .nil pass0 (pa_cons (pv 0) (pa_cons (pv 1) pa_nil))) (pa_cons (pe_callB (show CallR _ _ (rShow K) from call_show hg hr.units) (by rfl) T.b_repr (by decide +kernel) (pa_cons (pe_lst (pa_cons (pv 0) (pa_cons (pv 1) pa_nil))) pa_nil)) pa_nil)) (by rfl))
      (pss_cons (ps_set (i := 3) sc__law_is_right.nd rfl (by first | exact Or.inl rfl | exact Or.inr rfl) (pe_cut (pe_ifExp (pt_val (pv 2)) (pe_callKs G_clashes hr (by rfl) T.clashes.m T.clashes.F.kp (kb_clashes_word_machine T) pass0 (pk_cons (pv 1) (pk_cons (pv 0) pk_nil))) (pe_call G_clashes hr (by rfl) T.clashes.m T.clashes.F.kp T.clashes.b .nil pass0 (pa_cons (pv 0) (pa_cons (pv 1) pa_nil))))))
      (pss_cons (ps_if (PW.pt (pw_or (pt_cmpR op_ne (pe_callB (show CallR _ _ (rShow K) from call_show hg hr.units) (by rfl) T.b_repr (by decide +kernel) (pa_cons (pe_lst (pa_cons (pv 3) (pa_cons (pe_call G_clashes hr (by rfl) T.clashes.m T.clashes.F.kp T.clashes.b .nil pass0 (pa_cons (pv 0) (pa_cons (pv 1) pa_nil))) pa_nil))) pa_nil)) (pe_callB (show CallR _ _ (rShow K) from call_show hg hr.units) (by rfl) T.b_repr (by decide +kernel) (pa_cons (pe_lst (pa_cons (pv 6) (pa_cons (pv 6) pa_nil))) pa_nil)) (nomark _)) (pw_or1 (pt_cmpR op_ne (pe_callB (show CallR _ _ (rShow K) from call_show hg hr.units) (by rfl) T.b_repr (by decide +kernel) (pa_cons (pe_lst (pa_cons (pv 0) (pa_cons (pv 1) pa_nil))) pa_nil)) (pv 7) (nomark _))))) (pss_one (ps_ret pe_bl)) pss_nil)
      (pss_cons (ps_set (i := 4) sc__law_is_right.nd rfl (by first | exact Or.inl rfl | exact Or.inr rfl) (pe_call G__law_span hr (by rfl) T._law_span.m T._law_span.F.kp T._law_span.b .nil pass0 (pa_cons (pv 0) (pa_cons (pe_lc (own := [("lane", 9), ("own", 10)]) rfl sc__law_is_right.nd (show PI _ _ _ (iEnumT K _) from pi_enumT (by rfl) T.b_enumerate (pa_cons (pv 1) pa_nil)) (blkOk_by (N := ["mods", "rests", "is_named", "told", "step", "agree", "due", "kept", "number", "lane", "own"]) (sc := defScope s__law_is_right) (by decide +kernel)) (fun _ _ _ _ _ => (show PG _ _ (gTup K 2 _) from pg_tup rfl (pgs_cons (pg_name (i := 9) sc__law_is_right.nd rfl (by first | exact Or.inl rfl | exact Or.inr rfl)) (pgs_cons (pg_name (i := 10) sc__law_is_right.nd rfl (by first | exact Or.inl rfl | exact Or.inr rfl)) pgs_nil)))) (fun _ _ _ _ _ => (pts_one (pt_cmpR op_notN (pv 10) pe_non (nomark _)))) (fun _ _ _ _ _ => (pv 9))) pa_nil))))
      (pss_cons (ps_if (pt_cmpR op_gt (pv 4) pe_int (nomark _)) (pss_one (ps_ret pe_bl)) pss_nil)
      (pss_cons (ps_setLc (i := 5) (own := [("number", 8)]) rfl sc__law_is_right.nd rfl rfl (sw_true rfl rfl rfl (by decide +kernel)) (pi_range1 rfl T.b_range (pa_cons (pv 4) pa_nil)) (blkOk_by (N := ["mods", "rests", "is_named", "told", "step", "agree", "due", "kept", "number", "lane", "own"]) (sc := defScope s__law_is_right) (by decide +kernel)) (fun _ _ _ _ _ => (pg_name (i := 8) sc__law_is_right.nd rfl (by first | exact Or.inl rfl | exact Or.inr rfl))) (fun _ _ _ _ _ => (pts_one (pt_cmpR (show OpR _ _ (rEqD K) from op_eqD hr.units) (pe_call G__law_astray (hr.mono (by decide)) (by rfl) T._law_astray.m T._law_astray.F.kp T._law_astray.b .nil pass0 (pa_cons (pv 0) (pa_cons (pv 1) (pa_cons (pv 8) pa_nil)))) (pe_tup pa_nil) (nomark _)))) (fun _ _ _ _ _ => (pv 8)))
      (pss_one (ps_ret (pe_cmpR op_eq (pe_callB (show CallR _ _ (rLenS K) from call_len_seq) (by rfl) T.b_len (by decide +kernel) (pa_cons (pv 5) pa_nil)) (pe_callTy call_int1 (by rfl) T.b_int (by decide +kernel) (pa_cons (pe_cmpR (show OpR _ _ (rEqD K) from op_eqD hr.units) (pv 6) (pe_tup pa_nil) (nomark _)) pa_nil)) (nomark _)))))))))), ?_⟩
    refine ⟨_, rfl, _, rfl, t, p, ns, ws, rfl, F, fun due H1 s1 n1 hd => ?_⟩
    refine ⟨_, rfl, _, rfl, by show 2 ≤ sizeLine; decide, fun a1 m1 => ?_⟩
    have s2 := same_new (o := .lst [.ref t, .ref p]) m1
    have F2 := F.same (s1.trans s2)
    refine ⟨_, _, rfl, .lst (.of upd_same) (.cons (.tup F2.t (dpa_ints ns)) (.cons (.tup F2.p (dpa_opts ws)) .nil)), rM.two rW, _, _, rfl, ?_⟩
    have hd2 := hd.same s2
    have sA := s1.trans s2
    generalize upd H1 a1 _ = H2 at F2 hd2 sA ⊢
    -- told
    refine ⟨fun v H' => ∃ l, v = .ref l ∧ Same H2 H' ∧ HltAt H' l (prs ns ws), ?_, ?_⟩
    · refine ⟨_, rfl, _, rfl, ?_⟩
      refine ite2 (fun _ => ?_) (fun _ => ?_)
      · exact ⟨_, rfl, _, rfl, t, p, ns, ws, rfl, F2, fun l H' s _ h => ⟨l, rfl, s, h⟩⟩
      · exact ⟨_, rfl, _, rfl, t, p, ns, ws, rfl, F2, fun l H' s _ h => ⟨l, rfl, s, h⟩⟩
    rintro v H3 ⟨tl, rfl, s3, ht⟩
    have F3 := F2.same s3
    refine ⟨_, rfl, _, rfl, _, rfl, t, p, ns, ws, rfl, F3, fun l2 H4 s4 _ h4 => ⟨by show 2 ≤ sizeLine; decide, fun a2 m2 => ?_⟩⟩
    have s5 := same_new (o := .lst [.ref tl, .ref l2]) m2
    refine ⟨_, _, rfl, .lst (.of upd_same) (.cons (dp_hlt ((ht.same s4).same s5)) (.cons (dp_hlt (h4.same s5)) .nil)), rP.two rP, ?_⟩
    have sB := s3.trans (s4.trans s5)
    generalize upd H4 a2 _ = H5 at sB ⊢
    refine ⟨_, rfl, _, rfl, by show 2 ≤ sizeLine; decide, fun a3 m3 => ?_⟩
    have s6 := same_new (o := .lst [.ref due, .ref due]) m3
    have hd6 := (hd2.same sB).same s6
    refine ⟨_, _, rfl, .lst (.of upd_same) (.cons (dp_hlt hd6) (.cons (dp_hlt hd6) .nil)), rP.two rP, rfl, _, rfl, iteNS rfl ?_⟩
    have sC := sB.trans s6
    generalize upd H5 a3 _ = H6 at sC hd6 ⊢
    refine ⟨_, rfl, _, rfl, by show 2 ≤ sizeLine; decide, fun a4 m4 => ?_⟩
    have s7 := same_new (o := .lst [.ref t, .ref p]) m4
    have F7 := (F2.same sC).same s7
    have hd7 := hd6.same s7
    refine ⟨_, _, rfl, .lst (.of upd_same) (.cons (.tup F7.t (dpa_ints ns)) (.cons (.tup F7.p (dpa_opts ws)) .nil)), rM.two rW, _, rfl, rfl, _, rfl, iteNS rfl ?_⟩
    have sD := sA.trans (sC.trans s7)
    generalize upd H6 a4 _ = H7 at F7 hd7 sD ⊢
    clear F2 F3 s1 s2 s3 s4 s5 s6 s7 sA sB sC hd hd2 hd6 ht h4 m1 m2 m3 m4 n1
    -- step
    refine ⟨_, rfl, _, rfl, p, _, rfl, F7.p, fun D hD => ?_⟩
    have hP := F7.p
    refine lc_reckon (walk_enumT (xs := ws.map vO)) (zs := List.range ws.length) (by rw [List.length_range, List.length_map]) (fun i => !decide (vO (ws.getD i none) = .non)) (fun i => .int (i : Nat)) (by rw [List.length_range]; omega) hD (fun H2 s => Sx.Same.tup s hP) ?_ ?_
    · rintro i z x H2 H3 hz s2 ⟨T, y1, y2, rfl, nT, rfl, e1, e2⟩
      have hi := (List.getElem?_eq_some_iff.mp hz).1
      rw [List.length_range] at hi
      obtain rfl : i = z := by
        rw [List.getElem?_range hi] at hz
        exact Option.some.inj hz
      obtain rfl : V.int (i : Nat) = y1 := Option.some.inj e1
      have ew : ws[i]? = some (ws.getD i none) := getD_some none hi
      obtain rfl : vO (ws.getD i none) = y2 := by
        have e3 : (ws.map vO)[i]? = some y2 := e2
        rw [List.getElem?_map, ew] at e3
        exact Option.some.inj e3
      generalize ho : ws.getD i none = o
      have sT : Same H2 (upd H2 T (.tup [.int (i : Nat), vO o])) := same_new nT
      refine ⟨sT, _, fun Q q => ⟨T, _, rfl, .of upd_same, rfl, _, _, rfl, _, _, rfl, rfl, q⟩, rfl, fun Q q => ?_, fun _ H4 Q _ s4 q => ⟨_, rfl, q _ (Same.refl _)⟩⟩
      have q' : Q (!decide (vO o = .non)) (upd H2 T (.tup [.int (i : Nat), vO o])) := by
        rw [← ho] at q ⊢
        exact q _ (Same.refl _)
      exact ⟨_, rfl, rfl, _, rfl, q'⟩
    intro H8 s8 e8
    have e8 : H8 D = some (.lst (nI (spk ws))) := e8
    refine ⟨t, D, ns, spk ws, rfl, (F7.same s8).t, .of e8, hin, slen, F.m, ?_⟩
    have F8 := F7.same s8
    have hd8 := hd7.same s8
    have sE := sD.trans s8
    have cnt := agree_count F.w F.m
    have sp := (span_pos F.m (spk ws) hin slen).1
    generalize hS : spanN ns (spk ws) = S at *
    refine ⟨_, rfl, _, _, rfl, rfl, _, rfl, ite2 (fun _ => q _ sE) (fun h400 => ?_)⟩
    have h400 : ¬ (400 : Int) < ((S : Nat) : Int) := fun z => h400 (decide_eq_true z)
    -- agree
    refine ⟨_, rfl, S, rfl, by omega, by omega, fun D2 hD2 => ?_⟩
    refine lc_reckon (walk_range0 (n := S)) (zs := List.range S) (List.length_range) (fun x : Nat => (astr ns ws (x : Nat)).isEmpty) (fun i => .int (i : Nat)) (by rw [List.length_range]; omega) hD2 (fun H s => trivial) ?_ ?_
    · rintro i z x H9 H10 hz s9 ⟨rfl, rfl⟩
      obtain ⟨rfl, hi⟩ := range_at hz
      have F9 := F8.same s9
      refine ⟨Same.refl _, _, fun Q q => q, rfl, fun Q q => ?_, fun _ H11 Q _ s11 q => ⟨_, rfl, q _ (Same.refl _)⟩⟩
      refine ⟨_, rfl, _, rfl, _, rfl, t, p, ns, ws, _, rfl, F9, fun l H11 s11 _ el => ⟨Nat.zero_le _, fun w nw => ?_⟩⟩
      have sw := same_new (o := .tup []) nw
      refine ⟨_, _, .tup (.of (sw _ _ el)) (dpa_nI _), .tup (.of upd_same) .nil, shaped_dI _, shaped_dI [], _, rfl, ?_⟩
      rw [eqv_nil_dI]
      exact q _ (s11.trans sw)
    intro H9 s9 e9
    have hd9 := hd8.same s9
    have len : (((List.range S).filter fun x : Nat => (astr ns ws (x : Nat)).isEmpty).map fun i : Nat => V.int (i : Nat)).length = if (prs ns ws).isEmpty = true then 1 else 0 := by
      rw [List.length_map]
      exact cnt
    refine ⟨_, rfl, D2, _, rfl, .inl (.of e9), ?_⟩
    rw [len]
    refine ⟨_, rfl, Nat.zero_le _, fun w nw => ?_⟩
    have sw := same_new (o := .tup []) nw
    refine ⟨_, _, dp_hlt (hd9.same sw), .tup (.of upd_same) .nil, shaped_hlt _, shaped_dI [], .inr ⟨_, rfl, ?_⟩⟩
    rw [eqv_nil_hlt]
    have fin := q _ (sE.trans (s9.trans sw))
    refine ⟨rfl, ?_⟩
    cases hp : (prs ns ws).isEmpty with
    | true => exact fin
    | false => exact fin
theorem ok_law (T : Txt K mg a) : FnG P w K mg base CX0 4 a.f_law a.d_law ["script"] (sp_law K) := by
  have G__law_vat : FnOk P w K mg base CX0 1 a.f__law_vat a.d__law_vat ["script"] (sp__law_vat K) := ok__law_vat T
  have G__law_mods : FnOk P w K mg base CX0 3 a.f__law_mods a.d__law_mods ["vat", "width", "most"] (sp__law_mods K) := ok__law_mods T
  have G__law_pick : FnOk P w K mg base CX0 2 a.f__law_pick a.d__law_pick ["vat", "items"] (sp__law_pick K) := ok__law_pick T
  have G__law_is_right : FnG P w K mg base CX0 3 a.f__law_is_right a.d__law_is_right ["mods", "rests", "is_named"] (sp__law_is_right K) := ok__law_is_right T
  have G__law_word : FnOk P w K mg base CX0 3 a.f__law_word a.d__law_word ["vat", "mods"] (sp__law_word K) := ok__law_word T
  have G__law_draw : FnOk P w K mg base CX0 1 a.f__law_draw a.d__law_draw ["vat", "most"] (sp__law_draw K) := ok__law_draw T
  have G_clashes : FnOk P w K mg base CX0 2 a.f_clashes a.d_clashes ["machine", "word"] (sp_clashes K) := ok_clashes T
  refine Sx.okG T.law.F sc_law (fun vs H Q E h => ?_) (fun cdv A outer s H vs Q E hg hr h => ?_)
  · obtain ⟨_, _, rfl, _⟩ := h
    rfl
  · have hu := hu_of hr
    obtain ⟨s0, ns0, rfl, hS, hlen, q⟩ := h
    have dr : ∀ m : Int, 0 < m → m < 2 ^ 60 → Small m := fun m h0 h1 => small_of h0 h1
    refine ⟨_, (pss_cons (ps_set (i := 1) sc_law.nd rfl (by first | exact Or.inl rfl | exact Or.inr rfl) (pe_call G__law_vat (hr.mono (by decide)) (by rfl) T._law_vat.m T._law_vat.F.kp T._law_vat.b .nil pass0 (pa_cons (pv 0) pa_nil)))
      (pss_cons (ps_for PassesOwn.never rfl (pi_range1 rfl T.b_range (pa_cons pe_int pa_nil)) (pg_name (i := 2) sc_law.nd rfl (by first | exact Or.inl rfl | exact Or.inr rfl)) (pss_cons (ps_set (i := 3) sc_law.nd rfl (by first | exact Or.inl rfl | exact Or.inr rfl) (pe_call G__law_mods hr (by rfl) T._law_mods.m T._law_mods.F.kp T._law_mods.b .nil pass0 (pa_cons (pv 1) (pa_cons (pe_op op_add pe_int (pe_call G__law_draw (hr.mono (by decide)) (by rfl) T._law_draw.m T._law_draw.F.kp T._law_draw.b .nil pass0 (pa_cons (pv 1) (pa_cons pe_int pa_nil)))) (pa_cons (pe_call G__law_pick (hr.mono (by decide)) (by rfl) T._law_pick.m T._law_pick.F.kp T._law_pick.b .nil pass0 (pa_cons (pv 1) (pa_cons (pe_lst (pa_cons pe_int (pa_cons pe_int (pa_cons pe_int pa_nil)))) pa_nil))) pa_nil)))))
        (pss_one (ps_for PassesOwn.never rfl (pi_range1 rfl T.b_range (pa_cons pe_int pa_nil)) (pg_name (i := 4) sc_law.nd rfl (by first | exact Or.inl rfl | exact Or.inr rfl)) (pss_one (ps_if (pt_not (pt_val (pe_callG hg G__law_is_right hr (by rfl) T._law_is_right.m T._law_is_right.F.kp T._law_is_right.b pass0 (pa_cons (pv 3) (pa_cons (pe_call G__law_word hr (by rfl) T._law_word.m T._law_word.F.kp T._law_word.b .nil pass0 (pa_cons (pv 1) (pa_cons (pv 3) pa_nil))) (pa_cons (pe_cmpR op_eq (pv 2) pe_int (nomark _)) pa_nil)))))) (pss_one (ps_ret pe_bl)) pss_nil))))))
      (pss_cons (ps_set (i := 3) sc_law.nd rfl (by first | exact Or.inl rfl | exact Or.inr rfl) (pe_call G__law_mods hr (by rfl) T._law_mods.m T._law_mods.F.kp T._law_mods.b .nil pass0 (pa_cons (pv 1) (pa_cons pe_int (pa_cons (pe_call G__law_pick (hr.mono (by decide)) (by rfl) T._law_pick.m T._law_pick.F.kp T._law_pick.b .nil pass0 (pa_cons (pv 1) (pa_cons (pe_lst (pa_cons pe_int (pa_cons (pe_op op_pow pe_int pe_int) pa_nil))) pa_nil))) pa_nil)))))
      (pss_cons (ps_if (pt_not (pt_val (pe_callG hg G__law_is_right hr (by rfl) T._law_is_right.m T._law_is_right.F.kp T._law_is_right.b pass0 (pa_cons (pv 3) (pa_cons (pe_call G__law_word hr (by rfl) T._law_word.m T._law_word.F.kp T._law_word.b .nil pass0 (pa_cons (pv 1) (pa_cons (pv 3) pa_nil))) (pa_cons pe_bl pa_nil)))))) (pss_one (ps_ret pe_bl)) pss_nil)
      (pss_one (ps_ret (pe_cmpR op_eq (pe_callB (show CallR _ _ (rShow K) from call_show hg hr.units) (by rfl) T.b_repr (by decide +kernel) (pa_cons (pe_lst (pa_cons (pe_call G_clashes (hr.mono (by decide)) (by rfl) T.clashes.m T.clashes.F.kp T.clashes.b .nil pass0 (pa_cons (pe_tup (pa_cons pe_int (pa_cons pe_int (pa_cons pe_int pa_nil)))) (pa_cons (pe_tup (pa_cons pe_int (pa_cons pe_int (pa_cons pe_int pa_nil)))) pa_nil))) (pa_cons (pe_call G_clashes (hr.mono (by decide)) (by rfl) T.clashes.m T.clashes.F.kp T.clashes.b .nil pass0 (pa_cons (pe_tup (pa_cons pe_int (pa_cons pe_int pa_nil))) (pa_cons (pe_tup (pa_cons pe_int (pa_cons pe_int pa_nil))) pa_nil))) pa_nil))) pa_nil)) (pe_callB (show CallR _ _ (rShow K) from call_show hg hr.units) (by rfl) T.b_repr (by decide +kernel) (pa_cons (pe_lst (pa_cons (pe_tup (pa_cons (pe_tup (pa_cons pe_int (pa_cons pe_int pa_nil))) (pa_cons (pe_tup (pa_cons pe_int (pa_cons pe_int pa_nil))) pa_nil))) (pa_cons (pe_tup (pa_cons (pe_tup (pa_cons pe_int (pa_cons pe_int pa_nil))) pa_nil)) pa_nil))) pa_nil)) (nomark _)))))))), ?_⟩
    refine ⟨_, rfl, s0, ns0, rfl, hS, hlen, fun b g H1 B0 => ?_⟩
    refine ⟨6, rfl, by decide, by decide, for_range (lo := 0) (n := 6) (fun i σ H' => ∃ v2 v3 v4 : Option V, σ = [some (.ref s0), some (.ref b), v2, v3, v4] ∧ Vs H H' b g)
      ⟨none, none, none, rfl, B0⟩ ?_ ?_⟩
    · rintro turn σ H2 hturn ⟨v2, v3, v4, rfl, B1⟩
      refine ⟨_, rfl, _, rfl, H, b, g, 4, rfl, B1, dr _ (by decide) (by decide), fun w H3 w0 w1 B2 => ⟨_, _, rfl, rfl, _, rfl, by show 3 ≤ sizeLine; decide, fun l nl => ?_⟩⟩
      refine ⟨_, b, g, l, _, rfl, B2.new nl, .inl (.of upd_same), (fun z => nomatch z), by show 3 ≤ 100000; decide, fun i v H4 hv B3' => ?_⟩
      have B3 := B3'.less (same_new (B2.sub.free nl))
      have hvn : ∃ m : Int, v = .int m ∧ 4 ≤ m ∧ m ≤ 1000000 := by
        match i, hv with
        | 0, h => cases h; exact ⟨_, rfl, by decide, by decide⟩
        | 1, h => cases h; exact ⟨_, rfl, by decide, by decide⟩
        | 2, h => cases h; exact ⟨_, rfl, by decide, by decide⟩
        | i + 3, h => simp at h
      obtain ⟨most, rfl, m0, m1⟩ := hvn
      refine ⟨H, b, g, 1 + w, most, rfl, B3, by omega, by omega, m0, m1, fun ns t H5 hm hnl nt et tb tg B5 => ?_⟩
      have B6 := B5.own et tb tg
      have sG : Same H (upd H t (.tup (ns.map V.int))) := same_new nt
      have eG : (upd H t (.tup (ns.map V.int))) t = some (.tup (ns.map V.int)) := upd_same
      generalize upd H t (.tup (ns.map V.int)) = G at B6 sG eG
      have hm : Vat.Mods 1000000 ns := ⟨hm.one, hm.ten, fun n hn => ⟨(hm.mod n hn).1, by have := (hm.mod n hn).2; omega⟩⟩
      refine ⟨3, rfl, by decide, by decide, for_range (lo := 0) (n := 3) (fun i σ H' => ∃ v4 : Option V, σ = [some (.ref s0), some (.ref b), some (.int (0 + (turn : Int))), some (.ref t), v4] ∧ Vs G H' b g)
        ⟨v4, rfl, B6⟩ ?_ ?_⟩
      · rintro i σ H7 hi ⟨v4, rfl, B7⟩
        refine ⟨_, rfl, _, rfl, _, rfl, G, b, g, t, ns, rfl, B7, .of eG, hm, fun ws p H8 hw np ep pb pg B8 => ?_⟩
        refine ⟨_, rfl, rfl, ?_⟩
        refine ⟨t, p, ns, ws, _, rfl, ⟨.of (B8.sub _ _ eG), .of ep, hw, hm⟩, fun H9 s9 => ⟨_, rfl, iteF ?_⟩⟩
        exact ⟨_, rfl, B8.more s9⟩
      rintro σ H7 ⟨v4, rfl, B7⟩
      exact ⟨_, _, _, rfl, B7.less sG⟩
    rintro σ H2 ⟨v2, v3, v4, rfl, B1⟩
    -- ten lanes
    refine ⟨_, rfl, _, rfl, 10, 6, rfl, rfl, ⟨by decide, by decide, by decide⟩, by show 2 ≤ sizeLine; decide, fun l nl => ?_⟩
    refine ⟨_, b, g, l, _, rfl, B1.new nl, .inl (.of upd_same), (fun z => nomatch z), by show 2 ≤ 100000; decide, fun i v H4 hv B3' => ?_⟩
    have B3 := B3'.less (same_new (B1.sub.free nl))
    have hvn : ∃ m : Int, v = .int m ∧ 4 ≤ m ∧ m ≤ 1000000 := by
      match i, hv with
      | 0, h => cases h; exact ⟨_, rfl, by decide, by decide⟩
      | 1, h => cases h; exact ⟨_, rfl, by decide, by decide⟩
      | i + 2, h => simp at h
    obtain ⟨most, rfl, m0, m1⟩ := hvn
    refine ⟨H, b, g, 10, most, rfl, B3, by decide, by decide, m0, m1, fun ns t H5 hm hnl nt et tb tg B5 => ?_⟩
    have B6 := B5.own et tb tg
    have eG : (upd H t (.tup (ns.map V.int))) t = some (.tup (ns.map V.int)) := upd_same
    generalize upd H t (.tup (ns.map V.int)) = G at B6 eG
    have hm : Vat.Mods 1000000 ns := ⟨hm.one, hm.ten, fun n hn => ⟨(hm.mod n hn).1, by have := (hm.mod n hn).2; omega⟩⟩
    refine ⟨_, rfl, _, rfl, _, rfl, G, b, g, t, ns, rfl, B6, .of eG, hm, fun ws p H8 hw np ep pb pg B8 => ?_⟩
    refine ⟨t, p, ns, ws, _, rfl, ⟨.of (B8.sub _ _ eG), .of ep, hw, hm⟩, fun H9 s9 => ⟨_, rfl, iteF ?_⟩⟩
    clear B8 B6 B5 B3 B3' B1 B0
    -- the two of the document
    refine ⟨by show 3 ≤ sizeLine; decide, fun t1 n1 => ⟨by show 3 ≤ sizeLine; decide, fun p1 n2 => ?_⟩⟩
    have u2 := same_new (o := .tup [.int 1, .int 2, .int 0]) n2
    refine ⟨t1, p1, [4, 6, 9], [some 1, some 2, some 0], rfl, ⟨.of (u2 _ _ upd_same), .of upd_same, wrd1, mods1⟩, fun l1 H10 s10 _ h1 => ?_⟩
    refine ⟨by show 2 ≤ sizeLine; decide, fun t2 n3 => ⟨by show 2 ≤ sizeLine; decide, fun p2 n4 => ?_⟩⟩
    have u3 := same_new (o := .tup [.int 5, .int 5]) n3
    have u4 := same_new (o := .tup [.int 1, .int 2]) n4
    refine ⟨t2, p2, [5, 5], [some 1, some 2], rfl, ⟨.of (u4 _ _ upd_same), .of upd_same, wrd2, mods2⟩, fun l2 H11 s11 _ h2 => ⟨by show 2 ≤ sizeLine; decide, fun w nw => ?_⟩⟩
    rw [prs1] at h1
    rw [prs2] at h2
    have uw := same_new (o := .lst [.ref l1, .ref l2]) nw
    have d1 : Dp K (upd H11 w (.lst [.ref l1, .ref l2])) (.ref l1) (.tuple [.tuple [.int 0, .int 1], .tuple [.int 1, .int 2]]) := dp_hlt ((((h1.same u3).same u4).same s11).same uw)
    have d2 : Dp K (upd H11 w (.lst [.ref l1, .ref l2])) (.ref l2) (.tuple [.tuple [.int 0, .int 1]]) := dp_hlt (h2.same uw)
    have sh : Shows (.list [.tuple [.tuple [.int 0, .int 1], .tuple [.int 1, .int 2]], .tuple [.tuple [.int 0, .int 1]]]) := shows_of (by decide +kernel) (by decide +kernel) (by decide +kernel)
    refine ⟨_, _, rfl, .lst (.of upd_same) (.cons d1 (.cons d2 .nil)), sh, ?_⟩
    generalize upd H11 w _ = H12
    refine ⟨by show 2 ≤ sizeLine; decide, fun a1 m1 => ⟨by show 2 ≤ sizeLine; decide, fun a2 m2 => ⟨by show 2 ≤ sizeLine; decide, fun a3 m3 => ⟨by show 2 ≤ sizeLine; decide, fun a4 m4 => ⟨by show 1 ≤ sizeLine; decide, fun a5 m5 => ⟨by show 2 ≤ sizeLine; decide, fun a6 m6 => ?_⟩⟩⟩⟩⟩⟩
    have t6 := same_new (o := .lst [.ref a3, .ref a5]) m6
    have t5 := (same_new (o := .tup [.ref a4]) m5).trans t6
    have t4 := (same_new (o := .tup [.int 0, .int 1]) m4).trans t5
    have t3 := (same_new (o := .tup [.ref a1, .ref a2]) m3).trans t4
    have t2' := (same_new (o := .tup [.int 1, .int 2]) m2).trans t3
    refine ⟨_, _, rfl, .lst (.of upd_same) (.cons (.tup (.of (t4 _ _ upd_same)) (.cons (.tup (.of (t2' _ _ upd_same)) (.cons (.int _) (.cons (.int _) .nil))) (.cons (.tup (.of (t3 _ _ upd_same)) (.cons (.int _) (.cons (.int _) .nil))) .nil)))
      (.cons (.tup (.of (t6 _ _ upd_same)) (.cons (.tup (.of (t5 _ _ upd_same)) (.cons (.int _) (.cons (.int _) .nil))) .nil)) .nil)), sh, rfl, ?_⟩
    exact q _
end
theorem all_mk {l : PySem.W.OpenLaw} {w : World} {K : PySem.W.Frag} {h : Heap} {mg : Str → Option Value} {fa f1 f2 f3 f4 f5 f6 f7 f8 f9 f10 f11 f12 f13 f14 f15 f16 : Addr} (X : K.In h) (G : h.Ns mainGlobals mg) (hfa : mg "law" = some (.ref fa))
    {od1 an1 od2 an2 od3 an3 od4 an4 od5 an5 od6 an6 od7 an7 od8 an8 od9 an9 od10 an10 od11 an11 od12 an12 od13 an13 od14 an14 od15 an15 od16 an16 : Option Addr} {sl1 sl2 sl3 sl4 sl5 sl6 sl7 sl8 sl9 sl10 sl11 sl12 sl13 sl14 sl15 sl16 : Array (Option Value)} {oc1 kV1 dc1 pm1 cd1 ct1 oc2 kV2 dc2 pm2 cd2 ct2 oc3 kV3 dc3 pm3 cd3 ct3 oc4 kV4 dc4 pm4 cd4 ct4 oc5 kV5 dc5 pm5 cd5 ct5 oc6 kV6 dc6 pm6 cd6 ct6 oc7 kV7 dc7 pm7 cd7 ct7 oc8 kV8 dc8 pm8 cd8 ct8 oc9 kV9 dc9 pm9 cd9 ct9 oc10 kV10 dc10 pm10 cd10 ct10 oc11 kV11 dc11 pm11 cd11 ct11 oc12 kV12 dc12 pm12 cd12 ct12 oc13 kV13 dc13 pm13 cd13 ct13 oc14 kV14 dc14 pm14 cd14 ct14 oc15 kV15 dc15 pm15 cd15 ct15 oc16 kV16 dc16 pm16 cd16 ct16 : Value}
    (a1 : PySem.W.nsIn K mainGlobals "speaking" = some (some (.ref f1))) (l1 : K.lookup f1 = some ⟨oc1, od1, .func (PySem.W.fnOf "speaking" "speaking" (defArgs s_speaking) (defBody s_speaking) (defScope s_speaking) .none kV1 dc1 pm1 an1 cd1 ct1), sl1⟩) (c1 : PySem.W.codeIn K cd1 "speaking" = true) (k1 : PySem.W.keepIn K (.ref f1) = true)
    (a2 : PySem.W.nsIn K mainGlobals "clashes" = some (some (.ref f2))) (l2 : K.lookup f2 = some ⟨oc2, od2, .func (PySem.W.fnOf "clashes" "clashes" (defArgs s_clashes) (defBody s_clashes) (defScope s_clashes) .none kV2 dc2 pm2 an2 cd2 ct2), sl2⟩) (c2 : PySem.W.codeIn K cd2 "clashes" = true) (k2 : PySem.W.keepIn K (.ref f2) = true)
    (a3 : PySem.W.nsIn K mainGlobals "is_clash" = some (some (.ref f3))) (l3 : K.lookup f3 = some ⟨oc3, od3, .func (PySem.W.fnOf "is_clash" "is_clash" (defArgs s_is_clash) (defBody s_is_clash) (defScope s_is_clash) .none kV3 dc3 pm3 an3 cd3 ct3), sl3⟩) (c3 : PySem.W.codeIn K cd3 "is_clash" = true) (k3 : PySem.W.keepIn K (.ref f3) = true)
    (a4 : PySem.W.nsIn K mainGlobals "_law_vat" = some (some (.ref f4))) (l4 : K.lookup f4 = some ⟨oc4, od4, .func (PySem.W.fnOf "_law_vat" "_law_vat" (defArgs s__law_vat) (defBody s__law_vat) (defScope s__law_vat) .none kV4 dc4 pm4 an4 cd4 ct4), sl4⟩) (c4 : PySem.W.codeIn K cd4 "_law_vat" = true) (k4 : PySem.W.keepIn K (.ref f4) = true)
    (a5 : PySem.W.nsIn K mainGlobals "_law_draw" = some (some (.ref f5))) (l5 : K.lookup f5 = some ⟨oc5, od5, .func (PySem.W.fnOf "_law_draw" "_law_draw" (defArgs s__law_draw) (defBody s__law_draw) (defScope s__law_draw) .none kV5 dc5 pm5 an5 cd5 ct5), sl5⟩) (c5 : PySem.W.codeIn K cd5 "_law_draw" = true) (k5 : PySem.W.keepIn K (.ref f5) = true)
    (a6 : PySem.W.nsIn K mainGlobals "_law_pick" = some (some (.ref f6))) (l6 : K.lookup f6 = some ⟨oc6, od6, .func (PySem.W.fnOf "_law_pick" "_law_pick" (defArgs s__law_pick) (defBody s__law_pick) (defScope s__law_pick) .none kV6 dc6 pm6 an6 cd6 ct6), sl6⟩) (c6 : PySem.W.codeIn K cd6 "_law_pick" = true) (k6 : PySem.W.keepIn K (.ref f6) = true)
    (a7 : PySem.W.nsIn K mainGlobals "_law_mixed" = some (some (.ref f7))) (l7 : K.lookup f7 = some ⟨oc7, od7, .func (PySem.W.fnOf "_law_mixed" "_law_mixed" (defArgs s__law_mixed) (defBody s__law_mixed) (defScope s__law_mixed) .none kV7 dc7 pm7 an7 cd7 ct7), sl7⟩) (c7 : PySem.W.codeIn K cd7 "_law_mixed" = true) (k7 : PySem.W.keepIn K (.ref f7) = true)
    (a8 : PySem.W.nsIn K mainGlobals "_law_far" = some (some (.ref f8))) (l8 : K.lookup f8 = some ⟨oc8, od8, .func (PySem.W.fnOf "_law_far" "_law_far" (defArgs s__law_far) (defBody s__law_far) (defScope s__law_far) .none kV8 dc8 pm8 an8 cd8 ct8), sl8⟩) (c8 : PySem.W.codeIn K cd8 "_law_far" = true) (k8 : PySem.W.keepIn K (.ref f8) = true)
    (a9 : PySem.W.nsIn K mainGlobals "_law_mods" = some (some (.ref f9))) (l9 : K.lookup f9 = some ⟨oc9, od9, .func (PySem.W.fnOf "_law_mods" "_law_mods" (defArgs s__law_mods) (defBody s__law_mods) (defScope s__law_mods) .none kV9 dc9 pm9 an9 cd9 ct9), sl9⟩) (c9 : PySem.W.codeIn K cd9 "_law_mods" = true) (k9 : PySem.W.keepIn K (.ref f9) = true)
    (a10 : PySem.W.nsIn K mainGlobals "_law_common" = some (some (.ref f10))) (l10 : K.lookup f10 = some ⟨oc10, od10, .func (PySem.W.fnOf "_law_common" "_law_common" (defArgs s__law_common) (defBody s__law_common) (defScope s__law_common) .none kV10 dc10 pm10 an10 cd10 ct10), sl10⟩) (c10 : PySem.W.codeIn K cd10 "_law_common" = true) (k10 : PySem.W.keepIn K (.ref f10) = true)
    (a11 : PySem.W.nsIn K mainGlobals "_law_span" = some (some (.ref f11))) (l11 : K.lookup f11 = some ⟨oc11, od11, .func (PySem.W.fnOf "_law_span" "_law_span" (defArgs s__law_span) (defBody s__law_span) (defScope s__law_span) .none kV11 dc11 pm11 an11 cd11 ct11), sl11⟩) (c11 : PySem.W.codeIn K cd11 "_law_span" = true) (k11 : PySem.W.keepIn K (.ref f11) = true)
    (a12 : PySem.W.nsIn K mainGlobals "_law_astray" = some (some (.ref f12))) (l12 : K.lookup f12 = some ⟨oc12, od12, .func (PySem.W.fnOf "_law_astray" "_law_astray" (defArgs s__law_astray) (defBody s__law_astray) (defScope s__law_astray) .none kV12 dc12 pm12 an12 cd12 ct12), sl12⟩) (c12 : PySem.W.codeIn K cd12 "_law_astray" = true) (k12 : PySem.W.keepIn K (.ref f12) = true)
    (a13 : PySem.W.nsIn K mainGlobals "_law_word" = some (some (.ref f13))) (l13 : K.lookup f13 = some ⟨oc13, od13, .func (PySem.W.fnOf "_law_word" "_law_word" (defArgs s__law_word) (defBody s__law_word) (defScope s__law_word) .none kV13 dc13 pm13 an13 cd13 ct13), sl13⟩) (c13 : PySem.W.codeIn K cd13 "_law_word" = true) (k13 : PySem.W.keepIn K (.ref f13) = true)
    (a14 : PySem.W.nsIn K mainGlobals "_law_pairs" = some (some (.ref f14))) (l14 : K.lookup f14 = some ⟨oc14, od14, .func (PySem.W.fnOf "_law_pairs" "_law_pairs" (defArgs s__law_pairs) (defBody s__law_pairs) (defScope s__law_pairs) .none kV14 dc14 pm14 an14 cd14 ct14), sl14⟩) (c14 : PySem.W.codeIn K cd14 "_law_pairs" = true) (k14 : PySem.W.keepIn K (.ref f14) = true)
    (a15 : PySem.W.nsIn K mainGlobals "_law_is_right" = some (some (.ref f15))) (l15 : K.lookup f15 = some ⟨oc15, od15, .func (PySem.W.fnOf "_law_is_right" "_law_is_right" (defArgs s__law_is_right) (defBody s__law_is_right) (defScope s__law_is_right) .none kV15 dc15 pm15 an15 cd15 ct15), sl15⟩) (c15 : PySem.W.codeIn K cd15 "_law_is_right" = true) (k15 : PySem.W.keepIn K (.ref f15) = true)
    (a16 : PySem.W.nsIn K mainGlobals "law" = some (some (.ref f16))) (l16 : K.lookup f16 = some ⟨oc16, od16, .func (PySem.W.fnOf "law" "law" (defArgs s_law) (defBody s_law) (defScope s_law) .none kV16 dc16 pm16 an16 cd16 ct16), sl16⟩) (c16 : PySem.W.codeIn K cd16 "law" = true) (k16 : PySem.W.keepIn K (.ref f16) = true)
    (z_abs : PySem.W.nsIn K mainGlobals "abs" = some none)
    (z_enumerate : PySem.W.nsIn K mainGlobals "enumerate" = some none)
    (z_int : PySem.W.nsIn K mainGlobals "int" = some none)
    (z_len : PySem.W.nsIn K mainGlobals "len" = some none)
    (z_list : PySem.W.nsIn K mainGlobals "list" = some none)
    (z_max : PySem.W.nsIn K mainGlobals "max" = some none)
    (z_min : PySem.W.nsIn K mainGlobals "min" = some none)
    (z_range : PySem.W.nsIn K mainGlobals "range" = some none)
    (z_repr : PySem.W.nsIn K mainGlobals "repr" = some none)
    (z_tuple : PySem.W.nsIn K mainGlobals "tuple" = some none)
    (x_gcd : PySem.W.nsIn K mainGlobals "gcd" = some (some (.builtin "math.gcd")))
    : ∃ fd : FuncData, (∀ (s : Shared) (v : Value), BindsTo s fd ⟨[v], []⟩ [("script", v)]) ∧ ∀ base : Heap, K.In base → base.Ns mainGlobals mg → FnG l.prog w K mg base CX0 4 fa fd ["script"] (sp_law K) := by
  have e := hfa.symm.trans (PySem.W.mg_of X G a16)
  cases e
  have F1 := fun_mk (st := s_speaking) l1 c1 k1
  have b1 := F1.binds (ps := ["word"]) fun _ _ _ _ _ _ us hl => match us, hl with | [_], _ => rfl
  have F2 := fun_mk (st := s_clashes) l2 c2 k2
  have b2 := F2.binds (ps := ["machine", "word"]) fun _ _ _ _ _ _ us hl => match us, hl with | [_, _], _ => rfl
  have F3 := fun_mk (st := s_is_clash) l3 c3 k3
  have b3 := F3.binds (ps := ["machine", "word", "i", "j"]) fun _ _ _ _ _ _ us hl => match us, hl with | [_, _, _, _], _ => rfl
  have F4 := fun_mk (st := s__law_vat) l4 c4 k4
  have b4 := F4.binds (ps := ["script"]) fun _ _ _ _ _ _ us hl => match us, hl with | [_], _ => rfl
  have F5 := fun_mk (st := s__law_draw) l5 c5 k5
  have b5 := F5.binds (ps := ["vat", "most"]) fun _ _ _ _ _ _ us hl => match us, hl with | [_, _], _ => rfl
  have F6 := fun_mk (st := s__law_pick) l6 c6 k6
  have b6 := F6.binds (ps := ["vat", "items"]) fun _ _ _ _ _ _ us hl => match us, hl with | [_, _], _ => rfl
  have F7 := fun_mk (st := s__law_mixed) l7 c7 k7
  have b7 := F7.binds (ps := ["vat", "items"]) fun _ _ _ _ _ _ us hl => match us, hl with | [_, _], _ => rfl
  have F8 := fun_mk (st := s__law_far) l8 c8 k8
  have b8 := F8.binds (ps := ["vat", "figures"]) fun _ _ _ _ _ _ us hl => match us, hl with | [_, _], _ => rfl
  have F9 := fun_mk (st := s__law_mods) l9 c9 k9
  have b9 := F9.binds (ps := ["vat", "width", "most"]) fun _ _ _ _ _ _ us hl => match us, hl with | [_, _, _], _ => rfl
  have F10 := fun_mk (st := s__law_common) l10 c10 k10
  have b10 := F10.binds (ps := ["near", "off"]) fun _ _ _ _ _ _ us hl => match us, hl with | [_, _], _ => rfl
  have F11 := fun_mk (st := s__law_span) l11 c11 k11
  have b11 := F11.binds (ps := ["mods", "these"]) fun _ _ _ _ _ _ us hl => match us, hl with | [_, _], _ => rfl
  have F12 := fun_mk (st := s__law_astray) l12 c12 k12
  have b12 := F12.binds (ps := ["mods", "rests", "number"]) fun _ _ _ _ _ _ us hl => match us, hl with | [_, _, _], _ => rfl
  have F13 := fun_mk (st := s__law_word) l13 c13 k13
  have b13 := F13.binds (ps := ["vat", "mods"]) fun _ _ _ _ _ _ us hl => match us, hl with | [_, _], _ => rfl
  have F14 := fun_mk (st := s__law_pairs) l14 c14 k14
  have b14 := F14.binds (ps := ["mods", "rests"]) fun _ _ _ _ _ _ us hl => match us, hl with | [_, _], _ => rfl
  have F15 := fun_mk (st := s__law_is_right) l15 c15 k15
  have b15 := F15.binds (ps := ["mods", "rests", "is_named"]) fun _ _ _ _ _ _ us hl => match us, hl with | [_, _, _], _ => rfl
  have F16 := fun_mk (st := s_law) l16 c16 k16
  have b16 := F16.binds (ps := ["script"]) fun _ _ _ _ _ _ us hl => match us, hl with | [_], _ => rfl
  have T : Txt K mg ⟨f1, _, f2, _, f3, _, f4, _, f5, _, f6, _, f7, _, f8, _, f9, _, f10, _, f11, _, f12, _, f13, _, f14, _, f15, _, fa, _⟩ := ⟨⟨F1, b1, PySem.W.mg_of X G a1⟩, ⟨F2, b2, PySem.W.mg_of X G a2⟩, ⟨F3, b3, PySem.W.mg_of X G a3⟩, ⟨F4, b4, PySem.W.mg_of X G a4⟩, ⟨F5, b5, PySem.W.mg_of X G a5⟩, ⟨F6, b6, PySem.W.mg_of X G a6⟩, ⟨F7, b7, PySem.W.mg_of X G a7⟩, ⟨F8, b8, PySem.W.mg_of X G a8⟩, ⟨F9, b9, PySem.W.mg_of X G a9⟩, ⟨F10, b10, PySem.W.mg_of X G a10⟩, ⟨F11, b11, PySem.W.mg_of X G a11⟩, ⟨F12, b12, PySem.W.mg_of X G a12⟩, ⟨F13, b13, PySem.W.mg_of X G a13⟩, ⟨F14, b14, PySem.W.mg_of X G a14⟩, ⟨F15, b15, PySem.W.mg_of X G a15⟩, ⟨F16, b16, PySem.W.mg_of X G a16⟩, PySem.W.mg_none_of X G z_abs, PySem.W.mg_none_of X G z_enumerate, PySem.W.mg_none_of X G z_int, PySem.W.mg_none_of X G z_len, PySem.W.mg_none_of X G z_list, PySem.W.mg_none_of X G z_max, PySem.W.mg_none_of X G z_min, PySem.W.mg_none_of X G z_range, PySem.W.mg_none_of X G z_repr, PySem.W.mg_none_of X G z_tuple, PySem.W.mg_of X G x_gcd⟩
  exact ⟨_, fun s v => .of_eq rfl, fun base _ _ => ok_law T⟩
end K12
open PySem PySem.W PyProof.Rows
set_option maxHeartbeats 0 in
theorem PySem.Challenge.cw_straylanes_k12_whole_clashes_by_going_th_holds : PySem.Challenge.rw_straylanes_k12_whole_clashes_by_going_th.Holds := by
  w_on; o_law; k_head; (case hw => w_witness2)
  k_fill
  refine Sx.walkG (l := PySem.Challenge.rw_straylanes_k12_whole_clashes_by_going_th) (n := 63) (k := 4) (x := "script") (sp := Sx.sp_law) rfl (by decide) rfl ⟨rfl, by decide, by decide⟩ (fun w h Y => PySem.W.kIn_of Y) ?F (fun _ _ a ns hl _ hS => ⟨a, ns, rfl, hS, hl, fun _ => rfl⟩)
  case F =>
    intro w mg fa h KX G hmg
    refine' K12.all_mk KX G hmg ?a1 ?l1 ?c1 ?k1 ?a2 ?l2 ?c2 ?k2 ?a3 ?l3 ?c3 ?k3 ?a4 ?l4 ?c4 ?k4 ?a5 ?l5 ?c5 ?k5 ?a6 ?l6 ?c6 ?k6 ?a7 ?l7 ?c7 ?k7 ?a8 ?l8 ?c8 ?k8 ?a9 ?l9 ?c9 ?k9 ?a10 ?l10 ?c10 ?k10 ?a11 ?l11 ?c11 ?k11 ?a12 ?l12 ?c12 ?k12 ?a13 ?l13 ?c13 ?k13 ?a14 ?l14 ?c14 ?k14 ?a15 ?l15 ?c15 ?k15 ?a16 ?l16 ?c16 ?k16 ?z_abs ?z_enumerate ?z_int ?z_len ?z_list ?z_max ?z_min ?z_range ?z_repr ?z_tuple ?x_gcd
    (case a1 => k_is)
    (case l1 => k_is)
    (case c1 => k_is)
    (case k1 => k_is)
    (case a2 => k_is)
    (case l2 => k_is)
    (case c2 => k_is)
    (case k2 => k_is)
    (case a3 => k_is)
    (case l3 => k_is)
    (case c3 => k_is)
    (case k3 => k_is)
    (case a4 => k_is)
    (case l4 => k_is)
    (case c4 => k_is)
    (case k4 => k_is)
    (case a5 => k_is)
    (case l5 => k_is)
    (case c5 => k_is)
    (case k5 => k_is)
    (case a6 => k_is)
    (case l6 => k_is)
    (case c6 => k_is)
    (case k6 => k_is)
    (case a7 => k_is)
    (case l7 => k_is)
    (case c7 => k_is)
    (case k7 => k_is)
    (case a8 => k_is)
    (case l8 => k_is)
    (case c8 => k_is)
    (case k8 => k_is)
    (case a9 => k_is)
    (case l9 => k_is)
    (case c9 => k_is)
    (case k9 => k_is)
    (case a10 => k_is)
    (case l10 => k_is)
    (case c10 => k_is)
    (case k10 => k_is)
    (case a11 => k_is)
    (case l11 => k_is)
    (case c11 => k_is)
    (case k11 => k_is)
    (case a12 => k_is)
    (case l12 => k_is)
    (case c12 => k_is)
    (case k12 => k_is)
    (case a13 => k_is)
    (case l13 => k_is)
    (case c13 => k_is)
    (case k13 => k_is)
    (case a14 => k_is)
    (case l14 => k_is)
    (case c14 => k_is)
    (case k14 => k_is)
    (case a15 => k_is)
    (case l15 => k_is)
    (case c15 => k_is)
    (case k15 => k_is)
    (case a16 => k_is)
    (case l16 => k_is)
    (case c16 => k_is)
    (case k16 => k_is)
    (case z_abs => k_is)
    (case z_enumerate => k_is)
    (case z_int => k_is)
    (case z_len => k_is)
    (case z_list => k_is)
    (case z_max => k_is)
    (case z_min => k_is)
    (case z_range => k_is)
    (case z_repr => k_is)
    (case z_tuple => k_is)
    (case x_gcd => k_is)
