import PyProof.Rows.All
import Wide.All
import OpenK.AllK
import Wide.FinOn
import PyProof.ReprRoads
import PyProof.ReprLen
import HandS.ForMost
import HandS.Wide
import HandS.IsInst
import HandS.Walk
import HandS.Zip
import HandS.TupAny
import HandS.TupMul
import HandS.SortInts
import HandS.Flow
import HandS.Evl
import KE.GoesEnum
import KE.GoesMore
import KE.GoesZip
import KE.DataMinMax
import HandS.Conv
import PySem.Challenge.RW_straylanes_k05_whole_values_and_hulls
set_option Elab.async false
set_option linter.all false
set_option maxRecDepth 100000
/-! The layer below: defs whose call knows that no repr is under way, repr of data, calls by keywords alone, rules of either kind. -/
namespace Sx
open PySem PySem.Spec PyProof.Rows L2

/-! ### a def that shows data: called where no repr is under way -/
structure FnG (P : Program) (w : World) (K : PySem.W.Frag) (mg : Str → Option Value) (B : Heap) (CX : CXT) (n : Nat) (f : Addr) (fd : FuncData) (ps : List Str) (sp : Sp) : Prop where
  lenG : ∀ vs H Q E, sp vs H Q E → vs.length = ps.length
  runG : ∀ (A : Around) (out : List Env) (s : Shared) (H : Hp) (as : Args) (us : List Value) (vs : List V) (Q : VK) (E : XK), A.guards = some [] → Room n A →
    Env0 P w K mg B A out s H → BindsTo s fd as (ps.zip us) → Vals vs us → sp vs H Q E → codeAny (model P w) A (.call (.ref f) as) (CR CX out P w H s Q E) s

section
variable {P : Program} {w : World} {K : PySem.W.Frag} {mg : Str → Option Value} {B : Heap} {CX : CXT}
theorem FnG.up {n m : Nat} {f : Addr} {fd : FuncData} {ps : List Str} {sp : Sp} (F : FnG P w K mg B CX n f fd ps sp) (h : n ≤ m) : FnG P w K mg B CX m f fd ps sp :=
  ⟨F.lenG, fun A out s H as us vs Q E hg hr => F.runG A out s H as us vs Q E hg (hr.mono h)⟩
/-- from the body, for a def that may raise -/
theorem okGX {x qual : Str} {st : Stmt} {f : Addr} {fd : FuncData} {N ps : List Str} {n : Nat} {sp : Sp} (F : Fun K x qual st f fd) (S : FnScope N ps (defScope st)) (hlen : ∀ vs H Q E, sp vs H Q E → vs.length = ps.length)
    (body : ∀ (cd : Value) (A : Around) (out : List Env) (s : Shared) (H : Hp) (vs : List V) (Q : VK) (E : XK), A.guards = some [] → Room n (A.deeper (envOfC qual (defScope st) s.heap.objs.size f cd)) → sp vs H Q E →
      ∃ t, PSs (cxOf CX P w K mg B N qual (defScope st) f cd A out s H E) (defBody st) t ∧ t { nx := fun _ H1 => Q .non H1, rt := Q } (start N vs) H) : FnG P w K mg B CX (n + 1) f fd ps sp := by
  obtain ⟨oc, od, kV, doc, pm, an, cd, ct, osl, rfl, lk, hcd⟩ := F.ex
  refine ⟨hlen, ?_⟩
  intro A out s H as us vs Q E hg hr e0 hb rel hsp
  have hl := hlen vs H Q E hsp
  have kin : K.In s.heap := e0.mod.kin.keeps (fun b o e => (e0.bs b o e).1)
  have nol : s.heap.NoLimit := e0.mod.nolimit.keeps (fun b o e => (e0.bs b o e).1)
  refine codeAny_call_function hr.depth (kin _ _ lk) rfl S.co S.gen rfl (PySem.W.codeRec_of kin hcd)
    (hb _ _ _ _ ?_)
  refine wpAny_newFunctionEnv_cells S.kind (fun y hy => (S.par y.1 (List.of_mem_zip (a := y.1) (b := y.2) hy).1).elim (fun q => Or.inl q) fun q => Or.inr ⟨q, PySem.W.cellsFrom_some _ _ _ (Or.inl q)⟩) ?_
  intro env he s1 x
  subst he
  refine ⟨nol.keeps x.toInCall.keep, codeAny_func ?_⟩
  obtain ⟨t, ht, hq⟩ := body cd A out s H vs Q E hg (hr.deeper _) hsp
  have I := inv_start (CX := CX) (E := E) S hr.hd e0 hl rel x
  refine wpAny_mono (ht.run [] s1 (start N vs) H _ I hq) ?_ (fun _ _ z => z)
  intro fl s' hs
  cases fl with
  | ret u =>
    obtain ⟨v, σ1, H1, J, rv, q⟩ := hs
    exact (show CE out P w H s Q u s' from ⟨v, H1, J.os, J.bare, J.base, J.hok, rv, q⟩)
  | next =>
    obtain ⟨σ1, H1, J, q⟩ := hs
    exact (show CE out P w H s Q Value.none s' from ⟨V.non, H1, J.os, J.bare, J.base, J.hok, rfl, q⟩)
  | brk =>
    obtain ⟨_, _, _, q⟩ := hs
    exact q.elim
  | cont =>
    obtain ⟨_, _, _, q⟩ := hs
    exact q.elim
theorem okG {x qual : Str} {st : Stmt} {f : Addr} {fd : FuncData} {N ps : List Str} {n : Nat} {sp : Sp} (F : Fun K x qual st f fd) (S : FnScope N ps (defScope st)) (hlen : ∀ vs H Q E, sp vs H Q E → vs.length = ps.length)
    (body : ∀ (cd : Value) (A : Around) (out : List Env) (s : Shared) (H : Hp) (vs : List V) (Q : VK) (E : XK), A.guards = some [] → Room n (A.deeper (envOfC qual (defScope st) s.heap.objs.size f cd)) → sp vs H Q E →
      ∃ t, PSs (cxOf CX0 P w K mg B N qual (defScope st) f cd A out s H E).nox (defBody st) t ∧ t { nx := fun _ H1 => Q .non H1, rt := Q } (start N vs) H) : FnG P w K mg B CX0 (n + 1) f fd ps sp :=
  okGX F S hlen fun cd A out s H vs Q E hg hr hsp => let ⟨t, h, q⟩ := body cd A out s H vs Q E hg hr hsp; ⟨t, h.nox, q⟩
end

section
variable {X : Cx} {CX : CXT} {n : Nat} {f : Addr} {fd : FuncData} {ps : List Str} {sp : Sp} {dvs : List V} {ds : List Value} {E : XK} {x : Str} {p pos : Pos} {e : Expr} {es : List Expr} {t : TA}
theorem run_fnG {pins : List (Addr × Obj)} {σ : L2.St} {H : Hp} {s : Shared} {Q : VK} {us : List Value} {vs : List V} (hg : X.A.guards = some []) (F : FnG X.prog X.w X.K X.mg X.base CX n f fd ps sp) (hr : Room n X.A) (hb : Binds X.K fd ps [])
    (hx : Passes CX X E) (I : Inv X pins σ H s) (r : Vals vs us) (h : sp vs H Q E) : wpAny (model X.prog X.w) X.A (call (.ref f) us) (EP X pins σ Q) X.xe s := by
  have hl : (us ++ []).length = ps.length := by
    rw [List.append_nil, ← r.length]
    exact F.lenG _ _ _ _ h
  have bb := hb s us I.kIn hl
  rw [List.append_nil] at bb
  refine wpAny_call (codeAny_mono (F.runG X.A X.stack s H ⟨us, []⟩ us vs Q E hg hr I.env0 bb r h) ?_)
  intro res s' hq
  match res, hq with
  | .error e, hq => exact hx pins σ H s e s' I hq
  | .ok (.ret u), hq => exact I.after hq
  | .ok .next, hq => exact False.elim hq
  | .ok .brk, hq => exact False.elim hq
  | .ok .cont, hq => exact False.elim hq
theorem pe_callG (hg : X.A.guards = some []) (F : FnG X.prog X.w X.K X.mg X.base CX n f fd ps sp) (hr : Room n X.A) (hgl : Gl X x) (hm : X.mg x = some (.ref f)) (hk : PySem.W.keepIn X.K (.ref f) = true) (hb : Binds X.K fd ps [])
    (hx : Passes CX X E) (ha : PA X (e :: es) t) (hdb : (x == ("__debug__" : Str)) = false := by decide) (he : starEach (e :: es) X.env = (false, eval e X.env) :: starEach es X.env := by rfl)
    (hpl : (backTo pos (starEach es X.env)).any (·.1) = false := by rfl) : PE X (.Call (.Name x p) (e :: es) [] pos) (tCall sp [] E t) := by
  refine ⟨fun pins s σ H Q I h => wpAny_Call_Name_kw (ld_glob I hgl hm ?_ hdb)⟩
  refine PySem.W.callWith_K (h₀ := X.base) I.ok.mod.kin hk (thn (ha.run pos pins s σ H _ I h) ?_) he hpl
  rintro us s1 ⟨vs, H1, I1, r, q⟩
  have q' : sp (vs ++ []) H1 Q E := q
  rw [List.append_nil] at q'
  exact ⟨I1.kIn, run_fnG hg F hr hb hx I1 r q'⟩
/-- f(k = v, ..), no positional argument -/
theorem pe_callKs {ks : List Str} {kws : List Keyword} {tk : TA} {g : List Value → List Value → List Value} {gV : List V → List V → List V} (F : FnOk X.prog X.w X.K X.mg X.base CX n f fd ps sp) (hr : Room n X.A) (hgl : Gl X x) (hm : X.mg x = some (.ref f))
    (hk : PySem.W.keepIn X.K (.ref f) = true) (hb : KBinds X.K fd ps ks g gV) (hx : Passes CX X E) (hkw : PK X kws tk) (hall : (backToKw pos (keywordEach kws X.env)).all (·.1.isSome) = true := by rfl)
    (hks : (backToKw pos (keywordEach kws X.env)).filterMap (·.1) = ks := by rfl) (hdb : (x == ("__debug__" : Str)) = false := by decide)
    (hpl : ((backTo pos (starEach [] X.env)).any (·.1) || (backToKw pos (keywordEach kws X.env)).any (·.1.isNone)) = false := by rfl) : PE X (.Call (.Name x p) [] kws pos) (tCallK sp gV E tNil tk) := by
  refine ⟨fun pins s σ H Q I h => wpAny_Call_Name_kw (ld_glob I hgl hm ?_ hdb)⟩
  refine PySem.W.callWith_KW0 (h₀ := X.base) I.ok.mod.kin hk hall (thn (hkw.run pos pins s σ H _ I h) ?_) hpl
  rintro ws s2 ⟨zs, H2, I2, rz, q2⟩
  refine ⟨I2.kIn, ?_⟩
  rw [hks]
  exact run_fnk (us := []) (vs := []) F hr hb hx I2 .nil rz q2
end

/-! ### how keywords bind, by the parameters' names alone -/
theorem Fun.kb {K : PySem.W.Frag} {x qual : Str} {st : Stmt} {f : Addr} {fd : FuncData} {ps ks : List Str} {g : List Value → List Value → List Value} {gV : List V → List V → List V} (F : Fun K x qual st f fd)
    (h : ∀ (kV doc pm : Value) (an : Option Addr) (cd ct : Value) (us ws : List Value), (g us ws).length = ps.length → bindArgs (PySem.W.fnOf x qual (defArgs st) (defBody st) (defScope st) .none kV doc pm an cd ct) ⟨us, ks.zip ws⟩ = pure (ps.zip (g us ws)))
    (rel : ∀ {vs : List V} {us : List Value} {zs : List V} {ws : List Value}, Vals vs us → Vals zs ws → Vals (gV vs zs) (g us ws)) : KBinds K fd ps ks g gV := by
  obtain ⟨oc, od, kV, doc, pm, an, cd, ct, osl, rfl, lk, hcd⟩ := F.ex
  exact ⟨fun s us ws _ hl => .of_eq (h kV doc pm an cd ct us ws hl), rel⟩

/-! ### repr of data -/
mutual
theorem dp_plain {K : PySem.W.Frag} {H : Hp} : ∀ (d : PyData) (v : V), Dp K H v d → d.hasDict = false
  | .none, _, _ => by simp only [PyData.hasDict]
  | .bool _, _, _ => by simp only [PyData.hasDict]
  | .int _, _, _ => by simp only [PyData.hasDict]
  | .str _, _, _ => by simp only [PyData.hasDict]
  | .list ds, _, h => by
    cases h with
    | lst _ ha =>
      simp only [PyData.hasDict]
      exact dp_plainAll ds _ ha
  | .tuple ds, _, h => by
    cases h with
    | tup _ ha =>
      simp only [PyData.hasDict]
      exact dp_plainAll ds _ ha
  | .dict _, _, h => by cases h
theorem dp_plainAll {K : PySem.W.Frag} {H : Hp} : ∀ (ds : List PyData) (vs : List V), DpAll K H vs ds → PyData.hasDictAll ds = false
  | [], _, _ => by simp only [PyData.hasDictAll]
  | d :: ds, _, h => by
    cases h with
    | cons h1 h2 =>
      simp only [PyData.hasDictAll, dp_plain d _ h1, dp_plainAll ds _ h2, Bool.or_self]
end
/-- what may be shown -/
structure Shows (d : PyData) : Prop where
  ok : d.showable = true
  sz : d.shown.length ≤ sizeLine
  dp : d.depth ≤ 60
def rShow (K : PySem.W.Frag) : List V → Hp → VK → Prop := fun xs H Q => ∃ v d, xs = [v] ∧ Dp K H v d ∧ Shows d ∧ Q (.str d.shown) H
theorem call_show {X : Cx} (hg : X.A.guards = some []) (hu : X.A.units + 64 < cLine) : CallR X (.builtin "repr") (rShow X.K) := by
  intro pins s σ H xs us Q I r h
  obtain ⟨v, d, rfl, hd, S, q⟩ := h
  obtain ⟨u, rfl, r1⟩ := vals1 r
  have q0 : (PyData.shown d) = d.shown := rfl
  cases hd with
  | non =>
    obtain rfl : u = Value.none := r1
    simp only [PyData.shown] at q
    exact PySem.P.repr_of_none ⟨.str _, H, I.tok _, ⟨_, rfl⟩, q⟩
  | bl b =>
    obtain rfl : u = Value.bool b := r1
    simp only [PyData.shown] at q
    exact PySem.P.repr_of_bool ⟨.str _, H, I.tok _, ⟨_, rfl⟩, by cases b <;> exact q⟩
  | int i =>
    obtain ⟨t, rfl⟩ := r1
    have hs := S.ok
    simp only [PyData.shown] at q
    exact PySem.P.repr_of_int (by simpa [PyData.showable] using hs) ⟨.str _, H, I.tok _, ⟨_, rfl⟩, q⟩
  | str y =>
    obtain ⟨t, rfl⟩ := r1
    have hz := S.sz
    simp only [PyData.shown] at q hz
    exact PySem.P.repr_of_str ⟨.str _, H, I.tok _, ⟨_, rfl⟩, q⟩ hz
  | @lst a ys ds h1 h2 =>
    obtain rfl : u = Value.ref a := r1
    have hp := dp_plain _ _ (Dp.lst h1 h2)
    obtain ⟨as, rd⟩ := Dp.reads I _ (V.ref a) (Value.ref a) (Dp.lst h1 h2) rfl
    exact repr_of_reads' rd S.ok (PyData.noDict_hsm hp) hg (by have := S.dp; omega) (fun _ _ e => e) (fun h' tu tk hk => ⟨.str _, H, I.kept hk, ⟨_, rfl⟩, q⟩) S.sz
  | @tup a ys ds h1 h2 =>
    obtain rfl : u = Value.ref a := r1
    have hp := dp_plain _ _ (Dp.tup h1 h2)
    obtain ⟨as, rd⟩ := Dp.reads I _ (V.ref a) (Value.ref a) (Dp.tup h1 h2) rfl
    exact repr_of_reads' rd S.ok (PyData.noDict_hsm hp) hg (by have := S.dp; omega) (fun _ _ e => e) (fun h' tu tk hk => ⟨.str _, H, I.kept hk, ⟨_, rfl⟩, q⟩) S.sz
end Sx
namespace Sx
open PySem PySem.Spec PyProof.Rows L2

/-! ### the law's end, for a law that shows data -/
section
variable {P : Program} {w : World} {K : PySem.W.Frag} {mg mb : Str → Option Value} {n : Nat} {fa a : Addr} {fd : FuncData} {x : Str} {sp : Sp} {s : Shared} {us : List Value} {ns : List Int}
abbrev Good (s : Shared) : Result → Shared → Prop := fun r s' => r = .ok (.ret (.bool true)) ∧ OldK s.heap s'.heap ∧ s'.os = s.os ∧ AllBare s'.gens
/-- from an abstract heap in which the script alone may stand -/
theorem law_from (kin : K.In s.heap) (hns : s.heap.Ns mainGlobals mg) (hb : s.heap.Ns builtinsNs mb) (hbb : ∀ x : Str, x ≠ "__name__" → mb x = bootBuiltins x) (hlim : s.heap.NoLimit) (hgens : s.gens = #[])
    (ha : s.heap.get? a = some { cls := .type "list", data := .seq us.toArray }) (hr : Room n callerA)
    (F : ∀ B : Heap, K.In B → B.Ns mainGlobals mg → FnG P w K mg B CX0 n fa fd [x] sp) (hbind : ∀ (s : Shared) (u : Value), BindsTo s fd ⟨[u], []⟩ [(x, u)]) (H : Hp)
    (hsp : sp [.ref a] H (fun v _ => v = .bl true) fun _ _ _ => False) (only : Only H) (ok : HOk P w H s.heap) (one : ∀ b, H b ≠ none → b = a) (apart : H a ≠ none → K.lookup a = none) :
    codeAny (model P w) callerA (.call (.ref fa) ⟨[.ref a], []⟩) (Good s) s := by
  have free : ∀ {b : Addr} {o : Obj} {es : Array DictEntry} {ep : Nat}, s.heap.get? b = some o → o.data = .dict es ep → H b = none := by
    intro b o es ep e d
    cases q : H b with
    | none => rfl
    | some z =>
      obtain rfl : b = a := one b (by rw [q]; exact fun z => nomatch z)
      rw [ha] at e
      cases e
      exact nomatch (show Data.seq us.toArray _ = Data.dict es ep from d)
  have hidN : ∀ {b : Addr} {m : Str → Option Value}, s.heap.Ns b m → (hidT s.heap H).Ns b m := by
    rintro b m ⟨o, es, ep, e, d, r⟩
    exact ⟨o, es, ep, hidT_get e (free e d), d, r⟩
  have hidK : K.In (hidT s.heap H) := by
    intro b o e
    refine hidT_get (kin b o e) ?_
    cases q : H b with
    | none => rfl
    | some z =>
      obtain rfl : b = a := one b (by rw [q]; exact fun z => nomatch z)
      rw [apart (by rw [q]; exact fun z => nomatch z)] at e
      cases e
  have M : Mod K mg (hidT s.heap H) := by
    obtain ⟨mc, h1, h2⟩ := hlim
    exact ⟨hidK, hidN hns, ⟨mb, hidN hb, hbb⟩, ⟨mc, hidN h1, h2⟩⟩
  have e0 : Env0 P w K mg (hidT s.heap H) callerA [] s H :=
    ⟨rfl, M, fun b o e => of_hidT e, Nat.le_of_eq (hidT_size _ _), trivial, fun b z => (List.not_mem_nil (a := b) z).elim, ok, .of_eq hgens⟩
  refine codeAny_mono ((F _ hidK (hidN hns)).runG callerA [] s H ⟨[.ref a], []⟩ [.ref a] [.ref a] _ _ rfl hr e0 (hbind s (.ref a)) (.cons rfl .nil) hsp) ?_
  intro r s' h
  match r, h with
  | .error e, h => exact (show False from h).elim
  | .ok .next, h => exact (show False from h).elim
  | .ok .brk, h => exact (show False from h).elim
  | .ok .cont, h => exact (show False from h).elim
  | .ok (.ret u), h =>
    obtain ⟨v, H1, os, bare, un, ok1, rv, q⟩ := h
    obtain rfl : v = .bl true := q
    obtain rfl : u = Value.bool true := rv
    refine ⟨rfl, OldK.of_keep ?_, os, bare⟩
    intro b o e
    cases q : H b with
    | none => exact un.keep b o e q (List.not_mem_nil (a := b)) (List.not_mem_nil (a := b))
    | some z =>
      rcases only b with h | ⟨ob, xs, h⟩
      · rw [q] at h
        cases h
      · obtain ⟨e1, _⟩ := ok b _ h
        obtain ⟨e2, _⟩ := ok1 b _ (un.frzs b ob _ h)
        rw [e] at e1
        cases e1
        exact e2
theorem law_callG (kin : K.In s.heap) (hns : s.heap.Ns mainGlobals mg) (hb : s.heap.Ns builtinsNs mb) (hbb : ∀ x : Str, x ≠ "__name__" → mb x = bootBuiltins x) (hlim : s.heap.NoLimit) (hgens : s.gens = #[])
    (ha : s.heap.get? a = some { cls := .type "list", data := .seq us.toArray }) (hi : IntsAre us ns) (hl : ns.length ≤ sizeLine) (hr : Room n callerA)
    (F : ∀ B : Heap, K.In B → B.Ns mainGlobals mg → FnG P w K mg B CX0 n fa fd [x] sp) (hbind : ∀ (s : Shared) (u : Value), BindsTo s fd ⟨[u], []⟩ [(x, u)])
    (hsp : ∀ H : Hp, Only H → SqL K H a (ns.map V.int) → sp [.ref a] H (fun v _ => v = .bl true) fun _ _ _ => False) : codeAny (model P w) callerA (.call (.ref fa) ⟨[.ref a], []⟩) (Good s) s := by
  have rv := vals_ints hi
  cases hk : K.lookup a with
  | some o =>
    have e := kin a o hk
    rw [ha] at e
    cases e
    have hO : Only (fun _ => none) := fun _ => Or.inl rfl
    refine law_from kin hns hb hbb hlim hgens ha hr F hbind (fun _ => none) (hsp _ hO (.inr ⟨_, us.toArray, _, hk, rfl, rfl, rfl, ?_, ?_⟩)) hO (fun b z h => nomatch h) (fun b z => absurd rfl z) (fun z => absurd rfl z)
    · rw [List.size_toArray, hi.length]
      exact hl
    · simpa using rv
  | none =>
    let ob : Obj := { cls := .type "list", data := .seq us.toArray }
    let H0 : Hp := fun b => if b = a then some (.frz ob (.lst (ns.map V.int))) else none
    have at_a : H0 a = some (.frz ob (.lst (ns.map V.int))) := if_pos rfl
    have off_a : ∀ b, b ≠ a → H0 b = none := fun b h => if_neg h
    have hO : Only H0 := by
      intro b
      by_cases h : b = a
      · rw [h]
        exact Or.inr ⟨_, _, at_a⟩
      · exact Or.inl (off_a b h)
    refine law_from kin hns hb hbb hlim hgens ha hr F hbind H0 (hsp _ hO (.inl (.inr ⟨ob, at_a⟩))) hO ?_ ?_ (fun _ => hk)
    · intro b z h
      by_cases hb : b = a
      · subst hb
        rw [at_a] at h
        cases h
        refine ⟨ha, ?_, us, _, rv, ha⟩
        rw [List.length_map]
        exact hl
      · rw [off_a b hb] at h
        cases h
    · intro b z
      by_cases h : b = a
      · exact h
      · exact absurd (off_a b h) z
end
/-- what k_head leaves of such a law -/
theorem walkG {l : PySem.W.OpenLaw} {n k : Nat} {q : Program} {loose : List Str} {XP : (Str → Option Value) → Heap → Prop} {YP : World → Heap → Prop} {d : DefRec} {K : Params → PySem.W.Frag} {sp : PySem.W.Frag → Sp} {x : Str}
    (hn : l.most = some n) (hz : n ≤ sizeLine) (hdf : d.params.defaults = []) (hr : Room k callerA) (hY : ∀ (w : World) (h : Heap), YP w h → (K w.params).In h)
    (F : ∀ (w : World) (mg : Str → Option Value) (fa : Addr) (h : Heap), (K w.params).In h → h.Ns mainGlobals mg → mg d.name = some (.ref fa) →
      ∃ fd : FuncData, (∀ (s : Shared) (u : Value), BindsTo s fd ⟨[u], []⟩ [(x, u)]) ∧ ∀ B : Heap, (K w.params).In B → B.Ns mainGlobals mg → FnG l.prog w (K w.params) mg B CX0 k fa fd [x] (sp (K w.params)))
    (hsp : ∀ (K : PySem.W.Frag) (H : Hp) (a : Addr) (ns : List Int), ns.length ≤ n → Only H → SqL K H a (ns.map V.int) → sp K [.ref a] H (fun v _ => v = .bl true) fun _ _ _ => False) :
    PySem.W.WalkO q loose XP YP l.row.toRowW d [] (fun f vs => PySem.call f vs) := by
  refine Att.attach_call hn hdf ?_
  intro w s₀ s₁ mg mb fa o pm cd doc a vs ns G Y ho hd hcd hmg hobj hints hlen hg
  have kin := hY w _ Y
  obtain ⟨fd, hb, hF⟩ := F w mg fa _ kin G.T.g hmg
  exact law_callG kin G.T.g G.T.b G.T.builtins G.T.nolimit hg hobj hints (Nat.le_trans hlen hz) hr hF hb fun H hO hS => hsp _ H a ns hlen hO hS
end Sx
namespace Sx
open PySem PySem.Spec PyProof.Rows L2


/-! ### rules of either kind -/
theorem OpR.or {X : Cx} {f : Value → Value → Sem Value} {r r' : R2} (h : OpR X f r) (h' : OpR X f r') : OpR X f (fun x y H Q => r x y H Q ∨ r' x y H Q) := by
  intro pins s σ H x y v u Q I rx ry q
  rcases q with q | q
  · exact h pins s σ H x y v u Q I rx ry q
  · exact h' pins s σ H x y v u Q I rx ry q
theorem PI.or {X : Cx} {tg it : Expr} {wi wi' : TI} (h : PI X tg it wi) (h' : PI X tg it wi') : PI X tg it (fun σ H R => wi σ H R ∨ wi' σ H R) := by
  refine ⟨fun pins s σ H R I q => ?_⟩
  rcases q with q | q
  · exact h.run pins s σ H R I q
  · exact h'.run pins s σ H R I q
def iSeq (K : PySem.W.Frag) (tl : TE) : TI := fun σ H R => iList K tl σ H R ∨ iTup K tl σ H R
theorem pi_seq {X : Cx} {tg l : Expr} {tl : TE} (h : PE X l tl) : PI X tg l (iSeq X.K tl) := PI.or (pi_list h) (pi_tup h)
/-- a name of the module that holds a value -/
structure Cst (mg : Str → Option Value) (x : Str) (v : V) : Prop where
  ex : ∃ u, mg x = some u ∧ RelV v u
theorem pe_cst {X : Cx} {x : Str} {v : V} {pos : Pos} (c : Cst X.mg x v) (hg : Gl X x) (hd : (x == ("__debug__" : Str)) = false := by decide) : PE X (.Name x pos) (tC v) := by
  obtain ⟨u, h, r⟩ := c.ex
  exact pe_glob hg h r hd
/-- where a def of the text stands -/
structure At (K : PySem.W.Frag) (mg : Str → Option Value) (x : Str) (st : Stmt) (ps : List Str) (f : Addr) (fd : FuncData) : Prop where
  F : Fun K x x st f fd
  b : Binds K fd ps []
  m : mg x = some (.ref f)

def rLenS (K : PySem.W.Frag) : List V → Hp → VK → Prop := fun xs H Q => ∃ p ys, xs = [.ref p] ∧ (SqL K H p ys ∨ SqT K H p ys) ∧ Q (.int (ys.length : Nat)) H
def rListS (K : PySem.W.Frag) : List V → Hp → VK → Prop := fun xs H Q => ∃ p ys, xs = [.ref p] ∧ (SqL K H p ys ∨ SqT K H p ys) ∧ ∀ l, H l = none → Q (.ref l) (upd H l (.lst ys))
def rTupS (K : PySem.W.Frag) : List V → Hp → VK → Prop := fun xs H Q => ∃ p ys, xs = [.ref p] ∧ ((SqL K H p ys ∧ ∀ l, H l = none → Q (.ref l) (upd H l (.tup ys))) ∨ (SqT K H p ys ∧ Q (.ref p) H))

/-! ### heaps -/
theorem same_new {H : Hp} {p : Addr} {o : HO} (h : H p = none) : Same H (upd H p o) := by
  intro b x e
  rw [upd_ne (ne_of_none e h)]
  exact e
theorem Same.tup {K : PySem.W.Frag} {H H' : Hp} {a : Addr} {xs : List V} (e : Same H H') (h : SqT K H a xs) : SqT K H' a xs := by
  rcases h with (h | ⟨o, h⟩) | h
  · exact .inl (.inl (e _ _ h))
  · exact .inl (.inr ⟨o, e _ _ h⟩)
  · exact .inr h
mutual
theorem dp_same {K : PySem.W.Frag} {H H' : Hp} (e : Same H H') : ∀ (d : PyData) (v : V), Dp K H v d → Dp K H' v d
  | .none, _, h => by
    cases h
    exact .non
  | .bool _, _, h => by
    cases h
    exact .bl _
  | .int _, _, h => by
    cases h
    exact .int _
  | .str _, _, h => by
    cases h
    exact .str _
  | .list ds, _, h => by
    cases h with
    | lst h1 h2 => exact .lst (L2.Same.seq e h1) (dpa_same e ds _ h2)
  | .tuple ds, _, h => by
    cases h with
    | tup h1 h2 => exact .tup (Same.tup e h1) (dpa_same e ds _ h2)
  | .dict _, _, h => by cases h
theorem dpa_same {K : PySem.W.Frag} {H H' : Hp} (e : Same H H') : ∀ (ds : List PyData) (vs : List V), DpAll K H vs ds → DpAll K H' vs ds
  | [], _, h => by
    cases h
    exact .nil
  | d :: ds, _, h => by
    cases h with
    | cons h1 h2 => exact .cons (dp_same e d _ h1) (dpa_same e ds _ h2)
end
theorem dpa_ints {K : PySem.W.Frag} {H : Hp} : ∀ ns : List Int, DpAll K H (ns.map V.int) (ns.map PyData.int)
  | [] => .nil
  | n :: ns => .cons (.int n) (dpa_ints ns)

/-! ### shapes of flat data -/
theorem canAll_ints : ∀ ns : List Int, PyData.canLayAll0 (ns.map PyData.int) = true
  | [] => by simp [PyData.canLayAll0]
  | n :: ns => by simp [PyData.canLayAll0, PyData.canLay0, canAll_ints ns]
theorem depthAll_ints : ∀ ns : List Int, PyData.depthAll (ns.map PyData.int) ≤ 1
  | [] => by simp [PyData.depthAll]
  | n :: ns => by
    have := depthAll_ints ns
    simp only [List.map_cons, PyData.depthAll, PyData.depth]
    exact Nat.max_le.mpr ⟨Nat.zero_le _, this⟩
theorem shaped_ints (ns : List Int) : SeqAt.shaped (.list (ns.map PyData.int)) = true := by
  have h1 := canAll_ints ns
  have h2 := depthAll_ints ns
  unfold SeqAt.shaped
  simp only [PyData.canLay0, PyData.depth, Bool.and_eq_true, decide_eq_true_eq]
  exact ⟨h1, decide_eq_true (by omega)⟩
theorem eqv_nil_ints (ns : List Int) : PyData.eqv (.list (ns.map PyData.int)) (.list []) = ns.isEmpty := by
  cases ns <;> simp [PyData.eqv, PyData.eqvAll]

/-! ### the law's box: a dict with a list and two ints, and nothing of it in H0 -/
def boxKv (g : Addr) (st ct : Int) : List (Key × V) := [(Sum.inr "great", .ref g), (Sum.inr "stirred", .int st), (Sum.inr "count", .int ct)]
structure Bs (H0 H : Hp) (b g : Addr) : Prop where
  sub : Same H0 H
  nb : H0 b = none
  ng : H0 g = none
  ls : ∃ ms : List Int, H g = some (.lst (ms.map V.int)) ∧ ms.length ≤ 63
  dc : ∃ st ct : Int, H b = some (.dK (boxKv g st ct))
namespace Bs
variable {H0 H H1 : Hp} {b g p : Addr} {o u : HO} {K : PySem.W.Frag}
theorem bg (B : Bs H0 H b g) : b ≠ g := by
  obtain ⟨ms, h1, _⟩ := B.ls
  obtain ⟨st, ct, h2⟩ := B.dc
  exact ne_of h2 h1 (fun z => nomatch z)
theorem pb (B : Bs H0 H b g) (n : H p = none) : p ≠ b := by
  obtain ⟨st, ct, h2⟩ := B.dc
  exact (ne_of_none h2 n).symm
theorem pg (B : Bs H0 H b g) (n : H p = none) : p ≠ g := by
  obtain ⟨ms, h2, _⟩ := B.ls
  exact (ne_of_none h2 n).symm
/-- the heap grows by what H0 does not know -/
theorem more (B : Bs H0 H b g) (s : Same H H1) : Bs H0 H1 b g := by
  obtain ⟨ms, h1, h2⟩ := B.ls
  obtain ⟨st, ct, h3⟩ := B.dc
  exact ⟨B.sub.trans s, B.nb, B.ng, ⟨ms, s _ _ h1, h2⟩, ⟨st, ct, s _ _ h3⟩⟩
/-- a new object, known to H0 from now on -/
theorem new (B : Bs H0 H b g) (n : H p = none) : Bs (upd H0 p o) (upd H p o) b g := by
  have n0 := B.sub.free n
  have B1 := B.more (same_new (o := o) n)
  refine ⟨?_, by rw [upd_ne (B.pb n).symm]; exact B.nb, by rw [upd_ne (B.pg n).symm]; exact B.ng, B1.ls, B1.dc⟩
  intro c x e
  by_cases h : c = p
  · subst h
    rw [upd_same] at e ⊢
    exact e
  · rw [upd_ne h] at e ⊢
    exact B.sub c x e
/-- what came behind a call, known to H0 from now on -/
theorem keep (B : Bs H0 H b g) (s : Same H H1) (n : H p = none) (e : H1 p = some o) : Bs (upd H0 p o) H1 b g := by
  have B1 := B.more s
  refine ⟨?_, by rw [upd_ne (B.pb n).symm]; exact B.nb, by rw [upd_ne (B.pg n).symm]; exact B.ng, B1.ls, B1.dc⟩
  intro c x h
  by_cases hc : c = p
  · subst hc
    rw [upd_same] at h
    cases h
    exact e
  · rw [upd_ne hc] at h
    exact B1.sub c x h
/-- an object that H0 knows is changed -/
theorem put (B : Bs H0 H b g) (e : H0 p = some u) : Bs (upd H0 p o) (upd H p o) b g := by
  have pb : p ≠ b := ne_of_none e B.nb
  have pg : p ≠ g := ne_of_none e B.ng
  obtain ⟨ms, h1, h2⟩ := B.ls
  obtain ⟨st, ct, h3⟩ := B.dc
  refine ⟨?_, by rw [upd_ne pb.symm]; exact B.nb, by rw [upd_ne pg.symm]; exact B.ng, ⟨ms, by rw [upd_ne pg.symm]; exact h1, h2⟩, ⟨st, ct, by rw [upd_ne pb.symm]; exact h3⟩⟩
  intro c x h
  by_cases hc : c = p
  · subst hc
    rw [upd_same] at h ⊢
    exact h
  · rw [upd_ne hc] at h ⊢
    exact B.sub c x h
/-- less is known -/
theorem less {H2 : Hp} (B : Bs H0 H b g) (s : Same H2 H0) : Bs H2 H b g := ⟨s.trans B.sub, s.free B.nb, s.free B.ng, B.ls, B.dc⟩
end Bs
theorem key_s {x : Str} {kvs : List (Key × V)} {H : Hp} {a : Addr} {v : V} (h : H a = some (.dK kvs)) (e : valV kvs (Sum.inr x) = some v) : DGet H a (.str x) (some v) := by
  have q := DGet.k (k := Sum.inr x) h
  rw [e] at q
  exact q

theorem ixN_zero (n : Nat) : ixN (n + 1) 0 = some 0 := by
  unfold ixN
  rw [if_pos (by decide), if_pos (by omega)] <;> rfl
theorem seqIx_zero (n : Nat) : seqIndex? 0 (n + 1) = some 0 := PySem.StrLaws.seqIndex_nonneg (by decide) (by omega)

/-! ### what the law's own draws promise -/
def Small (m : Int) : Prop := 0 < m ∧ m.natAbs.log2 < 9000
theorem small_of {m : Int} (h0 : 0 < m) (h1 : m < 2 ^ 60) : Small m := ⟨h0, Nat.lt_trans (PySem.Flt.log2_lt_of (k := 60) (by decide) (by omega)) (by decide)⟩
def sp__law_draw (_ : PySem.W.Frag) : Sp := fun vs H Q _ => ∃ (H0 : Hp) (b g : Addr) (m : Int), vs = [.ref b, .int m] ∧ Bs H0 H b g ∧ Small m ∧ ∀ (r : Int) (H' : Hp), 0 ≤ r → r < m → Bs H0 H' b g → Q (.int r) H'
/-- the list given stands at a; any of its items comes back -/
def sp__law_pick (K : PySem.W.Frag) : Sp := fun vs H Q _ => ∃ (H0 : Hp) (b g a : Addr) (xs : List V), vs = [.ref b, .ref a] ∧ Bs H0 H b g ∧ (SqL K H0 a xs ∨ SqT K H0 a xs) ∧ xs ≠ [] ∧ xs.length ≤ 100000 ∧
  ∀ (i : Nat) (x : V) (H' : Hp), xs[i]? = some x → Bs H0 H' b g → Q x H'
def sp__law_great (_ : PySem.W.Frag) : Sp := fun vs H Q _ => ∃ (H0 : Hp) (b g : Addr) (m : Int), vs = [.ref b, .int m] ∧ Bs H0 H b g ∧ 0 ≤ m ∧ m ≤ 40 ∧ ∀ (r : Int) (H' : Hp), 0 ≤ r → r < 1000000 ^ m.toNat → Bs H0 H' b g → Q (.int r) H'
/-- some number -/
def IsNum (n : Int) : Prop := -(10 ^ 60) ≤ n ∧ n ≤ 10 ^ 60
def sp__law_number (_ : PySem.W.Frag) : Sp := fun vs H Q _ => ∃ (H0 : Hp) (b g : Addr), vs = [.ref b] ∧ Bs H0 H b g ∧ ∀ (r : Int) (H' : Hp), IsNum r → Bs H0 H' b g → Q (.int r) H'
/-- the moduli of some machine -/
structure IsMach (ns : List Int) : Prop where
  one : 1 ≤ ns.length
  ten : ns.length ≤ 10
  mod : ∀ n ∈ ns, 2 ≤ n ∧ n ≤ 1000000
def sp__law_machine (_ : PySem.W.Frag) : Sp := fun vs H Q _ => ∃ (H0 : Hp) (b g : Addr), vs = [.ref b] ∧ Bs H0 H b g ∧ ∀ (ns : List Int) (p : Addr) (H' : Hp), IsMach ns → H0 p = none → H' p = some (.tup (ns.map V.int)) → p ≠ b → p ≠ g → Bs H0 H' b g → Q (.ref p) H'
def sp__law_box (K : PySem.W.Frag) : Sp := fun vs H Q _ => ∃ (a : Addr) (ns : List Int), vs = [.ref a] ∧ SqL K H a (ns.map V.int) ∧ ns.length ≤ 63 ∧ ∀ (b g : Addr) (H' : Hp), Bs H H' b g → Q (.ref b) H'
def sp__law_rest (_ : PySem.W.Frag) : Sp := fun vs H Q _ => ∃ (n m : Int), vs = [.int n, .int m] ∧ 0 < m ∧ m < 2 ^ 60 ∧ Q (.int (n % m)) H
def sp_law (K : PySem.W.Frag) : Sp := fun vs H Q _ => ∃ (a : Addr) (ns : List Int), vs = [.ref a] ∧ SqL K H a (ns.map V.int) ∧ ns.length ≤ 63 ∧ ∀ H', Q (.bl true) H'
end Sx
namespace Sx
open PySem PySem.Spec PyProof.Rows L2

/-! ### t * 1 is t itself -/
theorem tuple_mul1 (l : Addr) (items : Array Value) (n : Nat) (dd : Option Addr) (sl : Array (Option Value)) (u : Tok) :
    Meets (Builtin.«tuple.__mul__» ⟨[.ref l, .int 1 u], []⟩) (fun _ R s => s.heap.get? l = some { cls := .type "tuple", dict := dd, data := .seq items n, slots := sl } ∧ R (.ok (.ret (.ref l))) s) :=
  .of_wp fun prog w A R s h => by
    obtain ⟨hp, g, d, tk, os⟩ := s
    obtain ⟨hl, h⟩ := h
    have f1 := AutoSeq1.idx_int
    have c1 : (items.isEmpty || (1 : Int) == 1) = true := by simp
    wp_walk using wpAny_loadPart' hl
    repeat (first
      | (refine wpAny_ite_true (decide_eq_true (by rw [c1])) ?_; wp_walk using wpAny_loadPart' hl)
      | (refine wpAny_ite_false (by decide) ?_; wp_walk using wpAny_loadPart' hl))
    exact ⟨_, rfl, h⟩
def rRep1 (K : PySem.W.Frag) : R2 := fun x y H Q => ∃ l xs, x = .ref l ∧ y = .int 1 ∧ SqT K H l xs ∧ Q (.ref l) H
theorem op_rep1 {X : Cx} : OpR X (binaryOp .Mult) (rRep1 X.K) := by
  intro pins s σ H x y v u Q I rx ry h
  obtain ⟨l, xs, rfl, rfl, hT, q⟩ := h
  obtain rfl : v = Value.ref l := rx
  obtain ⟨t, rfl⟩ := ry
  obtain ⟨its, r, ⟨⟨cls, dd, data, sl⟩, ho, hc, n, hd⟩, hs⟩ := I.tuple hT
  simp only at hc hd
  subst hc hd
  exact wpAny_binaryOp_repeat_ref (T := "tuple") (U := "int") (by decide) ⟨_, ho, rfl⟩ (fun s' => typeIs_int s' 1 t) noFill_tuple_mul F.fills_int_mul F.slot_int_rmul repeat_tuple F.slot_int_index.lookup
    (call_meets F.slot_int_rmul (typeIs_int s 1 t) F.entry_int_rmul (F.args_int_rmul_2 _ _) (int_rmul_tuple 1 t l its.toArray n dd sl)
      ⟨ho, rfl, ⟨_, ho, rfl⟩, call_meets F.slot_tuple_mul ⟨_, ho, rfl⟩ F.entry_tuple_mul (F.args_tuple_mul_2 _ _) (tuple_mul1 l its.toArray n dd sl t) ⟨ho, ⟨.ref l, H, I, rfl, q⟩⟩⟩)
/-- t * k, 1 ≤ k -/
def rRepAny (K : PySem.W.Frag) : R2 := fun x y H Q => rRepT K x y H Q ∨ rRep1 K x y H Q
theorem op_repAny {X : Cx} : OpR X (binaryOp .Mult) (rRepAny X.K) := OpR.or op_repT op_rep1

/-! ### a word between an expression and what follows -/
def tCutE (t : TE) : TE := fun σ H Q => ∃ M : V → Hp → Prop, t σ H M ∧ ∀ v H', M v H' → Q v H'
theorem pe_cut {X : Cx} {e : Expr} {t : TE} (h : PE X e t) : PE X e (tCutE t) := by
  refine ⟨fun pins s σ H Q I q => ?_⟩
  obtain ⟨M, q1, q2⟩ := q
  exact thn (h.run pins s σ H M I q1) fun u s1 ⟨v, H1, I1, r, m⟩ => ⟨v, H1, I1, r, q2 v H1 m⟩

theorem pow_mono {n m : Nat} (h : n ≤ m) : (1000000 : Int) ^ n ≤ 1000000 ^ m := by
  have e : ∀ k : Nat, (1000000 : Int) ^ k = ((1000000 ^ k : Nat) : Int) := fun k => (Int.natCast_pow 1000000 k).symm
  rw [e, e]
  exact Int.ofNat_le.mpr (Nat.pow_le_pow_right (by decide) h)

/-! ### comprehensions whose items are drawn, one int each -/
section
variable {H0 H1 : Hp} {b g D : Addr}
/-- over range(n): each item an int with the property R -/
theorem lc_drawn {n j : Nat} {te : TE} {vs : List Nat} {σ : L2.St} {Qd : Hp → Prop} (R : Int → Prop) (B : Bs H0 H1 b g) (hD : H1 D = none) (hn : n ≤ 100000) (hw : ∀ x, wipe ((wipe σ vs).set j (some x)) vs = wipe σ vs)
    (he : ∀ (i : Nat) (H2 H3 : Hp) (Q : VK), i < n → Same H0 H2 → Bs H2 H3 b g → (∀ (m : Int) (H4 : Hp), R m → Bs H2 H4 b g → Q (.int m) H4) → te ((wipe σ vs).set j (some (.int (0 + (i : Int))))) H3 Q)
    (hd : ∀ (ms : List Int) (H3 : Hp), ms.length = n → (∀ m ∈ ms, R m) → Bs (upd H0 D (.lst (ms.map V.int))) H3 b g → Qd H3) :
    ∃ W : Nat → Nat → Hp → Prop, (∃ m, W 0 m (upd H1 D (.lst []))) ∧ ∀ i m H, W i m H →
      ((Itr 0 n).stop i H ∧ Qd H) ∨ ((Itr 0 n).go i H ∧ ∃ Nx : Hp → Prop, (∀ H', Nx H' → ∃ m', m' < m ∧ W (i + 1) m' H') ∧ ∀ x H', (Itr 0 n).yld i H x H' → gName j x (wipe σ vs) H' fun σ2 H2 => wipe σ2 vs = wipe σ vs ∧ tYes σ2 H2 fun b H3 =>
        if b = true then te σ2 H3 fun y H4 => ∃ acc, H4 D = some (.lst acc) ∧ acc.length < sizeLine ∧ Nx (upd H4 D (.lst (acc ++ [y]))) else Nx H3) := by
  have n0 : H0 D = none := B.sub.free hD
  have s0 : ∀ o, Same H0 (upd H0 D o) := fun o => same_new n0
  refine lc_range (lo := 0) (n := n) (fun i H => ∃ ms : List Int, ms.length = i ∧ (∀ m ∈ ms, R m) ∧ Bs (upd H0 D (.lst (ms.map V.int))) H b g) ⟨[], rfl, (fun _ z => nomatch z), B.new hD⟩ ?_ ?_
  · rintro i H hi ⟨ms, hl, hr, B3⟩
    refine ⟨hw _, ?_⟩
    unfold tYes
    dsimp only
    refine iteT (he i (upd H0 D (.lst (ms.map V.int))) H _ hi (s0 _) B3 fun m H4 hm B4 => ?_)
    refine ⟨ms.map V.int, B4.sub _ _ upd_same, ?_, ms ++ [m], ?_, ?_, ?_⟩
    · rw [List.length_map, hl]
      exact Nat.lt_of_lt_of_le hi (Nat.le_trans hn (by decide))
    · rw [List.length_append, hl, List.length_singleton]
    · intro x hx
      rcases List.mem_append.mp hx with h | h
      · exact hr x h
      · rw [List.mem_singleton.mp h]
        exact hm
    · have B5 := B4.put (o := .lst ((ms ++ [m]).map V.int)) upd_same
      rw [upd_upd] at B5
      rw [List.map_append] at B5 ⊢
      exact B5
  · rintro H ⟨ms, hl, hr, B3⟩
    exact hd ms H hl hr B3
end
/-! ### what the program's defs promise -/
def rests (ns : List Int) (n : Int) : List Int := ns.map fun m => n % m
def sp_rests_of (K : PySem.W.Frag) : Sp := fun vs H Q _ => ∃ (t : Addr) (ns : List Int) (n : Int), vs = [.ref t, .int n] ∧ SqT K H t (ns.map V.int) ∧ IsMach ns ∧
  ∀ (p : Addr) (H' : Hp), Same H H' → H p = none → H' p = some (.tup ((rests ns n).map V.int)) → Q (.ref p) H'
end Sx
namespace Sx
open PySem PySem.Spec PyProof.Rows L2

/-! ### enumerate of a tuple -/
section
variable {prog : Program} {w : World} {A : Around} {E : Value → Shared → Prop} {s : Shared}
set_option maxHeartbeats 1000000 in
theorem meets_enum_one {v : Value} {o : Obj} {H : Heap → Prop} (B : Begins v o H) :
    Meets (Builtin.«enumerate.__new__» ⟨[.type "enumerate", v], []⟩) (fun _ R s => H s.heap ∧
      R (.ok (.ret (.ref (s.heap.push o).objs.size))) { s with heap := (s.heap.push o).push { cls := .type "enumerate", data := .fields #[.none, .bool false, .ref s.heap.objs.size, rawInt 0, .none, .none] } }) :=
  .of_wp fun prog w A R s h => by
    obtain ⟨hp, g, d, tk, os⟩ := s
    obtain ⟨h1, h⟩ := h
    have hsub := sub_enumerate
    have q1 : ∀ {A' : Around} {E Q : Value → Shared → Prop}, Q (.ref hp.objs.size) ⟨hp.push o, g, d, tk, os⟩ → wpAny (model prog w) A' (pyIter v) Q E ⟨hp, g, d, tk, os⟩ :=
      fun q => B.iter prog w _ _ ⟨hp, g, d, tk, os⟩ _ h1 q
    wp_walk using q1
    refine wpAny_stack_any fun st => wpAny_pure ?_
    split
    · rename_i c _ _ _ _ _
      cases (c == Value.type "enumerate")
      all_goals
        wp_walk using q1
        exact ⟨_, rfl, h⟩
    · wp_walk using q1
      exact ⟨_, rfl, h⟩
theorem call_enum_one {v : Value} {o : Obj} {H : Heap → Prop} {Q : Value → Shared → Prop} (B : Begins v o H) (h1 : H s.heap)
    (h : ∀ h1 : Heap, IsEnum h1 (s.heap.objs.size + 1) s.heap.objs.size 0 .none → h1.get? s.heap.objs.size = some o → h1.objs.size = s.heap.objs.size + 2 →
      (∀ b o, s.heap.get? b = some o → h1.get? b = some o) → Q (.ref (s.heap.objs.size + 1)) { s with heap := h1 }) : wpAny (model prog w) A (call (.type "enumerate") [v]) Q E s := by
  refine callType_new F.called_enumerate (by decide) (F.typeCall_enumerate_1 _) (F.newCall_enumerate_1 _) (fun obj => F.args_object_init_2 obj _) F.entry_enumerate_new (meets_enum_one B) ⟨h1, ?_⟩
  have hz : (s.heap.push o).objs.size = s.heap.objs.size + 1 := Heap.size_push ..
  show _ ∧ _
  rw [hz]
  have hnew : IsEnum ((s.heap.push o).push { cls := .type "enumerate", data := .fields #[.none, .bool false, .ref s.heap.objs.size, rawInt 0, .none, .none] }) (s.heap.objs.size + 1) s.heap.objs.size 0 .none := by
    have q := Heap.get?_push_size (s.heap.push o) (o := { cls := .type "enumerate", data := .fields #[.none, .bool false, .ref s.heap.objs.size, rawInt 0, .none, .none] }) rfl
    rw [hz] at q
    exact q
  exact ⟨⟨_, hnew, rfl⟩, h _ hnew (Heap.get?_push_of_some _ (Heap.get?_push_size _ B.free)) (by rw [Heap.size_push, hz]) (fun b o x => Heap.get?_push_of_some _ (Heap.get?_push_of_some _ x))⟩
end
/-- the tuple at a, each item in a new pair with its place -/
def IteT (K : PySem.W.Frag) (a : Addr) : It where
  go := fun i H => ∃ (xs : List V) (x : V), SqT K H a xs ∧ xs[i]? = some x
  yld := fun i H v H1 => ∃ T x, v = .ref T ∧ H T = none ∧ H1 = upd H T (.tup [.int (i : Nat), x]) ∧ ∀ xs, SqT K H a xs → xs[i]? = some x
  stop := fun i H => ∃ xs : List V, SqT K H a xs ∧ xs.length ≤ i
theorem turn_enumT {P : Program} {w : World} {K : PySem.W.Frag} {elts : List Expr} {kk : Nat} {tpos : Pos} (a e it : Addr) :
    Turn P w K (.Tuple elts kk tpos) (IteT K a) [e, it] e (fun i h => (∃ old, IsEnum h e it ((i : Nat) : Int) old) ∧ h.IsTupleIter it a i ∧ e ≠ it ∧ e ≠ a ∧ a ≠ it) where
  mem := List.mem_cons_self
  obj := by
    rintro i h ⟨⟨old, he⟩, ⟨o, ho, hc, hd⟩, _⟩ b hb
    rcases List.mem_cons.mp hb with z | z
    · rw [z]
      exact ⟨_, he, fun v q => nomatch q⟩
    · rw [List.mem_singleton.mp z]
      refine ⟨o, ho, fun v q => ?_⟩
      rw [hd] at q
      cases q
  keep := by
    rintro i h h' ⟨⟨old, he⟩, hi, ne⟩ k
    exact ⟨⟨old, k e (by simp) _ he⟩, hi.at fun o q => k it (by simp) o q, ne⟩
  item := by
    intro X hP hw hK hc i pins s σ H E I hf st hg
    subst hP hw hK
    obtain ⟨⟨old, he⟩, hit, n1, n2, n3⟩ := st
    obtain ⟨xs, x, hq, hx⟩ := hg
    obtain ⟨its, rv, p, hz⟩ := I.tuple hq
    obtain ⟨u, hu, ru⟩ := rv.get hx
    have hel : e < s.heap.objs.size := Heap.lt_size he
    have hil : it < s.heap.objs.size := by
      obtain ⟨_, q, _⟩ := hit
      exact Heap.lt_size q
    have hlt : i < its.toArray.size := by
      have := (List.getElem?_eq_some_iff.mp hu).1
      simpa using this
    refine wpAny_pyNext_enum_itemC (Draws.tuple (A := X.A.in1) (I.ok.hd hc) it a n3 its.toArray) he ⟨hit, p⟩ hlt n1 (by simp [n1, n2]) fun y h' tk hy ho hs' hT hsz hk => ?_
    obtain rfl : y = u := by
      have hu' : its.toArray[i]? = some u := by simpa using hu
      exact Option.some.inj (hy.symm.trans hu')
    refine ⟨_, rfl, wpAny_letOwnedTupleGo_enum (s := { s with heap := h', toks := tk + 1 }) ho fun h2 he' sb => ?_⟩
    have hT2 : h2.get? s.heap.objs.size = some { cls := .type "tuple", data := .seq #[.int i tk, y] } := (sb.2 _ (Nat.ne_of_gt hel)).trans hT
    have new : ObjOk X.prog X.w (upd H s.heap.objs.size (.tup [.int (i : Nat), x])) h2 s.heap.objs.size (.tup [.int (i : Nat), x]) :=
      ⟨(show 2 ≤ sizeLine by decide), [.int i tk, y], .cons ⟨_, rfl⟩ (.cons ru .nil), ⟨_, hT2, rfl, _, rfl⟩⟩
    have I1 : Inv X pins σ (upd H s.heap.objs.size (.tup [.int (i : Nat), x])) { s with heap := h2, toks := tk + 1 } :=
      I.turnedNew (ch := [e, it]) (fun b ob hb q => (sb.2 b (fun z => hb (by simp [z]))).trans (hk b ob (fun z => hb (by simp [z])) (fun z => hb (by simp [z])) q)) hf (Nat.le_refl _) new
    refine ⟨.ref s.heap.objs.size, _, I1, rfl, ⟨_, x, rfl, I.hok.fresh (Nat.le_refl _), rfl, fun ys hy => by rw [I.tuple_inj hy hq]; exact hx⟩, ⟨⟨y, ?_⟩, hs'.1.at fun o q => (sb.2 it (Ne.symm n1)).trans q, n1, n2, n3⟩, fun b hb => ?_⟩
    · rw [show ((i + 1 : Nat) : Int) = (i : Int) + 1 by omega]
      exact he'
    · have hb' : b < s.heap.objs.size := by
        rcases List.mem_cons.mp hb with z | z
        · rw [z]
          exact hel
        · rw [List.mem_singleton.mp z]
          exact hil
      rw [upd_ne (Nat.ne_of_lt hb')]
      exact (hf b hb).1
  done := by
    intro X hP hw hK hc i pins s σ H E I hf st hg
    subst hP hw hK
    obtain ⟨⟨old, he⟩, hit, n1, n2, n3⟩ := st
    obtain ⟨xs, hq, hx⟩ := hg
    obtain ⟨its, rv, p, hz⟩ := I.tuple hq
    obtain ⟨f0, f1, f2, f3, f4, f5⟩ := hf it (by simp)
    have hl := rv.length
    have hT : s.TypeIs (.ref e) "enumerate" := ⟨_, he, rfl⟩
    unfold pyNext
    refine wpAny_bind (wpAny_attempt (wpAny_callSpecial?_slot (name := Str.ofString "__next__") hT F.slot_enumerate_next
      (wpAny_call_entry F.slot_enumerate_next hT F.entry_enumerate_next ?_ (F.args_enumerate_next_1 _))))
    show wpAny _ _ (field (.ref e) 2 >>= _) _ _ _
    refine wpAny_bind (wpAny_field he rfl (x := .ref it) rfl ?_)
    refine wpAny_bind (wpAny_nextOf_tuple_end (A := X.A.in1) (I.ok.hd hc) hit p (by simp; omega) fun h' x he' hx' => ?_)
    obtain ⟨o, ho, hc'⟩ := hx'
    refine wpAny_bind (wpAny_isInstance (T := "StopIteration") (b := true) ⟨o, ho, hc'⟩ isSubtype_stop ?_)
    exact wpAny_pure ⟨rfl, I.turned (t' := s.toks) (fun b o hb q => he' b o hb q) f0 f1 f3 f4 f5⟩
  self := by
    rintro A i s Q E ⟨⟨_, he⟩, _⟩ h
    exact wpAny_pyIter_enum he h
def iEnumT (K : PySem.W.Frag) (ta : TA) : TI := fun σ H R => ta σ H fun vs H1 => ∃ a xs, vs = [.ref a] ∧ SqT K H1 a xs ∧ R (IteT K a) H1
theorem pi_enumT {X : Cx} {e : Expr} {ta : TA} {p pos tpos : Pos} {elts : List Expr} {kk : Nat} (hg : Gl X "enumerate") (hm : X.mg "enumerate" = none) (ha : PA X [e] ta) (hs : starEach [e] X.env = [(false, eval e X.env)] := by rfl) :
    PI X (.Tuple elts kk tpos) (.Call (.Name "enumerate" p) [e] [] pos) (iEnumT X.K ta) := by
  refine ⟨fun pins s σ H R I h => Call_ (ld_blt I hg hm boot_enumerate (PyProof.Rows.callWith_type1 (thn (ha.run pos pins s σ H _ I h) ?_) hs rfl))⟩
  rintro us s1 ⟨vs, H1, I1, r1, a, xs, rfl, hq, q⟩
  obtain ⟨u, rfl, rr⟩ := vals1 r1
  obtain rfl : u = Value.ref a := rr
  obtain ⟨its, rv, tp, hz⟩ := I1.tuple hq
  have hal : a < s1.heap.objs.size := tp.lt
  refine call_enum_one (begins_tuple a its.toArray) tp fun h1 he hit hsz hk => wpAny_pyIter_enum he ?_
  have I2 : Inv X pins σ H1 { s1 with heap := h1 } := I1.kept (t' := s1.toks) hk
  have n1 : s1.heap.objs.size + 1 ≠ a := Nat.ne_of_gt (Nat.lt_succ_of_lt hal)
  have n2 : a ≠ s1.heap.objs.size := Nat.ne_of_lt hal
  refine ⟨s1.heap.objs.size + 1, [s1.heap.objs.size + 1, s1.heap.objs.size], _, _, H1, rfl, I2, turn_enumT a (s1.heap.objs.size + 1) s1.heap.objs.size, ⟨⟨.none, he⟩, ⟨_, hit, rfl, rfl⟩, Nat.succ_ne_self _, n1, n2⟩, fun b hb => ?_, q⟩
  have hle : s1.heap.objs.size ≤ b := by
    rcases List.mem_cons.mp hb with z | z
    · rw [z]
      exact Nat.le_add_right _ _
    · rw [List.mem_singleton.mp z]
      exact Nat.le_refl _
  exact I1.fpOk hle (I1.hok.fresh hle)
theorem walk_enumT {K : PySem.W.Frag} {a : Addr} {xs : List V} : Walk (IteT K a) xs.length (fun H => SqT K H a xs) (YPair (fun i => some (.int (i : Nat))) (fun i => xs[i]?)) := by
  refine ⟨fun i _ hi q => ⟨xs, xs[i], q, List.getElem?_eq_getElem hi⟩, fun _ q => ⟨xs, q, Nat.le_refl _⟩, ?_⟩
  rintro i H v H1 _ q ⟨T, x, h1, h2, h3, h4⟩
  exact ⟨T, .int (i : Nat), x, h1, h2, h3, rfl, h4 xs q⟩

/-! ### comprehensions that reckon: what a turn gives hangs on its item alone -/
theorem lc_reckon {β : Type} {J : It} {n : Nat} {zs : List β} {G : Hp → Prop} {Y : Nat → Hp → V → Hp → Prop} (w : Walk J n G Y) (hzn : zs.length = n) {g : TG} {tt : TT} {te : TE} {vs : List Nat} {σ : L2.St} {H1 : Hp} {D : Addr} {Qd : Hp → Prop} (f : β → Bool) (v : β → V) (hn : zs.length ≤ 100000)
    (hD : H1 D = none) (hG : ∀ H, Same H1 H → G H)
    (hs : ∀ i z x H H2, zs[i]? = some z → Same H1 H → Y i H x H2 → Same H H2 ∧ ∃ σ2, (∀ Q : L2.St → Hp → Prop, Q σ2 H2 → g x (wipe σ vs) H2 Q) ∧ wipe σ2 vs = wipe σ vs ∧
      (∀ Q : Bool → Hp → Prop, (∀ H3, Same H2 H3 → Q (f z) H3) → tt σ2 H2 Q) ∧ (f z = true → ∀ H3 (Q : VK), Same H1 H3 → Same H2 H3 → (∀ H4, Same H3 H4 → Q (v z) H4) → te σ2 H3 Q))
    (hd : ∀ H, Same H1 H → H D = some (.lst ((zs.filter f).map v)) → Qd H) :
    ∃ W : Nat → Nat → Hp → Prop, (∃ m, W 0 m (upd H1 D (.lst []))) ∧ ∀ i m H, W i m H →
      (J.stop i H ∧ Qd H) ∨ (J.go i H ∧ ∃ Nx : Hp → Prop, (∀ H', Nx H' → ∃ m', m' < m ∧ W (i + 1) m' H') ∧ ∀ x H', J.yld i H x H' → g x (wipe σ vs) H' fun σ2 H2 => wipe σ2 vs = wipe σ vs ∧ tt σ2 H2 fun b H3 =>
        if b = true then te σ2 H3 fun y H4 => ∃ acc, H4 D = some (.lst acc) ∧ acc.length < sizeLine ∧ Nx (upd H4 D (.lst (acc ++ [y]))) else Nx H3) := by
  subst hzn
  refine lc_it w (fun i H => Same H1 H ∧ H D = some (.lst (((zs.take i).filter f).map v))) ⟨same_new hD, upd_same⟩ (fun i H _ p => hG H p.1) ?_ ?_
  · rintro i x H H2 hi ⟨s1, e1⟩ y
    have hz : zs[i]? = some zs[i] := List.getElem?_eq_getElem hi
    obtain ⟨s2, σ2, h1, h2, h3, h4⟩ := hs i zs[i] x H H2 hz s1 y
    have tk : zs.take (i + 1) = zs.take i ++ [zs[i]] := by
      rw [List.take_add_one, hz] <;> rfl
    refine h1 _ ⟨h2, h3 _ fun H3 s3 => ?_⟩
    by_cases hf : f zs[i] = true
    · rw [hf]
      refine iteT (h4 hf H3 _ ((s1.trans s2).trans s3) s3 fun H4 s4 => ?_)
      have e4 : H4 D = some (.lst (((zs.take i).filter f).map v)) := s4 _ _ (s3 _ _ (s2 _ _ e1))
      refine ⟨_, e4, ?_, ?_, ?_⟩
      · rw [List.length_map]
        have l1 := List.length_filter_le f (zs.take i)
        rw [List.length_take] at l1
        exact Nat.lt_of_lt_of_le (show _ < 100000 by omega) (by decide)
      · intro c o h
        rw [upd_ne (ne_of_none h hD)]
        exact s4 _ _ (s3 _ _ (s2 _ _ (s1 _ _ h)))
      · rw [upd_same, tk, List.filter_append, List.map_append, List.filter_cons_of_pos hf] <;> rfl
    · rw [Bool.not_eq_true] at hf
      rw [hf]
      refine iteF ⟨(s1.trans s2).trans s3, ?_⟩
      rw [tk, List.filter_append, List.filter_cons_of_neg (by rw [hf]; decide)]
      show H3 D = some (.lst (((zs.take i).filter f ++ []).map v))
      rw [List.append_nil]
      exact s3 _ _ (s2 _ _ e1)
  · rintro H ⟨s1, e1⟩
    rw [List.take_length] at e1
    exact hd H s1 e1
end Sx
namespace Sx
open PySem PySem.Spec PyProof.Rows L2

/-! ### what may be shown, by a count of its parts -/
mutual
def nod : PyData → Nat
  | .none | .bool _ | .int _ => 1
  | .str x => 1 + x.length
  | .list xs | .tuple xs => 1 + nodAll xs
  | .dict _ => 0
def nodAll : List PyData → Nat
  | [] => 0
  | x :: xs => nod x + nodAll xs
end
def big : Nat := 10 ^ 130
mutual
/-- ints below 10 ** 130, texts of plain signs, no dicts -/
def fine : PyData → Bool
  | .none | .bool _ => true
  | .int i => decide (i.natAbs < big)
  | .str x => x.cps.toList.all fun c => decide (c < 16 ^ 8)
  | .list xs | .tuple xs => fineAll xs
  | .dict _ => false
def fineAll : List PyData → Bool
  | [] => true
  | x :: xs => fine x && fineAll xs
end
theorem big_log {i : Nat} (h : i < big) : i.log2 < 1920 := by
  have h2 : i < 2 ^ 1920 := Nat.lt_trans h (by decide +kernel)
  exact PySem.Flt.log2_lt_of (by decide) h2
theorem big_len {i : Int} (h : i.natAbs < big) : (PyData.shown (.int i)).length ≤ 131 := by
  have e := int_text_length_le10 (k := 130) (by decide) h
  show (Str.ofString (toString i)).length ≤ 131
  rw [PySem.ofString_length]
  exact e
mutual
theorem fine_show : ∀ d : PyData, fine d = true → d.showable = true ∧ d.shown.length + 3 ≤ 300 * nod d
  | .none, _ => ⟨rfl, by decide +kernel⟩
  | .bool b, _ => by
    cases b
    · exact ⟨rfl, by decide +kernel⟩
    · exact ⟨rfl, by decide +kernel⟩
  | .int i, h => by
    have h1 : i.natAbs < big := by simpa [fine] using h
    have e := big_len h1
    refine ⟨by simpa [PyData.showable] using big_log h1, ?_⟩
    show _ ≤ 300 * 1
    omega
  | .str x, h => by
    have h1 : ∀ c ∈ x.cps.toList, c < 16 ^ 8 := by
      have h' := h
      simp only [fine, List.all_eq_true, decide_eq_true_eq] at h'
      exact h'
    have e := StrLaws.reprText_len x h1
    refine ⟨rfl, ?_⟩
    simp only [PyData.shown]
    show _ ≤ 300 * (1 + x.length)
    omega
  | .list xs, h => by
    obtain ⟨h1, h2⟩ := fineAll_show xs (by simpa [fine] using h)
    have e := listText_len_le (PyData.shownAll xs)
    rw [PyData.shownAll_length] at e
    refine ⟨by simpa [PyData.showable] using h1, ?_⟩
    simp only [PyData.shown]
    show _ ≤ 300 * (1 + nodAll xs)
    omega
  | .tuple xs, h => by
    obtain ⟨h1, h2⟩ := fineAll_show xs (by simpa [fine] using h)
    have e := tupleText_len_le (PyData.shownAll xs)
    rw [PyData.shownAll_length] at e
    refine ⟨by simpa [PyData.showable] using h1, ?_⟩
    simp only [PyData.shown]
    show _ ≤ 300 * (1 + nodAll xs)
    omega
  | .dict _, h => by simp [fine] at h
theorem fineAll_show : ∀ xs : List PyData, fineAll xs = true → PyData.showableAll xs = true ∧ ((PyData.shownAll xs).map (·.length)).sum + 3 * xs.length ≤ 300 * nodAll xs
  | [], _ => ⟨rfl, by decide⟩
  | x :: xs, h => by
    have h' : fine x = true ∧ fineAll xs = true := by simpa [fineAll] using h
    obtain ⟨a1, a2⟩ := fine_show x h'.1
    obtain ⟨b1, b2⟩ := fineAll_show xs h'.2
    refine ⟨by simp [PyData.showableAll, a1, b1], ?_⟩
    simp only [PyData.shownAll, List.map_cons, List.sum_cons, List.length_cons]
    show _ ≤ 300 * (nod x + nodAll xs)
    omega
end
mutual
theorem depth_nod : ∀ d : PyData, d.hasDict = false → d.depth ≤ nod d
  | .none, _ => Nat.zero_le _
  | .bool _, _ => Nat.zero_le _
  | .int _, _ => Nat.zero_le _
  | .str _, _ => Nat.zero_le _
  | .list xs, h => by
    have q := depthAll_nod xs (by simpa [PyData.hasDict] using h)
    show PyData.depthAll xs + 1 ≤ 1 + nodAll xs
    omega
  | .tuple xs, h => by
    have q := depthAll_nod xs (by simpa [PyData.hasDict] using h)
    show PyData.depthAll xs + 1 ≤ 1 + nodAll xs
    omega
  | .dict _, h => by simp [PyData.hasDict] at h
theorem depthAll_nod : ∀ xs : List PyData, PyData.hasDictAll xs = false → PyData.depthAll xs ≤ nodAll xs
  | [], _ => Nat.zero_le _
  | x :: xs, h => by
    have h' : x.hasDict = false ∧ PyData.hasDictAll xs = false := by simpa [PyData.hasDictAll] using h
    have a := depth_nod x h'.1
    have b := depthAll_nod xs h'.2
    show max x.depth (PyData.depthAll xs) ≤ nod x + nodAll xs
    omega
end
theorem shows_of {d : PyData} (h : fine d = true) (hn : nod d ≤ 50000) (hd : d.depth ≤ 60) : Shows d := by
  obtain ⟨a, b⟩ := fine_show d h
  refine ⟨a, ?_, hd⟩
  rw [sizeLine_eq]
  omega

/-! ### flat lists of data -/
/-- an int, or None -/
def vO : Option Int → V
  | none => .non
  | some i => .int i
def dO : Option Int → PyData
  | none => .none
  | some i => .int i
theorem dpa_opts {K : PySem.W.Frag} {H : Hp} : ∀ ws : List (Option Int), DpAll K H (ws.map vO) (ws.map dO)
  | [] => .nil
  | none :: ws => .cons .non (dpa_opts ws)
  | some i :: ws => .cons (.int i) (dpa_opts ws)
theorem nodAll_map {α : Type} {f : α → PyData} (h : ∀ x, nod (f x) = 1) : ∀ xs : List α, nodAll (xs.map f) = xs.length
  | [] => rfl
  | x :: xs => by
    show nod (f x) + nodAll (xs.map f) = xs.length + 1
    rw [h x, nodAll_map h xs]
    omega
theorem fineAll_map {α : Type} {f : α → PyData} : ∀ xs : List α, (∀ x ∈ xs, fine (f x) = true) → fineAll (xs.map f) = true
  | [], _ => rfl
  | x :: xs, h => by
    show (fine (f x) && fineAll (xs.map f)) = true
    rw [h x List.mem_cons_self, fineAll_map xs fun y hy => h y (List.mem_cons_of_mem _ hy)] <;> rfl
theorem depthAll_map {α : Type} {f : α → PyData} {k : Nat} : ∀ xs : List α, (∀ x ∈ xs, (f x).depth ≤ k) → PyData.depthAll (xs.map f) ≤ k
  | [], _ => Nat.zero_le _
  | x :: xs, h => by
    show max (f x).depth (PyData.depthAll (xs.map f)) ≤ k
    exact Nat.max_le.mpr ⟨h x List.mem_cons_self, depthAll_map xs fun y hy => h y (List.mem_cons_of_mem _ hy)⟩
theorem canAll_map {α : Type} {f : α → PyData} : ∀ xs : List α, (∀ x ∈ xs, (f x).canLay0 = true) → PyData.canLayAll0 (xs.map f) = true
  | [], _ => by simp [PyData.canLayAll0]
  | x :: xs, h => by simp [PyData.canLayAll0, h x List.mem_cons_self, canAll_map xs fun y hy => h y (List.mem_cons_of_mem _ hy)]
theorem dO_depth (o : Option Int) : (dO o).depth = 0 := by cases o <;> rfl
theorem dO_nod (o : Option Int) : nod (dO o) = 1 := by cases o <;> rfl

/-! ### what agreeing and straying tell -/
def agree (ns : List Int) (ws : List (Option Int)) (n : Int) : List Nat := (List.range ws.length).filter fun i => decide (vO (ws.getD i none) = .int ((rests ns n).getD i 0))
def stray (ns : List Int) (ws : List (Option Int)) (n : Int) : List Nat := (List.range ws.length).filter fun i => (!decide (vO (ws.getD i none) = .non)) && !decide (vO (ws.getD i none) = .int ((rests ns n).getD i 0))
def sp_lanes (r : List Int → List (Option Int) → Int → List Nat) (K : PySem.W.Frag) : Sp := fun vs H Q _ => ∃ (t p : Addr) (ns : List Int) (ws : List (Option Int)) (n : Int), vs = [.ref t, .ref p, .int n] ∧ SqT K H t (ns.map V.int) ∧ SqT K H p (ws.map vO) ∧
  IsMach ns ∧ ws.length = ns.length ∧ ∀ (l : Addr) (H' : Hp), Same H H' → H l = none → H' l = some (.tup ((r ns ws n).map fun i => V.int (i : Nat))) → Q (.ref l) H'
def sp_agreeing (K : PySem.W.Frag) : Sp := sp_lanes agree K
def sp_straying (K : PySem.W.Frag) : Sp := sp_lanes stray K
end Sx
namespace Sx
open PySem PySem.Spec PyProof.Rows L2

/-! ### zip of three tuples -/
def ItzT3 (K : PySem.W.Frag) (a b c : Addr) : It where
  go := fun i H => ∃ (xs ys zs : List V) (x y z : V), SqT K H a xs ∧ SqT K H b ys ∧ SqT K H c zs ∧ xs[i]? = some x ∧ ys[i]? = some y ∧ zs[i]? = some z
  yld := fun i H v H1 => ∃ T x y z, v = .ref T ∧ H T = none ∧ H1 = upd H T (.tup [x, y, z]) ∧ (∀ xs, SqT K H a xs → xs[i]? = some x) ∧ (∀ ys, SqT K H b ys → ys[i]? = some y) ∧ ∀ zs, SqT K H c zs → zs[i]? = some z
  stop := fun i H => ∃ n : Nat, i = n ∧ ∃ xs ys zs : List V, SqT K H a xs ∧ SqT K H b ys ∧ SqT K H c zs ∧ xs.length = n ∧ ys.length = n ∧ zs.length = n
abbrev cells3 (z TI TO i1 i2 i3 : Addr) : List Addr := [z, TI, TO, i1, i2, i3]
theorem in_cells3 {z TI TO i1 i2 i3 b : Addr} (h : b ∈ cells3 z TI TO i1 i2 i3) : b = z ∨ b = TI ∨ b = TO ∨ b = i1 ∨ b = i2 ∨ b = i3 := by simpa using h
theorem turn_zip3 {P : Program} {w : World} {K : PySem.W.Frag} {elts : List Expr} {kk : Nat} {tpos : Pos} {a b c z TI TO i1 i2 i3 : Addr} (S : ZipSep3 z TI TO i1 i2 i3 [i1, a] [i2, b] [i3, c]) (n1 : a ≠ i1) (n2 : b ≠ i2) (n3 : c ≠ i3) :
    Turn P w K (.Tuple elts kk tpos) (ItzT3 K a b c) (cells3 z TI TO i1 i2 i3) z
      (fun i h => IsZip h z TI TO .none ∧ IsTupOf3 h TI (.ref i1) (.ref i2) (.ref i3) ∧ (∃ x y u, IsTupOf3 h TO x y u) ∧ h.IsTupleIter i1 a i ∧ h.IsTupleIter i2 b i ∧ h.IsTupleIter i3 c i) where
  mem := List.mem_cons_self
  obj := by
    rintro i h ⟨hz, hTI, ⟨x, y, u, hTO⟩, ⟨o1, e1, _, d1⟩, ⟨o2, e2, _, d2⟩, ⟨o3, e3, _, d3⟩⟩ b hb
    rcases in_cells3 hb with q | q | q | q | q | q <;> subst q
    · exact ⟨_, hz, fun v q => nomatch q⟩
    · exact ⟨_, hTI, fun v q => nomatch q⟩
    · exact ⟨_, hTO, fun v q => nomatch q⟩
    · exact ⟨o1, e1, fun v q => by rw [d1] at q; cases q⟩
    · exact ⟨o2, e2, fun v q => by rw [d2] at q; cases q⟩
    · exact ⟨o3, e3, fun v q => by rw [d3] at q; cases q⟩
  keep := by
    rintro i h h' ⟨hz, hTI, ⟨x, y, u, hTO⟩, h1, h2, h3⟩ k
    exact ⟨k z (by simp) _ hz, k TI (by simp) _ hTI, ⟨x, y, u, k TO (by simp) _ hTO⟩, h1.at fun o q => k i1 (by simp) o q, h2.at fun o q => k i2 (by simp) o q, h3.at fun o q => k i3 (by simp) o q⟩
  item := by
    intro X hP hw hK hc i pins s σ H E I hf st hg
    subst hP hw hK
    obtain ⟨hz, hTI, ⟨x0, y0, z0, hTO⟩, h1, h2, h3⟩ := st
    obtain ⟨xs, ys, zs, x, y, u, qx, qy, qz, hx, hy, hu⟩ := hg
    obtain ⟨l1, r1, p1, _⟩ := I.tuple qx
    obtain ⟨l2, r2, p2, _⟩ := I.tuple qy
    obtain ⟨l3, r3, p3, _⟩ := I.tuple qz
    obtain ⟨v1, e1, rv1⟩ := r1.get hx
    obtain ⟨v2, e2, rv2⟩ := r2.get hy
    obtain ⟨v3, e3, rv3⟩ := r3.get hu
    have hh : X.A.in1.handled = none := I.ok.hd hc
    have g1 : l1.toArray[i]? = some v1 := by simpa using e1
    have g2 : l2.toArray[i]? = some v2 := by simpa using e2
    have g3 : l3.toArray[i]? = some v3 := by simpa using e3
    have t1 := (Array.getElem?_eq_some_iff.mp g1).1
    have t2 := (Array.getElem?_eq_some_iff.mp g2).1
    have t3 := (Array.getElem?_eq_some_iff.mp g3).1
    have hzl : z < s.heap.objs.size := Heap.lt_size hz
    refine wpAny_pyNext_zipD3_item S (Draws.tuple hh i1 a n1 l1.toArray) (Draws.tuple hh i2 b n2 l2.toArray) (Draws.tuple hh i3 c n3 l3.toArray) hz hTI hTO ⟨h1, p1⟩ ⟨h2, p2⟩ ⟨h3, p3⟩ t1 t2 t3 fun w1 w2 w3 h' tk y1 y2 y3 b1 b2 d1 d2 d3 hT hsz hk => ?_
    obtain rfl : w1 = v1 := Option.some.inj (y1.symm.trans g1)
    obtain rfl : w2 = v2 := Option.some.inj (y2.symm.trans g2)
    obtain rfl : w3 = v3 := Option.some.inj (y3.symm.trans g3)
    refine ⟨_, rfl, wpAny_letOwnedTupleGo_zip (s := { s with heap := h', toks := tk }) b1 fun h'' z'' sb => ?_⟩
    have hT2 : h''.get? s.heap.objs.size = some { cls := .type "tuple", data := .seq #[w1, w2, w3] } := (sb.2 _ (Nat.ne_of_gt hzl)).trans hT
    have new : ObjOk X.prog X.w (upd H s.heap.objs.size (.tup [x, y, u])) h'' s.heap.objs.size (.tup [x, y, u]) :=
      ⟨(show 3 ≤ sizeLine by decide), [w1, w2, w3], .cons rv1 (.cons rv2 (.cons rv3 .nil)), ⟨_, hT2, rfl, _, rfl⟩⟩
    have I1 : Inv X pins σ (upd H s.heap.objs.size (.tup [x, y, u])) { s with heap := h'', toks := tk } :=
      I.turnedNew (ch := cells3 z TI TO i1 i2 i3) (fun e o hb q => (sb.2 e (fun q' => hb (by simp [q']))).trans (hk e o (fun q' => hb (by simp [q'])) (fun q' => hb (by simp [q'])) (fun q' => hb (by simp [q'])) (fun q' => hb (by simp [q'])) (fun q' => hb (by simp [q'])) q)) hf (Nat.le_refl _) new
    refine ⟨.ref s.heap.objs.size, _, I1, rfl, ⟨_, x, y, u, rfl, I.hok.fresh (Nat.le_refl _), rfl, fun l hl => by rw [I.tuple_inj hl qx]; exact hx, fun l hl => by rw [I.tuple_inj hl qy]; exact hy, fun l hl => by rw [I.tuple_inj hl qz]; exact hu⟩, ⟨z'', ?_, ⟨w1, w2, w3, ?_⟩, ?_, ?_, ?_⟩, fun e hcm => ?_⟩
    · exact (sb.2 _ S.TIz).trans (hk _ _ S.TIz S.TITO S.TIi1 S.TIi2 S.TIi3 hTI)
    · exact (sb.2 _ S.TOz).trans b2
    · exact d1.1.at fun o q => (sb.2 _ (Ne.symm S.zi1)).trans q
    · exact d2.1.at fun o q => (sb.2 _ (Ne.symm S.zi2)).trans q
    · exact d3.1.at fun o q => (sb.2 _ (Ne.symm S.zi3)).trans q
    · have hlt : e < s.heap.objs.size := by
        rcases in_cells3 hcm with q | q | q | q | q | q <;> subst q
        · exact hzl
        · exact Heap.lt_size hTI
        · exact Heap.lt_size hTO
        · obtain ⟨_, q, _⟩ := h1
          exact Heap.lt_size q
        · obtain ⟨_, q, _⟩ := h2
          exact Heap.lt_size q
        · obtain ⟨_, q, _⟩ := h3
          exact Heap.lt_size q
      rw [upd_ne (Nat.ne_of_lt hlt)]
      exact (hf e hcm).1
  done := by
    intro X hP hw hK hc i pins s σ H E I hf st hg
    subst hP hw hK
    obtain ⟨hz, hTI, ⟨x0, y0, z0, hTO⟩, h1, h2, h3⟩ := st
    obtain ⟨n, rfl, xs, ys, zs, qx, qy, qz, e1, e2, e3⟩ := hg
    obtain ⟨l1, r1, p1, _⟩ := I.tuple qx
    obtain ⟨l2, r2, p2, _⟩ := I.tuple qy
    obtain ⟨l3, r3, p3, _⟩ := I.tuple qz
    have hh : X.A.in1.handled = none := I.ok.hd hc
    have f1 : i = l1.toArray.size := by rw [List.size_toArray, ← r1.length, e1]
    have f2 : i = l2.toArray.size := by rw [List.size_toArray, ← r2.length, e2]
    have f3 : i = l3.toArray.size := by rw [List.size_toArray, ← r3.length, e3]
    exact wpAny_pyNext_zipD3_end S (Draws.tuple hh i1 a n1 l1.toArray) (Draws.tuple hh i2 b n2 l2.toArray) (Draws.tuple hh i3 c n3 l3.toArray) hz hTI hTO ⟨h1, p1⟩ ⟨h2, p2⟩ ⟨h3, p3⟩ (Nat.le_of_eq f1) (Nat.le_of_eq f2) (Nat.le_of_eq f3) (.inl f1) fun h' tk hk =>
      ⟨rfl, I.turnedL (t' := tk) (ch := cells3 z TI TO i1 i2 i3) (fun e o hb q => hk e o (fun q' => hb (by simp [q'])) (fun q' => hb (by simp [q'])) (fun q' => hb (by simp [q'])) (fun q' => hb (by simp [q'])) (fun q' => hb (by simp [q'])) q) hf⟩
  self := fun A i s Q E st h => wpAny_pyIter_zip st.1 h
def iZip3T (K : PySem.W.Frag) (ta : TA) : TI := fun σ H R => ta σ H fun vs H1 => ∃ a b c xs ys zs, vs = [.ref a, .ref b, .ref c] ∧ SqT K H1 a xs ∧ SqT K H1 b ys ∧ SqT K H1 c zs ∧ R (ItzT3 K a b c) H1
theorem pi_zip3T {X : Cx} {e e2 e3 : Expr} {ta : TA} {p pos tpos : Pos} {elts : List Expr} {kk : Nat} (hg : Gl X "zip") (hm : X.mg "zip" = none) (ha : PA X [e, e2, e3] ta)
    (hs : starEach [e, e2, e3] X.env = (false, eval e X.env) :: starEach [e2, e3] X.env := by rfl) (hpl : (backTo pos (starEach [e2, e3] X.env)).any (·.1) = false := by rfl) :
    PI X (.Tuple elts kk tpos) (.Call (.Name "zip" p) [e, e2, e3] [] pos) (iZip3T X.K ta) := by
  refine ⟨fun pins s σ H R I h => Call_ (ld_blt I hg hm PyProof.Rows.boot_zip (PyProof.Rows.callWith_type1 (thn (ha.run pos pins s σ H _ I h) ?_) hs hpl))⟩
  rintro us s1 ⟨vs, H1, I1, r1, a, b, c, xs, ys, zs, rfl, qx, qy, qz, q⟩
  cases r1 with
  | cons ra r1 =>
    cases r1 with
    | cons rb r1 =>
      cases r1 with
      | cons rc r1 =>
        cases r1
        cases ra
        cases rb
        cases rc
        obtain ⟨l1, r1, p1, _⟩ := I1.tuple qx
        obtain ⟨l2, r2, p2, _⟩ := I1.tuple qy
        obtain ⟨l3, r3, p3, _⟩ := I1.tuple qz
        refine zip_begins3 (begins_tuple a l1.toArray) (begins_tuple b l2.toArray) (begins_tuple c l3.toArray) p1 p2 p3 fun h' hz hTI hTO g1 g2 g3 hsz hk => wpAny_pyIter_zip hz ?_
        have I2 : Inv X pins σ H1 { s1 with heap := h' } := I1.kept (t' := s1.toks) hk
        have lo : ∀ {t : Addr}, t < s1.heap.objs.size → ∀ b ∈ [t], b < s1.heap.objs.size := fun h b hb => by
          rw [List.mem_singleton.mp hb]
          exact h
        refine ⟨s1.heap.objs.size + 5, cells3 (s1.heap.objs.size + 5) (s1.heap.objs.size + 3) (s1.heap.objs.size + 4) s1.heap.objs.size (s1.heap.objs.size + 1) (s1.heap.objs.size + 2), _, _, H1, rfl, I2,
          turn_zip3 (zip_sep3 (lo p1.lt) (lo p2.lt) (lo p3.lt)) (Nat.ne_of_lt p1.lt) (Nat.ne_of_lt (Nat.lt_succ_of_lt p2.lt)) (Nat.ne_of_lt (Nat.lt_succ_of_lt (Nat.lt_succ_of_lt p3.lt))), ⟨hz, hTI, ⟨_, _, _, hTO⟩, ⟨_, g1, rfl, rfl⟩, ⟨_, g2, rfl, rfl⟩, ⟨_, g3, rfl, rfl⟩⟩, fun e he => ?_, q⟩
        have hle : s1.heap.objs.size ≤ e := by
          rcases in_cells3 he with q | q | q | q | q | q <;> rw [q]
          all_goals first | exact Nat.le_refl _ | exact Nat.le_add_right _ _
        exact I1.fpOk hle (I1.hok.fresh hle)
theorem walk_zip3T {K : PySem.W.Frag} {a b c : Addr} {xs ys zs : List V} {n : Nat} (h1 : xs.length = n) (h2 : ys.length = n) (h3 : zs.length = n) : Walk (ItzT3 K a b c) n (fun H => SqT K H a xs ∧ SqT K H b ys ∧ SqT K H c zs)
    (fun i H v H1 => ∃ T x y z, v = .ref T ∧ H T = none ∧ H1 = upd H T (.tup [x, y, z]) ∧ xs[i]? = some x ∧ ys[i]? = some y ∧ zs[i]? = some z) := by
  refine ⟨fun i H hi q => ⟨xs, ys, zs, xs[i], ys[i], zs[i], q.1, q.2.1, q.2.2, List.getElem?_eq_getElem (by omega), List.getElem?_eq_getElem (by omega), List.getElem?_eq_getElem (by omega)⟩, fun H q => ⟨n, rfl, xs, ys, zs, q.1, q.2.1, q.2.2, h1, h2, h3⟩, ?_⟩
  rintro i H v H1 _ q ⟨T, x, y, z, e1, e2, e3, e4, e5, e6⟩
  exact ⟨T, x, y, z, e1, e2, e3, e4 xs q.1, e5 ys q.2.1, e6 zs q.2.2⟩
def sp__law_is_split (K : PySem.W.Frag) : Sp := fun vs H Q _ => ∃ (H0 : Hp) (b g t : Addr) (ns : List Int) (n : Int), vs = [.ref b, .ref t, .int n] ∧ Bs H0 H b g ∧ SqT K H0 t (ns.map V.int) ∧ IsMach ns ∧ ∀ H', Bs H0 H' b g → Q (.bl true) H'
end Sx
namespace Sx
open PySem PySem.Spec PyProof.Rows L2

/-! ### lists of places -/
def nI (l : List Nat) : List V := l.map fun i => V.int (i : Nat)
def dI (l : List Nat) : List PyData := l.map fun i => PyData.int (i : Nat)
theorem dpa_nI {K : PySem.W.Frag} {H : Hp} : ∀ l : List Nat, DpAll K H (nI l) (dI l)
  | [] => .nil
  | i :: l => .cons (.int _) (dpa_nI l)
theorem fine_int {i : Int} (h : i.natAbs < 10 ^ 120) : fine (.int i) = true := by
  have h2 : i.natAbs < big := Nat.lt_trans h (by decide +kernel)
  simpa [fine] using h2
theorem fineAll_dI {l : List Nat} (h : ∀ i ∈ l, i < 1000000) : fineAll (dI l) = true := fineAll_map l fun i hi => fine_int (by
  have := h i hi
  show i < 10 ^ 120
  exact Nat.lt_trans this (by decide +kernel))
theorem nodAll_dI (l : List Nat) : nodAll (dI l) = l.length := nodAll_map (fun _ => rfl) l
theorem depthAll_dI (l : List Nat) : PyData.depthAll (dI l) ≤ 0 := depthAll_map l fun _ _ => Nat.le_refl 0
theorem inV_nI (i : Nat) : ∀ l : List Nat, inV (.int (i : Nat)) (nI l) = decide (i ∈ l)
  | [] => by simp [inV, nI]
  | j :: l => by
    have e := inV_nI i l
    have h : inV (.int (i : Nat)) (nI (j :: l)) = (eqV (.int (j : Nat)) (.int (i : Nat)) || inV (.int (i : Nat)) (nI l)) := rfl
    rw [h, e]
    have e2 : eqV (.int (j : Nat)) (.int (i : Nat)) = decide (i = j) := by
      by_cases q : i = j
      · subst q
        simp [eqV]
      · have q2 : ¬ ((j : Nat) : Int) = ((i : Nat) : Int) := by omega
        simp [eqV, q, q2]
    rw [e2]
    simp
theorem flat_nI (l : List Nat) : (nI l).all flatV = true := by
  unfold nI
  rw [List.all_map, List.all_eq_true]
  intro i _
  rfl

/-! ### data of two rows -/
theorem shows1 {ds : List PyData} (h : fineAll ds = true) (hn : nodAll ds ≤ 10000) (hd : PyData.depthAll ds ≤ 9) : Shows (.tuple ds) ∧ Shows (.list ds) := by
  have e1 : nod (.tuple ds) = 1 + nodAll ds := rfl
  have e2 : PyData.depth (.tuple ds) = PyData.depthAll ds + 1 := rfl
  have e3 : nod (.list ds) = 1 + nodAll ds := rfl
  have e4 : PyData.depth (.list ds) = PyData.depthAll ds + 1 := rfl
  exact ⟨shows_of h (by omega) (by omega), shows_of h (by omega) (by omega)⟩
theorem shows2 {d1 d2 : PyData} (h1 : fine d1 = true) (h2 : fine d2 = true) (n1 : nod d1 ≤ 10000) (n2 : nod d2 ≤ 10000) (e1 : d1.depth ≤ 9) (e2 : d2.depth ≤ 9) : Shows (.list [d1, d2]) := by
  refine shows_of ?_ ?_ ?_
  · show (fine d1 && (fine d2 && true)) = true
    rw [h1, h2] <;> rfl
  · show 1 + (nod d1 + (nod d2 + 0)) ≤ 50000
    omega
  · show max d1.depth (max d2.depth 0) + 1 ≤ 60
    omega
/-- a row's facts, for shows2 -/
structure Row (d : PyData) : Prop where
  f : fine d = true
  n : nod d ≤ 10000
  d : d.depth ≤ 9
theorem Row.one {d : PyData} (a : Row d) : Shows d := shows_of a.f (by have := a.n; omega) (by have := a.d; omega)
theorem Row.tup {ds : List PyData} (h : fineAll ds = true) (hn : nodAll ds ≤ 9000) (hd : PyData.depthAll ds ≤ 8) : Row (.tuple ds) :=
  ⟨h, (by show 1 + nodAll ds ≤ 10000; omega), (by show PyData.depthAll ds + 1 ≤ 9; omega)⟩
theorem Row.lst {ds : List PyData} (h : fineAll ds = true) (hn : nodAll ds ≤ 9000) (hd : PyData.depthAll ds ≤ 8) : Row (.list ds) :=
  ⟨h, (by show 1 + nodAll ds ≤ 10000; omega), (by show PyData.depthAll ds + 1 ≤ 9; omega)⟩
theorem Row.two {d1 d2 : PyData} (a : Row d1) (b : Row d2) : Shows (.list [d1, d2]) := shows2 a.f b.f a.n b.n a.d b.d
theorem Row.mach {ns : List Int} (hm : IsMach ns) : Row (.tuple (ns.map PyData.int)) := by
  refine .tup (fineAll_map ns fun n hn => fine_int ?_) ?_ (depthAll_map ns fun _ _ => Nat.zero_le _)
  · have := hm.mod n hn
    exact Nat.lt_trans (show n.natAbs < 1000001 by omega) (by decide +kernel)
  · rw [nodAll_map (fun _ => rfl)]
    have := hm.ten
    omega
theorem Row.ints {ns : List Int} (h : ∀ n ∈ ns, n.natAbs < 10 ^ 120) (hl : ns.length ≤ 9000) : Row (.tuple (ns.map PyData.int)) := by
  refine .tup (fineAll_map ns fun n hn => fine_int (h n hn)) ?_ (depthAll_map ns fun _ _ => Nat.zero_le _)
  rw [nodAll_map (fun _ => rfl)]
  exact hl
/-- a word's items -/
def IsWord (ws : List (Option Int)) : Prop := ws.length ≤ 10 ∧ ∀ r, some r ∈ ws → 0 ≤ r ∧ r < 1000000
theorem Row.word {ws : List (Option Int)} (h : IsWord ws) : Row (.tuple (ws.map dO)) := by
  refine .tup (fineAll_map ws fun o ho => ?_) ?_ (depthAll_map ws fun o _ => by rw [dO_depth]; exact Nat.zero_le _)
  · cases o with
    | none => rfl
    | some r =>
      have := h.2 r ho
      exact fine_int (Nat.lt_trans (show r.natAbs < 1000000 by omega) (by decide +kernel))
  · rw [nodAll_map dO_nod]
    have := h.1
    omega
theorem Row.places {l : List Nat} (h : ∀ i ∈ l, i < 10) (hl : l.length ≤ 10) : Row (.tuple (dI l)) := by
  refine .tup (fineAll_dI fun i hi => by have := h i hi; omega) ?_ (Nat.le_trans (depthAll_dI l) (by decide))
  rw [nodAll_dI]
  omega

/-! ### the lanes that speak, agree, stray -/
def spoke (ws : List (Option Int)) (k : Nat) : List Nat := (List.range k).filter fun i => !decide (vO (ws.getD i none) = .non)
def fitOf (ns : List Int) (ws : List (Option Int)) (n : Int) (l : List Nat) : List Nat := l.filter fun i => decide (vO (ws.getD i none) = .int (n % ns.getD i 0))
def unfitOf (l f : List Nat) : List Nat := l.filter fun i => !inV (.int (i : Nat)) (nI f)
theorem rests_at {ns : List Int} {n : Int} {i : Nat} (h : i < ns.length) : (rests ns n).getD i 0 = n % ns.getD i 0 := by
  unfold rests
  rw [List.getD_eq_getElem?_getD, List.getD_eq_getElem?_getD, List.getElem?_map, List.getElem?_eq_getElem h] <;> rfl
theorem fit_eq {ns : List Int} {ws : List (Option Int)} {n : Int} (h : ws.length = ns.length) : fitOf ns ws n (spoke ws ns.length) = agree ns ws n := by
  unfold fitOf spoke agree
  rw [List.filter_filter, h]
  refine List.filter_congr fun i hi => ?_
  rw [rests_at (List.mem_range.mp hi)]
  generalize ws.getD i none = o
  cases o <;> simp [vO]
theorem unfit_eq {ns : List Int} {ws : List (Option Int)} {n : Int} (h : ws.length = ns.length) : unfitOf (spoke ws ns.length) (agree ns ws n) = stray ns ws n := by
  unfold unfitOf spoke
  rw [List.filter_filter]
  unfold stray
  rw [h]
  refine List.filter_congr fun i hi => ?_
  rw [inV_nI]
  have e : decide (i ∈ agree ns ws n) = decide (vO (ws.getD i none) = .int ((rests ns n).getD i 0)) := by
    unfold agree
    rw [h]
    rw [Bool.eq_iff_iff]
    simp only [decide_eq_true_eq, List.mem_filter]
    exact ⟨fun q => q.2, fun q => ⟨hi, q⟩⟩
  rw [e, Bool.and_comm]
theorem lanes_small {p : Nat → Bool} {k : Nat} (hk : k ≤ 10) : (∀ i ∈ (List.range k).filter p, i < 10) ∧ ((List.range k).filter p).length ≤ 10 := by
  constructor
  · intro i hi
    have := List.mem_range.mp (List.mem_filter.mp hi).1
    omega
  · have := List.length_filter_le p (List.range k)
    rw [List.length_range] at this
    omega
theorem getD_some {α : Type} {xs : List α} {i : Nat} (d : α) (h : i < xs.length) : xs[i]? = some (xs.getD i d) := by
  rw [List.getD_eq_getElem?_getD, List.getElem?_eq_getElem h] <;> rfl
theorem walk_range0 {n : Nat} : Walk (Itr 0 n) n (fun _ => True) (fun i H x H1 => H1 = H ∧ x = .int (i : Nat)) := by
  refine Walk.mono walk_range (fun _ h => h) ?_
  rintro i H x H1 _ _ ⟨rfl, rfl⟩
  exact ⟨rfl, congrArg V.int (Int.zero_add _)⟩
theorem range_at {k i z : Nat} (h : (List.range k)[i]? = some z) : i = z ∧ i < k := by
  have hi := (List.getElem?_eq_some_iff.mp h).1
  rw [List.length_range] at hi
  rw [List.getElem?_range hi] at h
  exact ⟨Option.some.inj h, hi⟩

/-- what stands in H and is no part of the box, known to H0 from now on -/
theorem Bs.own {H0 H : Hp} {b g p : Addr} {o : HO} (B : Bs H0 H b g) (e : H p = some o) (pb : p ≠ b) (pg : p ≠ g) : Bs (upd H0 p o) H b g := by
  refine ⟨?_, by rw [upd_ne pb.symm]; exact B.nb, by rw [upd_ne pg.symm]; exact B.ng, B.ls, B.dc⟩
  intro c x h
  by_cases hc : c = p
  · subst hc
    rw [upd_same] at h
    cases h
    exact e
  · rw [upd_ne hc] at h
    exact B.sub c x h

/-! ### equal rows of ints -/
theorem eqvAll_ints : ∀ xs ys : List Int, PyData.eqvAll (xs.map PyData.int) (ys.map PyData.int) = decide (xs = ys)
  | [], [] => by simp [PyData.eqvAll]
  | [], _ :: _ => by simp [PyData.eqvAll]
  | _ :: _, [] => by simp [PyData.eqvAll]
  | x :: xs, y :: ys => by
    have e := eqvAll_ints xs ys
    simp only [List.map_cons, PyData.eqvAll, PyData.eqv, e]
    by_cases h : x = y <;> simp [h]
theorem eqv_tup_ints (xs ys : List Int) : PyData.eqv (.tuple (xs.map PyData.int)) (.tuple (ys.map PyData.int)) = decide (xs = ys) := by
  simp only [PyData.eqv, eqvAll_ints]
theorem shaped_tup_ints (ns : List Int) : SeqAt.shaped (.tuple (ns.map PyData.int)) = true := shaped_ints ns
theorem rests_alike (ns : List Int) (a b : Int) : decide (rests ns a = rests ns b) = (ns.filter fun m => !decide (V.int ((b - a) % m) = V.int 0)).isEmpty := by
  rw [Bool.eq_iff_iff, decide_eq_true_eq, List.isEmpty_iff, List.filter_eq_nil_iff]
  have key : ∀ m : Int, (a % m = b % m) ↔ (b - a) % m = 0 := by
    intro m
    constructor
    · intro h
      exact Int.emod_eq_zero_of_dvd (Int.dvd_of_emod_eq_zero (Int.emod_eq_emod_iff_emod_sub_eq_zero.mp h.symm))
    · intro h
      exact (Int.emod_eq_emod_iff_emod_sub_eq_zero.mpr h).symm
  unfold rests
  constructor
  · intro h m hm
    have h2 := List.map_inj_left.mp h m hm
    simp [(key m).mp h2]
  · intro h
    refine List.map_inj_left.mpr fun m hm => (key m).mpr ?_
    have := h m hm
    simpa using this
theorem rSlA_of {K : PySem.W.Frag} {lo hi : Option Int} {H : Hp} {Q : VK} {a : Addr} {xs : List V} (h : SqT K H a xs) (k : ∀ (o : Addr) (H1 : Hp), SqT K H1 o (cutV xs lo hi) → Same H H1 → Q (.ref o) H1) : rSlA K (.ref a) lo hi H Q := by
  refine ⟨a, xs, rfl, h, fun hw => k a H ?_ (Same.refl H), fun _ p np => k p _ (.of upd_same) (same_new np)⟩
  have e : cutV xs lo hi = xs := by
    unfold cutV
    rw [hw.1, hw.2, List.drop_zero, Nat.sub_zero, List.take_length]
  rw [e]
  exact h
theorem mem_cutV {xs : List V} {lo hi : Option Int} {x : V} (h : x ∈ cutV xs lo hi) : x ∈ xs := List.mem_of_mem_drop (List.mem_of_mem_take h)
def op3 (j : Nat) (a b : Int) : Int := match j with | 0 => a + b | 1 => a - b | _ => a * b
theorem op3_rests (ns : List Int) (j : Nat) (a b : Int) : rests ns (op3 j a b) = ns.map fun m => op3 j (a % m) (b % m) % m := by
  unfold rests
  refine List.map_congr_left fun m _ => ?_
  match j with
  | 0 => exact Int.add_emod a b m
  | 1 => exact Int.sub_emod a b m
  | _ + 2 => exact Int.mul_emod a b m
theorem op3_at (j : Nat) (hj : j < 3) (a b : Int) : [V.int (a + b), V.int (a - b), V.int (a * b)][j]? = some (V.int (op3 j a b)) := by
  match j, hj with
  | 0, _ => rfl
  | 1, _ => rfl
  | 2, _ => rfl
end Sx
namespace Sx
open PySem PySem.Spec PyProof.Rows L2

/-! ### min, max of a tuple of ints -/
theorem alike_ints (ns : List Int) : PySem.W.AlikeAll (ns.map PyData.int) := by
  constructor
  · intro x hx y hy
    obtain ⟨a, _, rfl⟩ := List.mem_map.mp hx
    obtain ⟨b, _, rfl⟩ := List.mem_map.mp hy
    rfl
  · intro x hx
    obtain ⟨a, _, rfl⟩ := List.mem_map.mp hx
    exact fun z => nomatch z
def rMinT (K : PySem.W.Frag) : List V → Hp → VK → Prop := fun vs H Q => ∃ (a : Addr) (n : Int) (ns : List Int), vs = [V.ref a] ∧ SqT K H a ((n :: ns).map V.int) ∧ Q (.int (ns.foldl min n)) H
def rMaxT (K : PySem.W.Frag) : List V → Hp → VK → Prop := fun vs H Q => ∃ (a : Addr) (n : Int) (ns : List Int), vs = [V.ref a] ∧ SqT K H a ((n :: ns).map V.int) ∧ Q (.int (ns.foldl max n)) H
theorem cr_minT {X : Cx} (hc : X.calm = true) (hu : X.A.units + 64 < cLine) : CallR X (.builtin "min") (rMinT X.K) := by
  intro pins s σ H vs us Q I r h
  obtain ⟨a, n, ns, rfl, hs, q⟩ := h
  obtain ⟨its, rv, tp, _⟩ := I.tuple hs
  obtain ⟨as, rd⟩ := Dp.readsAll I ((n :: ns).map PyData.int) _ its (dpa_ints (n :: ns)) rv
  rw [Vals.ref1 r]
  have hd := depthAll_ints (n :: ns)
  refine PySem.W.min_tuple_data (x := .int n) (xs := ns.map PyData.int) (I.ok.hd hc) (show s.heap.IsTuple a its.toArray from tp) (by simpa using rd) (alike_ints (n :: ns)) (by
    show X.A.units + 1 + PyData.depthAll ((n :: ns).map PyData.int) < cLine
    omega) fun i v h' tk bs hv hr hk => ?_
  rw [PySem.W.minD_ints] at hr
  cases hr with
  | int _ t => exact ⟨.int (ns.foldl min n), H, I.kept hk, ⟨_, rfl⟩, q⟩
theorem cr_maxT {X : Cx} (hc : X.calm = true) (hu : X.A.units + 64 < cLine) : CallR X (.builtin "max") (rMaxT X.K) := by
  intro pins s σ H vs us Q I r h
  obtain ⟨a, n, ns, rfl, hs, q⟩ := h
  obtain ⟨its, rv, tp, _⟩ := I.tuple hs
  obtain ⟨as, rd⟩ := Dp.readsAll I ((n :: ns).map PyData.int) _ its (dpa_ints (n :: ns)) rv
  rw [Vals.ref1 r]
  have hd := depthAll_ints (n :: ns)
  refine PySem.W.max_tuple_data (x := .int n) (xs := ns.map PyData.int) (I.ok.hd hc) (show s.heap.IsTuple a its.toArray from tp) (by simpa using rd) (alike_ints (n :: ns)) (by
    show X.A.units + 1 + PyData.depthAll ((n :: ns).map PyData.int) < cLine
    omega) fun i v h' tk bs hv hr hk => ?_
  rw [PySem.W.maxD_ints] at hr
  cases hr with
  | int _ t => exact ⟨.int (ns.foldl max n), H, I.kept hk, ⟨_, rfl⟩, q⟩

/-! ### steps -/
inductive Stp where
  | inn (lo hi : Int)
  | num (c : Int)
  | op (k i j : Nat)
instance : Inhabited Stp := ⟨.num 0⟩
def opw : Nat → Str
  | 0 => "sum"
  | 1 => "less"
  | _ => "times"
def stepV : Stp → List V
  | .inn lo hi => [.str "in", .int lo, .int hi]
  | .num c => [.str "is", .int c]
  | .op k i j => [.str (opw k), .int (i : Nat), .int (j : Nat)]
def stepD : Stp → List PyData
  | .inn lo hi => [.str "in", .int lo, .int hi]
  | .num c => [.str "is", .int c]
  | .op k i j => [.str (opw k), .int (i : Nat), .int (j : Nat)]
def StepOk (n : Nat) : Stp → Prop
  | .inn lo hi => IsNum lo ∧ IsNum hi ∧ lo ≤ hi
  | .num c => IsNum c
  | .op k i j => k ≤ 2 ∧ i < n ∧ j < n
theorem wne {a b : Str} (h : (a == b) = false) : decide (V.str a = V.str b) = false := by
  refine decide_eq_false fun e => ?_
  rw [V.str.inj e] at h
  simp at h
/-! ### hulls -/
def min4 (a b c d : Int) : Int := min (min (min a b) c) d
def max4 (a b c d : Int) : Int := max (max (max a b) c) d
def hullOp (k : Nat) (x y : Int × Int) : Int × Int := match k with
  | 0 => (x.1 + y.1, x.2 + y.2)
  | 1 => (x.1 - y.2, x.2 - y.1)
  | _ => (min4 (x.1 * y.1) (x.1 * y.2) (x.2 * y.1) (x.2 * y.2), max4 (x.1 * y.1) (x.1 * y.2) (x.2 * y.1) (x.2 * y.2))
def hullS (E : List (Int × Int)) : Stp → Int × Int
  | .inn lo hi => (lo, hi)
  | .num c => (c, c)
  | .op k i j => hullOp k (E.getD i (0, 0)) (E.getD j (0, 0))
def hullsN (ss : List Stp) : Nat → List (Int × Int)
  | 0 => []
  | i + 1 => hullsN ss i ++ [hullS (hullsN ss i) (ss.getD i default)]
theorem hullsN_len (ss : List Stp) : ∀ i, (hullsN ss i).length = i
  | 0 => rfl
  | i + 1 => by
    show (hullsN ss i ++ [_]).length = i + 1
    rw [List.length_append, hullsN_len ss i] <;> rfl
def hullMost : Int := 10 ^ 120
def Bnd (e : Int × Int) : Prop := e.1.natAbs ≤ 10 ^ 120 ∧ e.2.natAbs ≤ 10 ^ 120
structure IsProg (ss : List Stp) : Prop where
  one : 1 ≤ ss.length
  most : ss.length ≤ 30
  ok : ∀ i s, ss[i]? = some s → StepOk i s
  bnd : ∀ i, i ≤ ss.length → ∀ e ∈ hullsN ss i, Bnd e
theorem bnd_wide {a b : Int} (ha : a.natAbs ≤ 10 ^ 120) (hb : b.natAbs ≤ 10 ^ 120) : CMulW a b :=
  wide_mul (a := 400) (b := 400) (Nat.lt_of_le_of_lt ha (by decide +kernel)) (Nat.lt_of_le_of_lt hb (by decide +kernel)) (by decide) (by decide) (by decide)
theorem num_bnd {n : Int} (h : IsNum n) : n.natAbs ≤ 10 ^ 120 := by
  have h2 : n.natAbs ≤ 10 ^ 60 := by
    have a := h.1
    have b := h.2
    omega
  exact Nat.le_trans h2 (by decide +kernel)
/-! ### where hulls, programs stand -/
abbrev PairAt (H : Hp) (a : Addr) (e : Int × Int) : Prop := H a = some (.tup [.int e.1, .int e.2])
def HlsAt (H : Hp) (l : Addr) (E : List (Int × Int)) : Prop := ∃ as : List Addr, H l = some (.lst (as.map V.ref)) ∧ Paired (PairAt H) as E
def HltAt (H : Hp) (t : Addr) (E : List (Int × Int)) : Prop := ∃ as : List Addr, H t = some (.tup (as.map V.ref)) ∧ Paired (PairAt H) as E
abbrev StepAt (H : Hp) (a : Addr) (s : Stp) : Prop := H a = some (.tup (stepV s))
def ProgAt (H : Hp) (t : Addr) (ss : List Stp) : Prop := ∃ as : List Addr, H t = some (.tup (as.map V.ref)) ∧ Paired (StepAt H) as ss
theorem paired_same {β : Type} {R : Hp → Addr → β → Prop} {H H1 : Hp} (h : ∀ a x, R H a x → R H1 a x) : ∀ {as : List Addr} {xs : List β}, Paired (R H) as xs → Paired (R H1) as xs
  | _, _, .nil => .nil
  | _, _, .cons r t => .cons (h _ _ r) (paired_same h t)
theorem HlsAt.same {H H1 : Hp} {l : Addr} {E : List (Int × Int)} (s : Same H H1) (h : HlsAt H l E) : HlsAt H1 l E := by
  obtain ⟨as, e, p⟩ := h
  exact ⟨as, s _ _ e, paired_same (fun a x r => s _ _ r) p⟩
theorem HltAt.same {H H1 : Hp} {l : Addr} {E : List (Int × Int)} (s : Same H H1) (h : HltAt H l E) : HltAt H1 l E := by
  obtain ⟨as, e, p⟩ := h
  exact ⟨as, s _ _ e, paired_same (fun a x r => s _ _ r) p⟩
theorem ProgAt.same {H H1 : Hp} {t : Addr} {ss : List Stp} (s : Same H H1) (h : ProgAt H t ss) : ProgAt H1 t ss := by
  obtain ⟨as, e, p⟩ := h
  exact ⟨as, s _ _ e, paired_same (fun a x r => s _ _ r) p⟩
theorem paired_at {β : Type} {R : Addr → β → Prop} : ∀ {as : List Addr} {xs : List β} {i : Nat} {x : β}, Paired R as xs → xs[i]? = some x → ∃ a, as[i]? = some a ∧ R a x
  | _, _, _, _, .nil, h => by simp at h
  | _, _, 0, x, .cons r t, h => ⟨_, rfl, by rw [← Option.some.inj h]; exact r⟩
  | _, _, i + 1, x, .cons r t, h => paired_at (i := i) t (by simpa using h)
theorem paired_len {β : Type} {R : Addr → β → Prop} {as : List Addr} {xs : List β} (h : Paired R as xs) : as.length = xs.length := Paired.length h
theorem paired_snoc {β : Type} {R : Addr → β → Prop} {a : Addr} {x : β} : ∀ {as : List Addr} {xs : List β}, Paired R as xs → R a x → Paired R (as ++ [a]) (xs ++ [x])
  | _, _, .nil, h => .cons h .nil
  | _, _, .cons r t, h => .cons r (paired_snoc t h)
/-- rows of data at once -/
theorem dpa_paired {β : Type} {K : PySem.W.Frag} {H : Hp} {R : Addr → β → Prop} {f : β → PyData} (h : ∀ a x, R a x → Dp K H (.ref a) (f x)) : ∀ {as : List Addr} {xs : List β}, Paired R as xs → DpAll K H (as.map V.ref) (xs.map f)
  | _, _, .nil => .nil
  | _, _, .cons r t => .cons (h _ _ r) (dpa_paired h t)
theorem dpa_step {K : PySem.W.Frag} {H : Hp} (s : Stp) : DpAll K H (stepV s) (stepD s) := by
  cases s with
  | inn lo hi => exact .cons (.str _) (.cons (.int _) (.cons (.int _) .nil))
  | num c => exact .cons (.str _) (.cons (.int _) .nil)
  | op k i j => exact .cons (.str _) (.cons (.int _) (.cons (.int _) .nil))
theorem dp_prog {K : PySem.W.Frag} {H : Hp} {t : Addr} {ss : List Stp} (h : ProgAt H t ss) : Dp K H (.ref t) (.tuple (ss.map fun s => .tuple (stepD s))) := by
  obtain ⟨as, e, p⟩ := h
  exact .tup (.of e) (dpa_paired (fun a s r => .tup (.of r) (dpa_step s)) p)
def hullD (e : Int × Int) : PyData := .tuple [.int e.1, .int e.2]
theorem dp_hlt {K : PySem.W.Frag} {H : Hp} {t : Addr} {E : List (Int × Int)} (h : HltAt H t E) : Dp K H (.ref t) (.tuple (E.map hullD)) := by
  obtain ⟨as, e, p⟩ := h
  exact .tup (.of e) (dpa_paired (f := hullD) (fun a x r => .tup (.of r) (.cons (.int _) (.cons (.int _) .nil))) p)
/-! ### the promises -/
abbrev HullEnd (H : Hp) (Q : VK) (e : Int × Int) : Prop := ∀ (a : Addr) (H' : Hp), Same H H' → H a = none → PairAt H' a e → Q (.ref a) H'
def sp_hull_of (_ : PySem.W.Frag) : Sp := fun vs H Q _ => ∃ (p l : Addr) (s : Stp) (E : List (Int × Int)), vs = [.ref p, .ref l] ∧ StepAt H p s ∧ HlsAt H l E ∧ StepOk E.length s ∧ (∀ e ∈ E, Bnd e) ∧ HullEnd H Q (hullS E s)
def sp__law_hull (_ : PySem.W.Frag) : Sp := fun vs H Q _ => ∃ (p l : Addr) (s : Stp) (E : List (Int × Int)), vs = [.ref l, .ref p] ∧ StepAt H p s ∧ HlsAt H l E ∧ StepOk E.length s ∧ (∀ e ∈ E, Bnd e) ∧ HullEnd H Q (hullS E s)
theorem min4_of {p q r s m : Int} (h : m ∈ [p, q, r, s]) (hl : ∀ y, y ∈ [p, q, r, s] → m ≤ y) : m = min4 p q r s := by
  have h1 := hl p (by simp)
  have h2 := hl q (by simp)
  have h3 := hl r (by simp)
  have h4 := hl s (by simp)
  have h' : m = p ∨ m = q ∨ m = r ∨ m = s := by simpa using h
  unfold min4
  omega
theorem max4_of {p q r s m : Int} (h : m ∈ [p, q, r, s]) (hl : ∀ y, y ∈ [p, q, r, s] → y ≤ m) : m = max4 p q r s := by
  have h1 := hl p (by simp)
  have h2 := hl q (by simp)
  have h3 := hl r (by simp)
  have h4 := hl s (by simp)
  have h' : m = p ∨ m = q ∨ m = r ∨ m = s := by simpa using h
  unfold max4
  omega
theorem hl_at {H : Hp} {l : Addr} {E : List (Int × Int)} {i : Nat} (h : HlsAt H l E) (hi : i < E.length) : ∃ (as : List Addr) (a : Addr), H l = some (.lst (as.map V.ref)) ∧ (as.map V.ref)[i]? = some (.ref a) ∧ PairAt H a (E.getD i (0, 0)) ∧ (E.getD i (0, 0)) ∈ E := by
  obtain ⟨as, e, p⟩ := h
  have hx : E[i]? = some (E.getD i (0, 0)) := getD_some _ hi
  obtain ⟨a, h1, h2⟩ := paired_at p hx
  exact ⟨as, a, e, by rw [List.getElem?_map, h1]; rfl, h2, List.mem_of_getElem? hx⟩
end Sx
namespace Sx
open PySem PySem.Spec PyProof.Rows L2
def sp__law_stretch (_ : PySem.W.Frag) : Sp := fun vs H Q _ => ∃ (H0 : Hp) (b g : Addr), vs = [.ref b] ∧ Bs H0 H b g ∧ ∀ (lo hi : Int) (p : Addr) (H1 H' : Hp), IsNum lo → IsNum hi → lo ≤ hi → Same H0 H1 → H0 p = none → PairAt H1 p (lo, hi) → Bs H1 H' b g → Q (.ref p) H'
def sp__law_step (_ : PySem.W.Frag) : Sp := fun vs H Q _ => ∃ (H0 : Hp) (b g : Addr) (i : Nat), vs = [.ref b, .int (i : Nat)] ∧ Bs H0 H b g ∧ i < 1000 ∧ ∀ (s : Stp) (p : Addr) (H1 H' : Hp), StepOk i s → Same H0 H1 → H0 p = none → StepAt H1 p s → Bs H1 H' b g → Q (.ref p) H'
end Sx
namespace Sx
open PySem PySem.Spec PyProof.Rows L2
def sp__law_program (_ : PySem.W.Frag) : Sp := fun vs H Q _ => ∃ (H0 : Hp) (b g : Addr) (most : Int), vs = [.ref b, .int most] ∧ Bs H0 H b g ∧ 1 ≤ most ∧ most ≤ 30 ∧
  ∀ (ss : List Stp) (p : Addr) (H1 H' : Hp), IsProg ss → Same H0 H1 → H0 p = none → ProgAt H1 p ss → Bs H1 H' b g → Q (.ref p) H'
theorem tup_put {H : Hp} {p a : Addr} {xs ys : List V} {o : HO} (hp : H p = some (.lst xs)) (h : H a = some (.tup ys)) : (upd H p o) a = some (.tup ys) := by
  rw [upd_ne (ne_of h hp (fun z => nomatch z))]
  exact h
theorem hullsN_app {ss : List Stp} {s : Stp} : ∀ {i : Nat}, i ≤ ss.length → hullsN (ss ++ [s]) i = hullsN ss i
  | 0, _ => rfl
  | i + 1, h => by
    have e := hullsN_app (ss := ss) (s := s) (i := i) (by omega)
    show hullsN (ss ++ [s]) i ++ [hullS (hullsN (ss ++ [s]) i) ((ss ++ [s]).getD i default)] = hullsN ss i ++ [hullS (hullsN ss i) (ss.getD i default)]
    rw [e]
    have h2 : (ss ++ [s]).getD i default = ss.getD i default := by
      rw [List.getD_eq_getElem?_getD, List.getD_eq_getElem?_getD, List.getElem?_append_left (by omega)]
    rw [h2]
theorem hullsN_snoc {ss : List Stp} {s : Stp} : hullsN (ss ++ [s]) (ss.length + 1) = hullsN ss ss.length ++ [hullS (hullsN ss ss.length) s] := by
  show hullsN (ss ++ [s]) ss.length ++ [hullS (hullsN (ss ++ [s]) ss.length) ((ss ++ [s]).getD ss.length default)] = _
  rw [hullsN_app (Nat.le_refl _)]
  have h2 : (ss ++ [s]).getD ss.length default = s := by
    rw [List.getD_eq_getElem?_getD, List.getElem?_append_right (Nat.le_refl _), Nat.sub_self] <;> rfl
  rw [h2]
/-- what a program under way is -/
structure Part (ss : List Stp) : Prop where
  ok : ∀ i s, ss[i]? = some s → StepOk i s
  bnd : ∀ i, i ≤ ss.length → ∀ e ∈ hullsN ss i, Bnd e
theorem Part.nil : Part [] := by
  refine ⟨fun i s h => by simp at h, fun i h e he => ?_⟩
  obtain rfl : i = 0 := Nat.le_zero.mp h
  exact nomatch he
theorem Part.snoc {ss : List Stp} {s : Stp} (P : Part ss) (h : StepOk ss.length s) (hb : Bnd (hullS (hullsN ss ss.length) s)) : Part (ss ++ [s]) := by
  constructor
  · intro i x hx
    by_cases hi : i < ss.length
    · rw [List.getElem?_append_left hi] at hx
      exact P.ok i x hx
    · rw [List.getElem?_append_right (by omega)] at hx
      have e : i - ss.length = 0 := by
        have := (List.getElem?_eq_some_iff.mp hx).1
        rw [List.length_singleton] at this
        omega
      rw [e] at hx
      have e2 : i = ss.length := by omega
      rw [e2, ← Option.some.inj hx]
      exact h
  · intro i hi e he
    rw [List.length_append, List.length_singleton] at hi
    by_cases h2 : i ≤ ss.length
    · rw [hullsN_app h2] at he
      exact P.bnd i h2 e he
    · obtain rfl : i = ss.length + 1 := by omega
      rw [hullsN_snoc] at he
      rcases List.mem_append.mp he with h3 | h3
      · exact P.bnd _ (Nat.le_refl _) e h3
      · rw [List.mem_singleton.mp h3]
        exact hb
end Sx
namespace Sx
open PySem PySem.Spec PyProof.Rows L2
theorem same_put {H0 H : Hp} {p : Addr} {o : HO} (s : Same H0 H) (n : H0 p = none) : Same H0 (upd H p o) := by
  intro c x e
  rw [upd_ne (ne_of_none e n)]
  exact s c x e
end Sx
namespace Sx
open PySem PySem.Spec PyProof.Rows L2

/-! ### zip of a tuple and a list -/
def ItzTL (K : PySem.W.Frag) (a b : Addr) : It where
  go := fun i H => ∃ (xs ys : List V) (x y : V), SqT K H a xs ∧ SqL K H b ys ∧ xs[i]? = some x ∧ ys[i]? = some y
  yld := fun i H v H1 => ∃ T x y, v = .ref T ∧ H T = none ∧ H1 = upd H T (.tup [x, y]) ∧ (∀ xs, SqT K H a xs → xs[i]? = some x) ∧ (∀ ys, SqL K H b ys → ys[i]? = some y)
  stop := fun i H => ∃ n : Nat, i = n ∧ ∃ xs ys : List V, SqT K H a xs ∧ SqL K H b ys ∧ xs.length = n ∧ ys.length = n
abbrev cells2 (z TI TO i1 i2 : Addr) : List Addr := [z, TI, TO, i1, i2]
theorem in_cells2 {z TI TO i1 i2 b : Addr} (h : b ∈ cells2 z TI TO i1 i2) : b = z ∨ b = TI ∨ b = TO ∨ b = i1 ∨ b = i2 := by simpa using h
theorem turn_zipTL {P : Program} {w : World} {K : PySem.W.Frag} {elts : List Expr} {kk : Nat} {tpos : Pos} {a b z TI TO i1 i2 : Addr} (S : ZipSep2 z TI TO i1 i2 [i1, a] [i2, b]) (n1 : a ≠ i1) (n2 : b ≠ i2) :
    Turn P w K (.Tuple elts kk tpos) (ItzTL K a b) (cells2 z TI TO i1 i2) z
      (fun i h => IsZip h z TI TO .none ∧ IsTupOf2 h TI (.ref i1) (.ref i2) ∧ (∃ x y, IsTupOf2 h TO x y) ∧ h.IsTupleIter i1 a i ∧ h.IsListIter i2 b i) where
  mem := List.mem_cons_self
  obj := by
    rintro i h ⟨hz, hTI, ⟨x, y, hTO⟩, ⟨o1, e1, _, d1⟩, ⟨o2, e2, _, d2⟩⟩ b hb
    rcases in_cells2 hb with q | q | q | q | q <;> subst q
    · exact ⟨_, hz, fun v q => nomatch q⟩
    · exact ⟨_, hTI, fun v q => nomatch q⟩
    · exact ⟨_, hTO, fun v q => nomatch q⟩
    · exact ⟨o1, e1, fun v q => by rw [d1] at q; cases q⟩
    · exact ⟨o2, e2, fun v q => by rw [d2] at q; cases q⟩
  keep := by
    rintro i h h' ⟨hz, hTI, ⟨x, y, hTO⟩, h1, h2⟩ k
    exact ⟨k z (by simp) _ hz, k TI (by simp) _ hTI, ⟨x, y, k TO (by simp) _ hTO⟩, h1.at fun o q => k i1 (by simp) o q, h2.at fun o q => k i2 (by simp) o q⟩
  item := by
    intro X hP hw hK hc i pins s σ H E I hf st hg
    subst hP hw hK
    obtain ⟨hz, hTI, ⟨x0, y0, hTO⟩, h1, h2⟩ := st
    obtain ⟨xs, ys, x, y, qx, qy, hx, hy⟩ := hg
    obtain ⟨l1, r1, p1, _⟩ := I.tuple qx
    obtain ⟨l2, r2, p2, _⟩ := I.list qy
    obtain ⟨v1, e1, rv1⟩ := r1.get hx
    obtain ⟨v2, e2, rv2⟩ := r2.get hy
    have hh : X.A.in1.handled = none := I.ok.hd hc
    have g1 : l1.toArray[i]? = some v1 := by simpa using e1
    have g2 : l2.toArray[i]? = some v2 := by simpa using e2
    have t1 := (Array.getElem?_eq_some_iff.mp g1).1
    have t2 := (Array.getElem?_eq_some_iff.mp g2).1
    have hzl : z < s.heap.objs.size := Heap.lt_size hz
    refine wpAny_pyNext_zipD2_item S (Draws.tuple hh i1 a n1 l1.toArray) (Draws.list hh i2 b n2 l2.toArray) hz hTI hTO ⟨h1, p1⟩ ⟨h2, p2.isList⟩ t1 t2 fun w1 w2 h' tk y1 y2 b1 b2 d1 d2 hT hsz hk => ?_
    obtain rfl : w1 = v1 := Option.some.inj (y1.symm.trans g1)
    obtain rfl : w2 = v2 := Option.some.inj (y2.symm.trans g2)
    refine ⟨_, rfl, wpAny_letOwnedTupleGo_zip (s := { s with heap := h', toks := tk }) b1 fun h'' z'' sb => ?_⟩
    have hT2 : h''.get? s.heap.objs.size = some { cls := .type "tuple", data := .seq #[w1, w2] } := (sb.2 _ (Nat.ne_of_gt hzl)).trans hT
    have new : ObjOk X.prog X.w (upd H s.heap.objs.size (.tup [x, y])) h'' s.heap.objs.size (.tup [x, y]) :=
      ⟨(show 2 ≤ sizeLine by decide), [w1, w2], .cons rv1 (.cons rv2 .nil), ⟨_, hT2, rfl, _, rfl⟩⟩
    have I1 : Inv X pins σ (upd H s.heap.objs.size (.tup [x, y])) { s with heap := h'', toks := tk } :=
      I.turnedNew (ch := cells2 z TI TO i1 i2) (fun e o hb q => (sb.2 e (fun q' => hb (by simp [q']))).trans (hk e o (fun q' => hb (by simp [q'])) (fun q' => hb (by simp [q'])) (fun q' => hb (by simp [q'])) (fun q' => hb (by simp [q'])) q)) hf (Nat.le_refl _) new
    refine ⟨.ref s.heap.objs.size, _, I1, rfl, ⟨_, x, y, rfl, I.hok.fresh (Nat.le_refl _), rfl, fun l hl => by rw [I.tuple_inj hl qx]; exact hx, fun l hl => by rw [I.list_inj hl qy]; exact hy⟩, ⟨z'', ?_, ⟨w1, w2, ?_⟩, ?_, ?_⟩, fun e hcm => ?_⟩
    · exact (sb.2 _ S.TIz).trans (hk _ _ S.TIz S.TITO S.TIi1 S.TIi2 hTI)
    · exact (sb.2 _ S.TOz).trans b2
    · exact d1.1.at fun o q => (sb.2 _ (Ne.symm S.zi1)).trans q
    · exact d2.1.at fun o q => (sb.2 _ (Ne.symm S.zi2)).trans q
    · have hlt : e < s.heap.objs.size := by
        rcases in_cells2 hcm with q | q | q | q | q <;> subst q
        · exact hzl
        · exact Heap.lt_size hTI
        · exact Heap.lt_size hTO
        · obtain ⟨_, q, _⟩ := h1
          exact Heap.lt_size q
        · obtain ⟨_, q, _⟩ := h2
          exact Heap.lt_size q
      rw [upd_ne (Nat.ne_of_lt hlt)]
      exact (hf e hcm).1
  done := by
    intro X hP hw hK hc i pins s σ H E I hf st hg
    subst hP hw hK
    obtain ⟨hz, hTI, ⟨x0, y0, hTO⟩, h1, h2⟩ := st
    obtain ⟨n, rfl, xs, ys, qx, qy, e1, e2⟩ := hg
    obtain ⟨l1, r1, p1, _⟩ := I.tuple qx
    obtain ⟨l2, r2, p2, _⟩ := I.list qy
    have hh : X.A.in1.handled = none := I.ok.hd hc
    have f1 : i = l1.toArray.size := by rw [List.size_toArray, ← r1.length, e1]
    have f2 : i = l2.toArray.size := by rw [List.size_toArray, ← r2.length, e2]
    exact wpAny_pyNext_zipD2_end S (Draws.tuple hh i1 a n1 l1.toArray) (Draws.list hh i2 b n2 l2.toArray) hz hTI hTO ⟨h1, p1⟩ ⟨h2, p2.isList⟩ (Nat.le_of_eq f1) (Nat.le_of_eq f2) (.inl f1) fun h' tk hk =>
      ⟨rfl, I.turnedL (t' := tk) (ch := cells2 z TI TO i1 i2) (fun e o hb q => hk e o (fun q' => hb (by simp [q'])) (fun q' => hb (by simp [q'])) (fun q' => hb (by simp [q'])) (fun q' => hb (by simp [q'])) q) hf⟩
  self := fun A i s Q E st h => wpAny_pyIter_zip st.1 h
def iZipTL (K : PySem.W.Frag) (ta : TA) : TI := fun σ H R => ta σ H fun vs H1 => ∃ a b xs ys, vs = [.ref a, .ref b] ∧ SqT K H1 a xs ∧ SqL K H1 b ys ∧ R (ItzTL K a b) H1
theorem pi_zipTL {X : Cx} {e e2 : Expr} {ta : TA} {p pos tpos : Pos} {elts : List Expr} {kk : Nat} (hg : Gl X "zip") (hm : X.mg "zip" = none) (ha : PA X [e, e2] ta)
    (hs : starEach [e, e2] X.env = (false, eval e X.env) :: starEach [e2] X.env := by rfl) (hpl : (backTo pos (starEach [e2] X.env)).any (·.1) = false := by rfl) :
    PI X (.Tuple elts kk tpos) (.Call (.Name "zip" p) [e, e2] [] pos) (iZipTL X.K ta) := by
  refine ⟨fun pins s σ H R I h => Call_ (ld_blt I hg hm PyProof.Rows.boot_zip (PyProof.Rows.callWith_type1 (thn (ha.run pos pins s σ H _ I h) ?_) hs hpl))⟩
  rintro us s1 ⟨vs, H1, I1, r1, a, b, xs, ys, rfl, qx, qy, q⟩
  cases r1 with
  | cons ra r1 =>
    cases r1 with
    | cons rb r1 =>
      cases r1
      cases ra
      cases rb
      obtain ⟨l1, r1, p1, _⟩ := I1.tuple qx
      obtain ⟨l2, r2, p2, _⟩ := I1.list qy
      have lb : b < s1.heap.objs.size := by
        obtain ⟨o, ho, _⟩ := p2.isList
        exact Heap.lt_size ho
      refine zip_begins2 (begins_tuple a l1.toArray) (begins_list b l2.toArray) p1 p2.isList fun h' hz hTI hTO g1 g2 hsz hk => wpAny_pyIter_zip hz ?_
      have I2 : Inv X pins σ H1 { s1 with heap := h' } := I1.kept (t' := s1.toks) hk
      have lo : ∀ {t : Addr}, t < s1.heap.objs.size → ∀ b ∈ [t], b < s1.heap.objs.size := fun h b hb => by
        rw [List.mem_singleton.mp hb]
        exact h
      refine ⟨s1.heap.objs.size + 4, cells2 (s1.heap.objs.size + 4) (s1.heap.objs.size + 2) (s1.heap.objs.size + 3) s1.heap.objs.size (s1.heap.objs.size + 1), _, _, H1, rfl, I2,
        turn_zipTL (zip_sep2 (lo p1.lt) (lo lb)) (Nat.ne_of_lt p1.lt) (Nat.ne_of_lt (Nat.lt_succ_of_lt lb)), ⟨hz, hTI, ⟨_, _, hTO⟩, ⟨_, g1, rfl, rfl⟩, ⟨_, g2, rfl, rfl⟩⟩, fun e he => ?_, q⟩
      have hle : s1.heap.objs.size ≤ e := by
        rcases in_cells2 he with q | q | q | q | q <;> rw [q]
        all_goals first | exact Nat.le_refl _ | exact Nat.le_add_right _ _
      exact I1.fpOk hle (I1.hok.fresh hle)
theorem walk_zipTL {K : PySem.W.Frag} {a b : Addr} {xs ys : List V} {n : Nat} (h1 : xs.length = n) (h2 : ys.length = n) : Walk (ItzTL K a b) n (fun H => SqT K H a xs ∧ SqL K H b ys)
    (fun i H v H1 => ∃ T x y, v = .ref T ∧ H T = none ∧ H1 = upd H T (.tup [x, y]) ∧ xs[i]? = some x ∧ ys[i]? = some y) := by
  refine ⟨fun i H hi q => ⟨xs, ys, xs[i], ys[i], q.1, q.2, List.getElem?_eq_getElem (by omega), List.getElem?_eq_getElem (by omega)⟩, fun H q => ⟨n, rfl, xs, ys, q.1, q.2, h1, h2⟩, ?_⟩
  rintro i H v H1 _ q ⟨T, x, y, e1, e2, e3, e4, e5⟩
  exact ⟨T, x, y, e1, e2, e3, e4 xs q.1, e5 ys q.2⟩

/-! ### what a program comes to -/
def isIn : Stp → Bool
  | .inn _ _ => true
  | _ => false
/-- how many inputs stand ahead of the place i -/
def cnt (ss : List Stp) (i : Nat) : Nat := (ss.take i).countP isIn
def givOf (ss : List Stp) (ins : List Int) (i : Nat) : Option Int := match ss.getD i default with
  | .inn _ _ => some (ins.getD (cnt ss i) 0)
  | .num c => some c
  | .op _ _ _ => none
def giv (ss : List Stp) (ins : List Int) : List (Option Int) := (List.range ss.length).map (givOf ss ins)
def valOf (acc : List Int) (o : Option Int) (s : Stp) : Int := match o, s with
  | some x, _ => x
  | none, .op k i j => op3 k (acc.getD i 0) (acc.getD j 0)
  | none, _ => 0
def valsN (ss : List Stp) (ins : List Int) : Nat → List Int
  | 0 => []
  | i + 1 => valsN ss ins i ++ [valOf (valsN ss ins i) (givOf ss ins i) (ss.getD i default)]
abbrev vals (ss : List Stp) (ins : List Int) : List Int := valsN ss ins ss.length
theorem valsN_len (ss : List Stp) (ins : List Int) : ∀ i, (valsN ss ins i).length = i
  | 0 => rfl
  | i + 1 => by
    show (valsN ss ins i ++ [_]).length = i + 1
    rw [List.length_append, valsN_len ss ins i] <;> rfl
theorem cnt_succ {ss : List Stp} {i : Nat} (h : i < ss.length) : cnt ss (i + 1) = cnt ss i + (if isIn (ss.getD i default) then 1 else 0) := by
  unfold cnt
  rw [List.take_add_one, getD_some default h, List.countP_append]
  show _ + List.countP isIn [ss.getD i default] = _
  rw [List.countP_cons, List.countP_nil, Nat.zero_add]
/-- fitting inputs -/
structure InpOk (ss : List Stp) (ins : List Int) : Prop where
  len : ins.length = cnt ss ss.length
  fit : ∀ i lo hi, ss[i]? = some (.inn lo hi) → lo ≤ ins.getD (cnt ss i) 0 ∧ ins.getD (cnt ss i) 0 ≤ hi
theorem cnt_mono {ss : List Stp} : ∀ {i j : Nat}, i ≤ j → j ≤ ss.length → cnt ss i ≤ cnt ss j
  | i, 0, h, _ => by
    obtain rfl : i = 0 := Nat.le_zero.mp h
    exact Nat.le_refl _
  | i, j + 1, h, hj => by
    by_cases e : i = j + 1
    · rw [e]
      exact Nat.le_refl _
    · rw [cnt_succ (by omega)]
      exact Nat.le_trans (cnt_mono (show i ≤ j by omega) (by omega)) (Nat.le_add_right _ _)
theorem cnt_lt {ss : List Stp} {ins : List Int} (I : InpOk ss ins) {i : Nat} (h : i < ss.length) (hi : isIn (ss.getD i default) = true) : cnt ss i < ins.length := by
  rw [I.len]
  have e := cnt_succ h
  rw [hi] at e
  have m := cnt_mono (ss := ss) (show i + 1 ≤ ss.length from h) (Nat.le_refl _)
  rw [e] at m
  exact m
theorem getD_append_left {α : Type} {xs ys : List α} {i : Nat} (d : α) (h : i < xs.length) : (xs ++ ys).getD i d = xs.getD i d := by
  rw [List.getD_eq_getElem?_getD, List.getD_eq_getElem?_getD, List.getElem?_append_left h]
theorem getD_append_last {α : Type} {xs : List α} {x : α} (d : α) : (xs ++ [x]).getD xs.length d = x := by
  rw [List.getD_eq_getElem?_getD, List.getElem?_append_right (Nat.le_refl _), Nat.sub_self] <;> rfl
/-! ### values lie in hulls -/
theorem mul_between {a b x y : Int} (h1 : a ≤ x) (h2 : x ≤ b) : (a * y ≤ x * y ∧ x * y ≤ b * y) ∨ (b * y ≤ x * y ∧ x * y ≤ a * y) := by
  by_cases h : 0 ≤ y
  · exact .inl ⟨Int.mul_le_mul_of_nonneg_right h1 h, Int.mul_le_mul_of_nonneg_right h2 h⟩
  · exact .inr ⟨Int.mul_le_mul_of_nonpos_right h2 (by omega), Int.mul_le_mul_of_nonpos_right h1 (by omega)⟩
theorem mul_hull {a b c d x y : Int} (h1 : a ≤ x) (h2 : x ≤ b) (h3 : c ≤ y) (h4 : y ≤ d) : min4 (a * c) (a * d) (b * c) (b * d) ≤ x * y ∧ x * y ≤ max4 (a * c) (a * d) (b * c) (b * d) := by
  have k1 := mul_between (y := y) h1 h2
  have k2 : (c * a ≤ y * a ∧ y * a ≤ d * a) ∨ (d * a ≤ y * a ∧ y * a ≤ c * a) := mul_between h3 h4
  have k3 : (c * b ≤ y * b ∧ y * b ≤ d * b) ∨ (d * b ≤ y * b ∧ y * b ≤ c * b) := mul_between h3 h4
  rw [Int.mul_comm c a, Int.mul_comm y a, Int.mul_comm d a] at k2
  rw [Int.mul_comm c b, Int.mul_comm y b, Int.mul_comm d b] at k3
  unfold min4 max4
  omega
def InHull (e : Int × Int) (x : Int) : Prop := e.1 ≤ x ∧ x ≤ e.2
theorem hullOp_in {k : Nat} {e f : Int × Int} {x y : Int} (h1 : InHull e x) (h2 : InHull f y) : InHull (hullOp k e f) (op3 k x y) := by
  obtain ⟨a1, a2⟩ := h1
  obtain ⟨b1, b2⟩ := h2
  match k with
  | 0 => exact ⟨by show e.1 + f.1 ≤ x + y; omega, by show x + y ≤ e.2 + f.2; omega⟩
  | 1 => exact ⟨by show e.1 - f.2 ≤ x - y; omega, by show x - y ≤ e.2 - f.1; omega⟩
  | _ + 2 => exact mul_hull a1 a2 b1 b2
theorem vals_in {ss : List Stp} {ins : List Int} (P : IsProg ss) (I : InpOk ss ins) : ∀ i, i ≤ ss.length → ∀ j, j < i → InHull ((hullsN ss i).getD j (0, 0)) ((valsN ss ins i).getD j 0)
  | 0, _, _, h => absurd h (Nat.not_lt_zero _)
  | i + 1, hi, j, hj => by
    have ih := vals_in P I i (by omega)
    have l1 := hullsN_len ss i
    have l2 := valsN_len ss ins i
    show InHull ((hullsN ss i ++ [hullS (hullsN ss i) (ss.getD i default)]).getD j (0, 0)) ((valsN ss ins i ++ [valOf (valsN ss ins i) (givOf ss ins i) (ss.getD i default)]).getD j 0)
    by_cases h : j < i
    · rw [getD_append_left _ (by omega), getD_append_left _ (by omega)]
      exact ih j h
    · obtain rfl : j = i := by omega
      have e1 := getD_append_last (xs := hullsN ss j) (x := hullS (hullsN ss j) (ss.getD j default)) (0, 0)
      have e2 := getD_append_last (xs := valsN ss ins j) (x := valOf (valsN ss ins j) (givOf ss ins j) (ss.getD j default)) 0
      rw [l1] at e1
      rw [l2] at e2
      rw [e1, e2]
      have hs := getD_some (default : Stp) (show j < ss.length by omega)
      have ok := P.ok j _ hs
      unfold givOf
      generalize ss.getD j default = s at hs ok
      cases s with
      | inn lo hi' => exact I.fit j lo hi' hs
      | num c => exact ⟨Int.le_refl _, Int.le_refl _⟩
      | op k a b => exact hullOp_in (ih a ok.2.1) (ih b ok.2.2)
theorem in_bnd {e : Int × Int} {x : Int} (h : InHull e x) (b : Bnd e) : x.natAbs ≤ 10 ^ 120 := by
  obtain ⟨h1, h2⟩ := h
  obtain ⟨b1, b2⟩ := b
  omega
theorem vals_bnd {ss : List Stp} {ins : List Int} (P : IsProg ss) (I : InpOk ss ins) {i j : Nat} (hi : i ≤ ss.length) (hj : j < i) : ((valsN ss ins i).getD j 0).natAbs ≤ 10 ^ 120 :=
  in_bnd (vals_in P I i hi j hj) (P.bnd i hi _ (List.mem_of_getElem? (getD_some (0, 0) (by rw [hullsN_len]; exact hj))))
theorem mem_getD {α : Type} {xs : List α} {x : α} (d : α) (h : x ∈ xs) : ∃ i, i < xs.length ∧ xs.getD i d = x := by
  obtain ⟨i, hi, e⟩ := List.mem_iff_getElem.mp h
  exact ⟨i, hi, by rw [List.getD_eq_getElem?_getD, List.getElem?_eq_getElem hi]; exact e⟩
theorem vals_bndAll {ss : List Stp} {ins : List Int} (P : IsProg ss) (I : InpOk ss ins) : ∀ x ∈ vals ss ins, x.natAbs ≤ 10 ^ 120 := by
  intro x hx
  obtain ⟨i, hi, rfl⟩ := mem_getD 0 hx
  rw [valsN_len] at hi
  exact vals_bnd P I (Nat.le_refl _) hi

/-! ### the promises -/
def sp_given_integers (K : PySem.W.Frag) : Sp := fun vs H Q _ => ∃ (t p : Addr) (ss : List Stp) (ins : List Int), vs = [.ref t, .ref p] ∧ ProgAt H t ss ∧ SqT K H p (ins.map V.int) ∧ IsProg ss ∧ InpOk ss ins ∧
  ∀ (l : Addr) (H' : Hp), Same H H' → H l = none → H' l = some (.lst ((giv ss ins).map vO)) → Q (.ref l) H'
def sp_reckoned (K : PySem.W.Frag) : Sp := fun vs H Q _ => ∃ (p l : Addr) (k i j : Nat) (acc : List Int), vs = [.ref p, .ref l] ∧ StepAt H p (.op k i j) ∧ SqL K H l (acc.map V.int) ∧ k ≤ 2 ∧ i < acc.length ∧ j < acc.length ∧ (∀ x ∈ acc, x.natAbs ≤ 10 ^ 120) ∧
  Q (.int (op3 k (acc.getD i 0) (acc.getD j 0))) H
def sp_run (K : PySem.W.Frag) : Sp := fun vs H Q _ => ∃ (t p : Addr) (ss : List Stp) (ins : List Int), vs = [.ref t, .ref p] ∧ ProgAt H t ss ∧ SqT K H p (ins.map V.int) ∧ IsProg ss ∧ InpOk ss ins ∧
  ∀ (l : Addr) (H' : Hp), Same H H' → H l = none → H' l = some (.tup ((vals ss ins).map V.int)) → Q (.ref l) H'
def sp_result (K : PySem.W.Frag) : Sp := fun vs H Q _ => ∃ (t p : Addr) (ss : List Stp) (ins : List Int), vs = [.ref t, .ref p] ∧ ProgAt H t ss ∧ SqT K H p (ins.map V.int) ∧ IsProg ss ∧ InpOk ss ins ∧
  ∀ (H' : Hp), Same H H' → Q (.int ((vals ss ins).getD (ss.length - 1) 0)) H'
def sp_hulls (K : PySem.W.Frag) : Sp := fun vs H Q _ => ∃ (t : Addr) (ss : List Stp), vs = [.ref t] ∧ ProgAt H t ss ∧ IsProg ss ∧
  ∀ (l : Addr) (H' : Hp), Same H H' → H l = none → HltAt H' l (hullsN ss ss.length) → Q (.ref l) H'
def sp__law_values (K : PySem.W.Frag) : Sp := fun vs H Q _ => ∃ (t p : Addr) (ss : List Stp) (ins : List Int), vs = [.ref t, .ref p] ∧ ProgAt H t ss ∧ SqT K H p (ins.map V.int) ∧ IsProg ss ∧ InpOk ss ins ∧
  ∀ (l : Addr) (H' : Hp), Same H H' → H l = none → H' l = some (.lst ((vals ss ins).map V.int)) → Q (.ref l) H'
def sp__law_inputs (_ : PySem.W.Frag) : Sp := fun vs H Q _ => ∃ (H0 : Hp) (b g t : Addr) (ss : List Stp), vs = [.ref b, .ref t] ∧ Bs H0 H b g ∧ ProgAt H0 t ss ∧ IsProg ss ∧
  ∀ (ins : List Int) (p : Addr) (H1 H' : Hp), InpOk ss ins → Same H0 H1 → H0 p = none → H1 p = some (.tup (ins.map V.int)) → Bs H1 H' b g → Q (.ref p) H'
end Sx
namespace Sx
open PySem PySem.Spec PyProof.Rows L2
def sw : Stp → Str
  | .inn _ _ => "in"
  | .num _ => "is"
  | .op k _ _ => opw k
theorem sw_at (s : Stp) : atI (stepV s) 0 = some (.str (sw s)) := by cases s <;> exact atI_nat (j := 0) rfl
def isNumS : Stp → Bool
  | .num _ => true
  | _ => false
theorem opw_in {k : Nat} (h : k ≤ 2) : decide (V.str (opw k) = V.str "in") = false ∧ decide (V.str (opw k) = V.str "is") = false := by
  match k, h with
  | 0, _ => exact ⟨wne (by decide +kernel), wne (by decide +kernel)⟩
  | 1, _ => exact ⟨wne (by decide +kernel), wne (by decide +kernel)⟩
  | 2, _ => exact ⟨wne (by decide +kernel), wne (by decide +kernel)⟩
theorem sw_in {n : Nat} {s : Stp} (h : StepOk n s) : decide (V.str (sw s) = V.str "in") = isIn s := by
  cases s with
  | inn lo hi => exact decide_eq_true rfl
  | num c => exact wne (a := "is") (b := "in") (by decide +kernel)
  | op k i j => exact (opw_in h.1).1
theorem sw_is {n : Nat} {s : Stp} (h : StepOk n s) (hi : isIn s = false) : decide (V.str (sw s) = V.str "is") = isNumS s := by
  cases s with
  | inn lo hi => exact nomatch hi
  | num c => exact decide_eq_true rfl
  | op k i j => exact (opw_in h.1).2
theorem giv_len (ss : List Stp) (ins : List Int) : (giv ss ins).length = ss.length := by
  unfold giv
  rw [List.length_map, List.length_range]
theorem giv_at {ss : List Stp} {ins : List Int} {i : Nat} (h : i < ss.length) : (giv ss ins)[i]? = some (givOf ss ins i) := by
  unfold giv
  rw [List.getElem?_map, List.getElem?_range h] <;> rfl
theorem giv_take {ss : List Stp} {ins : List Int} {i : Nat} (h : i < ss.length) : (giv ss ins).take (i + 1) = (giv ss ins).take i ++ [givOf ss ins i] := by
  rw [List.take_add_one, giv_at h] <;> rfl
theorem stps_at {R : Addr → Stp → Prop} {as : List Addr} {ss : List Stp} {i : Nat} {x : V} (p : Paired R as ss) (h : (as.map V.ref)[i]? = some x) : i < ss.length ∧ ∃ a, x = .ref a ∧ ss[i]? = some (ss.getD i default) ∧ R a (ss.getD i default) := by
  have hi : i < ss.length := by
    have := (List.getElem?_eq_some_iff.mp h).1
    rw [List.length_map, paired_len p] at this
    exact this
  have hs := getD_some (default : Stp) hi
  obtain ⟨a, h1, h2⟩ := paired_at p hs
  rw [List.getElem?_map, h1] at h
  exact ⟨hi, a, (Option.some.inj h).symm, hs, h2⟩
theorem prs_at {as : List Addr} {E : List (Int × Int)} {R : Addr → Int × Int → Prop} {i : Nat} {x : V} (p : Paired R as E) (h : (as.map V.ref)[i]? = some x) : i < E.length ∧ ∃ a, x = .ref a ∧ R a (E.getD i (0, 0)) := by
  have hi : i < E.length := by
    have := (List.getElem?_eq_some_iff.mp h).1
    rw [List.length_map, paired_len p] at this
    exact this
  obtain ⟨a, h1, h2⟩ := paired_at p (getD_some (0, 0) hi)
  rw [List.getElem?_map, h1] at h
  exact ⟨hi, a, (Option.some.inj h).symm, h2⟩
/-- a new list, appended to -/
theorem lst_put {H H1 : Hp} {l : Addr} {o : HO} (s : Same H H1) (n : H l = none) : Same H (upd H1 l o) := same_put s n
end Sx

namespace Sx
open PySem PySem.Spec PyProof.Rows L2
theorem vals_last {ss : List Stp} {ins : List Int} (h : 1 ≤ ss.length) : atI ((vals ss ins).map V.int) (-1) = some (.int ((vals ss ins).getD (ss.length - 1) 0)) := by
  obtain ⟨k, hk⟩ : ∃ k, ss.length = k + 1 := ⟨ss.length - 1, by omega⟩
  have e : vals ss ins = valsN ss ins k ++ [valOf (valsN ss ins k) (givOf ss ins k) (ss.getD k default)] := by
    unfold vals
    rw [hk] <;> rfl
  have e2 := getD_append_last (xs := valsN ss ins k) (x := valOf (valsN ss ins k) (givOf ss ins k) (ss.getD k default)) 0
  rw [valsN_len] at e2
  rw [hk, Nat.add_sub_cancel, e, e2, List.map_append]
  exact atI_last _ _
end Sx

namespace Sx
open PySem PySem.Spec PyProof.Rows L2
def opKv (x y : Int) : List (Key × V) := [(Sum.inr "sum", .int (x + y)), (Sum.inr "less", .int (x - y)), (Sum.inr "times", .int (x * y))]
theorem opKv_at {k : Nat} (h : k ≤ 2) (x y : Int) : valV (opKv x y) (Sum.inr (opw k) : Key) = some (.int (op3 k x y)) := by
  match k, h with
  | 0, _ => rfl
  | 1, _ => rfl
  | 2, _ => rfl
theorem opKv_merge (x y : Int) : mergeK [] (opKv x y) = opKv x y := rfl
end Sx
namespace Sx
open PySem PySem.Spec PyProof.Rows L2

/-! ### rows of tuples of ints -/
abbrev TupAt (K : PySem.W.Frag) (H : Hp) (a : Addr) (ns : List Int) : Prop := SqT K H a (ns.map V.int)
theorem SqT.put {K : PySem.W.Frag} {H : Hp} {p a : Addr} {xs ys : List V} {o : HO} (hp : H p = some (.lst xs)) (h : SqT K H a ys) : SqT K (upd H p o) a ys := by
  rcases h with (h | ⟨ob, h⟩) | h
  · exact .inl (.inl (by rw [upd_ne (ne_of h hp (fun z => nomatch z))]; exact h))
  · exact .inl (.inr ⟨ob, by rw [upd_ne (ne_of h hp (fun z => nomatch z))]; exact h⟩)
  · exact .inr h
/-- comprehensions whose items are new tuples -/
theorem lc_tups {K : PySem.W.Frag} {β : Type} {J : It} {n : Nat} {zs : List β} {G : Hp → Prop} {Y : Nat → Hp → V → Hp → Prop} (w : Walk J n G Y) (hzn : zs.length = n) {g : TG} {te : TE} {vs : List Nat} {σ : L2.St} {H1 : Hp} {D : Addr} {Qd : Hp → Prop} (v : β → List Int) (hn : zs.length ≤ 100000)
    (hD : H1 D = none) (hG : ∀ H, Same H1 H → G H)
    (hs : ∀ i z x H H2, zs[i]? = some z → Same H1 H → Y i H x H2 → Same H H2 ∧ ∃ σ2, (∀ Q : L2.St → Hp → Prop, Q σ2 H2 → g x (wipe σ vs) H2 Q) ∧ wipe σ2 vs = wipe σ vs ∧
      (∀ Q : VK, Same H1 H2 → (∀ a H4, Same H2 H4 → TupAt K H4 a (v z) → Q (.ref a) H4) → te σ2 H2 Q))
    (hd : ∀ (H : Hp) (as : List Addr), Same H1 H → H D = some (.lst (as.map V.ref)) → Paired (TupAt K H) as (zs.map v) → Qd H) :
    ∃ W : Nat → Nat → Hp → Prop, (∃ m, W 0 m (upd H1 D (.lst []))) ∧ ∀ i m H, W i m H →
      (J.stop i H ∧ Qd H) ∨ (J.go i H ∧ ∃ Nx : Hp → Prop, (∀ H', Nx H' → ∃ m', m' < m ∧ W (i + 1) m' H') ∧ ∀ x H', J.yld i H x H' → g x (wipe σ vs) H' fun σ2 H2 => wipe σ2 vs = wipe σ vs ∧ tYes σ2 H2 fun b H3 =>
        if b = true then te σ2 H3 fun y H4 => ∃ acc, H4 D = some (.lst acc) ∧ acc.length < sizeLine ∧ Nx (upd H4 D (.lst (acc ++ [y]))) else Nx H3) := by
  subst hzn
  refine lc_it w (fun i H => Same H1 H ∧ ∃ as : List Addr, H D = some (.lst (as.map V.ref)) ∧ Paired (TupAt K H) as ((zs.take i).map v)) ⟨same_new hD, [], upd_same, .nil⟩ (fun i H _ p => hG H p.1) ?_ ?_
  · rintro i x H H2 hi ⟨s1, as, e1, p1⟩ y
    have hz : zs[i]? = some zs[i] := List.getElem?_eq_getElem hi
    obtain ⟨s2, σ2, h1, h2, h3⟩ := hs i zs[i] x H H2 hz s1 y
    have tk : zs.take (i + 1) = zs.take i ++ [zs[i]] := by
      rw [List.take_add_one, hz] <;> rfl
    refine h1 _ ⟨h2, ?_⟩
    unfold tYes
    refine iteT (h3 _ (s1.trans s2) fun a H4 s4 ha => ?_)
    have e4 : H4 D = some (.lst (as.map V.ref)) := s4 _ _ (s2 _ _ e1)
    refine ⟨_, e4, ?_, ?_, as ++ [a], ?_, ?_⟩
    · rw [List.length_map, paired_len p1, List.length_map, List.length_take]
      exact Nat.lt_of_lt_of_le (show _ < 100000 by omega) (by decide)
    · exact same_put ((s1.trans s2).trans s4) hD
    · rw [upd_same, List.map_append] <;> rfl
    · rw [tk, List.map_append]
      exact paired_snoc (paired_same (R := fun H a ns => TupAt K H a ns) (fun b c r => SqT.put e4 (Sx.Same.tup (s2.trans s4) r)) p1) (SqT.put e4 ha)
  · rintro H ⟨s1, as, e1, p1⟩
    rw [List.take_length] at p1
    exact hd H as s1 e1 p1
theorem paired_app {β : Type} {R : Addr → β → Prop} : ∀ {as bs : List Addr} {xs ys : List β}, Paired R as xs → Paired R bs ys → Paired R (as ++ bs) (xs ++ ys)
  | _, _, _, _, .nil, h => h
  | _, _, _, _, .cons r t, h => .cons r (paired_app t h)

/-! ### all inputs of a small program -/
def rg (lo hi : Int) : List Int := (List.range (hi + 1 - lo).toNat).map fun i => lo + (i : Nat)
theorem mem_rg {lo hi z : Int} : z ∈ rg lo hi ↔ lo ≤ z ∧ z ≤ hi := by
  unfold rg
  rw [List.mem_map]
  constructor
  · rintro ⟨i, hi', rfl⟩
    have := List.mem_range.mp hi'
    omega
  · rintro ⟨h1, h2⟩
    exact ⟨(z - lo).toNat, List.mem_range.mpr (by omega), by omega⟩
theorem rg_len (lo hi : Int) : (rg lo hi).length = (hi + 1 - lo).toNat := by
  unfold rg
  rw [List.length_map, List.length_range]
theorem rgV_rg (lo hi : Int) : rgV lo (hi + 1) = (rg lo hi).map V.int := by
  unfold rgV rg
  rw [List.map_map] <;> rfl
def grow (L : List (List Int)) (zs : List Int) : List (List Int) := zs.flatMap fun z => L.map (· ++ [z])
theorem grow_len (L : List (List Int)) : ∀ zs : List Int, (grow L zs).length = zs.length * L.length
  | [] => by simp [grow]
  | z :: zs => by
    have e := grow_len L zs
    unfold grow at e ⊢
    rw [List.flatMap_cons, List.length_append, e, List.length_map, List.length_cons, Nat.succ_mul, Nat.add_comm]
theorem grow_snoc (L : List (List Int)) (zs : List Int) (z : Int) : grow L (zs ++ [z]) = grow L zs ++ L.map (· ++ [z]) := by
  unfold grow
  rw [List.flatMap_append]
  simp
def allStep (L : List (List Int)) : Stp → List (List Int)
  | .inn lo hi => grow L (rg lo hi)
  | _ => L
def numsOf : Stp → List Int
  | .inn lo hi => rg lo hi
  | _ => []
def allN (ss : List Stp) : Nat → List (List Int)
  | 0 => [[]]
  | i + 1 => allStep (allN ss i) (ss.getD i default)
theorem allN_item : ∀ {ss : List Stp} (i : Nat), ∀ ns ∈ allN ss i, ns.length ≤ i
  | ss, 0, ns, h => by
    rw [List.mem_singleton.mp (show ns ∈ [[]] from h)]
    exact Nat.le_refl _
  | ss, i + 1, ns, h => by
    have h : ns ∈ allStep (allN ss i) (ss.getD i default) := h
    generalize ss.getD i default = s at h
    cases s with
    | inn lo hi =>
      obtain ⟨z, _, h2⟩ := List.mem_flatMap.mp (show ns ∈ (rg lo hi).flatMap fun z => (allN ss i).map (· ++ [z]) from h)
      obtain ⟨l, hl, rfl⟩ := List.mem_map.mp h2
      have := allN_item i l hl
      rw [List.length_append, List.length_singleton]
      omega
    | num c =>
      have := allN_item i ns h
      omega
    | op k a b =>
      have := allN_item i ns h
      omega
structure Tiny (ss : List Stp) : Prop where
  most : ss.length ≤ 3
  ok : ∀ (i : Nat) (s : Stp), ss[i]? = some s → StepOk i s
  near : ∀ (i : Nat) (lo hi : Int), ss[i]? = some (Stp.inn lo hi) → -100 ≤ lo ∧ lo ≤ hi ∧ hi < lo + 5 ∧ lo ≤ 100
theorem allN_len {ss : List Stp} (T : Tiny ss) : ∀ i, i ≤ ss.length → (allN ss i).length ≤ 5 ^ i
  | 0, _ => Nat.le_refl _
  | i + 1, h => by
    have ih := allN_len T i (by omega)
    have hs := getD_some (default : Stp) (show i < ss.length by omega)
    have n := T.near i
    show (allStep (allN ss i) (ss.getD i default)).length ≤ 5 ^ (i + 1)
    have h5 : 5 ^ (i + 1) = 5 ^ i * 5 := Nat.pow_succ 5 i
    generalize ss.getD i default = s at *
    cases s with
    | inn lo hi =>
      obtain ⟨n1, n2, n3, n4⟩ := n lo hi hs
      show (grow _ _).length ≤ _
      rw [grow_len, rg_len, h5, Nat.mul_comm]
      exact Nat.mul_le_mul ih (by omega)
    | num c =>
      show (allN ss i).length ≤ _
      omega
    | op k a b =>
      show (allN ss i).length ≤ _
      omega
theorem allN_small {ss : List Stp} (T : Tiny ss) {i : Nat} (h : i ≤ ss.length) : (allN ss i).length ≤ 125 := by
  have h1 := allN_len T i h
  have h2 : 5 ^ i ≤ 5 ^ 3 := Nat.pow_le_pow_right (by decide) (Nat.le_trans h T.most)
  omega
def sp__law_all_inputs (K : PySem.W.Frag) : Sp := fun vs H Q _ => ∃ (t : Addr) (ss : List Stp), vs = [.ref t] ∧ ProgAt H t ss ∧ Tiny ss ∧
  ∀ (l : Addr) (H' : Hp) (as : List Addr), Same H H' → H l = none → H' l = some (.lst (as.map V.ref)) → Paired (TupAt K H') as (allN ss ss.length) → Q (.ref l) H'
def sp__law_is_filled (_ : PySem.W.Frag) : Sp := fun vs H Q _ => ∃ (H0 : Hp) (b g : Addr), vs = [.ref b] ∧ Bs H0 H b g ∧ ∀ H' : Hp, Bs H0 H' b g → Q (.bl true) H'

/-! ### a program of two inputs and one op -/
/-- its two places -/
def tri (a b c d : Int) (k : Nat) (sw : Bool) : List Stp := [.inn a b, .inn c d, if sw then .op k 1 0 else .op k 0 1]
def hullTri (a b c d : Int) (k : Nat) (sw : Bool) : Int × Int := if sw then hullOp k (c, d) (a, b) else hullOp k (a, b) (c, d)
def valTri (k : Nat) (sw : Bool) (x y : Int) : Int := if sw then op3 k y x else op3 k x y
theorem hulls_tri (a b c d : Int) (k : Nat) (sw : Bool) : hullsN (tri a b c d k sw) 3 = [(a, b), (c, d), hullTri a b c d k sw] := by cases sw <;> rfl
theorem vals_tri (a b c d : Int) (k : Nat) (sw : Bool) (x y : Int) : vals (tri a b c d k sw) [x, y] = [x, y, valTri k sw x y] := by cases sw <;> rfl
theorem all_tri (a b c d : Int) (k : Nat) (sw : Bool) (ins : List Int) : ins ∈ allN (tri a b c d k sw) 3 ↔ ∃ x y, ins = [x, y] ∧ a ≤ x ∧ x ≤ b ∧ c ≤ y ∧ y ≤ d := by
  have e : allN (tri a b c d k sw) 3 = grow (grow [[]] (rg a b)) (rg c d) := by cases sw <;> rfl
  rw [e]
  unfold grow
  simp only [List.mem_flatMap, List.mem_map, mem_rg, List.mem_singleton]
  constructor
  · rintro ⟨y, hy, l, ⟨x, hx, l2, rfl, rfl⟩, rfl⟩
    exact ⟨x, y, rfl, hx.1, hx.2, hy.1, hy.2⟩
  · rintro ⟨x, y, rfl, h1, h2, h3, h4⟩
    exact ⟨y, ⟨h3, h4⟩, [x], ⟨x, ⟨h1, h2⟩, [], rfl, rfl⟩, rfl⟩
theorem mul_abs {x y : Int} (hx : x.natAbs ≤ 100) (hy : y.natAbs ≤ 100) : (x * y).natAbs ≤ 10000 := by
  rw [Int.natAbs_mul]
  exact Nat.mul_le_mul hx hy
theorem hullOp_small {k : Nat} {e f : Int × Int} (h1 : e.1.natAbs ≤ 100) (h2 : e.2.natAbs ≤ 100) (h3 : f.1.natAbs ≤ 100) (h4 : f.2.natAbs ≤ 100) : (hullOp k e f).1.natAbs ≤ 10000 ∧ (hullOp k e f).2.natAbs ≤ 10000 := by
  match k with
  | 0 => exact ⟨by show (e.1 + f.1).natAbs ≤ _; omega, by show (e.2 + f.2).natAbs ≤ _; omega⟩
  | 1 => exact ⟨by show (e.1 - f.2).natAbs ≤ _; omega, by show (e.2 - f.1).natAbs ≤ _; omega⟩
  | k + 2 =>
    have m1 := mul_abs h1 h3
    have m2 := mul_abs h1 h4
    have m3 := mul_abs h2 h3
    have m4 := mul_abs h2 h4
    constructor
    · show (min4 _ _ _ _).natAbs ≤ _
      unfold min4
      omega
    · show (max4 _ _ _ _).natAbs ≤ _
      unfold max4
      omega
structure TriOk (a b c d : Int) (k : Nat) : Prop where
  ab : a ≤ b
  b5 : b < a + 5
  cd : c ≤ d
  d5 : d < c + 5
  al : -50 ≤ a
  ah : a ≤ 50
  cl : -50 ≤ c
  ch : c ≤ 50
  k2 : k ≤ 2
theorem tri_ok {a b c d : Int} {k : Nat} (T : TriOk a b c d k) (sw : Bool) : ∀ i s, (tri a b c d k sw)[i]? = some s → StepOk i s := by
  have t1 := T.ab
  have t2 := T.b5
  have t3 := T.cd
  have t4 := T.d5
  have t5 := T.al
  have t6 := T.ah
  have t7 := T.cl
  have t8 := T.ch
  intro i s h
  match i with
  | 0 =>
    cases h
    exact ⟨⟨by omega, by omega⟩, ⟨by omega, by omega⟩, t1⟩
  | 1 =>
    cases h
    exact ⟨⟨by omega, by omega⟩, ⟨by omega, by omega⟩, t3⟩
  | 2 =>
    cases sw with
    | true =>
      cases h
      exact ⟨T.k2, by decide, by decide⟩
    | false =>
      cases h
      exact ⟨T.k2, by decide, by decide⟩
  | i + 3 => simp [tri] at h
theorem tri_tiny {a b c d : Int} {k : Nat} (T : TriOk a b c d k) (sw : Bool) : Tiny (tri a b c d k sw) := by
  refine ⟨Nat.le_refl 3, tri_ok T sw, fun i lo hi h => ?_⟩
  have t1 := T.ab
  have t2 := T.b5
  have t3 := T.cd
  have t4 := T.d5
  have t5 := T.al
  have t6 := T.ah
  have t7 := T.cl
  have t8 := T.ch
  match i with
  | 0 =>
    cases h
    exact ⟨by omega, by omega, by omega, by omega⟩
  | 1 =>
    cases h
    exact ⟨by omega, by omega, by omega, by omega⟩
  | 2 => cases sw <;> exact nomatch h
  | i + 3 => simp [tri] at h
theorem tri_prog {a b c d : Int} {k : Nat} (T : TriOk a b c d k) (sw : Bool) : IsProg (tri a b c d k sw) := by
  have t1 := T.ab
  have t2 := T.b5
  have t3 := T.cd
  have t4 := T.d5
  have t5 := T.al
  have t6 := T.ah
  have t7 := T.cl
  have t8 := T.ch
  have big : 10000 ≤ 10 ^ 120 := by decide +kernel
  have b1 : Bnd (a, b) := ⟨Nat.le_trans (show a.natAbs ≤ 10000 by omega) big, Nat.le_trans (show b.natAbs ≤ 10000 by omega) big⟩
  have b2 : Bnd (c, d) := ⟨Nat.le_trans (show c.natAbs ≤ 10000 by omega) big, Nat.le_trans (show d.natAbs ≤ 10000 by omega) big⟩
  have b3 : Bnd (hullTri a b c d k sw) := by
    unfold hullTri
    have h1 : a.natAbs ≤ 100 := by omega
    have h2 : b.natAbs ≤ 100 := by omega
    have h3 : c.natAbs ≤ 100 := by omega
    have h4 : d.natAbs ≤ 100 := by omega
    cases sw with
    | true =>
      have q := hullOp_small (k := k) (e := (c, d)) (f := (a, b)) h3 h4 h1 h2
      exact ⟨Nat.le_trans q.1 big, Nat.le_trans q.2 big⟩
    | false =>
      have q := hullOp_small (k := k) (e := (a, b)) (f := (c, d)) h1 h2 h3 h4
      exact ⟨Nat.le_trans q.1 big, Nat.le_trans q.2 big⟩
  refine ⟨by show 1 ≤ 3; decide, by show 3 ≤ 30; decide, tri_ok T sw, fun i hi e he => ?_⟩
  have e3 : ∀ e ∈ hullsN (tri a b c d k sw) 3, Bnd e := by
    rw [hulls_tri]
    intro e he
    simp only [List.mem_cons, List.mem_nil_iff, or_false] at he
    rcases he with h | h | h <;> rw [h]
    · exact b1
    · exact b2
    · exact b3
  match i, (show i ≤ 3 from hi) with
  | 0, _ => exact nomatch he
  | 1, _ => exact e3 e (List.mem_append_left _ (List.mem_append_left _ he))
  | 2, _ => exact e3 e (List.mem_append_left _ he)
  | 3, _ => exact e3 e he
theorem inp_tri {a b c d x y : Int} {k : Nat} {sw : Bool} (h1 : a ≤ x) (h2 : x ≤ b) (h3 : c ≤ y) (h4 : y ≤ d) : InpOk (tri a b c d k sw) [x, y] := by
  constructor
  · cases sw <;> rfl
  · intro i lo hi h
    match i with
    | 0 =>
      cases h
      exact ⟨h1, h2⟩
    | 1 =>
      cases h
      exact ⟨h3, h4⟩
    | 2 => cases sw <;> exact nomatch h
    | i + 3 => simp [tri] at h
theorem ends_op {k : Nat} (hk : k ≤ 2) {a b c d : Int} (h1 : a ≤ b) (h2 : c ≤ d) : (∃ x y, (x = a ∨ x = b) ∧ (y = c ∨ y = d) ∧ op3 k x y = (hullOp k (a, b) (c, d)).1) ∧ (∃ x y, (x = a ∨ x = b) ∧ (y = c ∨ y = d) ∧ op3 k x y = (hullOp k (a, b) (c, d)).2) := by
  match k, hk with
  | 0, _ => exact ⟨⟨a, c, .inl rfl, .inl rfl, rfl⟩, ⟨b, d, .inr rfl, .inr rfl, rfl⟩⟩
  | 1, _ => exact ⟨⟨a, d, .inl rfl, .inr rfl, rfl⟩, ⟨b, c, .inr rfl, .inl rfl, rfl⟩⟩
  | 2, _ =>
    constructor
    · have h : min4 (a * c) (a * d) (b * c) (b * d) = a * c ∨ min4 (a * c) (a * d) (b * c) (b * d) = a * d ∨ min4 (a * c) (a * d) (b * c) (b * d) = b * c ∨ min4 (a * c) (a * d) (b * c) (b * d) = b * d := by
        unfold min4
        omega
      rcases h with h | h | h | h
      · exact ⟨a, c, .inl rfl, .inl rfl, h.symm⟩
      · exact ⟨a, d, .inl rfl, .inr rfl, h.symm⟩
      · exact ⟨b, c, .inr rfl, .inl rfl, h.symm⟩
      · exact ⟨b, d, .inr rfl, .inr rfl, h.symm⟩
    · have h : max4 (a * c) (a * d) (b * c) (b * d) = a * c ∨ max4 (a * c) (a * d) (b * c) (b * d) = a * d ∨ max4 (a * c) (a * d) (b * c) (b * d) = b * c ∨ max4 (a * c) (a * d) (b * c) (b * d) = b * d := by
        unfold max4
        omega
      rcases h with h | h | h | h
      · exact ⟨a, c, .inl rfl, .inl rfl, h.symm⟩
      · exact ⟨a, d, .inl rfl, .inr rfl, h.symm⟩
      · exact ⟨b, c, .inr rfl, .inl rfl, h.symm⟩
      · exact ⟨b, d, .inr rfl, .inr rfl, h.symm⟩
/-- the ends of the hull are the least and the greatest value -/
theorem tri_min {a b c d : Int} {k : Nat} (T : TriOk a b c d k) (sw : Bool) {m M : Int} {vs : List Int} (hv : vs = (allN (tri a b c d k sw) 3).map fun ins => (vals (tri a b c d k sw) ins).getD 2 0)
    (hm : m ∈ vs) (hml : ∀ y, y ∈ vs → m ≤ y) (hM : M ∈ vs) (hMg : ∀ y, y ∈ vs → y ≤ M) : hullTri a b c d k sw = (m, M) := by
  subst hv
  have mem : ∀ z : Int, z ∈ ((allN (tri a b c d k sw) 3).map fun ins => (vals (tri a b c d k sw) ins).getD 2 0) ↔ ∃ x y, (a ≤ x ∧ x ≤ b ∧ c ≤ y ∧ y ≤ d) ∧ z = valTri k sw x y := by
    intro z
    rw [List.mem_map]
    constructor
    · rintro ⟨ins, h, rfl⟩
      obtain ⟨x, y, rfl, h1⟩ := (all_tri a b c d k sw ins).mp h
      exact ⟨x, y, h1, by rw [vals_tri] <;> rfl⟩
    · rintro ⟨x, y, h1, rfl⟩
      exact ⟨[x, y], (all_tri a b c d k sw _).mpr ⟨x, y, rfl, h1⟩, by rw [vals_tri] <;> rfl⟩
  have ab := T.ab
  have cd := T.cd
  have inn : ∀ x y, a ≤ x → x ≤ b → c ≤ y → y ≤ d → InHull (hullTri a b c d k sw) (valTri k sw x y) := by
    intro x y h1 h2 h3 h4
    unfold hullTri valTri
    cases sw with
    | true => exact hullOp_in (e := (c, d)) (f := (a, b)) ⟨h3, h4⟩ ⟨h1, h2⟩
    | false => exact hullOp_in (e := (a, b)) (f := (c, d)) ⟨h1, h2⟩ ⟨h3, h4⟩
  have att : (∃ x y, (a ≤ x ∧ x ≤ b ∧ c ≤ y ∧ y ≤ d) ∧ (hullTri a b c d k sw).1 = valTri k sw x y) ∧ (∃ x y, (a ≤ x ∧ x ≤ b ∧ c ≤ y ∧ y ≤ d) ∧ (hullTri a b c d k sw).2 = valTri k sw x y) := by
    unfold hullTri valTri
    cases sw with
    | true =>
      obtain ⟨⟨x, y, hx, hy, e⟩, ⟨x2, y2, hx2, hy2, e2⟩⟩ := ends_op T.k2 (a := c) (b := d) (c := a) (d := b) cd ab
      exact ⟨⟨y, x, ⟨by omega, by omega, by omega, by omega⟩, e.symm⟩, ⟨y2, x2, ⟨by omega, by omega, by omega, by omega⟩, e2.symm⟩⟩
    | false =>
      obtain ⟨⟨x, y, hx, hy, e⟩, ⟨x2, y2, hx2, hy2, e2⟩⟩ := ends_op T.k2 (a := a) (b := b) (c := c) (d := d) ab cd
      exact ⟨⟨x, y, ⟨by omega, by omega, by omega, by omega⟩, e.symm⟩, ⟨x2, y2, ⟨by omega, by omega, by omega, by omega⟩, e2.symm⟩⟩
  obtain ⟨⟨x1, y1, r1, e1⟩, ⟨x2, y2, r2, e2⟩⟩ := att
  obtain ⟨x3, y3, r3, e3⟩ := (mem m).mp hm
  obtain ⟨x4, y4, r4, e4⟩ := (mem M).mp hM
  have k1 := hml _ ((mem _).mpr ⟨x1, y1, r1, rfl⟩)
  have k2 := hMg _ ((mem _).mpr ⟨x2, y2, r2, rfl⟩)
  have k3 := (inn x3 y3 r3.1 r3.2.1 r3.2.2.1 r3.2.2.2).1
  have k4 := (inn x4 y4 r4.1 r4.2.1 r4.2.2.1 r4.2.2.2).2
  refine Prod.ext ?_ ?_
  · show (hullTri a b c d k sw).1 = m
    omega
  · show (hullTri a b c d k sw).2 = M
    omega
theorem tri_small {a b c d : Int} {k : Nat} (T : TriOk a b c d k) (sw : Bool) : (hullTri a b c d k sw).1.natAbs ≤ 10000 ∧ (hullTri a b c d k sw).2.natAbs ≤ 10000 := by
  have t1 := T.ab
  have t2 := T.b5
  have t3 := T.cd
  have t4 := T.d5
  have t5 := T.al
  have t6 := T.ah
  have t7 := T.cl
  have t8 := T.ch
  have h1 : a.natAbs ≤ 100 := by omega
  have h2 : b.natAbs ≤ 100 := by omega
  have h3 : c.natAbs ≤ 100 := by omega
  have h4 : d.natAbs ≤ 100 := by omega
  unfold hullTri
  cases sw with
  | true => exact hullOp_small (k := k) (e := (c, d)) (f := (a, b)) h3 h4 h1 h2
  | false => exact hullOp_small (k := k) (e := (a, b)) (f := (c, d)) h1 h2 h3 h4
theorem row_two {x y : Int} (h1 : x.natAbs ≤ 10000) (h2 : y.natAbs ≤ 10000) : Shows (.tuple [.int x, .int y]) :=
  (Row.ints (ns := [x, y]) (fun n hn => by
    rcases List.mem_cons.mp hn with h | h
    · rw [h]
      exact Nat.lt_of_le_of_lt h1 (by decide +kernel)
    · rw [List.mem_singleton.mp h]
      exact Nat.lt_of_le_of_lt h2 (by decide +kernel)) (by show 2 ≤ 9000; decide)).one
end Sx
namespace Sx
open PySem PySem.Spec PyProof.Rows L2
theorem fine_int' {i : Int} (h : i.natAbs ≤ 10 ^ 120) : fine (.int i) = true := by
  have h2 : i.natAbs < big := Nat.lt_of_le_of_lt h (by decide +kernel)
  simpa [fine] using h2
theorem nodAll_le {α : Type} {f : α → PyData} {k : Nat} (h : ∀ x, nod (f x) ≤ k) : ∀ xs : List α, nodAll (xs.map f) ≤ k * xs.length
  | [] => Nat.le_refl _
  | x :: xs => by
    show nod (f x) + nodAll (xs.map f) ≤ k * (xs.length + 1)
    have := nodAll_le h xs
    have := h x
    rw [Nat.mul_succ]
    omega
theorem stepD_nod (s : Stp) : nod (.tuple (stepD s)) ≤ 12 := by
  cases s with
  | inn lo hi => exact (by decide +kernel : nod (.tuple [.str "in", .int 0, .int 0]) ≤ 12)
  | num c => exact (by decide +kernel : nod (.tuple [.str "is", .int 0]) ≤ 12)
  | op k i j =>
    match k with
    | 0 => exact (by decide +kernel : nod (.tuple [.str "sum", .int 0, .int 0]) ≤ 12)
    | 1 => exact (by decide +kernel : nod (.tuple [.str "less", .int 0, .int 0]) ≤ 12)
    | _ + 2 => exact (by decide +kernel : nod (.tuple [.str "times", .int 0, .int 0]) ≤ 12)
theorem stepD_depth (s : Stp) : PyData.depth (.tuple (stepD s)) ≤ 1 := by
  cases s with
  | inn lo hi => exact (by decide +kernel : PyData.depth (.tuple [.str "in", .int 0, .int 0]) ≤ 1)
  | num c => exact (by decide +kernel : PyData.depth (.tuple [.str "is", .int 0]) ≤ 1)
  | op k i j => exact (by decide +kernel : PyData.depth (.tuple [.str "", .int 0, .int 0]) ≤ 1)
theorem fine3 {x y z : PyData} (h1 : fine x = true) (h2 : fine y = true) (h3 : fine z = true) : fine (.tuple [x, y, z]) = true := by
  show (fine x && (fine y && (fine z && true))) = true
  rw [h1, h2, h3] <;> rfl
theorem fine2 {x y : PyData} (h1 : fine x = true) (h2 : fine y = true) : fine (.tuple [x, y]) = true := by
  show (fine x && (fine y && true)) = true
  rw [h1, h2] <;> rfl
theorem stepD_fine {n : Nat} {s : Stp} (h : StepOk n s) (hn : n ≤ 1000) : fine (.tuple (stepD s)) = true := by
  cases s with
  | inn lo hi =>
    obtain ⟨h1, h2, _⟩ := h
    exact fine3 (by decide +kernel : fine (.str "in") = true) (fine_int' (num_bnd h1)) (fine_int' (num_bnd h2))
  | num c =>
    exact fine2 (by decide +kernel : fine (.str "is") = true) (fine_int' (num_bnd h))
  | op k i j =>
    obtain ⟨_, h1, h2⟩ := h
    have hw : fine (.str (opw k)) = true := by
      match k with
      | 0 => decide +kernel
      | 1 => decide +kernel
      | _ + 2 => exact (by decide +kernel : fine (.str "times") = true)
    have big : 1000 ≤ 10 ^ 120 := by decide +kernel
    exact fine3 hw (fine_int' (Nat.le_trans (show ((i : Nat) : Int).natAbs ≤ 1000 by omega) big)) (fine_int' (Nat.le_trans (show ((j : Nat) : Int).natAbs ≤ 1000 by omega) big))
theorem Row.prog {ss : List Stp} (P : IsProg ss) : Row (.tuple (ss.map fun s => .tuple (stepD s))) := by
  have h30 := P.most
  refine .tup (fineAll_map ss fun s hs => ?_) ?_ (Nat.le_trans (depthAll_map (k := 1) ss fun s _ => stepD_depth s) (by decide))
  · obtain ⟨i, hi, e⟩ := List.mem_iff_getElem.mp hs
    exact stepD_fine (P.ok i s (by rw [List.getElem?_eq_getElem hi, e])) (by omega)
  · have := nodAll_le (f := fun s => PyData.tuple (stepD s)) (k := 12) stepD_nod ss
    omega
theorem Row.hlt {E : List (Int × Int)} (hb : ∀ e ∈ E, Bnd e) (hl : E.length ≤ 1000) : Row (.tuple (E.map hullD)) := by
  refine .tup (fineAll_map E fun e he => ?_) ?_ (Nat.le_trans (depthAll_map (k := 1) E fun e _ => Nat.le_refl _) (by decide))
  · obtain ⟨h1, h2⟩ := hb e he
    exact fine2 (fine_int' h1) (fine_int' h2)
  · have := nodAll_le (f := hullD) (k := 3) (fun e => Nat.le_refl _) E
    omega
theorem Row.nums {ns : List Int} (h : ∀ n ∈ ns, n.natAbs ≤ 10 ^ 120) (hl : ns.length ≤ 9000) : Row (.tuple (ns.map PyData.int)) := by
  refine .tup (fineAll_map ns fun n hn => fine_int' (h n hn)) ?_ (depthAll_map ns fun _ _ => Nat.zero_le _)
  rw [nodAll_map (fun _ => rfl)]
  exact hl
theorem Row.int {n : Int} (h : n.natAbs ≤ 10 ^ 120) : Row (.int n) := ⟨fine_int' h, by show 1 ≤ 10000; decide, Nat.zero_le _⟩
end Sx
namespace K5
open PySem PySem.Spec PyProof.Rows L2 Sx
def topS (i : Nat) : Stmt := PySem.Challenge.pw_straylanes_k05_whole_values_and_hulls.main.body.getD i (.Pass ⟨0, 0, 0, 0⟩)
abbrev s_hull_of : Stmt := topS 1
theorem sc_hull_of : FnScope ["step", "ahead", "ends", "a", "b", "c", "d"] ["step", "ahead"] (defScope s_hull_of) := ⟨rfl, rfl, rfl, by decide +kernel, rfl, by decide +kernel, by decide +kernel⟩
abbrev s_given_integers : Stmt := topS 2
theorem sc_given_integers : FnScope ["program", "inputs", "step", "given", "used"] ["program", "inputs"] (defScope s_given_integers) := ⟨rfl, rfl, rfl, by decide +kernel, rfl, by decide +kernel, by decide +kernel⟩
abbrev s_reckoned : Stmt := topS 3
theorem sc_reckoned : FnScope ["step", "ahead", "word", "j", "k"] ["step", "ahead"] (defScope s_reckoned) := ⟨rfl, rfl, rfl, by decide +kernel, rfl, by decide +kernel, by decide +kernel⟩
abbrev s_run : Stmt := topS 5
theorem sc_run : FnScope ["program", "inputs", "values", "step", "given"] ["program", "inputs"] (defScope s_run) := ⟨rfl, rfl, rfl, by decide +kernel, rfl, by decide +kernel, by decide +kernel⟩
abbrev s_result : Stmt := topS 6
theorem sc_result : FnScope ["program", "inputs"] ["program", "inputs"] (defScope s_result) := ⟨rfl, rfl, rfl, by decide +kernel, rfl, by decide +kernel, by decide +kernel⟩
abbrev s_hulls : Stmt := topS 7
theorem sc_hulls : FnScope ["program", "ahead", "step"] ["program"] (defScope s_hulls) := ⟨rfl, rfl, rfl, by decide +kernel, rfl, by decide +kernel, by decide +kernel⟩
abbrev s__law_box : Stmt := topS 9
theorem sc__law_box : FnScope ["script", "mark", "marks", "stirred", "cell"] ["script"] (defScope s__law_box) := ⟨rfl, rfl, rfl, by decide +kernel, rfl, by decide +kernel, by decide +kernel⟩
abbrev s__law_draw : Stmt := topS 10
theorem sc__law_draw : FnScope ["box", "many", "great", "count", "found", "mark"] ["box", "many"] (defScope s__law_draw) := ⟨rfl, rfl, rfl, by decide +kernel, rfl, by decide +kernel, by decide +kernel⟩
abbrev s__law_pick : Stmt := topS 11
theorem sc__law_pick : FnScope ["box", "items"] ["box", "items"] (defScope s__law_pick) := ⟨rfl, rfl, rfl, by decide +kernel, rfl, by decide +kernel, by decide +kernel⟩
abbrev s__law_great : Stmt := topS 12
theorem sc__law_great : FnScope ["box", "many", "found", "turn"] ["box", "many"] (defScope s__law_great) := ⟨rfl, rfl, rfl, by decide +kernel, rfl, by decide +kernel, by decide +kernel⟩
abbrev s__law_number : Stmt := topS 13
theorem sc__law_number : FnScope ["box", "way", "found"] ["box"] (defScope s__law_number) := ⟨rfl, rfl, rfl, by decide +kernel, rfl, by decide +kernel, by decide +kernel⟩
abbrev s__law_hull : Stmt := topS 14
theorem sc__law_hull : FnScope ["ends", "step", "every", "a", "b", "c", "d"] ["ends", "step"] (defScope s__law_hull) := ⟨rfl, rfl, rfl, by decide +kernel, rfl, by decide +kernel, by decide +kernel⟩
abbrev s__law_stretch : Stmt := topS 15
theorem sc__law_stretch : FnScope ["box", "way", "low"] ["box"] (defScope s__law_stretch) := ⟨rfl, rfl, rfl, by decide +kernel, rfl, by decide +kernel, by decide +kernel⟩
abbrev s__law_step : Stmt := topS 16
theorem sc__law_step : FnScope ["box", "i", "way"] ["box", "i"] (defScope s__law_step) := ⟨rfl, rfl, rfl, by decide +kernel, rfl, by decide +kernel, by decide +kernel⟩
abbrev s__law_program : Stmt := topS 17
theorem sc__law_program : FnScope ["box", "most", "i", "steps", "ends", "step", "end"] ["box", "most"] (defScope s__law_program) := ⟨rfl, rfl, rfl, by decide +kernel, rfl, by decide +kernel, by decide +kernel⟩
abbrev s__law_inputs : Stmt := topS 18
theorem sc__law_inputs : FnScope ["box", "program", "found", "step", "size", "amid", "low", "high"] ["box", "program"] (defScope s__law_inputs) := ⟨rfl, rfl, rfl, by decide +kernel, rfl, by decide +kernel, by decide +kernel⟩
abbrev s__law_values : Stmt := topS 19
theorem sc__law_values : FnScope ["program", "inputs", "step", "found", "left", "one", "other"] ["program", "inputs"] (defScope s__law_values) := ⟨rfl, rfl, rfl, by decide +kernel, rfl, by decide +kernel, by decide +kernel⟩
abbrev s__law_all_inputs : Stmt := topS 20
theorem sc__law_all_inputs : FnScope ["program", "found", "step", "longer", "number", "own"] ["program"] (defScope s__law_all_inputs) := ⟨rfl, rfl, rfl, by decide +kernel, rfl, by decide +kernel, by decide +kernel⟩
abbrev s__law_is_filled : Stmt := topS 21
theorem sc__law_is_filled : FnScope ["box", "program", "values", "first", "second", "inputs"] ["box"] (defScope s__law_is_filled) := ⟨rfl, rfl, rfl, by decide +kernel, rfl, by decide +kernel, by decide +kernel⟩
abbrev s_law : Stmt := topS 22
theorem sc_law : FnScope ["script", "box", "turn", "program", "ends", "step", "known", "again", "inputs", "values", "told", "value", "low", "high"] ["script"] (defScope s_law) := ⟨rfl, rfl, rfl, by decide +kernel, rfl, by decide +kernel, by decide +kernel⟩
structure Adr where
  f_hull_of : Addr
  d_hull_of : FuncData
  f_given_integers : Addr
  d_given_integers : FuncData
  f_reckoned : Addr
  d_reckoned : FuncData
  f_run : Addr
  d_run : FuncData
  f_result : Addr
  d_result : FuncData
  f_hulls : Addr
  d_hulls : FuncData
  f__law_box : Addr
  d__law_box : FuncData
  f__law_draw : Addr
  d__law_draw : FuncData
  f__law_pick : Addr
  d__law_pick : FuncData
  f__law_great : Addr
  d__law_great : FuncData
  f__law_number : Addr
  d__law_number : FuncData
  f__law_hull : Addr
  d__law_hull : FuncData
  f__law_stretch : Addr
  d__law_stretch : FuncData
  f__law_step : Addr
  d__law_step : FuncData
  f__law_program : Addr
  d__law_program : FuncData
  f__law_inputs : Addr
  d__law_inputs : FuncData
  f__law_values : Addr
  d__law_values : FuncData
  f__law_all_inputs : Addr
  d__law_all_inputs : FuncData
  f__law_is_filled : Addr
  d__law_is_filled : FuncData
  f_law : Addr
  d_law : FuncData
structure Txt (K : PySem.W.Frag) (mg : Str → Option Value) (a : Adr) : Prop where
  hull_of : At K mg "hull_of" s_hull_of ["step", "ahead"] a.f_hull_of a.d_hull_of
  given_integers : At K mg "given_integers" s_given_integers ["program", "inputs"] a.f_given_integers a.d_given_integers
  reckoned : At K mg "reckoned" s_reckoned ["step", "ahead"] a.f_reckoned a.d_reckoned
  run : At K mg "run" s_run ["program", "inputs"] a.f_run a.d_run
  result : At K mg "result" s_result ["program", "inputs"] a.f_result a.d_result
  hulls : At K mg "hulls" s_hulls ["program"] a.f_hulls a.d_hulls
  _law_box : At K mg "_law_box" s__law_box ["script"] a.f__law_box a.d__law_box
  _law_draw : At K mg "_law_draw" s__law_draw ["box", "many"] a.f__law_draw a.d__law_draw
  _law_pick : At K mg "_law_pick" s__law_pick ["box", "items"] a.f__law_pick a.d__law_pick
  _law_great : At K mg "_law_great" s__law_great ["box", "many"] a.f__law_great a.d__law_great
  _law_number : At K mg "_law_number" s__law_number ["box"] a.f__law_number a.d__law_number
  _law_hull : At K mg "_law_hull" s__law_hull ["ends", "step"] a.f__law_hull a.d__law_hull
  _law_stretch : At K mg "_law_stretch" s__law_stretch ["box"] a.f__law_stretch a.d__law_stretch
  _law_step : At K mg "_law_step" s__law_step ["box", "i"] a.f__law_step a.d__law_step
  _law_program : At K mg "_law_program" s__law_program ["box", "most"] a.f__law_program a.d__law_program
  _law_inputs : At K mg "_law_inputs" s__law_inputs ["box", "program"] a.f__law_inputs a.d__law_inputs
  _law_values : At K mg "_law_values" s__law_values ["program", "inputs"] a.f__law_values a.d__law_values
  _law_all_inputs : At K mg "_law_all_inputs" s__law_all_inputs ["program"] a.f__law_all_inputs a.d__law_all_inputs
  _law_is_filled : At K mg "_law_is_filled" s__law_is_filled ["box"] a.f__law_is_filled a.d__law_is_filled
  law : At K mg "law" s_law ["script"] a.f_law a.d_law
  b_abs : mg "abs" = none
  b_int : mg "int" = none
  b_len : mg "len" = none
  b_list : mg "list" = none
  b_max : mg "max" = none
  b_min : mg "min" = none
  b_range : mg "range" = none
  b_repr : mg "repr" = none
  b_sorted : mg "sorted" = none
  b_tuple : mg "tuple" = none
  b_zip : mg "zip" = none
section
variable {P : Program} {w : World} {K : PySem.W.Frag} {mg : Str → Option Value} {base : Heap} {a : Adr}
def g_hulls_program {α : Type} (us ws : List α) : List α := match us, ws with
  | [], [z0] => [z0]
  | _, _ => []
theorem kb_hulls_program (T : Txt K mg a) : KBinds K a.d_hulls ["program"] ["program"] (g_hulls_program (α := Value)) (g_hulls_program (α := V)) := by
  refine Sx.Fun.kb T.hulls.F (fun _ _ _ _ _ _ us ws hl => ?_) (fun r1 r2 => ?_)
  · unfold g_hulls_program at hl ⊢
    split at hl
    · rfl
    · exact absurd hl (by decide)
  · unfold g_hulls_program
    cases r1 with
    | nil =>
      cases r2 with
      | nil => exact .nil
      | cons q0 r2 =>
        cases r2 with
        | nil =>
          exact (.cons q0 .nil)
        | cons _ _ => exact .nil
    | cons _ _ => exact .nil
def g_result_inputs_program {α : Type} (us ws : List α) : List α := match us, ws with
  | [], [z0, z1] => [z1, z0]
  | _, _ => []
theorem kb_result_inputs_program (T : Txt K mg a) : KBinds K a.d_result ["program", "inputs"] ["inputs", "program"] (g_result_inputs_program (α := Value)) (g_result_inputs_program (α := V)) := by
  refine Sx.Fun.kb T.result.F (fun _ _ _ _ _ _ us ws hl => ?_) (fun r1 r2 => ?_)
  · unfold g_result_inputs_program at hl ⊢
    split at hl
    · rfl
    · exact absurd hl (by decide)
  · unfold g_result_inputs_program
    cases r1 with
    | nil =>
      cases r2 with
      | nil => exact .nil
      | cons q0 r2 =>
        cases r2 with
        | nil => exact .nil
        | cons q1 r2 =>
          cases r2 with
          | nil =>
            exact (.cons q1 (.cons q0 .nil))
          | cons _ _ => exact .nil
    | cons _ _ => exact .nil
def g_run_inputs_program {α : Type} (us ws : List α) : List α := match us, ws with
  | [], [z0, z1] => [z1, z0]
  | _, _ => []
theorem kb_run_inputs_program (T : Txt K mg a) : KBinds K a.d_run ["program", "inputs"] ["inputs", "program"] (g_run_inputs_program (α := Value)) (g_run_inputs_program (α := V)) := by
  refine Sx.Fun.kb T.run.F (fun _ _ _ _ _ _ us ws hl => ?_) (fun r1 r2 => ?_)
  · unfold g_run_inputs_program at hl ⊢
    split at hl
    · rfl
    · exact absurd hl (by decide)
  · unfold g_run_inputs_program
    cases r1 with
    | nil =>
      cases r2 with
      | nil => exact .nil
      | cons q0 r2 =>
        cases r2 with
        | nil => exact .nil
        | cons q1 r2 =>
          cases r2 with
          | nil =>
            exact (.cons q1 (.cons q0 .nil))
          | cons _ _ => exact .nil
    | cons _ _ => exact .nil
theorem ok_hull_of (T : Txt K mg a) : FnOk P w K mg base CX0 1 a.f_hull_of a.d_hull_of ["step", "ahead"] (sp_hull_of K) := by
  refine T.hull_of.F.ok sc_hull_of (fun vs H Q E h => ?_) (fun cdv A outer s H vs Q E hr h => ?_)
  · obtain ⟨_, _, _, _, rfl, _⟩ := h
    rfl
  · have hu := hu_of hr
    obtain ⟨p, l, s, E, rfl, hp, hl, hs, hb, q⟩ := h
    refine ⟨_, (pss_cons (ps_if (pt_cmpR op_eq (pe_ix (show IxR _ (rIx K) from ix_seq) (pv 0) pe_int (fun _ _ => rfl)) pe_str (nomark _)) (pss_one (ps_ret (pe_slice (show SlR _ (rSlA K) from sl_tupA) (pv 0) (po_some pe_int) po_none))) pss_nil)
      (pss_cons (ps_if (pt_cmpR op_eq (pe_ix (show IxR _ (rIx K) from ix_seq) (pv 0) pe_int (fun _ _ => rfl)) pe_str (nomark _)) (pss_one (ps_ret (pe_tup (pa_cons (pe_ix (show IxR _ (rIx K) from ix_seq) (pv 0) pe_int (fun _ _ => rfl)) (pa_cons (pe_ix (show IxR _ (rIx K) from ix_seq) (pv 0) pe_int (fun _ _ => rfl)) pa_nil))))) pss_nil)
      (pss_cons (ps_asg (pe_tup (pa_cons (pe_ix (show IxR _ (rIx K) from ix_seq) (pv 1) (pe_ix (show IxR _ (rIx K) from ix_seq) (pv 0) pe_int (fun _ _ => rfl)) (fun _ _ => rfl)) (pa_cons (pe_ix (show IxR _ (rIx K) from ix_seq) (pv 1) (pe_ix (show IxR _ (rIx K) from ix_seq) (pv 0) pe_int (fun _ _ => rfl)) (fun _ _ => rfl)) pa_nil))) (show PG _ _ (gTup K 2 _) from pg_tup rfl (pgs_cons (show PG _ _ (gTup K 2 _) from pg_tup rfl (pgs_cons (pg_name (i := 3) sc_hull_of.nd rfl (by first | exact Or.inl rfl | exact Or.inr rfl)) (pgs_cons (pg_name (i := 4) sc_hull_of.nd rfl (by first | exact Or.inl rfl | exact Or.inr rfl)) pgs_nil))) (pgs_cons (show PG _ _ (gTup K 2 _) from pg_tup rfl (pgs_cons (pg_name (i := 5) sc_hull_of.nd rfl (by first | exact Or.inl rfl | exact Or.inr rfl)) (pgs_cons (pg_name (i := 6) sc_hull_of.nd rfl (by first | exact Or.inl rfl | exact Or.inr rfl)) pgs_nil))) pgs_nil))))
      (pss_cons (ps_if (pt_cmpR op_eq (pe_ix (show IxR _ (rIx K) from ix_seq) (pv 0) pe_int (fun _ _ => rfl)) pe_str (nomark _)) (pss_one (ps_ret (pe_tup (pa_cons (pe_op op_add (pv 3) (pv 5)) (pa_cons (pe_op op_add (pv 4) (pv 6)) pa_nil))))) pss_nil)
      (pss_cons (ps_if (pt_cmpR op_eq (pe_ix (show IxR _ (rIx K) from ix_seq) (pv 0) pe_int (fun _ _ => rfl)) pe_str (nomark _)) (pss_one (ps_ret (pe_tup (pa_cons (pe_op op_sub (pv 3) (pv 6)) (pa_cons (pe_op op_sub (pv 4) (pv 5)) pa_nil))))) pss_nil)
      (pss_cons (ps_set (i := 2) sc_hull_of.nd rfl (by first | exact Or.inl rfl | exact Or.inr rfl) (pe_tup (pa_cons (pe_op op_mulW (pv 3) (pv 5)) (pa_cons (pe_op op_mulW (pv 3) (pv 6)) (pa_cons (pe_op op_mulW (pv 4) (pv 5)) (pa_cons (pe_op op_mulW (pv 4) (pv 6)) pa_nil))))))
      (pss_one (ps_ret (pe_tup (pa_cons (pe_callB (show CallR _ _ (rMinT K) from cr_minT rfl hr.units) (by rfl) T.b_min (by decide +kernel) (pa_cons (pv 2) pa_nil)) (pa_cons (pe_callB (show CallR _ _ (rMaxT K) from cr_maxT rfl hr.units) (by rfl) T.b_max (by decide +kernel) (pa_cons (pv 2) pa_nil)) pa_nil))))))))))), ?_⟩
    cases s with
    | inn lo hi =>
      have h0 : atI (stepV (.inn lo hi)) 0 = some (.str "in") := atI_nat (j := 0) rfl
      refine ⟨_, rfl, .inr (.inl ⟨p, _, _, _, rfl, rfl, .of hp, h0, rfl, _, rfl, ?_⟩)⟩
      rw [decide_eq_true rfl]
      refine iteT ⟨_, rfl, 1, rfl, p, _, rfl, .of hp, (fun z => absurd z.1 (show ¬ HT.sIx 3 0 (some 1) = 0 by decide)), fun _ a na => ?_⟩
      exact q a _ (same_new na) na upd_same
    | num c =>
      have h0 : atI (stepV (.num c)) 0 = some (.str "is") := atI_nat (j := 0) rfl
      have h1 : atI (stepV (.num c)) 1 = some (.int c) := atI_nat (j := 1) rfl
      refine ⟨_, rfl, .inr (.inl ⟨p, _, _, _, rfl, rfl, .of hp, h0, rfl, _, rfl, ?_⟩)⟩
      rw [wne (by decide +kernel)]
      refine iteF ?_
      refine ⟨_, rfl, .inr (.inl ⟨p, _, _, _, rfl, rfl, .of hp, h0, rfl, _, rfl, ?_⟩)⟩
      rw [decide_eq_true rfl]
      refine iteT ⟨_, rfl, .inr (.inl ⟨p, _, _, _, rfl, rfl, .of hp, h1, _, rfl, .inr (.inl ⟨p, _, _, _, rfl, rfl, .of hp, h1, by show 2 ≤ sizeLine; decide, fun a na => ?_⟩)⟩)⟩
      exact q a _ (same_new na) na upd_same
    | op k i j =>
      obtain ⟨hk, hi, hj⟩ := hs
      have h0 : atI (stepV (.op k i j)) 0 = some (.str (opw k)) := atI_nat (j := 0) rfl
      have h1 : atI (stepV (.op k i j)) 1 = some (.int (i : Nat)) := atI_nat (j := 1) rfl
      have h2 : atI (stepV (.op k i j)) 2 = some (.int (j : Nat)) := atI_nat (j := 2) rfl
      have w1 : decide (V.str (opw k) = V.str "in") = false := by
        match k, hk with
        | 0, _ => exact wne (by decide +kernel)
        | 1, _ => exact wne (by decide +kernel)
        | 2, _ => exact wne (by decide +kernel)
      have w2 : decide (V.str (opw k) = V.str "is") = false := by
        match k, hk with
        | 0, _ => exact wne (by decide +kernel)
        | 1, _ => exact wne (by decide +kernel)
        | 2, _ => exact wne (by decide +kernel)
      refine ⟨_, rfl, .inr (.inl ⟨p, _, _, _, rfl, rfl, .of hp, h0, rfl, _, rfl, ?_⟩)⟩
      rw [w1]
      refine iteF ⟨_, rfl, .inr (.inl ⟨p, _, _, _, rfl, rfl, .of hp, h0, rfl, _, rfl, ?_⟩)⟩
      rw [w2]
      refine iteF ?_
      -- (a, b), (c, d)
      obtain ⟨as, a1, el, ei, e1, m1⟩ := hl_at hl hi
      obtain ⟨as', a2, el', ej, e2, m2⟩ := hl_at hl hj
      have hb1 := hb _ m1
      have hb2 := hb _ m2
      generalize hE1 : E.getD i (0, 0) = x at *
      generalize hE2 : E.getD j (0, 0) = y at *
      obtain ⟨a, b⟩ := x
      obtain ⟨c, d⟩ := y
      refine ⟨_, rfl, _, rfl, .inr (.inl ⟨p, _, _, _, rfl, rfl, .of hp, h1, .inl ⟨l, _, _, _, rfl, rfl, .of el, atI_nat ei, ?_⟩⟩)⟩
      refine ⟨_, rfl, _, rfl, .inr (.inl ⟨p, _, _, _, rfl, rfl, .of hp, h2, .inl ⟨l, _, _, _, rfl, rfl, .of el', atI_nat ej, ?_⟩⟩)⟩
      refine ⟨by show 2 ≤ sizeLine; decide, fun t nt => ?_⟩
      have s1 : Same H (upd H t (.tup [.ref a1, .ref a2])) := same_new nt
      refine ⟨t, _, rfl, .of upd_same, rfl, _, _, rfl, ⟨a1, _, rfl, .of (s1 _ _ e1), rfl, _, _, rfl, _, _, rfl, rfl, ?_⟩⟩
      refine ⟨_, _, rfl, ⟨a2, _, rfl, .of (s1 _ _ e2), rfl, _, _, rfl, _, _, rfl, rfl, rfl, ?_⟩⟩
      have s1' := s1
      generalize upd H t (.tup [.ref a1, .ref a2]) = H1 at s1 ⊢
      have hp1 : H1 p = some (.tup (stepV (.op k i j))) := s1 _ _ hp
      have fin : ∀ (H2 : Hp) (v : Addr) (e : Int × Int), Same H1 H2 → H2 v = none → e = hullOp k (a, b) (c, d) → Q (.ref v) (upd H2 v (.tup [.int e.1, .int e.2])) := fun H2 v e s2 nv he => by
        have s3 : Same H2 (upd H2 v (.tup [.int e.1, .int e.2])) := same_new nv
        refine q v _ ((s1.trans s2).trans s3) ((s1.trans s2).free nv) ?_
        show (upd H2 v (.tup [.int e.1, .int e.2])) v = some (.tup [.int (hullOp k (E.getD i (0, 0)) (E.getD j (0, 0))).1, .int (hullOp k (E.getD i (0, 0)) (E.getD j (0, 0))).2])
        rw [hE1, hE2, ← he]
        exact upd_same
      match k, hk with
      | 0, _ =>
        refine ⟨_, rfl, .inr (.inl ⟨p, _, _, _, rfl, rfl, .of hp1, h0, rfl, _, rfl, ?_⟩)⟩
        rw [show decide (V.str (opw 0) = V.str "sum") = true from decide_eq_true rfl]
        refine iteT ⟨_, rfl, _, rfl, _, _, rfl, rfl, _, rfl, _, rfl, _, _, rfl, rfl, by show 2 ≤ sizeLine; decide, fun v nv => ?_⟩
        exact fin H1 v (a + c, b + d) (Same.refl _) nv rfl
      | 1, _ =>
        refine ⟨_, rfl, .inr (.inl ⟨p, _, _, _, rfl, rfl, .of hp1, h0, rfl, _, rfl, ?_⟩)⟩
        rw [show decide (V.str (opw 1) = V.str "sum") = false from wne (by decide +kernel)]
        refine iteF ⟨_, rfl, .inr (.inl ⟨p, _, _, _, rfl, rfl, .of hp1, h0, rfl, _, rfl, ?_⟩)⟩
        rw [show decide (V.str (opw 1) = V.str "less") = true from decide_eq_true rfl]
        refine iteT ⟨_, rfl, _, rfl, _, _, rfl, rfl, _, rfl, _, rfl, _, _, rfl, rfl, by show 2 ≤ sizeLine; decide, fun v nv => ?_⟩
        exact fin H1 v (a - d, b - c) (Same.refl _) nv rfl
      | 2, _ =>
        refine ⟨_, rfl, .inr (.inl ⟨p, _, _, _, rfl, rfl, .of hp1, h0, rfl, _, rfl, ?_⟩)⟩
        rw [show decide (V.str (opw 2) = V.str "sum") = false from wne (by decide +kernel)]
        refine iteF ⟨_, rfl, .inr (.inl ⟨p, _, _, _, rfl, rfl, .of hp1, h0, rfl, _, rfl, ?_⟩)⟩
        rw [show decide (V.str (opw 2) = V.str "less") = false from wne (by decide +kernel)]
        refine iteF ?_
        have ba : a.natAbs ≤ 10 ^ 120 := hb1.1
        have bb : b.natAbs ≤ 10 ^ 120 := hb1.2
        have bc : c.natAbs ≤ 10 ^ 120 := hb2.1
        have bd : d.natAbs ≤ 10 ^ 120 := hb2.2
        refine ⟨_, rfl, _, rfl, a, c, rfl, rfl, bnd_wide ba bc, _, rfl, _, rfl, a, d, rfl, rfl, bnd_wide ba bd, _, rfl, _, rfl, b, c, rfl, rfl, bnd_wide bb bc, _, rfl, _, rfl, b, d, rfl, rfl, bnd_wide bb bd, by show 4 ≤ sizeLine; decide, fun u nu => ?_⟩
        have s2 : Same H1 (upd H1 u (.tup [.int (a * c), .int (a * d), .int (b * c), .int (b * d)])) := same_new nu
        have hu' : (upd H1 u (.tup [.int (a * c), .int (a * d), .int (b * c), .int (b * d)])) u = some (.tup ((a * c :: [a * d, b * c, b * d]).map V.int)) := upd_same
        generalize upd H1 u (.tup [.int (a * c), .int (a * d), .int (b * c), .int (b * d)]) = H2 at s2 hu' ⊢
        refine ⟨_, rfl, u, _, _, rfl, .of hu', _, rfl, u, _, _, rfl, .of hu', by show 2 ≤ sizeLine; decide, fun v nv => ?_⟩
        exact fin H2 v (min4 (a * c) (a * d) (b * c) (b * d), max4 (a * c) (a * d) (b * c) (b * d)) s2 nv rfl
theorem ok_given_integers (T : Txt K mg a) : FnOk P w K mg base CX0 1 a.f_given_integers a.d_given_integers ["program", "inputs"] (sp_given_integers K) := by
  refine T.given_integers.F.ok sc_given_integers (fun vs H Q E h => ?_) (fun cdv A outer s H vs Q E hr h => ?_)
  · obtain ⟨_, _, _, _, rfl, _⟩ := h
    rfl
  · have hu := hu_of hr
    obtain ⟨t, p, ss, ins, rfl, ⟨as, ht, pr⟩, hp, P, I, q⟩ := h
    refine ⟨_, (pss_cons (ps_par (i := 3) (j := 4) (by rfl) sc_given_integers.nd rfl rfl (by decide) rfl rfl (pa_cons (pe_lst pa_nil) (pa_cons pe_int pa_nil)) (by rfl))
      (pss_cons (ps_for PassesOwn.never rfl (show PI _ _ _ (iSeq K _) from pi_seq (pv 0)) (pg_name (i := 2) sc_given_integers.nd rfl (by first | exact Or.inl rfl | exact Or.inr rfl)) (pss_one (ps_if (pt_cmpR op_eq (pe_ix (show IxR _ (rIx K) from ix_seq) (pv 2) pe_int (fun _ _ => rfl)) pe_str (nomark _)) (pss_cons (ps_expr (show PE _ _ (tBM K "list" _ _ _) from pe_bm PySem.F.plainAttrs_list PySem.F.slot_list_append PySem.F.type_list_append mt_append (pv 3) (pa_cons (pe_ix (show IxR _ (rIx K) from ix_seq) (pv 1) (pv 4) (fun _ _ => rfl)) pa_nil)))
          (pss_one (ps_aug (i := 4) sc_given_integers.nd rfl (by first | exact Or.inl rfl | exact Or.inr rfl) pe_int ip_add))) (pss_one (ps_if (pt_cmpR op_eq (pe_ix (show IxR _ (rIx K) from ix_seq) (pv 2) pe_int (fun _ _ => rfl)) pe_str (nomark _)) (pss_one (ps_expr (show PE _ _ (tBM K "list" _ _ _) from pe_bm PySem.F.plainAttrs_list PySem.F.slot_list_append PySem.F.type_list_append mt_append (pv 3) (pa_cons (pe_ix (show IxR _ (rIx K) from ix_seq) (pv 2) pe_int (fun _ _ => rfl)) pa_nil)))) (pss_one (ps_expr (show PE _ _ (tBM K "list" _ _ _) from pe_bm PySem.F.plainAttrs_list PySem.F.slot_list_append PySem.F.type_list_append mt_append (pv 3) (pa_cons pe_non pa_nil)))))))))
      (pss_one (ps_ret (pv 3))))), ?_⟩
    refine ⟨Nat.zero_le _, fun gl ngl => ⟨_, _, rfl, ?_⟩⟩
    have sg : Same H (upd H gl (.lst [])) := same_new ngl
    refine .inr ⟨_, rfl, t, rfl, ⟨_, .of (sg _ _ ht)⟩, for_tup (K := K) (a := t) (xs := as.map V.ref) (fun i σ H' => ∃ v2 : Option V, σ = [some (.ref t), some (.ref p), v2, some (.ref gl), some (.int (cnt ss i : Nat))] ∧ Same H H' ∧ H' gl = some (.lst (((giv ss ins).take i).map vO)))
      ⟨none, rfl, sg, upd_same⟩ (fun i σ H' _ ⟨_, _, s, _⟩ => .of (s _ _ ht)) ?_ ?_⟩
    · rintro i x σ H1 hx ⟨v2, rfl, s1, e1⟩
      obtain ⟨hi, a, rfl, hs, ha⟩ := stps_at pr hx
      have ok := P.ok i _ hs
      have h30 := P.most
      have hc := cnt_succ hi
      have tk := giv_take (ins := ins) hi
      have hinp : isIn (ss.getD i default) = true → cnt ss i < ins.length := fun z => cnt_lt I hi z
      have gv : givOf ss ins i = (match ss.getD i default with | .inn _ _ => some (ins.getD (cnt ss i) 0) | .num c => some c | .op _ _ _ => none) := rfl
      generalize ss.getD i default = s at *
      have ha1 : H1 a = some (.tup (stepV s)) := s1 _ _ ha
      have lt : (((giv ss ins).take i).map vO).length < sizeLine := by
        rw [List.length_map, List.length_take]
        exact Nat.lt_of_le_of_lt (Nat.min_le_left _ _) (small1000 (by omega))
      have fin : ∀ z : Option Int, givOf ss ins i = z → Same H (upd H1 gl (.lst (((giv ss ins).take i).map vO ++ [vO z]))) ∧ (upd H1 gl (.lst (((giv ss ins).take i).map vO ++ [vO z]))) gl = some (.lst (((giv ss ins).take (i + 1)).map vO)) := by
        rintro z rfl
        refine ⟨same_put s1 ngl, ?_⟩
        rw [upd_same, tk, List.map_append] <;> rfl
      refine ⟨_, rfl, .inr (.inl ⟨a, _, _, _, rfl, rfl, .of ha1, sw_at s, rfl, _, rfl, ?_⟩)⟩
      rw [sw_in ok]
      cases s with
      | inn lo hi' =>
        have hlt := hinp rfl
        refine iteT ⟨_, rfl, .inl ⟨rfl, _, .of e1⟩, _, rfl, _, rfl, .inr (.inl ⟨p, _, _, .int (ins.getD (cnt ss i) 0), rfl, rfl, Sx.Same.tup s1 hp, atI_nat (j := cnt ss i) ?_, gl, _, _, rfl, rfl, e1, lt, ?_⟩)⟩
        · rw [List.getElem?_map, getD_some 0 hlt]
          rfl
        · obtain ⟨f1, f2⟩ := fin _ gv
          refine ⟨_, rfl, _, 1, rfl, rfl, some (.ref a), ?_, f1, f2⟩
          rw [hc]
          rfl
      | num c =>
        refine iteF ⟨_, rfl, .inr (.inl ⟨a, _, _, _, rfl, rfl, .of ha1, sw_at _, rfl, _, rfl, ?_⟩)⟩
        rw [sw_is ok rfl]
        refine iteT ⟨_, rfl, .inl ⟨rfl, _, .of e1⟩, _, rfl, .inr (.inl ⟨a, _, _, .int c, rfl, rfl, .of ha1, atI_nat (j := 1) rfl, gl, _, _, rfl, rfl, e1, lt, ?_⟩)⟩
        obtain ⟨f1, f2⟩ := fin _ gv
        refine ⟨some (.ref a), ?_, f1, f2⟩
        rw [hc]
        rfl
      | op k a' b' =>
        refine iteF ⟨_, rfl, .inr (.inl ⟨a, _, _, _, rfl, rfl, .of ha1, sw_at _, rfl, _, rfl, ?_⟩)⟩
        rw [sw_is ok rfl]
        refine iteF ⟨_, rfl, .inl ⟨rfl, _, .of e1⟩, gl, _, _, rfl, rfl, e1, lt, ?_⟩
        obtain ⟨f1, f2⟩ := fin _ gv
        refine ⟨some (.ref a), ?_, f1, f2⟩
        rw [hc]
        rfl
    rintro σ H1 ⟨v2, rfl, s1, e1⟩
    rw [List.length_map, paired_len pr, ← giv_len ss ins, List.take_length] at e1
    exact ⟨_, rfl, q gl H1 s1 ngl e1⟩
theorem ok_reckoned (T : Txt K mg a) : FnOk P w K mg base CX0 1 a.f_reckoned a.d_reckoned ["step", "ahead"] (sp_reckoned K) := by
  refine T.reckoned.F.ok sc_reckoned (fun vs H Q E h => ?_) (fun cdv A outer s H vs Q E hr h => ?_)
  · obtain ⟨_, _, _, _, _, _, rfl, _⟩ := h
    rfl
  · have hu := hu_of hr
    obtain ⟨p, l, k, i, j, acc, rfl, hp, hl, hk, hi, hj, hb, q⟩ := h
    have g1 : (acc.map V.int)[i]? = some (.int (acc.getD i 0)) := by rw [List.getElem?_map, getD_some 0 hi]; rfl
    have g2 : (acc.map V.int)[j]? = some (.int (acc.getD j 0)) := by rw [List.getElem?_map, getD_some 0 hj]; rfl
    have b1 := hb _ (List.mem_of_getElem? (getD_some 0 hi))
    have b2 := hb _ (List.mem_of_getElem? (getD_some 0 hj))
    refine ⟨_, (pss_cons (ps_asg (pv 0) (show PG _ _ (gTup K 3 _) from pg_tup rfl (pgs_cons (pg_name (i := 2) sc_reckoned.nd rfl (by first | exact Or.inl rfl | exact Or.inr rfl)) (pgs_cons (pg_name (i := 3) sc_reckoned.nd rfl (by first | exact Or.inl rfl | exact Or.inr rfl)) (pgs_cons (pg_name (i := 4) sc_reckoned.nd rfl (by first | exact Or.inl rfl | exact Or.inr rfl)) pgs_nil)))))
      (pss_cons (ps_if (pt_cmpR op_eq (pv 2) pe_str (nomark _)) (pss_one (ps_ret (pe_op op_add (pe_ix (show IxR _ (rIx K) from ix_seq) (pv 1) (pv 3) (fun _ _ => rfl)) (pe_ix (show IxR _ (rIx K) from ix_seq) (pv 1) (pv 4) (fun _ _ => rfl))))) pss_nil)
      (pss_cons (ps_if (pt_cmpR op_eq (pv 2) pe_str (nomark _)) (pss_one (ps_ret (pe_op op_sub (pe_ix (show IxR _ (rIx K) from ix_seq) (pv 1) (pv 3) (fun _ _ => rfl)) (pe_ix (show IxR _ (rIx K) from ix_seq) (pv 1) (pv 4) (fun _ _ => rfl))))) pss_nil)
      (pss_one (ps_ret (pe_op op_mulW (pe_ix (show IxR _ (rIx K) from ix_seq) (pv 1) (pv 3) (fun _ _ => rfl)) (pe_ix (show IxR _ (rIx K) from ix_seq) (pv 1) (pv 4) (fun _ _ => rfl)))))))), ?_⟩
    refine ⟨_, rfl, p, _, rfl, .of hp, rfl, _, _, rfl, _, _, rfl, _, _, rfl, rfl, ?_⟩
    match k, hk with
    | 0, _ =>
      refine ⟨_, rfl, rfl, _, rfl, ?_⟩
      rw [show decide (V.str (opw 0) = V.str "sum") = true from decide_eq_true rfl]
      exact iteT ⟨_, rfl, _, rfl, .inl ⟨l, _, _, _, rfl, rfl, hl, atI_nat g1, _, rfl, _, rfl, .inl ⟨l, _, _, _, rfl, rfl, hl, atI_nat g2, _, _, rfl, rfl, q⟩⟩⟩
    | 1, _ =>
      refine ⟨_, rfl, rfl, _, rfl, ?_⟩
      rw [show decide (V.str (opw 1) = V.str "sum") = false from wne (by decide +kernel)]
      refine iteF ⟨_, rfl, rfl, _, rfl, ?_⟩
      rw [show decide (V.str (opw 1) = V.str "less") = true from decide_eq_true rfl]
      exact iteT ⟨_, rfl, _, rfl, .inl ⟨l, _, _, _, rfl, rfl, hl, atI_nat g1, _, rfl, _, rfl, .inl ⟨l, _, _, _, rfl, rfl, hl, atI_nat g2, _, _, rfl, rfl, q⟩⟩⟩
    | 2, _ =>
      refine ⟨_, rfl, rfl, _, rfl, ?_⟩
      rw [show decide (V.str (opw 2) = V.str "sum") = false from wne (by decide +kernel)]
      refine iteF ⟨_, rfl, rfl, _, rfl, ?_⟩
      rw [show decide (V.str (opw 2) = V.str "less") = false from wne (by decide +kernel)]
      exact iteF ⟨_, rfl, _, rfl, .inl ⟨l, _, _, _, rfl, rfl, hl, atI_nat g1, _, rfl, _, rfl, .inl ⟨l, _, _, _, rfl, rfl, hl, atI_nat g2, _, _, rfl, rfl, bnd_wide b1 b2, q⟩⟩⟩
theorem ok__law_box (T : Txt K mg a) : FnOk P w K mg base CX0 1 a.f__law_box a.d__law_box ["script"] (sp__law_box K) := by
  refine T._law_box.F.ok sc__law_box (fun vs H Q E h => ?_) (fun cdv A outer s H vs Q E hr h => ?_)
  · obtain ⟨_, _, rfl, _⟩ := h
    rfl
  · have hu := hu_of hr
    obtain ⟨s0, ns, rfl, hS, hlen, q⟩ := h
    have ecut : cutV (ns.map V.int) none (some 63) = ns.map V.int := by
      have h1 : (ns.map V.int).length ≤ 63 := by rw [List.length_map]; exact hlen
      unfold cutV
      rw [HT.sIx_none, show HT.sIx (ns.map V.int).length (ns.map V.int).length (some 63) = min 63 (ns.map V.int).length from HT.sIx_nat _ _ 63, Nat.min_eq_right h1]
      show List.take ((ns.map V.int).length - 0) (List.drop 0 (ns.map V.int)) = ns.map V.int
      rw [List.drop_zero, Nat.sub_zero, List.take_length]
    refine ⟨_, (pss_cons (ps_par (i := 2) (j := 3) (by rfl) sc__law_box.nd rfl rfl (by decide) rfl rfl (pa_cons (pe_lc (own := [("cell", 4)]) rfl sc__law_box.nd (show PI _ _ _ (iSeq K _) from pi_seq (pe_slice (show SlR _ (rSlL K) from sl_list) (pv 0) po_none (po_some pe_int))) (blkOk_by (N := ["script", "mark", "marks", "stirred", "cell"]) (sc := defScope s__law_box) (by decide +kernel)) (fun _ _ _ _ _ => (pg_name (i := 4) sc__law_box.nd rfl (by first | exact Or.inl rfl | exact Or.inr rfl))) (fun _ _ _ _ _ => pts_nil) (fun _ _ _ _ _ => (pe_op op_add (pe_op op_mul pe_int (pe_callB call_abs (by rfl) T.b_abs (by decide +kernel) (pa_cons (pv 4) pa_nil))) (pe_callTy call_int1 (by rfl) T.b_int (by decide +kernel) (pa_cons (pe_cmpR op_lt (pv 4) pe_int (nomark _)) pa_nil))))) (pa_cons (pe_op op_add pe_int (pe_callB (show CallR _ _ (rLenS K) from call_len_seq) (by rfl) T.b_len (by decide +kernel) (pa_cons (pv 0) pa_nil))) pa_nil)) (by rfl))
      (pss_cons (ps_for PassesOwn.never rfl (show PI _ _ _ (iSeq K _) from pi_seq (pv 2)) (pg_name (i := 1) sc__law_box.nd rfl (by first | exact Or.inl rfl | exact Or.inr rfl)) (pss_one (ps_set (i := 3) sc__law_box.nd rfl (by first | exact Or.inl rfl | exact Or.inr rfl) (pe_op op_modN (pe_callTy call_int1 (by rfl) T.b_int (by decide +kernel) (pa_cons (pe_op op_add (pe_op op_mul (pv 3) pe_int) (pv 1)) pa_nil)) pe_int))))
      (pss_one (ps_ret (pe_disp (pps_cons pe_str (pe_lc (own := [("mark", 1)]) rfl sc__law_box.nd (show PI _ _ _ (iSeq K _) from pi_seq (pv 2)) (blkOk_by (N := ["script", "mark", "marks", "stirred", "cell"]) (sc := defScope s__law_box) (by decide +kernel)) (fun _ _ _ _ _ => (pg_name (i := 1) sc__law_box.nd rfl (by first | exact Or.inl rfl | exact Or.inr rfl))) (fun _ _ _ _ _ => (pts_one (pt_cmpR op_gt (pv 1) (pe_op op_pow pe_int pe_int) (nomark _)))) (fun _ _ _ _ _ => (pv 1))) (pps_cons pe_str (pv 3) (pps_cons pe_str pe_int pps_nil))) (by rfl) (by rfl) (fun z => by cases z) (by decide)))))), ?_⟩
    -- marks, stirred
    refine .inl ⟨_, rfl, 63, rfl, s0, ns.map V.int, rfl, hS, fun p np => ⟨p, rfl, ⟨_, .of upd_same⟩, fun D hD => ?_⟩⟩
    rw [ecut] at hD ⊢
    have s1 : Same H (upd H p (.lst (ns.map V.int))) := same_new np
    refine lc_reckon (walk_list (xs := ns.map V.int)) (zs := ns) (List.length_map _).symm (fun _ => true) (fun m => .int (2 * (if m < 0 then -m else m) + (if decide (m < 0) then 1 else 0))) (by omega) hD (fun H1 s => .of (s _ _ upd_same)) ?_ ?_
    · rintro i m x H1 H2 hz s2 ⟨rfl, hx⟩
      rw [List.getElem?_map, hz] at hx
      obtain rfl : V.int m = x := Option.some.inj hx
      refine ⟨Same.refl _, _, fun Q q => q, rfl, fun Q q => q _ (Same.refl _), fun _ H3 Q s3 _ q => ?_⟩
      refine ⟨_, rfl, m, rfl, 2, _, rfl, rfl, .inl ⟨by decide, by decide⟩, _, rfl, m, 0, rfl, rfl, .inr ⟨_, rfl, _, _, rfl, rfl, ?_⟩⟩
      exact q _ (Same.refl _)
    intro H1 t1 e1
    rw [List.filter_eq_self.mpr (fun _ _ => rfl)] at e1
    generalize hms : (ns.map fun m : Int => 2 * (if m < 0 then -m else m) + (if decide (m < 0) then 1 else 0)) = ms
    have hml : ms.length = ns.length := by rw [← hms, List.length_map]
    have e2 : H1 D = some (.lst (ms.map V.int)) := by
      rw [e1, ← hms, List.map_map] <;> rfl
    have s3 : Same H H1 := s1.trans t1
    refine ⟨_, rfl, s0, ns.map V.int, rfl, .inl (L2.Same.seq s3 hS), _, _, rfl, rfl, _, _, rfl, ?_⟩
    -- stirred
    refine .inl ⟨_, rfl, D, rfl, ⟨_, .of e2⟩, for_list (K := K) (a := D) (xs := ms.map V.int) (fun i σ H' => ∃ (st : Int) (v : Option V), σ = [some (.ref s0), v, some (.ref D), some (.int st), none] ∧ H' = H1)
      ⟨_, none, rfl, rfl⟩ (fun i σ H' _ ⟨_, _, _, e⟩ => by rw [e]; exact .of e2) ?_ ?_⟩
    · rintro i x σ H' hx ⟨st, v, rfl, rfl⟩
      rw [List.getElem?_map] at hx
      obtain ⟨m, hm, rfl⟩ := Option.map_eq_some_iff.mp hx
      refine ⟨_, rfl, st, 69069, rfl, rfl, .inr ⟨by decide, by decide⟩, _, rfl, _, m, rfl, rfl, .inl ⟨_, rfl, _, 4294967291, rfl, rfl, (show (4294967291 : Int) ≠ 0 by decide), ?_⟩⟩
      exact ⟨_, _, rfl, rfl⟩
    rintro σ H' ⟨st, v, rfl, rfl⟩
    -- the dict
    intro b nb
    have s4 : Same H' (upd H' b (.dK [])) := same_new nb
    refine .inl ⟨_, rfl, D, rfl, ⟨_, .of (s4 _ _ e2)⟩, fun g ng => ?_⟩
    refine lc_reckon (walk_list (xs := ms.map V.int)) (zs := ms) (List.length_map _).symm (fun m => decide (10 ^ 15 < m)) V.int (by omega) ng (fun H2 s => .of (s _ _ (s4 _ _ e2))) ?_ ?_
    · rintro i m x H2 H3 hz s2 ⟨rfl, hx⟩
      rw [List.getElem?_map, hz] at hx
      obtain rfl : V.int m = x := Option.some.inj hx
      refine ⟨Same.refl _, _, fun Q q => q, rfl, fun Q q => ?_, fun _ H3 Q s3 _ q => ⟨_, rfl, q _ (Same.refl _)⟩⟩
      exact ⟨_, rfl, 10, 15, rfl, rfl, ⟨by decide, by decide, by decide⟩, m, _, rfl, rfl, _, rfl, q _ (Same.refl _)⟩
    intro H2 t2 e3
    refine ⟨_, rfl, ?_⟩
    refine ⟨t2 _ _ upd_same, boxKv g st 0, rfl, by show 3 ≤ 15; decide, ?_⟩
    have nbg : g ≠ b := (ne_of_none (upd_same (H := H') (a := b) (o := .dK [])) ng).symm
    have ng1 : H' g = none := by
      rw [upd_ne nbg] at ng
      exact ng
    refine q b g _ ⟨fun c o e => ?_, s3.free nb, s3.free ng1, ⟨ms.filter fun m => decide (10 ^ 15 < m), ?_, ?_⟩, ⟨st, 0, upd_same⟩⟩
    · have e5 := t2 _ _ (s4 _ _ (s3 _ _ e))
      rw [upd_ne (ne_of_none (s3 _ _ e) nb)]
      exact e5
    · rw [upd_ne nbg]
      exact e3
    · have := List.length_filter_le (fun m => decide ((10 : Int) ^ 15 < m)) ms
      omega
theorem ok__law_draw (T : Txt K mg a) : FnOk P w K mg base CX0 1 a.f__law_draw a.d__law_draw ["box", "many"] (sp__law_draw K) := by
  refine T._law_draw.F.ok sc__law_draw (fun vs H Q E h => ?_) (fun cdv A outer s H vs Q E hr h => ?_)
  · obtain ⟨_, _, _, _, rfl, _⟩ := h
    rfl
  · have hu := hu_of hr
    obtain ⟨H0, b, g, m, rfl, B, hm, q⟩ := h
    obtain ⟨ms, hl, hz⟩ := B.ls
    obtain ⟨st, ct, hd⟩ := B.dc
    have hm0 := hm.1
    refine ⟨_, (pss_cons (ps_set (i := 2) sc__law_draw.nd rfl (by first | exact Or.inl rfl | exact Or.inr rfl) (pe_dget hu (pv 0) pe_str (fun _ _ => rfl)))
      (pss_cons (ps_if (pt_cmpR (show OpR _ _ (rNeD K) from op_neD hr.units) (pv 2) (pe_lst pa_nil) (nomark _)) (pss_cons (ps_set (i := 5) sc__law_draw.nd rfl (by first | exact Or.inl rfl | exact Or.inr rfl) (pe_ix (show IxR _ (rIx K) from ix_seq) (pv 2) pe_int (fun _ _ => rfl)))
        (pss_cons (ps_asg (pe_op op_fdivW (pv 5) (pv 1)) (pg_sub (pv 2) pe_int set_list))
        (Evl.pss_cut (ps_if (pt_cmpR op_lt (pv 5) (pv 1) (nomark _)) (pss_one (ps_expr (show PE _ _ (tBM K "list" _ _ _) from pe_bm PySem.F.plainAttrs_list PySem.F.slot_list_pop PySem.F.type_list_pop mt_popAt (pv 2) (pa_cons pe_int pa_nil)))) pss_nil)
        (pss_one (ps_ret (pe_op op_modN (pe_callTy call_int1 (by rfl) T.b_int (by decide +kernel) (pa_cons (pv 5) pa_nil)) (pv 1))))))) pss_nil)
      (pss_cons (ps_set (i := 3) sc__law_draw.nd rfl (by first | exact Or.inl rfl | exact Or.inr rfl) (pe_op op_add (pe_dget hu (pv 0) pe_str (fun _ _ => rfl)) pe_int))
      (pss_cons (ps_dput hu (pv 0) pe_str (pv 3) rfl)
      (pss_cons (ps_set (i := 4) sc__law_draw.nd rfl (by first | exact Or.inl rfl | exact Or.inr rfl) (pe_op op_modN (pe_callTy call_int1 (by rfl) T.b_int (by decide +kernel) (pa_cons (pe_op op_add (pe_dget hu (pv 0) pe_str (fun _ _ => rfl)) (pe_op op_mul pe_int (pv 3))) pa_nil)) pe_int))
      (pss_cons (ps_set (i := 4) sc__law_draw.nd rfl (by first | exact Or.inl rfl | exact Or.inr rfl) (pe_op op_modN (pe_callTy call_int1 (by rfl) T.b_int (by decide +kernel) (pa_cons (pe_op op_add (pe_op op_add (pe_op op_mul (pv 4) (pv 4)) (pe_op op_mul pe_int (pv 3))) pe_int) pa_nil)) pe_int))
      (pss_cons (ps_set (i := 4) sc__law_draw.nd rfl (by first | exact Or.inl rfl | exact Or.inr rfl) (pe_op op_modN (pe_callTy call_int1 (by rfl) T.b_int (by decide +kernel) (pa_cons (pe_op op_add (pe_op op_mul (pv 4) (pv 4)) (pe_dget hu (pv 0) pe_str (fun _ _ => rfl))) pa_nil)) pe_int))
      (pss_one (ps_ret (pe_op op_modN (pe_callTy call_int1 (by rfl) T.b_int (by decide +kernel) (pa_cons (pe_op op_fdivW (pv 4) pe_int) pa_nil)) (pv 1))))))))))), ?_⟩
    -- great = box['great']; great != []
    refine ⟨_, rfl, b, .ref g, rfl, key_s hd rfl, ?_⟩
    refine ⟨_, rfl, Nat.zero_le _, fun p np => ?_⟩
    have B1 := B.more (same_new (o := .lst []) np)
    have hl1 : (upd H p (.lst [])) g = some (.lst (ms.map V.int)) := same_new np _ _ hl
    refine ⟨_, _, .lst (.of hl1) (dpa_ints ms), .lst (.of upd_same) .nil, shaped_ints ms, shaped_ints [], _, rfl, ?_⟩
    rw [eqv_nil_ints]
    cases ms with
    | cons k ms =>
      refine iteT ?_
      -- mark = great[0]; great[0] = mark // many
      refine ⟨_, rfl, .inl ⟨g, _, 0, .int k, rfl, rfl, .of hl1, atI_nat (j := 0) rfl, ?_⟩⟩
      refine ⟨_, rfl, _, rfl, k, m, rfl, rfl, hm, _, rfl, g, _, 0, 0, rfl, rfl, hl1, (by rw [List.map_cons, List.length_cons]; exact ixN_zero _), ?_⟩
      have B2 : Bs H0 (upd (upd H p (.lst [])) g (.lst (V.int (k / m) :: ms.map V.int))) b g := by
        refine ⟨fun c x e => ?_, B.nb, B.ng, ⟨(k / m) :: ms, upd_same, hz⟩, ⟨st, ct, ?_⟩⟩
        · rw [upd_ne (ne_of_none e B.ng)]
          exact B1.sub c x e
        · rw [upd_ne B.bg]
          exact same_new np _ _ hd
      have fin : ∀ H', Bs H0 H' b g → Q (.int (k.fmod m)) H' := fun H' B' => by
        rw [Int.fmod_eq_emod_of_nonneg k (by omega)]
        exact q _ H' (Int.emod_nonneg k (by omega)) (Int.emod_lt_of_pos k hm0) B'
      -- if mark < many: great.pop(0)
      refine ⟨fun σ H' => σ[1]? = some (some (.int m)) ∧ σ[5]? = some (some (.int k)) ∧ Bs H0 H' b g, ?_, ?_⟩
      · refine ⟨_, rfl, _, rfl, k, m, rfl, rfl, _, rfl, ?_⟩
        refine ite2 (fun _ => ?_) (fun _ => ?_)
        · refine ⟨_, rfl, .inl ⟨rfl, _, .of upd_same⟩, g, _, 0, 0, .int (k / m), rfl, rfl, upd_same, by decide, by decide, seqIx_zero _, rfl, rfl, rfl, ?_⟩
          refine ⟨fun c x e => ?_, B.nb, B.ng, ⟨ms, upd_same, ?_⟩, ⟨st, ct, ?_⟩⟩
          · rw [upd_ne (ne_of_none e B.ng)]
            exact B2.sub c x e
          · rw [List.length_cons] at hz
            omega
          · rw [upd_ne B.bg, upd_ne B.bg]
            exact same_new np _ _ hd
        · exact ⟨rfl, rfl, B2⟩
      · rintro σ H' ⟨e1, e5, B3⟩
        refine ⟨_, e5, .inl ⟨k, rfl, _, e1, k, m, rfl, rfl, by omega, ?_⟩⟩
        exact fin _ B3
    | nil =>
      refine iteF ?_
      have hd1 : (upd H p (.lst [])) b = some (.dK (boxKv g st ct)) := same_new np _ _ hd
      -- count = box['count'] + 1; box['count'] = count
      refine ⟨_, rfl, b, .int ct, rfl, key_s hd1 rfl, ct, 1, rfl, rfl, ?_⟩
      refine ⟨_, rfl, _, rfl, b, _, rfl, DPut.k (k := Sum.inr "count") hd1 (by show 3 < sizeLine; decide), ?_⟩
      have B2 : Bs H0 (upd (upd H p (.lst [])) b (.dK (boxKv g st (ct + 1)))) b g := by
        refine ⟨fun c x e => ?_, B.nb, B.ng, ⟨[], ?_, hz⟩, ⟨st, ct + 1, upd_same⟩⟩
        · rw [upd_ne (ne_of_none e B.nb)]
          exact B1.sub c x e
        · rw [upd_ne B.bg.symm]
          exact hl1
      have hd2 : (upd (upd H p (.lst [])) b (.dK (boxKv g st (ct + 1)))) b = some (.dK (boxKv g st (ct + 1))) := upd_same
      have md : ∀ x d : Int, 0 < d → x.fmod d = x % d := fun x d hx => Int.fmod_eq_emod_of_nonneg x (by omega)
      have lo : ∀ x d : Int, 0 < d → 0 ≤ x % d ∧ x % d < d := fun x d hx => ⟨Int.emod_nonneg x (by omega), Int.emod_lt_of_pos x hx⟩
      -- found, three times
      refine ⟨_, rfl, b, .int st, rfl, key_s hd2 rfl, _, rfl, 2654435761, _, rfl, rfl, .inl ⟨by decide, by decide⟩, st, _, rfl, rfl, .inl ⟨_, rfl, _, 4294967291, rfl, rfl, (show (4294967291 : Int) ≠ 0 by decide), ?_⟩⟩
      rw [show ∀ x : Int, (fun i j : Int => V.int (i.fmod j)) x 4294967291 = V.int (x % 4294967291) from fun x => congrArg V.int (md x _ (by decide))]
      obtain ⟨l1, u1⟩ := lo (st + 2654435761 * (ct + 1)) 4294967291 (by decide)
      generalize (st + 2654435761 * (ct + 1)) % 4294967291 = f1 at l1 u1 ⊢
      refine ⟨_, rfl, _, rfl, f1, f1, rfl, rfl, .inl ⟨by omega, by omega⟩, _, rfl, 40503, _, rfl, rfl, .inl ⟨by decide, by decide⟩, _, _, rfl, rfl, _, 7, rfl, rfl, .inl ⟨_, rfl, _, 4294967279, rfl, rfl, (show (4294967279 : Int) ≠ 0 by decide), ?_⟩⟩
      rw [show ∀ x : Int, (fun i j : Int => V.int (i.fmod j)) x 4294967279 = V.int (x % 4294967279) from fun x => congrArg V.int (md x _ (by decide))]
      obtain ⟨l2, u2⟩ := lo (f1 * f1 + 40503 * (ct + 1) + 7) 4294967279 (by decide)
      generalize (f1 * f1 + 40503 * (ct + 1) + 7) % 4294967279 = f2 at l2 u2 ⊢
      refine ⟨_, rfl, _, rfl, f2, f2, rfl, rfl, .inl ⟨by omega, by omega⟩, _, rfl, b, .int st, rfl, key_s hd2 rfl, _, _, rfl, rfl, .inl ⟨_, rfl, _, 4294967231, rfl, rfl, (show (4294967231 : Int) ≠ 0 by decide), ?_⟩⟩
      rw [show ∀ x : Int, (fun i j : Int => V.int (i.fmod j)) x 4294967231 = V.int (x % 4294967231) from fun x => congrArg V.int (md x _ (by decide))]
      obtain ⟨l3, u3⟩ := lo (f2 * f2 + st) 4294967231 (by decide)
      generalize (f2 * f2 + st) % 4294967231 = f3 at l3 u3 ⊢
      refine ⟨_, rfl, f3, 128, rfl, rfl, ⟨by decide, by decide⟩, .inl ⟨_, rfl, _, rfl, _, m, rfl, rfl, by omega, ?_⟩⟩
      show Q (V.int ((f3 / 128).fmod m)) _
      rw [md _ m hm0]
      exact q _ _ (lo _ m hm0).1 (lo _ m hm0).2 B2
theorem ok__law_hull (T : Txt K mg a) : FnOk P w K mg base CX0 1 a.f__law_hull a.d__law_hull ["ends", "step"] (sp__law_hull K) := by
  refine T._law_hull.F.ok sc__law_hull (fun vs H Q E h => ?_) (fun cdv A outer s H vs Q E hr h => ?_)
  · obtain ⟨_, _, _, _, rfl, _⟩ := h
    rfl
  · have hu := hu_of hr
    obtain ⟨p, l, s, E, rfl, hp, hl, hs, hb, q⟩ := h
    refine ⟨_, (pss_cons (ps_if (pt_cmpR op_eq (pe_ix (show IxR _ (rIx K) from ix_seq) (pv 1) pe_int (fun _ _ => rfl)) pe_str (nomark _)) (pss_one (ps_ret (pe_tup (pa_cons (pe_ix (show IxR _ (rIx K) from ix_seq) (pv 1) pe_int (fun _ _ => rfl)) (pa_cons (pe_ix (show IxR _ (rIx K) from ix_seq) (pv 1) pe_int (fun _ _ => rfl)) pa_nil))))) pss_nil)
      (pss_cons (ps_if (pt_cmpR op_eq (pe_ix (show IxR _ (rIx K) from ix_seq) (pv 1) pe_int (fun _ _ => rfl)) pe_str (nomark _)) (pss_one (ps_ret (pe_tup (pa_cons (pe_ix (show IxR _ (rIx K) from ix_seq) (pv 1) pe_int (fun _ _ => rfl)) (pa_cons (pe_ix (show IxR _ (rIx K) from ix_seq) (pv 1) pe_int (fun _ _ => rfl)) pa_nil))))) pss_nil)
      (pss_cons (ps_asg (pe_tup (pa_cons (pe_ix (show IxR _ (rIx K) from ix_seq) (pv 0) (pe_ix (show IxR _ (rIx K) from ix_seq) (pv 1) pe_int (fun _ _ => rfl)) (fun _ _ => rfl)) (pa_cons (pe_ix (show IxR _ (rIx K) from ix_seq) (pv 0) (pe_ix (show IxR _ (rIx K) from ix_seq) (pv 1) pe_int (fun _ _ => rfl)) (fun _ _ => rfl)) pa_nil))) (show PG _ _ (gTup K 2 _) from pg_tup rfl (pgs_cons (show PG _ _ (gTup K 2 _) from pg_tup rfl (pgs_cons (pg_name (i := 3) sc__law_hull.nd rfl (by first | exact Or.inl rfl | exact Or.inr rfl)) (pgs_cons (pg_name (i := 4) sc__law_hull.nd rfl (by first | exact Or.inl rfl | exact Or.inr rfl)) pgs_nil))) (pgs_cons (show PG _ _ (gTup K 2 _) from pg_tup rfl (pgs_cons (pg_name (i := 5) sc__law_hull.nd rfl (by first | exact Or.inl rfl | exact Or.inr rfl)) (pgs_cons (pg_name (i := 6) sc__law_hull.nd rfl (by first | exact Or.inl rfl | exact Or.inr rfl)) pgs_nil))) pgs_nil))))
      (pss_cons (ps_if (pt_cmpR op_eq (pe_ix (show IxR _ (rIx K) from ix_seq) (pv 1) pe_int (fun _ _ => rfl)) pe_str (nomark _)) (pss_one (ps_ret (pe_tup (pa_cons (pe_op op_add (pv 3) (pv 5)) (pa_cons (pe_op op_add (pv 4) (pv 6)) pa_nil))))) pss_nil)
      (pss_cons (ps_if (pt_cmpR op_eq (pe_ix (show IxR _ (rIx K) from ix_seq) (pv 1) pe_int (fun _ _ => rfl)) pe_str (nomark _)) (pss_one (ps_ret (pe_tup (pa_cons (pe_op op_sub (pv 3) (pv 6)) (pa_cons (pe_op op_sub (pv 4) (pv 5)) pa_nil))))) pss_nil)
      (pss_cons (ps_set (i := 2) sc__law_hull.nd rfl (by first | exact Or.inl rfl | exact Or.inr rfl) (pe_lst (pa_cons (pe_op op_mulW (pv 3) (pv 5)) (pa_cons (pe_op op_mulW (pv 3) (pv 6)) (pa_cons (pe_op op_mulW (pv 4) (pv 5)) (pa_cons (pe_op op_mulW (pv 4) (pv 6)) pa_nil))))))
      (pss_one (ps_ret (pe_tup (pa_cons (pe_callB (show CallR _ _ (rMin K) from cr_min rfl) (by rfl) T.b_min (by decide +kernel) (pa_cons (pv 2) pa_nil)) (pa_cons (pe_callB (show CallR _ _ (rMax K) from cr_max rfl) (by rfl) T.b_max (by decide +kernel) (pa_cons (pv 2) pa_nil)) pa_nil))))))))))), ?_⟩
    cases s with
    | inn lo hi =>
      have h0 : atI (stepV (.inn lo hi)) 0 = some (.str "in") := atI_nat (j := 0) rfl
      refine ⟨_, rfl, .inr (.inl ⟨p, _, _, _, rfl, rfl, .of hp, h0, rfl, _, rfl, ?_⟩)⟩
      rw [decide_eq_true rfl]
      have h1 : atI (stepV (.inn lo hi)) 1 = some (.int lo) := atI_nat (j := 1) rfl
      have h2 : atI (stepV (.inn lo hi)) 2 = some (.int hi) := atI_nat (j := 2) rfl
      refine iteT ⟨_, rfl, .inr (.inl ⟨p, _, _, _, rfl, rfl, .of hp, h1, _, rfl, .inr (.inl ⟨p, _, _, _, rfl, rfl, .of hp, h2, by show 2 ≤ sizeLine; decide, fun a na => ?_⟩)⟩)⟩
      exact q a _ (same_new na) na upd_same
    | num c =>
      have h0 : atI (stepV (.num c)) 0 = some (.str "is") := atI_nat (j := 0) rfl
      have h1 : atI (stepV (.num c)) 1 = some (.int c) := atI_nat (j := 1) rfl
      refine ⟨_, rfl, .inr (.inl ⟨p, _, _, _, rfl, rfl, .of hp, h0, rfl, _, rfl, ?_⟩)⟩
      rw [wne (by decide +kernel)]
      refine iteF ?_
      refine ⟨_, rfl, .inr (.inl ⟨p, _, _, _, rfl, rfl, .of hp, h0, rfl, _, rfl, ?_⟩)⟩
      rw [decide_eq_true rfl]
      refine iteT ⟨_, rfl, .inr (.inl ⟨p, _, _, _, rfl, rfl, .of hp, h1, _, rfl, .inr (.inl ⟨p, _, _, _, rfl, rfl, .of hp, h1, by show 2 ≤ sizeLine; decide, fun a na => ?_⟩)⟩)⟩
      exact q a _ (same_new na) na upd_same
    | op k i j =>
      obtain ⟨hk, hi, hj⟩ := hs
      have h0 : atI (stepV (.op k i j)) 0 = some (.str (opw k)) := atI_nat (j := 0) rfl
      have h1 : atI (stepV (.op k i j)) 1 = some (.int (i : Nat)) := atI_nat (j := 1) rfl
      have h2 : atI (stepV (.op k i j)) 2 = some (.int (j : Nat)) := atI_nat (j := 2) rfl
      have w1 : decide (V.str (opw k) = V.str "in") = false := by
        match k, hk with
        | 0, _ => exact wne (by decide +kernel)
        | 1, _ => exact wne (by decide +kernel)
        | 2, _ => exact wne (by decide +kernel)
      have w2 : decide (V.str (opw k) = V.str "is") = false := by
        match k, hk with
        | 0, _ => exact wne (by decide +kernel)
        | 1, _ => exact wne (by decide +kernel)
        | 2, _ => exact wne (by decide +kernel)
      refine ⟨_, rfl, .inr (.inl ⟨p, _, _, _, rfl, rfl, .of hp, h0, rfl, _, rfl, ?_⟩)⟩
      rw [w1]
      refine iteF ⟨_, rfl, .inr (.inl ⟨p, _, _, _, rfl, rfl, .of hp, h0, rfl, _, rfl, ?_⟩)⟩
      rw [w2]
      refine iteF ?_
      -- (a, b), (c, d)
      obtain ⟨as, a1, el, ei, e1, m1⟩ := hl_at hl hi
      obtain ⟨as', a2, el', ej, e2, m2⟩ := hl_at hl hj
      have hb1 := hb _ m1
      have hb2 := hb _ m2
      generalize hE1 : E.getD i (0, 0) = x at *
      generalize hE2 : E.getD j (0, 0) = y at *
      obtain ⟨a, b⟩ := x
      obtain ⟨c, d⟩ := y
      refine ⟨_, rfl, _, rfl, .inr (.inl ⟨p, _, _, _, rfl, rfl, .of hp, h1, .inl ⟨l, _, _, _, rfl, rfl, .of el, atI_nat ei, ?_⟩⟩)⟩
      refine ⟨_, rfl, _, rfl, .inr (.inl ⟨p, _, _, _, rfl, rfl, .of hp, h2, .inl ⟨l, _, _, _, rfl, rfl, .of el', atI_nat ej, ?_⟩⟩)⟩
      refine ⟨by show 2 ≤ sizeLine; decide, fun t nt => ?_⟩
      have s1 : Same H (upd H t (.tup [.ref a1, .ref a2])) := same_new nt
      refine ⟨t, _, rfl, .of upd_same, rfl, _, _, rfl, ⟨a1, _, rfl, .of (s1 _ _ e1), rfl, _, _, rfl, _, _, rfl, rfl, ?_⟩⟩
      refine ⟨_, _, rfl, ⟨a2, _, rfl, .of (s1 _ _ e2), rfl, _, _, rfl, _, _, rfl, rfl, rfl, ?_⟩⟩
      have s1' := s1
      generalize upd H t (.tup [.ref a1, .ref a2]) = H1 at s1 ⊢
      have hp1 : H1 p = some (.tup (stepV (.op k i j))) := s1 _ _ hp
      have fin : ∀ (H2 : Hp) (v : Addr) (e : Int × Int), Same H1 H2 → H2 v = none → e = hullOp k (a, b) (c, d) → Q (.ref v) (upd H2 v (.tup [.int e.1, .int e.2])) := fun H2 v e s2 nv he => by
        have s3 : Same H2 (upd H2 v (.tup [.int e.1, .int e.2])) := same_new nv
        refine q v _ ((s1.trans s2).trans s3) ((s1.trans s2).free nv) ?_
        show (upd H2 v (.tup [.int e.1, .int e.2])) v = some (.tup [.int (hullOp k (E.getD i (0, 0)) (E.getD j (0, 0))).1, .int (hullOp k (E.getD i (0, 0)) (E.getD j (0, 0))).2])
        rw [hE1, hE2, ← he]
        exact upd_same
      match k, hk with
      | 0, _ =>
        refine ⟨_, rfl, .inr (.inl ⟨p, _, _, _, rfl, rfl, .of hp1, h0, rfl, _, rfl, ?_⟩)⟩
        rw [show decide (V.str (opw 0) = V.str "sum") = true from decide_eq_true rfl]
        refine iteT ⟨_, rfl, _, rfl, _, _, rfl, rfl, _, rfl, _, rfl, _, _, rfl, rfl, by show 2 ≤ sizeLine; decide, fun v nv => ?_⟩
        exact fin H1 v (a + c, b + d) (Same.refl _) nv rfl
      | 1, _ =>
        refine ⟨_, rfl, .inr (.inl ⟨p, _, _, _, rfl, rfl, .of hp1, h0, rfl, _, rfl, ?_⟩)⟩
        rw [show decide (V.str (opw 1) = V.str "sum") = false from wne (by decide +kernel)]
        refine iteF ⟨_, rfl, .inr (.inl ⟨p, _, _, _, rfl, rfl, .of hp1, h0, rfl, _, rfl, ?_⟩)⟩
        rw [show decide (V.str (opw 1) = V.str "less") = true from decide_eq_true rfl]
        refine iteT ⟨_, rfl, _, rfl, _, _, rfl, rfl, _, rfl, _, rfl, _, _, rfl, rfl, by show 2 ≤ sizeLine; decide, fun v nv => ?_⟩
        exact fin H1 v (a - d, b - c) (Same.refl _) nv rfl
      | 2, _ =>
        refine ⟨_, rfl, .inr (.inl ⟨p, _, _, _, rfl, rfl, .of hp1, h0, rfl, _, rfl, ?_⟩)⟩
        rw [show decide (V.str (opw 2) = V.str "sum") = false from wne (by decide +kernel)]
        refine iteF ⟨_, rfl, .inr (.inl ⟨p, _, _, _, rfl, rfl, .of hp1, h0, rfl, _, rfl, ?_⟩)⟩
        rw [show decide (V.str (opw 2) = V.str "less") = false from wne (by decide +kernel)]
        refine iteF ?_
        have ba : a.natAbs ≤ 10 ^ 120 := hb1.1
        have bb : b.natAbs ≤ 10 ^ 120 := hb1.2
        have bc : c.natAbs ≤ 10 ^ 120 := hb2.1
        have bd : d.natAbs ≤ 10 ^ 120 := hb2.2
        refine ⟨_, rfl, _, rfl, a, c, rfl, rfl, bnd_wide ba bc, _, rfl, _, rfl, a, d, rfl, rfl, bnd_wide ba bd, _, rfl, _, rfl, b, c, rfl, rfl, bnd_wide bb bc, _, rfl, _, rfl, b, d, rfl, rfl, bnd_wide bb bd, by show 4 ≤ sizeLine; decide, fun u nu => ?_⟩
        have s2 : Same H1 (upd H1 u (.lst [.int (a * c), .int (a * d), .int (b * c), .int (b * d)])) := same_new nu
        have hu' : (upd H1 u (.lst [.int (a * c), .int (a * d), .int (b * c), .int (b * d)])) u = some (.lst ([a * c, a * d, b * c, b * d].map V.int)) := upd_same
        generalize upd H1 u (.lst [.int (a * c), .int (a * d), .int (b * c), .int (b * d)]) = H2 at s2 hu' ⊢
        refine ⟨_, rfl, u, _, rfl, .of hu', Nat.zero_lt_succ _, fun m hm hl => ⟨_, rfl, u, _, rfl, .of hu', Nat.zero_lt_succ _, fun m' hm' hl' => ⟨by show 2 ≤ sizeLine; decide, fun v nv => ?_⟩⟩⟩
        rw [min4_of hm hl, max4_of hm' hl']
        exact fin H2 v (min4 (a * c) (a * d) (b * c) (b * d), max4 (a * c) (a * d) (b * c) (b * d)) s2 nv rfl
theorem ok__law_values (T : Txt K mg a) : FnOk P w K mg base CX0 1 a.f__law_values a.d__law_values ["program", "inputs"] (sp__law_values K) := by
  refine T._law_values.F.ok sc__law_values (fun vs H Q E h => ?_) (fun cdv A outer s H vs Q E hr h => ?_)
  · obtain ⟨_, _, _, _, rfl, _⟩ := h
    rfl
  · have hu := hu_of hr
    obtain ⟨t, p, ss, ins, rfl, ⟨as, ht, pr⟩, hp, P, I, q⟩ := h
    have h30 := P.most
    refine ⟨_, (pss_cons (ps_par (i := 3) (j := 4) (by rfl) sc__law_values.nd rfl rfl (by decide) rfl rfl (pa_cons (pe_lst pa_nil) (pa_cons (pe_callTy (show CallR _ _ (rListS K) from call_list_of) (by rfl) T.b_list (by decide +kernel) (pa_cons (pv 1) pa_nil)) pa_nil)) (by rfl))
      (pss_cons (ps_for PassesOwn.never rfl (show PI _ _ _ (iSeq K _) from pi_seq (pv 0)) (pg_name (i := 2) sc__law_values.nd rfl (by first | exact Or.inl rfl | exact Or.inr rfl)) (pss_one (ps_if (pt_cmpR op_eq (pe_ix (show IxR _ (rIx K) from ix_seq) (pv 2) pe_int (fun _ _ => rfl)) pe_str (nomark _)) (pss_one (ps_expr (show PE _ _ (tBM K "list" _ _ _) from pe_bm PySem.F.plainAttrs_list PySem.F.slot_list_append PySem.F.type_list_append mt_append (pv 3) (pa_cons (show PE _ _ (tBM K "list" _ _ _) from pe_bm PySem.F.plainAttrs_list PySem.F.slot_list_pop PySem.F.type_list_pop mt_popAt (pv 4) (pa_cons pe_int pa_nil)) pa_nil)))) (pss_one (ps_if (pt_cmpR op_eq (pe_ix (show IxR _ (rIx K) from ix_seq) (pv 2) pe_int (fun _ _ => rfl)) pe_str (nomark _)) (pss_one (ps_expr (show PE _ _ (tBM K "list" _ _ _) from pe_bm PySem.F.plainAttrs_list PySem.F.slot_list_append PySem.F.type_list_append mt_append (pv 3) (pa_cons (pe_ix (show IxR _ (rIx K) from ix_seq) (pv 2) pe_int (fun _ _ => rfl)) pa_nil)))) (pss_cons (ps_par (i := 5) (j := 6) (by rfl) sc__law_values.nd rfl rfl (by decide) rfl rfl (pa_cons (pe_ix (show IxR _ (rIx K) from ix_seq) (pv 3) (pe_ix (show IxR _ (rIx K) from ix_seq) (pv 2) pe_int (fun _ _ => rfl)) (fun _ _ => rfl)) (pa_cons (pe_ix (show IxR _ (rIx K) from ix_seq) (pv 3) (pe_ix (show IxR _ (rIx K) from ix_seq) (pv 2) pe_int (fun _ _ => rfl)) (fun _ _ => rfl)) pa_nil)) (by rfl))
            (pss_one (ps_expr (show PE _ _ (tBM K "list" _ _ _) from pe_bm PySem.F.plainAttrs_list PySem.F.slot_list_append PySem.F.type_list_append mt_append (pv 3) (pa_cons (pe_dget hu (pe_disp (pps_cons pe_str (pe_op op_add (pv 5) (pv 6)) (pps_cons pe_str (pe_op op_sub (pv 5) (pv 6)) (pps_cons pe_str (pe_op op_mulW (pv 5) (pv 6)) pps_nil))) (by rfl) (by rfl) (fun z => by cases z) (by decide)) (pe_ix (show IxR _ (rIx K) from ix_seq) (pv 2) pe_int (fun _ _ => rfl)) (fun _ _ => rfl)) pa_nil))))))))))
      (pss_one (ps_ret (pv 3))))), ?_⟩
    refine ⟨Nat.zero_le _, fun fl nfl => ?_⟩
    have sf : Same H (upd H fl (.lst [])) := same_new nfl
    refine ⟨_, rfl, p, _, rfl, .inr (Sx.Same.tup sf hp), fun ll nll => ⟨_, _, rfl, ?_⟩⟩
    have sl : Same (upd H fl (.lst [])) (upd (upd H fl (.lst [])) ll (.lst (ins.map V.int))) := same_new nll
    have fne : fl ≠ ll := ne_of_none (upd_same (H := H) (a := fl) (o := .lst [])) nll
    have nll0 : H ll = none := sf.free nll
    refine .inr ⟨_, rfl, t, rfl, ⟨_, .of (sl _ _ (sf _ _ ht))⟩, for_tup (K := K) (a := t) (xs := as.map V.ref) (fun i σ H' => ∃ v2 v5 v6 : Option V, σ = [some (.ref t), some (.ref p), v2, some (.ref fl), some (.ref ll), v5, v6] ∧ Same H H' ∧ H' fl = some (.lst ((valsN ss ins i).map V.int)) ∧ H' ll = some (.lst ((ins.drop (cnt ss i)).map V.int)))
      ⟨none, none, none, rfl, sf.trans sl, sl _ _ upd_same, upd_same⟩ (fun i σ H' _ ⟨_, _, _, _, s, _⟩ => .of (s _ _ ht)) ?_ ?_⟩
    · rintro i x σ H1 hx ⟨v2, v5, v6, rfl, s1, e1, e2⟩
      obtain ⟨hi, a, rfl, hs, ha⟩ := stps_at pr hx
      have ok := P.ok i _ hs
      have hc := cnt_succ hi
      have hinp : isIn (ss.getD i default) = true → cnt ss i < ins.length := fun z => cnt_lt I hi z
      have vlen := valsN_len ss ins i
      have step : valsN ss ins (i + 1) = valsN ss ins i ++ [valOf (valsN ss ins i) (givOf ss ins i) (ss.getD i default)] := rfl
      have gv : givOf ss ins i = (match ss.getD i default with | .inn _ _ => some (ins.getD (cnt ss i) 0) | .num c => some c | .op _ _ _ => none) := rfl
      have bnd : ∀ z ∈ valsN ss ins i, z.natAbs ≤ 10 ^ 120 := fun z hz => by
        obtain ⟨j, hj, rfl⟩ := mem_getD 0 hz
        rw [valsN_len] at hj
        exact vals_bnd P I (by omega) hj
      generalize ss.getD i default = s at *
      have ha1 : H1 a = some (.tup (stepV s)) := s1 _ _ ha
      have lt : ((valsN ss ins i).map V.int).length < sizeLine := by
        rw [List.length_map, vlen]
        exact small1000 (by omega)
      -- what an append leaves
      have fin : ∀ (H2 : Hp) (z : Int), Same H H2 → H2 fl = some (.lst ((valsN ss ins i).map V.int)) → valOf (valsN ss ins i) (givOf ss ins i) s = z → Same H (upd H2 fl (.lst ((valsN ss ins i).map V.int ++ [.int z]))) ∧ (upd H2 fl (.lst ((valsN ss ins i).map V.int ++ [.int z]))) fl = some (.lst ((valsN ss ins (i + 1)).map V.int)) := by
        rintro H2 z s2 _ rfl
        refine ⟨same_put s2 nfl, ?_⟩
        rw [upd_same, step, List.map_append] <;> rfl
      refine ⟨_, rfl, .inr (.inl ⟨a, _, _, _, rfl, rfl, .of ha1, sw_at s, rfl, _, rfl, ?_⟩)⟩
      rw [sw_in ok]
      cases s with
      | inn lo hi' =>
        have hlt := hinp rfl
        have ed : ins.drop (cnt ss i) = ins.getD (cnt ss i) 0 :: ins.drop (cnt ss i + 1) := by
          rw [List.drop_eq_getElem_cons hlt]
          congr 1
          rw [List.getD_eq_getElem?_getD, List.getElem?_eq_getElem hlt] <;> rfl
        rw [ed] at e2
        refine iteT ⟨_, rfl, .inl ⟨rfl, _, .of e1⟩, _, rfl, .inl ⟨rfl, _, .of e2⟩, ll, _, 0, 0, .int (ins.getD (cnt ss i) 0), rfl, rfl, e2, by decide, by decide, seqIx_zero _, rfl, ?_⟩
        have s2 : Same H (upd H1 ll (.lst ((ins.drop (cnt ss i + 1)).map V.int))) := same_put s1 nll0
        have e1' : (upd H1 ll (.lst ((ins.drop (cnt ss i + 1)).map V.int))) fl = some (.lst ((valsN ss ins i).map V.int)) := by
          rw [upd_ne fne]
          exact e1
        obtain ⟨f1, f2⟩ := fin _ _ s2 e1' (by rw [gv] <;> rfl)
        refine ⟨fl, _, _, rfl, rfl, e1', lt, some (.ref a), _, _, rfl, f1, f2, ?_⟩
        rw [upd_ne (Ne.symm fne), upd_same, hc]
        rfl
      | num c =>
        refine iteF ⟨_, rfl, .inr (.inl ⟨a, _, _, _, rfl, rfl, .of ha1, sw_at _, rfl, _, rfl, ?_⟩)⟩
        rw [sw_is ok rfl]
        obtain ⟨f1, f2⟩ := fin H1 c s1 e1 (by rw [gv] <;> rfl)
        refine iteT ⟨_, rfl, .inl ⟨rfl, _, .of e1⟩, _, rfl, .inr (.inl ⟨a, _, _, .int c, rfl, rfl, .of ha1, atI_nat (j := 1) rfl, fl, _, _, rfl, rfl, e1, lt, some (.ref a), _, _, rfl, f1, f2, ?_⟩)⟩
        rw [upd_ne (Ne.symm fne), hc]
        exact e2
      | op k a' b' =>
        obtain ⟨hk, h1, h2⟩ := ok
        refine iteF ⟨_, rfl, .inr (.inl ⟨a, _, _, _, rfl, rfl, .of ha1, sw_at _, rfl, _, rfl, ?_⟩)⟩
        rw [sw_is (n := i) (s := .op k a' b') ⟨hk, h1, h2⟩ rfl]
        have g1 : ((valsN ss ins i).map V.int)[a']? = some (.int ((valsN ss ins i).getD a' 0)) := by rw [List.getElem?_map, getD_some 0 (by omega)]; rfl
        have g2 : ((valsN ss ins i).map V.int)[b']? = some (.int ((valsN ss ins i).getD b' 0)) := by rw [List.getElem?_map, getD_some 0 (by omega)]; rfl
        have b1 := bnd _ (List.mem_of_getElem? (getD_some 0 (show a' < _ by omega)))
        have b2 := bnd _ (List.mem_of_getElem? (getD_some 0 (show b' < _ by omega)))
        generalize hx1 : (valsN ss ins i).getD a' 0 = x1 at g1 b1
        generalize hx2 : (valsN ss ins i).getD b' 0 = x2 at g2 b2
        have ev : valOf (valsN ss ins i) (givOf ss ins i) (.op k a' b') = op3 k x1 x2 := by
          rw [gv, ← hx1, ← hx2] <;> rfl
        refine iteF ⟨_, rfl, _, rfl, .inr (.inl ⟨a, _, _, .int (a' : Nat), rfl, rfl, .of ha1, atI_nat (j := 1) rfl, .inl ⟨fl, _, _, _, rfl, rfl, .of e1, atI_nat g1, _, rfl, _, rfl, .inr (.inl ⟨a, _, _, .int (b' : Nat), rfl, rfl, .of ha1, atI_nat (j := 2) rfl, .inl ⟨fl, _, _, _, rfl, rfl, .of e1, atI_nat g2, _, _, rfl, ?_⟩⟩)⟩⟩)⟩
        -- the dict of three
        refine ⟨_, rfl, .inl ⟨rfl, _, .of e1⟩, fun d nd => ?_⟩
        have sd : Same H1 (upd H1 d (.dK [])) := same_new nd
        refine ⟨_, rfl, _, rfl, x1, x2, rfl, rfl, _, rfl, _, rfl, x1, x2, rfl, rfl, _, rfl, _, rfl, x1, x2, rfl, rfl, bnd_wide b1 b2, upd_same, opKv x1 x2, rfl, by show 3 ≤ 15; decide, ?_⟩
        have sD : Same H1 (upd (upd H1 d (.dK [])) d (.dK (mergeK [] (opKv x1 x2)))) := same_put sd nd
        have hD : (upd (upd H1 d (.dK [])) d (.dK (mergeK [] (opKv x1 x2)))) d = some (.dK (opKv x1 x2)) := upd_same
        generalize upd (upd H1 d (.dK [])) d (.dK (mergeK [] (opKv x1 x2))) = H2 at sD hD ⊢
        have key := opKv_at hk x1 x2
        obtain ⟨f1, f2⟩ := fin H2 _ (s1.trans sD) (sD _ _ e1) ev
        refine ⟨_, rfl, .inr (.inl ⟨a, _, _, _, rfl, rfl, .of (sD _ _ ha1), sw_at _, d, _, rfl, key_s hD key, fl, _, _, rfl, rfl, sD _ _ e1, lt, some (.ref a), _, _, rfl, f1, f2, ?_⟩)⟩
        rw [upd_ne (Ne.symm fne), hc]
        exact sD _ _ e2
    rintro σ H1 ⟨v2, v5, v6, rfl, s1, e1, e2⟩
    rw [List.length_map, paired_len pr] at e1
    exact ⟨_, rfl, q fl H1 s1 nfl e1⟩
theorem ok__law_all_inputs (T : Txt K mg a) : FnOk P w K mg base CX0 1 a.f__law_all_inputs a.d__law_all_inputs ["program"] (sp__law_all_inputs K) := by
  refine T._law_all_inputs.F.ok sc__law_all_inputs (fun vs H Q E h => ?_) (fun cdv A outer s H vs Q E hr h => ?_)
  · obtain ⟨_, _, rfl, _⟩ := h
    rfl
  · have hu := hu_of hr
    obtain ⟨t, ss, rfl, ⟨as, ht, pr⟩, Y, q⟩ := h
    refine ⟨_, (pss_cons (ps_set (i := 1) sc__law_all_inputs.nd rfl (by first | exact Or.inl rfl | exact Or.inr rfl) (pe_lst (pa_cons (pe_tup pa_nil) pa_nil)))
      (pss_cons (ps_for PassesOwn.never rfl (show PI _ _ _ (iSeq K _) from pi_seq (pv 0)) (pg_name (i := 2) sc__law_all_inputs.nd rfl (by first | exact Or.inl rfl | exact Or.inr rfl)) (pss_cons (ps_set (i := 3) sc__law_all_inputs.nd rfl (by first | exact Or.inl rfl | exact Or.inr rfl) (pe_lst pa_nil))
        (pss_cons (ps_for PassesOwn.never rfl (show PI _ _ _ (iSeq K _) from pi_seq (pe_cut (pe_ifExp (pt_cmpR op_eq (pe_ix (show IxR _ (rIx K) from ix_seq) (pv 2) pe_int (fun _ _ => rfl)) pe_str (nomark _)) (pe_listRg rfl (by rfl) T.b_list (prg_2 (by rfl) T.b_range (pe_ix (show IxR _ (rIx K) from ix_seq) (pv 2) pe_int (fun _ _ => rfl)) (pe_op op_add (pe_ix (show IxR _ (rIx K) from ix_seq) (pv 2) pe_int (fun _ _ => rfl)) pe_int))) (pe_lst pa_nil)))) (pg_name (i := 4) sc__law_all_inputs.nd rfl (by first | exact Or.inl rfl | exact Or.inr rfl)) (pss_one (ps_set (i := 3) sc__law_all_inputs.nd rfl (by first | exact Or.inl rfl | exact Or.inr rfl) (pe_op (show OpR _ _ rCat from op_cat) (pv 3) (pe_lc (own := [("own", 5)]) rfl sc__law_all_inputs.nd (show PI _ _ _ (iSeq K _) from pi_seq (pv 1)) (blkOk_by (N := ["program", "found", "step", "longer", "number", "own"]) (sc := defScope s__law_all_inputs) (by decide +kernel)) (fun _ _ _ _ _ => (pg_name (i := 5) sc__law_all_inputs.nd rfl (by first | exact Or.inl rfl | exact Or.inr rfl))) (fun _ _ _ _ _ => pts_nil) (fun _ _ _ _ _ => (pe_op (show OpR _ _ (rCatA K) from op_catA) (pv 5) (pe_tup (pa_cons (pv 4) pa_nil)))))))))
        (pss_one (ps_set (i := 1) sc__law_all_inputs.nd rfl (by first | exact Or.inl rfl | exact Or.inr rfl) (pe_cut (pe_ifExp (pt_cmpR op_eq (pe_ix (show IxR _ (rIx K) from ix_seq) (pv 2) pe_int (fun _ _ => rfl)) pe_str (nomark _)) (pv 3) (pv 1))))))))
      (pss_one (ps_ret (pv 1))))), ?_⟩
    refine ⟨Nat.zero_le _, fun e0 ne0 => ⟨by show 1 ≤ sizeLine; decide, fun fl nfl => ?_⟩⟩
    have s0 : Same H (upd H e0 (.tup [])) := same_new ne0
    have s1 : Same (upd H e0 (.tup [])) (upd (upd H e0 (.tup [])) fl (.lst [V.ref e0])) := same_new nfl
    refine .inr ⟨_, rfl, t, rfl, ⟨_, .of ((s0.trans s1) _ _ ht)⟩, for_tup (K := K) (a := t) (xs := as.map V.ref) (fun i σ H' => ∃ (v2 v3 v4 : Option V) (fl : Addr) (ls : List Addr), σ = [some (.ref t), some (.ref fl), v2, v3, v4, none] ∧ Same H H' ∧ H fl = none ∧ H' fl = some (.lst (ls.map V.ref)) ∧ Paired (TupAt K H') ls (allN ss i))
      ⟨none, none, none, fl, [e0], rfl, s0.trans s1, s0.free nfl, upd_same, .cons (.of (s1 _ _ upd_same)) .nil⟩ (fun i σ H' _ ⟨_, _, _, _, _, _, s, _⟩ => .of (s _ _ ht)) ?_ ?_⟩
    · rintro i x σ H1 hx ⟨v2, v3, v4, f1, ls, rfl, sA, nf1, e1, p1⟩
      obtain ⟨hi, a, rfl, hs, ha⟩ := stps_at pr hx
      have ok := Y.ok i _ hs
      have near := Y.near i
      have hlen : ∀ ns ∈ allN ss i, ns.length ≤ 1000 := fun ns h => by
        have h1 := allN_item i ns h
        have h2 := Y.most
        omega
      have small := allN_small Y (show i ≤ ss.length by omega)
      have step : allN ss (i + 1) = allStep (allN ss i) (ss.getD i default) := rfl
      generalize ss.getD i default = s at *
      generalize allN ss i = L at *
      have ha1 : H1 a = some (.tup (stepV s)) := sA _ _ ha
      refine ⟨Nat.zero_le _, fun l1 nl1 => ?_⟩
      have sB : Same H1 (upd H1 l1 (.lst [])) := same_new nl1
      have nl0 : H l1 = none := sA.free nl1
      generalize hH2 : upd H1 l1 (.lst []) = H2 at sB
      have e2 : H2 l1 = some (.lst []) := by
        rw [← hH2]
        exact upd_same
      refine .inl ⟨fun v H' => ∃ pl, v = .ref pl ∧ Same H2 H' ∧ H' pl = some (.lst ((numsOf s).map V.int)), ⟨_, rfl, .inr (.inl ⟨a, _, _, _, rfl, rfl, .of (sB _ _ ha1), sw_at s, rfl, _, rfl, ?_⟩)⟩, ?_⟩
      · rw [sw_in ok]
        cases s with
        | inn lo hi' =>
          obtain ⟨n1, n2, n3, n4⟩ := near lo hi' hs
          have ha2 : H2 a = some (.tup [.str "in", .int lo, .int hi']) := sB _ _ ha1
          refine iteT ⟨_, rfl, .inr (.inl ⟨a, _, _, _, rfl, rfl, .of ha2, atI_nat (j := 1) rfl, _, rfl, .inr (.inl ⟨a, _, _, _, rfl, rfl, .of ha2, atI_nat (j := 2) rfl, _, _, rfl, rfl, lo, hi' + 1, rfl, rfl, ⟨by omega, by omega, by omega, by omega, by omega⟩, fun pl npl => ?_⟩)⟩)⟩
          rw [rgV_rg]
          exact ⟨pl, rfl, same_new npl, upd_same⟩
        | num c => exact iteF ⟨Nat.zero_le _, fun pl npl => ⟨pl, rfl, same_new npl, upd_same⟩⟩
        | op k a' b' => exact iteF ⟨Nat.zero_le _, fun pl npl => ⟨pl, rfl, same_new npl, upd_same⟩⟩
      · rintro v H3 ⟨pl, rfl, sC, e3⟩
        have sD : Same H1 H3 := sB.trans sC
        have zsm : (numsOf s).length ≤ 5 := by
          cases s with
          | inn lo hi' =>
            obtain ⟨n1, n2, n3, n4⟩ := near lo hi' hs
            show (rg lo hi').length ≤ 5
            rw [rg_len]
            omega
          | num c => exact Nat.zero_le _
          | op k a' b' => exact Nat.zero_le _
        have out : isIn s = true → allStep L s = grow L (numsOf s) := by
          intro h
          cases s with
          | inn lo hi' => rfl
          | num c => exact nomatch h
          | op k a' b' => exact nomatch h
        have out2 : isIn s = false → allStep L s = L := by
          intro h
          cases s with
          | inn lo hi' => exact nomatch h
          | num c => rfl
          | op k a' b' => rfl
        generalize numsOf s = zs at *
        refine ⟨pl, rfl, ⟨_, .of e3⟩, for_list (K := K) (a := pl) (xs := zs.map V.int) (fun k σ H' => ∃ (v4 : Option V) (l1 : Addr) (gs : List Addr), σ = [some (.ref t), some (.ref f1), some (.ref a), some (.ref l1), v4, none] ∧ Same H3 H' ∧ H l1 = none ∧ H' l1 = some (.lst (gs.map V.ref)) ∧ Paired (TupAt K H') gs (grow L (zs.take k)))
          ⟨v4, l1, [], rfl, Same.refl _, nl0, sC _ _ e2, .nil⟩ (fun k σ H' _ ⟨_, _, _, _, s, _⟩ => .of (s _ _ e3)) ?_ ?_⟩
        · rintro k x σ H4 hx ⟨v4', l2, gs, rfl, sE, nl2, e4, p4⟩
          rw [List.getElem?_map] at hx
          obtain ⟨z, hz, rfl⟩ := Option.map_eq_some_iff.mp hx
          have hk := (List.getElem?_eq_some_iff.mp hz).1
          have sF : Same H1 H4 := sD.trans sE
          refine ⟨_, rfl, .inl ⟨_, rfl, f1, rfl, ⟨_, .of (sF _ _ e1)⟩, fun D hD => ?_⟩⟩
          refine lc_tups (K := K) (walk_list (xs := ls.map V.ref)) (zs := L) (by rw [List.length_map]; exact (paired_len p1).symm) (fun ns => ns ++ [z]) (by omega) hD (fun H8 s8 => .of (s8 _ _ (sF _ _ e1))) ?_ ?_
          · rintro k2 ns x H8 H9 hz2 s8 ⟨rfl, hx2⟩
            obtain ⟨b, hb, pb⟩ := paired_at p1 hz2
            rw [List.getElem?_map, hb] at hx2
            obtain rfl : V.ref b = x := Option.some.inj hx2
            refine ⟨Same.refl _, _, fun Q q => q, rfl, fun Q s9 q => ⟨_, rfl, _, rfl, by show 1 ≤ sizeLine; decide, fun p np => ⟨b, p, ns.map V.int, [V.int z], rfl, rfl, ?_, ?_, ?_, ?_, ?_, ?_⟩⟩⟩
            · exact Sx.Same.tup ((sF.trans s8).trans (same_new np)) pb
            · exact .of upd_same
            · have hb1 : ns.length ≤ 1000 := hlen ns (List.mem_of_getElem? hz2)
              rw [List.length_map]
              exact Nat.le_trans (show ns.length + 1 ≤ 1001 by omega) (by decide)
            · rintro h0
              refine q p _ (same_new np) ?_
              show SqT K _ p ((ns ++ [z]).map V.int)
              rw [List.map_append, h0]
              exact .of upd_same
            · exact fun _ h => nomatch h
            · intro h0 _ p2 np2
              refine q p2 _ ((same_new np).trans (same_new np2)) ?_
              show SqT K _ p2 ((ns ++ [z]).map V.int)
              rw [List.map_append]
              exact .of upd_same
          · intro H8 gs2 s8 e8 p8
            refine ⟨l2, D, gs.map V.ref, gs2.map V.ref, rfl, rfl, s8 _ _ e4, e8, ?_, fun p np => ?_⟩
            · rw [List.length_map, List.length_map, paired_len p4, paired_len p8, List.length_map, grow_len, List.length_take]
              have h1 := Nat.mul_le_mul (show min k zs.length ≤ 5 by omega) small
              exact Nat.le_trans (show min k zs.length * L.length + L.length ≤ 1000 by omega) (by decide)
            · refine ⟨_, p, gs ++ gs2, rfl, (sE.trans s8).trans (same_new np), ?_, ?_, ?_⟩
              · exact ((sA.trans sD).trans (sE.trans s8)).free np
              · rw [upd_same, List.map_append]
              · have tk : zs.take (k + 1) = zs.take k ++ [z] := by
                  rw [List.take_add_one, hz] <;> rfl
                rw [tk, grow_snoc]
                exact paired_same (R := fun H a ns => TupAt K H a ns) (fun b c r => Sx.Same.tup (same_new np) r) (paired_app (paired_same (R := fun H a ns => TupAt K H a ns) (fun b c r => Sx.Same.tup s8 r) p4) p8)
        · rintro σ H4 ⟨v4', l2, gs, rfl, sE, nl2, e4, p4⟩
          rw [List.length_map, List.take_length] at p4
          have sF : Same H1 H4 := sD.trans sE
          refine ⟨fun v H' => ∃ (f2 : Addr) (ls2 : List Addr), v = .ref f2 ∧ Same H4 H' ∧ H f2 = none ∧ H' f2 = some (.lst (ls2.map V.ref)) ∧ Paired (TupAt K H') ls2 (allStep L s), ⟨_, rfl, .inr (.inl ⟨a, _, _, _, rfl, rfl, .of (sF _ _ ha1), sw_at s, rfl, _, rfl, ?_⟩)⟩, ?_⟩
          · rw [sw_in ok]
            cases hin : isIn s with
            | true =>
              rw [out hin]
              exact iteT ⟨_, rfl, l2, gs, rfl, Same.refl _, nl2, e4, p4⟩
            | false =>
              rw [out2 hin]
              exact iteF ⟨_, rfl, f1, ls, rfl, Same.refl _, nf1, sF _ _ e1, paired_same (R := fun H a ns => TupAt K H a ns) (fun b c r => Sx.Same.tup sF r) p1⟩
          · rintro v H5 ⟨f2, ls2, rfl, sG, nf2, e5, p5⟩
            rw [step]
            exact ⟨_, _, _, f2, ls2, rfl, sA.trans (sF.trans sG), nf2, e5, p5⟩
    rintro σ H1 ⟨v2, v3, v4, f1, ls, rfl, sA, nf1, e1, p1⟩
    rw [List.length_map, paired_len pr] at p1
    exact ⟨_, rfl, q f1 H1 ls sA nf1 e1 p1⟩
theorem ok_run (T : Txt K mg a) : FnOk P w K mg base CX0 2 a.f_run a.d_run ["program", "inputs"] (sp_run K) := by
  have G_given_integers : FnOk P w K mg base CX0 1 a.f_given_integers a.d_given_integers ["program", "inputs"] (sp_given_integers K) := ok_given_integers T
  have G_reckoned : FnOk P w K mg base CX0 1 a.f_reckoned a.d_reckoned ["step", "ahead"] (sp_reckoned K) := ok_reckoned T
  refine T.run.F.ok sc_run (fun vs H Q E h => ?_) (fun cdv A outer s H vs Q E hr h => ?_)
  · obtain ⟨_, _, _, _, rfl, _⟩ := h
    rfl
  · have hu := hu_of hr
    obtain ⟨t, p, ss, ins, rfl, ⟨as, ht, pr⟩, hp, P, I, q⟩ := h
    have h30 := P.most
    refine ⟨_, (pss_cons (ps_set (i := 2) sc_run.nd rfl (by first | exact Or.inl rfl | exact Or.inr rfl) (pe_lst pa_nil))
      (pss_cons (ps_for PassesOwn.never rfl (show PI _ _ _ (iZipTL K _) from pi_zipTL (by rfl) T.b_zip (pa_cons (pv 0) (pa_cons (pe_call G_given_integers hr (by rfl) T.given_integers.m T.given_integers.F.kp T.given_integers.b .nil pass0 (pa_cons (pv 0) (pa_cons (pv 1) pa_nil))) pa_nil))) (show PG _ _ (gTup K 2 _) from pg_tup rfl (pgs_cons (pg_name (i := 3) sc_run.nd rfl (by first | exact Or.inl rfl | exact Or.inr rfl)) (pgs_cons (pg_name (i := 4) sc_run.nd rfl (by first | exact Or.inl rfl | exact Or.inr rfl)) pgs_nil))) (pss_one (ps_expr (show PE _ _ (tBM K "list" _ _ _) from pe_bm PySem.F.plainAttrs_list PySem.F.slot_list_append PySem.F.type_list_append mt_append (pv 2) (pa_cons (pe_cut (pe_ifExp (pt_cmpR op_isN (pv 4) pe_non (nomark _)) (pe_call G_reckoned hr (by rfl) T.reckoned.m T.reckoned.F.kp T.reckoned.b .nil pass0 (pa_cons (pv 3) (pa_cons (pv 2) pa_nil))) (pv 4))) pa_nil)))))
      (pss_one (ps_ret (pe_callTy (show CallR _ _ (rTupS K) from call_tuple_of) (by rfl) T.b_tuple (by decide +kernel) (pa_cons (pv 2) pa_nil)))))), ?_⟩
    refine ⟨Nat.zero_le _, fun vl nvl => ?_⟩
    have sv : Same H (upd H vl (.lst [])) := same_new nvl
    refine ⟨_, rfl, _, rfl, _, rfl, t, p, ss, ins, rfl, ⟨as, sv _ _ ht, paired_same (fun a x r => sv _ _ r) pr⟩, Sx.Same.tup sv hp, P, I, fun gl H1 s1 ngl eg => ?_⟩
    refine ⟨t, gl, as.map V.ref, (giv ss ins).map vO, rfl, .of (s1 _ _ (sv _ _ ht)), .of eg, ?_⟩
    refine for_it (walk_zipTL (xs := as.map V.ref) (ys := (giv ss ins).map vO) (n := ss.length) (by rw [List.length_map, paired_len pr]) (by rw [List.length_map, giv_len])) (fun i σ H' => ∃ v3 v4 : Option V, σ = [some (.ref t), some (.ref p), some (.ref vl), v3, v4] ∧ Same H H' ∧ H' gl = some (.lst ((giv ss ins).map vO)) ∧ H' vl = some (.lst ((valsN ss ins i).map V.int)))
      ⟨none, none, rfl, sv.trans s1, eg, s1 _ _ upd_same⟩ (fun i σ H' _ ⟨_, _, _, s, e, _⟩ => ⟨.of (s _ _ ht), .of e⟩) ?_ ?_
    · rintro i x σ H2 H3 hi ⟨v3, v4, rfl, s2, e2, e3⟩ ⟨T1, x1, x2, rfl, nT, rfl, f1, f2⟩
      obtain ⟨_, a, rfl, hs, ha⟩ := stps_at pr f1
      have ok := P.ok i _ hs
      rw [List.getElem?_map, giv_at hi] at f2
      obtain rfl := Option.some.inj f2
      have bnd : ∀ z ∈ valsN ss ins i, z.natAbs ≤ 10 ^ 120 := fun z hz => by
        obtain ⟨j, hj, rfl⟩ := mem_getD 0 hz
        rw [valsN_len] at hj
        exact vals_bnd P I (by omega) hj
      have vlen := valsN_len ss ins i
      have step : valsN ss ins (i + 1) = valsN ss ins i ++ [valOf (valsN ss ins i) (givOf ss ins i) (ss.getD i default)] := rfl
      have gv : givOf ss ins i = (match ss.getD i default with | .inn _ _ => some (ins.getD (cnt ss i) 0) | .num c => some c | .op _ _ _ => none) := rfl
      have s3 : Same H2 (upd H2 T1 (.tup [.ref a, vO (givOf ss ins i)])) := same_new nT
      have nTv : (upd H2 T1 (.tup [.ref a, vO (givOf ss ins i)])) vl = some (.lst ((valsN ss ins i).map V.int)) := s3 _ _ e3
      have ha3 : (upd H2 T1 (.tup [.ref a, vO (givOf ss ins i)])) a = some (.tup (stepV (ss.getD i default))) := s3 _ _ (s2 _ _ ha)
      have eg3 := s3 _ _ e2
      have tT : (upd H2 T1 (.tup [.ref a, vO (givOf ss ins i)])) T1 = some (.tup [.ref a, vO (givOf ss ins i)]) := upd_same
      have c3 := s2.trans s3
      generalize upd H2 T1 (.tup [.ref a, vO (givOf ss ins i)]) = H3 at *
      have gne : gl ≠ vl := by
        intro z
        have h1 : (upd H vl (.lst [])) vl = none := z ▸ ngl
        rw [upd_same] at h1
        cases h1
      refine ⟨T1, _, rfl, .of tT, rfl, _, _, rfl, _, _, rfl, rfl, ?_⟩
      have lt : ((valsN ss ins i).map V.int).length < sizeLine := by
        rw [List.length_map, vlen]
        exact small1000 (by omega)
      have fin : ∀ z : Int, valOf (valsN ss ins i) (givOf ss ins i) (ss.getD i default) = z → Same H (upd H3 vl (.lst ((valsN ss ins i).map V.int ++ [.int z]))) ∧ (upd H3 vl (.lst ((valsN ss ins i).map V.int ++ [.int z]))) gl = some (.lst ((giv ss ins).map vO)) ∧ (upd H3 vl (.lst ((valsN ss ins i).map V.int ++ [.int z]))) vl = some (.lst ((valsN ss ins (i + 1)).map V.int)) := by
        rintro z rfl
        refine ⟨same_put c3 nvl, ?_, ?_⟩
        · rw [upd_ne gne]
          exact eg3
        · rw [upd_same, step, List.map_append] <;> rfl
      refine ⟨_, rfl, .inl ⟨rfl, _, .of nTv⟩, ?_⟩
      refine ⟨fun v H' => v = .int (valOf (valsN ss ins i) (givOf ss ins i) (ss.getD i default)) ∧ H' = H3, ?_, ?_⟩
      · generalize ss.getD i default = s at *
        cases s with
        | inn lo hi' =>
          rw [gv]
          exact ⟨_, rfl, rfl, _, rfl, iteF ⟨_, rfl, rfl, rfl⟩⟩
        | num c =>
          rw [gv]
          exact ⟨_, rfl, rfl, _, rfl, iteF ⟨_, rfl, rfl, rfl⟩⟩
        | op k i' j' =>
          rw [gv]
          refine ⟨_, rfl, rfl, _, rfl, iteT ⟨_, rfl, _, rfl, a, vl, k, i', j', valsN ss ins i, rfl, ha3, .of nTv, ok.1, by rw [vlen]; exact ok.2.1, by rw [vlen]; exact ok.2.2, bnd, rfl, rfl⟩⟩
      · rintro v H4 ⟨rfl, rfl⟩
        obtain ⟨f1, f2, f3⟩ := fin _ rfl
        exact ⟨vl, _, _, rfl, rfl, nTv, lt, _, _, rfl, f1, f2, f3⟩
    rintro σ H2 ⟨v3, v4, rfl, s2, e2, e3⟩
    refine ⟨_, rfl, vl, _, rfl, .inl ⟨.of e3, fun l nl => ?_⟩⟩
    exact q l _ (s2.trans (same_new nl)) (s2.free nl) upd_same
theorem ok_hulls (T : Txt K mg a) : FnOk P w K mg base CX0 2 a.f_hulls a.d_hulls ["program"] (sp_hulls K) := by
  have G_hull_of : FnOk P w K mg base CX0 1 a.f_hull_of a.d_hull_of ["step", "ahead"] (sp_hull_of K) := ok_hull_of T
  refine T.hulls.F.ok sc_hulls (fun vs H Q E h => ?_) (fun cdv A outer s H vs Q E hr h => ?_)
  · obtain ⟨_, _, rfl, _⟩ := h
    rfl
  · have hu := hu_of hr
    obtain ⟨t, ss, rfl, ⟨as, ht, pr⟩, P, q⟩ := h
    have h30 := P.most
    refine ⟨_, (pss_cons (ps_set (i := 1) sc_hulls.nd rfl (by first | exact Or.inl rfl | exact Or.inr rfl) (pe_lst pa_nil))
      (pss_cons (ps_for PassesOwn.never rfl (show PI _ _ _ (iSeq K _) from pi_seq (pv 0)) (pg_name (i := 2) sc_hulls.nd rfl (by first | exact Or.inl rfl | exact Or.inr rfl)) (pss_one (ps_expr (show PE _ _ (tBM K "list" _ _ _) from pe_bm PySem.F.plainAttrs_list PySem.F.slot_list_append PySem.F.type_list_append mt_append (pv 1) (pa_cons (pe_call G_hull_of hr (by rfl) T.hull_of.m T.hull_of.F.kp T.hull_of.b .nil pass0 (pa_cons (pv 2) (pa_cons (pv 1) pa_nil))) pa_nil)))))
      (pss_one (ps_ret (pe_callTy (show CallR _ _ (rTupS K) from call_tuple_of) (by rfl) T.b_tuple (by decide +kernel) (pa_cons (pv 1) pa_nil)))))), ?_⟩
    refine ⟨Nat.zero_le _, fun hl nhl => ?_⟩
    have sv : Same H (upd H hl (.lst [])) := same_new nhl
    refine .inr ⟨_, rfl, t, rfl, ⟨_, .of (sv _ _ ht)⟩, for_tup (K := K) (a := t) (xs := as.map V.ref) (fun i σ H' => ∃ (v2 : Option V) (es : List Addr), σ = [some (.ref t), some (.ref hl), v2] ∧ Same H H' ∧ H' hl = some (.lst (es.map V.ref)) ∧ Paired (PairAt H') es (hullsN ss i))
      ⟨none, [], rfl, sv, upd_same, .nil⟩ (fun i σ H' _ ⟨_, _, _, s, _⟩ => .of (s _ _ ht)) ?_ ?_⟩
    · rintro i x σ H1 hx ⟨v2, es, rfl, s1, e1, pe⟩
      obtain ⟨hi, a, rfl, hs, ha⟩ := stps_at pr hx
      have ok := P.ok i _ hs
      have elen := (paired_len pe).trans (hullsN_len ss i)
      refine ⟨_, rfl, .inl ⟨rfl, _, .of e1⟩, _, rfl, _, rfl, a, hl, _, _, rfl, s1 _ _ ha, ⟨es, e1, pe⟩, by rw [hullsN_len]; exact ok, P.bnd i (by omega), fun c H2 s2 nc ec => ?_⟩
      refine ⟨hl, _, _, rfl, rfl, s2 _ _ e1, ?_, _, es ++ [c], rfl, same_put (s1.trans s2) nhl, ?_, ?_⟩
      · rw [List.length_map, elen]
        exact small1000 (by omega)
      · rw [upd_same, List.map_append] <;> rfl
      · exact paired_snoc (paired_same (fun a x r => tup_put (s2 _ _ e1) (s2 _ _ r)) pe) (tup_put (s2 _ _ e1) ec)
    rintro σ H1 ⟨v2, es, rfl, s1, e1, pe⟩
    rw [List.length_map, paired_len pr] at pe
    refine ⟨_, rfl, hl, _, rfl, .inl ⟨.of e1, fun l nl => ?_⟩⟩
    exact q l _ (s1.trans (same_new nl)) (s1.free nl) ⟨es, upd_same, paired_same (fun a x r => same_new nl _ _ r) pe⟩
theorem ok__law_pick (T : Txt K mg a) : FnOk P w K mg base CX0 2 a.f__law_pick a.d__law_pick ["box", "items"] (sp__law_pick K) := by
  have G__law_draw : FnOk P w K mg base CX0 1 a.f__law_draw a.d__law_draw ["box", "many"] (sp__law_draw K) := ok__law_draw T
  refine T._law_pick.F.ok sc__law_pick (fun vs H Q E h => ?_) (fun cdv A outer s H vs Q E hr h => ?_)
  · obtain ⟨_, _, _, _, _, rfl, _⟩ := h
    rfl
  · have hu := hu_of hr
    obtain ⟨H0, b, g, p, xs, rfl, B, hs, hne, hlen, q⟩ := h
    have hs' : SqL K H p xs ∨ SqT K H p xs := hs.imp (fun z => L2.Same.seq B.sub z) (fun z => Sx.Same.tup B.sub z)
    have hpos : 0 < xs.length := List.length_pos_iff.mpr hne
    refine ⟨_, (pss_one (ps_ret (pe_ix (show IxR _ (rIx K) from ix_seq) (pv 1) (pe_call G__law_draw hr (by rfl) T._law_draw.m T._law_draw.F.kp T._law_draw.b .nil pass0 (pa_cons (pv 0) (pa_cons (pe_callB (show CallR _ _ (rLenS K) from call_len_seq) (by rfl) T.b_len (by decide +kernel) (pa_cons (pv 1) pa_nil)) pa_nil))) (fun _ _ => rfl)))), ?_⟩
    refine ⟨_, rfl, _, rfl, _, rfl, p, xs, rfl, hs', H0, b, g, _, rfl, B, small_of (by omega) (by omega), fun r H' lo hi B' => ?_⟩
    obtain ⟨i, rfl⟩ : ∃ i : Nat, r = (i : Int) := ⟨r.toNat, by omega⟩
    have hi' : i < xs.length := by omega
    have hx : xs[i]? = some xs[i] := List.getElem?_eq_getElem hi'
    rcases hs with hs | hs
    · exact .inl ⟨p, xs, _, _, rfl, rfl, L2.Same.seq B'.sub hs, atI_nat hx, q i _ H' hx B'⟩
    · exact .inr (.inl ⟨p, xs, _, _, rfl, rfl, Sx.Same.tup B'.sub hs, atI_nat hx, q i _ H' hx B'⟩)
theorem ok__law_great (T : Txt K mg a) : FnOk P w K mg base CX0 2 a.f__law_great a.d__law_great ["box", "many"] (sp__law_great K) := by
  have G__law_draw : FnOk P w K mg base CX0 1 a.f__law_draw a.d__law_draw ["box", "many"] (sp__law_draw K) := ok__law_draw T
  refine T._law_great.F.ok sc__law_great (fun vs H Q E h => ?_) (fun cdv A outer s H vs Q E hr h => ?_)
  · obtain ⟨_, _, _, _, rfl, _⟩ := h
    rfl
  · have hu := hu_of hr
    obtain ⟨H0, b, g, m, rfl, B, m0, m1, q⟩ := h
    refine ⟨_, (pss_cons (ps_set (i := 2) sc__law_great.nd rfl (by first | exact Or.inl rfl | exact Or.inr rfl) pe_int)
      (pss_cons (ps_for PassesOwn.never rfl (pi_range1 rfl T.b_range (pa_cons (pv 1) pa_nil)) (pg_name (i := 3) sc__law_great.nd rfl (by first | exact Or.inl rfl | exact Or.inr rfl)) (pss_one (ps_set (i := 2) sc__law_great.nd rfl (by first | exact Or.inl rfl | exact Or.inr rfl) (pe_op op_add (pe_op op_mul pe_int (pv 2)) (pe_call G__law_draw hr (by rfl) T._law_draw.m T._law_draw.F.kp T._law_draw.b .nil pass0 (pa_cons (pv 0) (pa_cons pe_int pa_nil)))))))
      (pss_one (ps_ret (pv 2))))), ?_⟩
    refine ⟨_, rfl, m, rfl, by omega, by omega, for_range (lo := 0) (n := m.toNat) (fun i σ H => ∃ (f : Int) (v : Option V), σ = [some (.ref b), some (.int m), some (.int f), v] ∧ 0 ≤ f ∧ f < 1000000 ^ i ∧ Bs H0 H b g) ⟨0, none, rfl, by decide, by decide, B⟩ ?_ ?_⟩
    · rintro i σ H hi ⟨f, v, rfl, f0, f1, B1⟩
      refine ⟨_, rfl, _, _, rfl, rfl, .inl ⟨by decide, by decide⟩, _, rfl, H0, b, g, 1000000, rfl, B1, small_of (by decide) (by decide), fun r H' lo hi' B' => ?_⟩
      refine ⟨_, _, rfl, rfl, 1000000 * f + r, _, rfl, by omega, ?_, B'⟩
      rw [Int.pow_succ]
      omega
    · rintro σ H ⟨f, v, rfl, f0, f1, B1⟩
      exact ⟨_, rfl, q f H f0 f1 B1⟩
theorem ok_result (T : Txt K mg a) : FnOk P w K mg base CX0 3 a.f_result a.d_result ["program", "inputs"] (sp_result K) := by
  have G_run : FnOk P w K mg base CX0 2 a.f_run a.d_run ["program", "inputs"] (sp_run K) := ok_run T
  refine T.result.F.ok sc_result (fun vs H Q E h => ?_) (fun cdv A outer s H vs Q E hr h => ?_)
  · obtain ⟨_, _, _, _, rfl, _⟩ := h
    rfl
  · have hu := hu_of hr
    obtain ⟨t, p, ss, ins, rfl, ht, hp, P, I, q⟩ := h
    refine ⟨_, (pss_one (ps_ret (pe_ix (show IxR _ (rIx K) from ix_seq) (pe_call G_run hr (by rfl) T.run.m T.run.F.kp T.run.b .nil pass0 (pa_cons (pv 0) (pa_cons (pv 1) pa_nil))) (pe_un un_neg pe_int) (fun _ _ => rfl)))), ?_⟩
    refine ⟨_, rfl, _, rfl, t, p, ss, ins, rfl, ht, hp, P, I, fun l H1 s1 nl el => ?_⟩
    exact ⟨1, rfl, .inr (.inl ⟨l, _, _, _, rfl, rfl, .of el, vals_last P.one, q H1 s1⟩)⟩
theorem ok__law_number (T : Txt K mg a) : FnOk P w K mg base CX0 3 a.f__law_number a.d__law_number ["box"] (sp__law_number K) := by
  have G__law_draw : FnOk P w K mg base CX0 1 a.f__law_draw a.d__law_draw ["box", "many"] (sp__law_draw K) := ok__law_draw T
  have G__law_great : FnOk P w K mg base CX0 2 a.f__law_great a.d__law_great ["box", "many"] (sp__law_great K) := ok__law_great T
  refine T._law_number.F.ok sc__law_number (fun vs H Q E h => ?_) (fun cdv A outer s H vs Q E hr h => ?_)
  · obtain ⟨_, _, _, rfl, _⟩ := h
    rfl
  · have hu := hu_of hr
    obtain ⟨H0, b, g, rfl, B, q⟩ := h
    have dr : ∀ m : Int, 0 < m → m < 2 ^ 60 → Small m := fun m h0 h1 => small_of h0 h1
    refine ⟨_, (pss_cons (ps_set (i := 1) sc__law_number.nd rfl (by first | exact Or.inl rfl | exact Or.inr rfl) (pe_call G__law_draw (hr.mono (by decide)) (by rfl) T._law_draw.m T._law_draw.F.kp T._law_draw.b .nil pass0 (pa_cons (pv 0) (pa_cons pe_int pa_nil))))
      (pss_cons (ps_set (i := 2) sc__law_number.nd rfl (by first | exact Or.inl rfl | exact Or.inr rfl) (pe_cut (pe_ifExp (pt_cmpR op_lt (pv 1) pe_int (nomark _)) (pe_call G__law_draw (hr.mono (by decide)) (by rfl) T._law_draw.m T._law_draw.F.kp T._law_draw.b .nil pass0 (pa_cons (pv 0) (pa_cons pe_int pa_nil))) (pe_call G__law_great hr (by rfl) T._law_great.m T._law_great.F.kp T._law_great.b .nil pass0 (pa_cons (pv 0) (pa_cons (pe_op op_add pe_int (pe_call G__law_draw (hr.mono (by decide)) (by rfl) T._law_draw.m T._law_draw.F.kp T._law_draw.b .nil pass0 (pa_cons (pv 0) (pa_cons pe_int pa_nil)))) pa_nil))))))
      (Evl.pss_cut (ps_if (pt_cmpR op_eq (pv 1) pe_int (nomark _)) (pss_one (ps_set (i := 2) sc__law_number.nd rfl (by first | exact Or.inl rfl | exact Or.inr rfl) (pe_op op_sub (pe_op op_pow pe_int pe_int) (pe_call G__law_draw (hr.mono (by decide)) (by rfl) T._law_draw.m T._law_draw.F.kp T._law_draw.b .nil pass0 (pa_cons (pv 0) (pa_cons pe_int pa_nil)))))) pss_nil)
      (pss_one (ps_ret (pe_cut (pe_ifExp (pt_cmpR op_gt (pe_call G__law_draw (hr.mono (by decide)) (by rfl) T._law_draw.m T._law_draw.F.kp T._law_draw.b .nil pass0 (pa_cons (pv 0) (pa_cons pe_int pa_nil))) pe_int (nomark _)) (pv 2) (pe_un un_neg (pv 2))))))))), ?_⟩
    refine ⟨_, rfl, H0, b, g, 8, rfl, B, dr _ (by decide) (by decide), fun way H1 w0 w1 B1 => ?_⟩
    -- found
    refine ⟨fun v H' => ∃ f : Int, v = .int f ∧ IsNum f ∧ Bs H0 H' b g, ?_, ?_⟩
    · refine ⟨_, rfl, _, _, rfl, rfl, _, rfl, ite2 (fun _ => ?_) (fun _ => ?_)⟩
      · refine ⟨_, rfl, H0, b, g, 300, rfl, B1, dr _ (by decide) (by decide), fun r H2 r0 r1 B2 => ?_⟩
        exact ⟨r, rfl, ⟨by omega, by omega⟩, B2⟩
      · refine ⟨_, rfl, _, rfl, H0, b, g, 10, rfl, B1, dr _ (by decide) (by decide), fun r H2 r0 r1 B2 => ?_⟩
        refine ⟨_, _, rfl, rfl, H0, b, g, _, rfl, B2, by omega, by omega, fun f H3 f0 f1 B3 => ?_⟩
        refine ⟨f, rfl, ⟨by omega, ?_⟩, B3⟩
        have h1 := pow_mono (show (1 + r).toNat ≤ 10 by omega)
        have h2 : (1000000 : Int) ^ 10 = 10 ^ 60 := by decide
        omega
    · rintro v H2 ⟨f, rfl, hf, B2⟩
      -- if way == 7: found = 10 ** 60 - draw
      refine ⟨fun σ H' => ∃ f : Int, σ = [some (.ref b), some (.int way), some (.int f)] ∧ IsNum f ∧ Bs H0 H' b g, ?_, ?_⟩
      · refine ⟨_, rfl, rfl, _, rfl, ite2 (fun _ => ?_) (fun _ => ?_)⟩
        · refine ⟨10, 60, rfl, rfl, ⟨by decide, by decide, by decide⟩, _, rfl, H0, b, g, 3, rfl, B2, dr _ (by decide) (by decide), fun r H3 r0 r1 B3 => ?_⟩
          refine ⟨_, _, rfl, rfl, _, rfl, ⟨?_, ?_⟩, B3⟩
          · show -(10 ^ 60) ≤ (10 : Int) ^ 60 - r
            omega
          · show (10 : Int) ^ 60 - r ≤ 10 ^ 60
            omega
        · exact ⟨f, rfl, hf, B2⟩
      · rintro σ H3 ⟨f, rfl, hf, B3⟩
        refine ⟨fun v H' => ∃ f : Int, v = .int f ∧ IsNum f ∧ Bs H0 H' b g, ?_, ?_⟩
        · refine ⟨_, rfl, H0, b, g, 3, rfl, B3, dr _ (by decide) (by decide), fun r H4 r0 r1 B4 => ?_⟩
          refine ⟨_, _, rfl, rfl, _, rfl, ite2 (fun _ => ?_) (fun _ => ?_)⟩
          · exact ⟨_, rfl, f, rfl, hf, B4⟩
          · exact ⟨_, rfl, f, rfl, -f, rfl, ⟨by have := hf.1; have := hf.2; omega, by have := hf.1; have := hf.2; omega⟩, B4⟩
        · rintro v H4 ⟨f, rfl, hf, B4⟩
          exact q f H4 hf B4
theorem ok__law_inputs (T : Txt K mg a) : FnOk P w K mg base CX0 3 a.f__law_inputs a.d__law_inputs ["box", "program"] (sp__law_inputs K) := by
  have G__law_draw : FnOk P w K mg base CX0 1 a.f__law_draw a.d__law_draw ["box", "many"] (sp__law_draw K) := ok__law_draw T
  have G__law_pick : FnOk P w K mg base CX0 2 a.f__law_pick a.d__law_pick ["box", "items"] (sp__law_pick K) := ok__law_pick T
  have G__law_great : FnOk P w K mg base CX0 2 a.f__law_great a.d__law_great ["box", "many"] (sp__law_great K) := ok__law_great T
  refine T._law_inputs.F.ok sc__law_inputs (fun vs H Q E h => ?_) (fun cdv A outer s H vs Q E hr h => ?_)
  · obtain ⟨_, _, _, _, _, rfl, _⟩ := h
    rfl
  · have hu := hu_of hr
    obtain ⟨H0, b, g, t, ss, rfl, B, ⟨as, ht, pr⟩, P, q⟩ := h
    have h30 := P.most
    have dr : ∀ m : Int, 0 < m → m < 2 ^ 60 → Small m := fun m h0 h1 => small_of h0 h1
    refine ⟨_, (pss_cons (ps_set (i := 2) sc__law_inputs.nd rfl (by first | exact Or.inl rfl | exact Or.inr rfl) (pe_lst pa_nil))
      (pss_cons (ps_for PassesOwn.never rfl (show PI _ _ _ (iSeq K _) from pi_seq (pv 1)) (pg_name (i := 3) sc__law_inputs.nd rfl (by first | exact Or.inl rfl | exact Or.inr rfl)) (pss_one (ps_if (pt_cmpR op_eq (pe_ix (show IxR _ (rIx K) from ix_seq) (pv 3) pe_int (fun _ _ => rfl)) pe_str (nomark _)) (pss_cons (ps_par (i := 6) (j := 7) (by rfl) sc__law_inputs.nd rfl rfl (by decide) rfl rfl (pa_cons (pe_ix (show IxR _ (rIx K) from ix_seq) (pv 3) pe_int (fun _ _ => rfl)) (pa_cons (pe_ix (show IxR _ (rIx K) from ix_seq) (pv 3) pe_int (fun _ _ => rfl)) pa_nil)) (by rfl))
          (pss_cons (ps_set (i := 4) sc__law_inputs.nd rfl (by first | exact Or.inl rfl | exact Or.inr rfl) (pe_op op_add (pe_op op_sub (pv 7) (pv 6)) pe_int))
          (pss_cons (ps_set (i := 5) sc__law_inputs.nd rfl (by first | exact Or.inl rfl | exact Or.inr rfl) (pe_cut (pe_ifExp (pt_cmpR op_lt (pv 4) (pe_op op_pow pe_int pe_int) (nomark _)) (pe_call G__law_draw (hr.mono (by decide)) (by rfl) T._law_draw.m T._law_draw.F.kp T._law_draw.b .nil pass0 (pa_cons (pv 0) (pa_cons (pv 4) pa_nil))) (pe_op op_modN (pe_callTy call_int1 (by rfl) T.b_int (by decide +kernel) (pa_cons (pe_call G__law_great hr (by rfl) T._law_great.m T._law_great.F.kp T._law_great.b .nil pass0 (pa_cons (pv 0) (pa_cons pe_int pa_nil))) pa_nil)) (pv 4)))))
          (pss_one (ps_expr (show PE _ _ (tBM K "list" _ _ _) from pe_bm PySem.F.plainAttrs_list PySem.F.slot_list_append PySem.F.type_list_append mt_append (pv 2) (pa_cons (pe_call G__law_pick hr (by rfl) T._law_pick.m T._law_pick.F.kp T._law_pick.b .nil pass0 (pa_cons (pv 0) (pa_cons (pe_lst (pa_cons (pv 6) (pa_cons (pv 7) (pa_cons (pe_op op_add (pv 6) (pv 5)) (pa_cons (pe_op op_add (pv 6) (pv 5)) (pa_cons (pe_op op_add (pv 6) (pv 5)) pa_nil)))))) pa_nil))) pa_nil))))))) pss_nil)))
      (pss_one (ps_ret (pe_callTy (show CallR _ _ (rTupS K) from call_tuple_of) (by rfl) T.b_tuple (by decide +kernel) (pa_cons (pv 2) pa_nil)))))), ?_⟩
    refine ⟨Nat.zero_le _, fun fl nfl => ?_⟩
    have x1 := B.sub.free nfl
    have B1 := B.new (o := .lst []) nfl
    refine .inr ⟨_, rfl, t, rfl, ⟨_, .of (same_new nfl _ _ (B.sub _ _ ht))⟩, for_tup (K := K) (a := t) (xs := as.map V.ref) (fun i σ H' => ∃ (v3 v4 v5 v6 v7 : Option V) (ins : List Int) (H1 : Hp), σ = [some (.ref b), some (.ref t), some (.ref fl), v3, v4, v5, v6, v7] ∧ Same H0 H1 ∧ H1 fl = some (.lst (ins.map V.int)) ∧
        ins.length = cnt ss i ∧ (∀ j lo hi, j < i → ss[j]? = some (.inn lo hi) → lo ≤ ins.getD (cnt ss j) 0 ∧ ins.getD (cnt ss j) 0 ≤ hi) ∧ Bs H1 H' b g)
      ⟨none, none, none, none, none, [], _, rfl, same_new x1, upd_same, rfl, (fun _ _ _ h => absurd h (Nat.not_lt_zero _)), B1⟩ (fun i σ H' _ ⟨_, _, _, _, _, _, _, _, s, _, _, _, B2⟩ => .of (B2.sub _ _ (s _ _ ht))) ?_ ?_⟩
    · rintro i x σ H2 hx ⟨v3, v4, v5, v6, v7, ins, H1, rfl, s1, e1, hlen, hfit, B2⟩
      obtain ⟨hi, a, rfl, hs, ha⟩ := stps_at pr hx
      have ok := P.ok i _ hs
      have hc := cnt_succ hi
      generalize hss : ss.getD i default = s at *
      have ha2 : H2 a = some (.tup (stepV s)) := B2.sub _ _ (s1 _ _ ha)
      refine ⟨_, rfl, .inr (.inl ⟨a, _, _, _, rfl, rfl, .of ha2, sw_at s, rfl, _, rfl, ?_⟩)⟩
      rw [sw_in ok]
      have skip : isIn s = false → ∀ j lo hi, j < i + 1 → ss[j]? = some (.inn lo hi) → lo ≤ ins.getD (cnt ss j) 0 ∧ ins.getD (cnt ss j) 0 ≤ hi := by
        intro hn j lo hi' hj hj2
        by_cases h : j < i
        · exact hfit j lo hi' h hj2
        · obtain rfl : j = i := by omega
          rw [hs] at hj2
          rw [Option.some.inj hj2] at hn
          exact nomatch hn
      cases s with
      | inn lo hi' =>
        obtain ⟨nlo, nhi, hle⟩ := ok
        have b1 := nlo.1
        have b2 := nlo.2
        have b3 := nhi.1
        have b4 := nhi.2
        refine iteT ⟨_, rfl, .inr (.inl ⟨a, _, _, _, rfl, rfl, .of ha2, atI_nat (j := 1) rfl, _, rfl, .inr (.inl ⟨a, _, _, _, rfl, rfl, .of ha2, atI_nat (j := 2) rfl, _, _, rfl, ?_⟩)⟩)⟩
        refine ⟨_, rfl, _, rfl, hi', lo, rfl, rfl, _, 1, rfl, rfl, ?_⟩
        refine ⟨fun v H' => ∃ am : Int, v = .int am ∧ 0 ≤ am ∧ am < hi' - lo + 1 ∧ Bs H1 H' b g, ?_, ?_⟩
        · refine ⟨_, rfl, 10, 6, rfl, rfl, ⟨by decide, by decide, by decide⟩, _, _, rfl, rfl, _, rfl, ite2 (fun h6 => ?_) (fun _ => ?_)⟩
          · have h6' : hi' - lo + 1 < (10 : Int) ^ 6 := of_decide_eq_true h6
            exact ⟨_, rfl, _, rfl, H1, b, g, _, rfl, B2, dr _ (by omega) (by omega), fun r H3 r0 r1 B3 => ⟨r, rfl, r0, r1, B3⟩⟩
          · refine ⟨_, rfl, H1, b, g, 11, rfl, B2, by decide, by decide, fun r H3 r0 r1 B3 => .inl ⟨r, rfl, _, rfl, r, hi' - lo + 1, rfl, rfl, by omega, _, rfl, ?_, ?_, B3⟩⟩
            · rw [Int.fmod_eq_emod_of_nonneg r (by omega)]
              exact Int.emod_nonneg r (by omega)
            · rw [Int.fmod_eq_emod_of_nonneg r (by omega)]
              exact Int.emod_lt_of_pos r (by omega)
        rintro v H3 ⟨am, rfl, am0, am1, B3⟩
        have e3 : H3 fl = some (.lst (ins.map V.int)) := B3.sub _ _ e1
        refine ⟨_, rfl, .inl ⟨rfl, _, .of e3⟩, ?_⟩
        refine ⟨_, rfl, _, rfl, _, rfl, _, rfl, _, rfl, lo, am, rfl, rfl, _, rfl, _, rfl, lo, am, rfl, rfl, _, rfl, _, rfl, lo, am, rfl, rfl, by show 5 ≤ sizeLine; decide, fun l nl => ?_⟩
        refine ⟨_, b, g, l, [lo, hi', lo + am, lo + am, lo + am].map V.int, rfl, B3.new nl, .inl (.of upd_same), (fun z => nomatch z), by show 5 ≤ 100000; decide, fun j x H4 hj B4 => ?_⟩
        rw [List.getElem?_map] at hj
        obtain ⟨z, hz, rfl⟩ := Option.map_eq_some_iff.mp hj
        have hz2 : lo ≤ z ∧ z ≤ hi' := by
          have hm := List.mem_of_getElem? hz
          have h' : z = lo ∨ z = hi' ∨ z = lo + am := by simpa using hm
          omega
        have B5 := B4.less (same_new (B3.sub.free nl))
        refine ⟨fl, _, _, rfl, rfl, B5.sub _ _ e1, ?_, ?_⟩
        · rw [List.length_map, hlen]
          have hm := cnt_mono (ss := ss) (show i ≤ ss.length by omega) (Nat.le_refl _)
          have hk : cnt ss ss.length ≤ ss.length := by
            unfold Sx.cnt
            have h1 := List.countP_le_length (p := isIn) (l := ss.take ss.length)
            rw [List.take_length] at h1 ⊢
            exact h1
          exact small1000 (by omega)
        · have B6 : Bs (upd H1 fl (.lst (ins.map V.int ++ [.int z]))) (upd H4 fl (.lst (ins.map V.int ++ [.int z]))) b g := B5.put e1
          refine ⟨_, _, _, _, _, ins ++ [z], _, rfl, same_put s1 x1, ?_, ?_, ?_, B6⟩
          · rw [upd_same, List.map_append] <;> rfl
          · rw [List.length_append, hlen, hc] <;> rfl
          · intro j lo2 hi2 hj2 hj3
            by_cases h : j < i
            · have hj4 : cnt ss (j + 1) = cnt ss j + 1 := by
                have hq := cnt_succ (ss := ss) (i := j) (by omega)
                have hw : ss.getD j default = .inn lo2 hi2 := by
                  rw [List.getD_eq_getElem?_getD, hj3] <;> rfl
                rw [hw] at hq
                exact hq
              have hm := cnt_mono (ss := ss) (show j + 1 ≤ i by omega) (by omega)
              rw [getD_append_left _ (by omega)]
              exact hfit j lo2 hi2 h hj3
            · obtain rfl : j = i := by omega
              rw [hs] at hj3
              cases hj3
              rw [← hlen, getD_append_last]
              exact hz2
      | num c =>
        exact iteF ⟨_, _, _, _, _, ins, H1, rfl, s1, e1, by rw [hlen, hc]; rfl, skip rfl, B2⟩
      | op k a' b' =>
        exact iteF ⟨_, _, _, _, _, ins, H1, rfl, s1, e1, by rw [hlen, hc]; rfl, skip rfl, B2⟩
    rintro σ H2 ⟨v3, v4, v5, v6, v7, ins, H1, rfl, s1, e1, hlen, hfit, B2⟩
    rw [List.length_map, paired_len pr] at hlen hfit
    refine ⟨_, rfl, fl, _, rfl, .inl ⟨.of (B2.sub _ _ e1), fun l nl => ?_⟩⟩
    have nl1 := B2.sub.free nl
    exact q ins l (upd H1 l (.tup (ins.map V.int))) _ ⟨hlen, fun i lo hi hi2 => hfit i lo hi (List.getElem?_eq_some_iff.mp hi2).1 hi2⟩ (s1.trans (same_new nl1)) (s1.free nl1) upd_same (B2.new nl)
theorem ok__law_stretch (T : Txt K mg a) : FnOk P w K mg base CX0 4 a.f__law_stretch a.d__law_stretch ["box"] (sp__law_stretch K) := by
  have G__law_draw : FnOk P w K mg base CX0 1 a.f__law_draw a.d__law_draw ["box", "many"] (sp__law_draw K) := ok__law_draw T
  have G__law_number : FnOk P w K mg base CX0 3 a.f__law_number a.d__law_number ["box"] (sp__law_number K) := ok__law_number T
  refine T._law_stretch.F.ok sc__law_stretch (fun vs H Q E h => ?_) (fun cdv A outer s H vs Q E hr h => ?_)
  · obtain ⟨_, _, _, rfl, _⟩ := h
    rfl
  · have hu := hu_of hr
    obtain ⟨H0, b, g, rfl, B, q⟩ := h
    have dr : ∀ m : Int, 0 < m → m < 2 ^ 60 → Small m := fun m h0 h1 => small_of h0 h1
    have fin : ∀ (lo hi : Int) (H1 : Hp) (p : Addr), IsNum lo → IsNum hi → lo ≤ hi → Bs H0 H1 b g → H1 p = none → Q (.ref p) (upd H1 p (.tup [.int lo, .int hi])) := fun lo hi H1 p h1 h2 h3 B1 np =>
      q lo hi p (upd H0 p (.tup [.int lo, .int hi])) _ h1 h2 h3 (same_new (B1.sub.free np)) (B1.sub.free np) upd_same (B1.new np)
    refine ⟨_, (pss_cons (ps_par (i := 1) (j := 2) (by rfl) sc__law_stretch.nd rfl rfl (by decide) rfl rfl (pa_cons (pe_call G__law_draw (hr.mono (by decide)) (by rfl) T._law_draw.m T._law_draw.F.kp T._law_draw.b .nil pass0 (pa_cons (pv 0) (pa_cons pe_int pa_nil))) (pa_cons (pe_call G__law_number hr (by rfl) T._law_number.m T._law_number.F.kp T._law_number.b .nil pass0 (pa_cons (pv 0) pa_nil)) pa_nil)) (by rfl))
      (pss_cons (ps_if (pt_cmpR op_lt (pv 1) pe_int (nomark _)) (pss_cons (ps_set (i := 2) sc__law_stretch.nd rfl (by first | exact Or.inl rfl | exact Or.inr rfl) (pe_op op_sub (pe_call G__law_draw (hr.mono (by decide)) (by rfl) T._law_draw.m T._law_draw.F.kp T._law_draw.b .nil pass0 (pa_cons (pv 0) (pa_cons pe_int pa_nil))) pe_int))
        (pss_one (ps_ret (pe_tup (pa_cons (pv 2) (pa_cons (pe_op op_add (pv 2) (pe_call G__law_draw (hr.mono (by decide)) (by rfl) T._law_draw.m T._law_draw.F.kp T._law_draw.b .nil pass0 (pa_cons (pv 0) (pa_cons pe_int pa_nil)))) pa_nil)))))) pss_nil)
      (pss_cons (ps_if (pt_cmpR op_eq (pv 1) pe_int (nomark _)) (pss_one (ps_ret (pe_tup (pa_cons (pv 2) (pa_cons (pv 2) pa_nil))))) pss_nil)
      (pss_one (ps_ret (pe_callTy (show CallR _ _ (rTupS K) from call_tuple_of) (by rfl) T.b_tuple (by decide +kernel) (pa_cons (pe_callB (show CallR _ _ (rSortedI K) from cr_sortedI) (by rfl) T.b_sorted (by decide +kernel) (pa_cons (pe_lst (pa_cons (pv 2) (pa_cons (pe_call G__law_number hr (by rfl) T._law_number.m T._law_number.F.kp T._law_number.b .nil pass0 (pa_cons (pv 0) pa_nil)) pa_nil))) pa_nil)) pa_nil))))))), ?_⟩
    refine ⟨_, rfl, H0, b, g, 6, rfl, B, dr _ (by decide) (by decide), fun way H1 w0 w1 B1 => ?_⟩
    refine ⟨_, rfl, H0, b, g, rfl, B1, fun low H2 hlow B2 => ⟨_, _, rfl, ?_⟩⟩
    -- way < 3
    refine ⟨_, rfl, _, _, rfl, rfl, _, rfl, ite2 (fun _ => ?_) (fun _ => ?_)⟩
    · refine ⟨_, rfl, H0, b, g, 40, rfl, B2, dr _ (by decide) (by decide), fun r H3 r0 r1 B3 => ⟨r, 20, rfl, rfl, ?_⟩⟩
      refine ⟨_, rfl, _, rfl, _, rfl, H0, b, g, 30, rfl, B3, dr _ (by decide) (by decide), fun r2 H4 r3 r4 B4 => ⟨_, _, rfl, rfl, by show 2 ≤ sizeLine; decide, fun p np => ?_⟩⟩
      exact fin (r - 20) (r - 20 + r2) H4 p ⟨by omega, by omega⟩ ⟨by omega, by omega⟩ (by omega) B4 np
    -- way == 3
    refine ⟨_, rfl, rfl, _, rfl, ite2 (fun _ => ?_) (fun _ => ?_)⟩
    · exact ⟨_, rfl, _, rfl, by show 2 ≤ sizeLine; decide, fun p np => fin low low H2 p hlow hlow (Int.le_refl _) B2 np⟩
    -- sorted
    refine ⟨_, rfl, _, rfl, H0, b, g, rfl, B2, fun high H3 hhigh B3 => ⟨by show 2 ≤ sizeLine; decide, fun l nl => ?_⟩⟩
    have B4 := B3.more (same_new (o := .lst [.int low, .int high]) nl)
    refine ⟨l, [low, high], rfl, .of upd_same, fun ns' p hp hs np => ?_⟩
    have B5 := B4.more (same_new (o := .lst (ns'.map V.int)) np)
    refine ⟨p, _, rfl, .inl ⟨.of upd_same, fun t nt => ?_⟩⟩
    have hx : ∃ lo hi, ns' = [lo, hi] ∧ IsNum lo ∧ IsNum hi ∧ lo ≤ hi := by
      have hlen := hp.length_eq
      match ns', hlen with
      | [lo, hi], _ =>
        have m1 := hp.mem_iff (a := lo)
        have m2 := hp.mem_iff (a := hi)
        have e1 : lo = low ∨ lo = high := by simpa using m1.mp (by simp)
        have e2 : hi = low ∨ hi = high := by simpa using m2.mp (by simp)
        refine ⟨lo, hi, rfl, ?_, ?_, ?_⟩
        · rcases e1 with h | h <;> rw [h] <;> assumption
        · rcases e2 with h | h <;> rw [h] <;> assumption
        · simpa using hs
    obtain ⟨lo, hi, rfl, n1, n2, n3⟩ := hx
    exact fin lo hi _ t n1 n2 n3 B5 nt
theorem ok__law_is_filled (T : Txt K mg a) : FnG P w K mg base CX0 4 a.f__law_is_filled a.d__law_is_filled ["box"] (sp__law_is_filled K) := by
  have G_result : FnOk P w K mg base CX0 3 a.f_result a.d_result ["program", "inputs"] (sp_result K) := ok_result T
  have G__law_draw : FnOk P w K mg base CX0 1 a.f__law_draw a.d__law_draw ["box", "many"] (sp__law_draw K) := ok__law_draw T
  have G__law_all_inputs : FnOk P w K mg base CX0 1 a.f__law_all_inputs a.d__law_all_inputs ["program"] (sp__law_all_inputs K) := ok__law_all_inputs T
  have G__law_pick : FnOk P w K mg base CX0 2 a.f__law_pick a.d__law_pick ["box", "items"] (sp__law_pick K) := ok__law_pick T
  have G_hulls : FnOk P w K mg base CX0 2 a.f_hulls a.d_hulls ["program"] (sp_hulls K) := ok_hulls T
  refine Sx.okG T._law_is_filled.F sc__law_is_filled (fun vs H Q E h => ?_) (fun cdv A outer s H vs Q E hg hr h => ?_)
  · obtain ⟨_, _, _, rfl, _⟩ := h
    rfl
  · have hu := hu_of hr
    obtain ⟨H0, b, g, rfl, B0, q⟩ := h
    have dr : ∀ m : Int, 0 < m → m < 2 ^ 60 → Small m := fun m h0 h1 => small_of h0 h1
    refine ⟨_, (pss_cons (ps_par (i := 3) (j := 4) (by rfl) sc__law_is_filled.nd rfl rfl (by decide) rfl rfl (pa_cons (pe_op op_sub (pe_call G__law_draw (hr.mono (by decide)) (by rfl) T._law_draw.m T._law_draw.F.kp T._law_draw.b .nil pass0 (pa_cons (pv 0) (pa_cons pe_int pa_nil))) pe_int) (pa_cons (pe_op op_sub (pe_call G__law_draw (hr.mono (by decide)) (by rfl) T._law_draw.m T._law_draw.F.kp T._law_draw.b .nil pass0 (pa_cons (pv 0) (pa_cons pe_int pa_nil))) pe_int) pa_nil)) (by rfl))
      (pss_cons (ps_set (i := 1) sc__law_is_filled.nd rfl (by first | exact Or.inl rfl | exact Or.inr rfl) (pe_tup (pa_cons (pe_tup (pa_cons pe_str (pa_cons (pv 3) (pa_cons (pe_op op_add (pv 3) (pe_call G__law_draw (hr.mono (by decide)) (by rfl) T._law_draw.m T._law_draw.F.kp T._law_draw.b .nil pass0 (pa_cons (pv 0) (pa_cons pe_int pa_nil)))) pa_nil)))) (pa_cons (pe_tup (pa_cons pe_str (pa_cons (pv 4) (pa_cons (pe_op op_add (pv 4) (pe_call G__law_draw (hr.mono (by decide)) (by rfl) T._law_draw.m T._law_draw.F.kp T._law_draw.b .nil pass0 (pa_cons (pv 0) (pa_cons pe_int pa_nil)))) pa_nil)))) pa_nil))))
      (pss_cons (ps_set (i := 1) sc__law_is_filled.nd rfl (by first | exact Or.inl rfl | exact Or.inr rfl) (pe_op (show OpR _ _ (rCatT K) from op_catT) (pv 1) (pe_tup (pa_cons (pe_tup (pa_cons (pe_call G__law_pick (hr.mono (by decide)) (by rfl) T._law_pick.m T._law_pick.F.kp T._law_pick.b .nil pass0 (pa_cons (pv 0) (pa_cons (pe_lst (pa_cons pe_str (pa_cons pe_str (pa_cons pe_str (pa_cons pe_str pa_nil))))) pa_nil))) (pa_cons (pe_call G__law_draw (hr.mono (by decide)) (by rfl) T._law_draw.m T._law_draw.F.kp T._law_draw.b .nil pass0 (pa_cons (pv 0) (pa_cons pe_int pa_nil))) (pa_cons pe_int pa_nil)))) pa_nil))))
      (Evl.pss_cut (ps_if (pt_cmpR op_eq (pe_ix (show IxR _ (rIx K) from ix_seq) (pe_ix (show IxR _ (rIx K) from ix_seq) (pv 1) pe_int (fun _ _ => rfl)) pe_int (fun _ _ => rfl)) pe_int (nomark _)) (pss_one (ps_set (i := 1) sc__law_is_filled.nd rfl (by first | exact Or.inl rfl | exact Or.inr rfl) (pe_op (show OpR _ _ (rCatT K) from op_catT) (pe_slice (show SlR _ (rSlA K) from sl_tupA) (pv 1) po_none (po_some pe_int)) (pe_tup (pa_cons (pe_tup (pa_cons (pe_ix (show IxR _ (rIx K) from ix_seq) (pe_ix (show IxR _ (rIx K) from ix_seq) (pv 1) pe_int (fun _ _ => rfl)) pe_int (fun _ _ => rfl)) (pa_cons pe_int (pa_cons pe_int pa_nil)))) pa_nil))))) pss_nil)
      (pss_cons (ps_setLc (i := 2) (own := [("inputs", 5)]) rfl sc__law_is_filled.nd rfl rfl (sw_true rfl rfl rfl (by decide +kernel)) (show PI _ _ _ (iSeq K _) from pi_seq (pe_call G__law_all_inputs (hr.mono (by decide)) (by rfl) T._law_all_inputs.m T._law_all_inputs.F.kp T._law_all_inputs.b .nil pass0 (pa_cons (pv 1) pa_nil))) (blkOk_by (N := ["box", "program", "values", "first", "second", "inputs"]) (sc := defScope s__law_is_filled) (by decide +kernel)) (fun _ _ _ _ _ => (pg_name (i := 5) sc__law_is_filled.nd rfl (by first | exact Or.inl rfl | exact Or.inr rfl))) (fun _ _ _ _ _ => pts_nil) (fun _ _ _ _ _ => (pe_call G_result hr (by rfl) T.result.m T.result.F.kp T.result.b .nil pass0 (pa_cons (pv 1) (pa_cons (pv 5) pa_nil)))))
      (pss_one (ps_ret (pe_cmpR op_eq (pe_callB (show CallR _ _ (rShow K) from call_show hg hr.units) (by rfl) T.b_repr (by decide +kernel) (pa_cons (pe_ix (show IxR _ (rIx K) from ix_seq) (pe_call G_hulls (hr.mono (by decide)) (by rfl) T.hulls.m T.hulls.F.kp T.hulls.b .nil pass0 (pa_cons (pv 1) pa_nil)) (pe_un un_neg pe_int) (fun _ _ => rfl)) pa_nil)) (pe_callB (show CallR _ _ (rShow K) from call_show hg hr.units) (by rfl) T.b_repr (by decide +kernel) (pa_cons (pe_tup (pa_cons (pe_callB (show CallR _ _ (rMin K) from cr_min rfl) (by rfl) T.b_min (by decide +kernel) (pa_cons (pv 2) pa_nil)) (pa_cons (pe_callB (show CallR _ _ (rMax K) from cr_max rfl) (by rfl) T.b_max (by decide +kernel) (pa_cons (pv 2) pa_nil)) pa_nil))) pa_nil)) (nomark _))))))))), ?_⟩
    refine ⟨_, rfl, H0, b, g, 9, rfl, B0, dr _ (by decide) (by decide), fun r1 Ha r10 r11 Ba => ⟨_, _, rfl, rfl, _, rfl, H0, b, g, 9, rfl, Ba, dr _ (by decide) (by decide), fun r2 Hb r20 r21 Bb => ⟨_, _, rfl, rfl, _, _, rfl, ?_⟩⟩⟩
    refine ⟨_, rfl, _, rfl, _, rfl, H0, b, g, 4, rfl, Bb, dr _ (by decide) (by decide), fun r3 Hc r30 r31 Bc => ⟨_, _, rfl, rfl, by show 3 ≤ sizeLine; decide, fun p1 np1 => ?_⟩⟩
    have Bd := Bc.new (o := .tup [.str "in", .int (r1 - 6), .int (r1 - 6 + r3)]) np1
    refine ⟨_, rfl, _, rfl, _, rfl, _, b, g, 4, rfl, Bd, dr _ (by decide) (by decide), fun r4 He r40 r41 Be => ⟨_, _, rfl, rfl, by show 3 ≤ sizeLine; decide, fun p2 np2 => ⟨by show 2 ≤ sizeLine; decide, fun p3 np3 => ?_⟩⟩⟩
    have Bf := Be.new (o := .tup [.str "in", .int (r2 - 6), .int (r2 - 6 + r4)]) np2
    have Bg := Bf.new (o := .tup [.ref p1, .ref p2]) np3
    have n10 := Bc.sub.free np1
    have n20 := Be.sub.free np2
    have n30 := Bf.sub.free np3
    have a1 : Same H0 (upd H0 p1 (.tup [.str "in", .int (r1 - 6), .int (r1 - 6 + r3)])) := same_new n10
    have a2 := same_new (o := .tup [.str "in", .int (r2 - 6), .int (r2 - 6 + r4)]) n20
    have a3 := same_new (o := .tup [.ref p1, .ref p2]) n30
    have c1 := a3 _ _ (a2 _ _ (upd_same (H := H0) (a := p1) (o := .tup [.str "in", .int (r1 - 6), .int (r1 - 6 + r3)])))
    have c2 := a3 _ _ (upd_same (H := upd H0 p1 (.tup [.str "in", .int (r1 - 6), .int (r1 - 6 + r3)])) (a := p2) (o := .tup [.str "in", .int (r2 - 6), .int (r2 - 6 + r4)]))
    have c3 := upd_same (H := upd (upd H0 p1 (.tup [.str "in", .int (r1 - 6), .int (r1 - 6 + r3)])) p2 (.tup [.str "in", .int (r2 - 6), .int (r2 - 6 + r4)])) (a := p3) (o := .tup [.ref p1, .ref p2])
    have a4 := a1.trans (a2.trans a3)
    generalize upd (upd (upd H0 p1 (.tup [.str "in", .int (r1 - 6), .int (r1 - 6 + r3)])) p2 (.tup [.str "in", .int (r2 - 6), .int (r2 - 6 + r4)])) p3 (.tup [.ref p1, .ref p2]) = H1 at Bg c1 c2 c3 a4
    generalize upd (upd He p2 _) p3 _ = Hh at Bg ⊢
    -- the third step
    refine ⟨_, rfl, _, rfl, by show 4 ≤ sizeLine; decide, fun l nl => ?_⟩
    have Bi := Bg.new (o := .lst [.str "sum", .str "less", .str "times", .str "times"]) nl
    have a5 := a4.trans (same_new (o := .lst [.str "sum", .str "less", .str "times", .str "times"]) (Bg.sub.free nl))
    have a6 := same_new (o := .lst [.str "sum", .str "less", .str "times", .str "times"]) (Bg.sub.free nl)
    have c4 := upd_same (H := H1) (a := l) (o := .lst [.str "sum", .str "less", .str "times", .str "times"])
    have c1 := a6 _ _ c1
    have c2 := a6 _ _ c2
    have c3 := a6 _ _ c3
    generalize upd H1 l (.lst [.str "sum", .str "less", .str "times", .str "times"]) = H2 at Bi a5 c1 c2 c3 c4
    refine ⟨H2, b, g, l, _, rfl, Bi, .inl (.of c4), (fun z => nomatch z), by show 4 ≤ 100000; decide, fun i w Hj hw Bj => ?_⟩
    obtain ⟨k, hk, rfl⟩ : ∃ k, k ≤ 2 ∧ w = .str (opw k) := by
      match i, hw with
      | 0, hw => exact ⟨0, by decide, (Option.some.inj hw).symm⟩
      | 1, hw => exact ⟨1, by decide, (Option.some.inj hw).symm⟩
      | 2, hw => exact ⟨2, by decide, (Option.some.inj hw).symm⟩
      | 3, hw => exact ⟨2, by decide, (Option.some.inj hw).symm⟩
      | i + 4, hw => simp at hw
    refine ⟨_, rfl, H2, b, g, 2, rfl, Bj, dr _ (by decide) (by decide), fun j Hk j0 j1 Bk => ⟨by show 3 ≤ sizeLine; decide, fun p4 np4 => ⟨by show 1 ≤ sizeLine; decide, fun p5 np5 => ?_⟩⟩⟩
    have Bl := (Bk.new (o := .tup [.str (opw k), .int j, .int 1]) np4).new (o := .tup [.ref p4]) np5
    have m4 := Bk.sub.free np4
    have m5 := (Bk.new (o := .tup [.str (opw k), .int j, .int 1]) np4).sub.free np5
    have b1 := same_new (o := .tup [.str (opw k), .int j, .int 1]) m4
    have b2 := same_new (o := .tup [.ref p4]) m5
    have c5 := b2 _ _ (upd_same (H := H2) (a := p4) (o := .tup [.str (opw k), .int j, .int 1]))
    have c6 := upd_same (H := upd H2 p4 (.tup [.str (opw k), .int j, .int 1])) (a := p5) (o := .tup [.ref p4])
    have a7 := a5.trans (b1.trans b2)
    have c1 := (b1.trans b2) _ _ c1
    have c2 := (b1.trans b2) _ _ c2
    have c3 := (b1.trans b2) _ _ c3
    generalize upd (upd H2 p4 (.tup [.str (opw k), .int j, .int 1])) p5 (.tup [.ref p4]) = H3 at Bl a7 c1 c2 c3 c5 c6
    generalize upd (upd Hk p4 _) p5 _ = Hl at Bl ⊢
    refine ⟨p3, p5, [.ref p1, .ref p2], [.ref p4], rfl, rfl, .of (Bl.sub _ _ c3), .of (Bl.sub _ _ c6), (fun z => nomatch z), by show 3 ≤ sizeLine; decide, (fun z => nomatch z), fun _ p6 np6 => ?_⟩
    have Bm := Bl.new (o := .tup [.ref p1, .ref p2, .ref p4]) np6
    have b3 := same_new (o := .tup [.ref p1, .ref p2, .ref p4]) (Bl.sub.free np6)
    have c7 := upd_same (H := H3) (a := p6) (o := .tup [.ref p1, .ref p2, .ref p4])
    have a8 := a7.trans b3
    have c1 := b3 _ _ c1
    have c2 := b3 _ _ c2
    have c5 := b3 _ _ c5
    generalize upd H3 p6 (.tup [.ref p1, .ref p2, .ref p4]) = H4 at Bm a8 c1 c2 c5 c7
    have TO : TriOk (r1 - 6) (r1 - 6 + r3) (r2 - 6) (r2 - 6 + r4) k := ⟨by omega, by omega, by omega, by omega, by omega, by omega, by omega, by omega, hk⟩
    refine ⟨fun σ H' => ∃ (tp : Addr) (sw : Bool) (H7 : Hp), σ = [some (.ref b), some (.ref tp), none, some (.int (r1 - 6)), some (.int (r2 - 6)), none] ∧ ProgAt H7 tp (tri (r1 - 6) (r1 - 6 + r3) (r2 - 6) (r2 - 6 + r4) k sw) ∧ Same H0 H7 ∧ Bs H7 H' b g, ?_, ?_⟩
    · have e6 := Bm.sub _ _ c7
      have e5 := Bm.sub _ _ c5
      refine ⟨_, rfl, .inr (.inl ⟨p6, _, _, .ref p4, rfl, rfl, .of e6, atI_nat (j := 2) rfl, .inr (.inl ⟨p4, _, _, .int j, rfl, rfl, .of e5, atI_nat (j := 1) rfl, rfl, _, rfl, ?_⟩)⟩)⟩
      obtain rfl | rfl : j = 0 ∨ j = 1 := by omega
      · rw [show decide (V.int 0 = V.int 1) = false from rfl]
        refine iteF ⟨p6, false, H4, rfl, ⟨[p1, p2, p4], c7, .cons c1 (.cons c2 (.cons c5 .nil))⟩, a8, Bm⟩
      · rw [show decide (V.int 1 = V.int 1) = true from rfl]
        refine iteT ⟨_, rfl, 2, rfl, rSlA_of (L2.SqT.of e6) fun o Hs hO sO => ?_⟩
        have Bn := Bm.more sO
        refine ⟨_, rfl, .inr (.inl ⟨p6, _, _, .ref p4, rfl, rfl, .of (sO _ _ e6), atI_nat (j := 2) rfl, .inr (.inl ⟨p4, _, _, .str (opw k), rfl, rfl, .of (sO _ _ e5), atI_nat (j := 0) rfl, by show 3 ≤ sizeLine; decide, fun p7 np7 => ⟨by show 1 ≤ sizeLine; decide, fun p8 np8 => ?_⟩⟩)⟩)⟩
        have Bo := Bn.new (o := .tup [.str (opw k), .int 1, .int 0]) np7
        have d7 := same_new (o := .tup [.str (opw k), .int 1, .int 0]) (Bn.sub.free np7)
        have c8 := upd_same (H := H4) (a := p7) (o := .tup [.str (opw k), .int 1, .int 0])
        have a9 := a8.trans d7
        have c1 := d7 _ _ c1
        have c2 := d7 _ _ c2
        have t1 := (same_new (o := .tup [.str (opw k), .int 1, .int 0]) np7).trans (same_new (o := .tup [.ref p7]) np8)
        have hO2 := Sx.Same.tup t1 hO
        have e8 := upd_same (H := upd Hs p7 (.tup [.str (opw k), .int 1, .int 0])) (a := p8) (o := .tup [.ref p7])
        have Bp := Bo.more (same_new (o := .tup [.ref p7]) np8)
        generalize upd H4 p7 _ = H5 at Bo Bp a9 c1 c2 c8
        generalize upd (upd Hs p7 _) p8 _ = Ht at *
        refine ⟨o, p8, [.ref p1, .ref p2], [.ref p7], rfl, rfl, hO2, .of e8, (fun z => nomatch z), by show 3 ≤ sizeLine; decide, (fun z => nomatch z), fun _ p9 np9 => ?_⟩
        have n9 := Bp.sub.free np9
        have d9 := same_new (o := .tup [.ref p1, .ref p2, .ref p7]) n9
        exact ⟨p9, true, _, rfl, ⟨[p1, p2, p7], upd_same, .cons (d9 _ _ c1) (.cons (d9 _ _ c2) (.cons (d9 _ _ c8) .nil))⟩, a9.trans d9, Bp.new np9⟩
    rintro σ Hx ⟨tp, sw, H7, rfl, P7, s7, B7⟩
    have P8 := ProgAt.same B7.sub P7
    generalize hss : tri (r1 - 6) (r1 - 6 + r3) (r2 - 6) (r2 - 6 + r4) k sw = ss at P8
    have tiny : Tiny ss := by
      rw [← hss]
      exact tri_tiny TO sw
    have prog : IsProg ss := by
      rw [← hss]
      exact tri_prog TO sw
    have len3 : ss.length = 3 := by
      rw [← hss] <;> rfl
    have inp : ∀ ins ∈ allN ss 3, InpOk ss ins := by
      rw [← hss]
      intro ins hins
      obtain ⟨x, y, rfl, h1, h2, h3, h4⟩ := (all_tri _ _ _ _ _ _ ins).mp hins
      exact inp_tri h1 h2 h3 h4
    have sml := allN_small tiny (show 3 ≤ ss.length by omega)
    refine .inl ⟨_, rfl, tp, ss, rfl, P8, tiny, fun l Hy as sy nl ey py => ⟨l, rfl, ⟨_, .of ey⟩, fun D hD => ?_⟩⟩
    rw [len3] at py
    refine lc_reckon (walk_list (xs := as.map V.ref)) (zs := allN ss 3) (by rw [List.length_map]; exact (paired_len py).symm) (fun _ => true) (fun ins => .int ((vals ss ins).getD 2 0)) (by omega) hD (fun H8 s8 => .of (s8 _ _ ey)) ?_ ?_
    · rintro i2 ins x H8 H9 hz s8 ⟨rfl, hx⟩
      obtain ⟨c, hc, pc⟩ := paired_at py hz
      rw [List.getElem?_map, hc] at hx
      obtain rfl : V.ref c = x := Option.some.inj hx
      refine ⟨Same.refl _, _, fun Q q => q, rfl, fun Q q => q _ (Same.refl _), fun _ H9 Q s9 _ q => ⟨_, rfl, _, rfl, tp, c, ss, ins, rfl, ProgAt.same (sy.trans s9) P8, Sx.Same.tup s9 pc, prog, inp ins (List.mem_of_getElem? hz), fun H' s' => ?_⟩⟩
      rw [len3]
      exact q _ s'
    intro Hz s8 ez
    have P9 := ProgAt.same (sy.trans s8) P8
    have Bz := B7.more (sy.trans s8)
    have ez : Hz D = some (.lst (((allN ss 3).map fun ins => (vals ss ins).getD 2 0).map V.int)) := by
      rw [ez, List.filter_eq_self.mpr (fun _ _ => rfl), List.map_map] <;> rfl
    have vpos : 0 < ((allN ss 3).map fun ins => (vals ss ins).getD 2 0).length := by
      rw [List.length_map, ← hss]
      exact List.length_pos_of_mem ((all_tri _ _ _ _ _ _ _).mpr ⟨r1 - 6, r2 - 6, rfl, by omega, by omega, by omega, by omega⟩)
    refine ⟨_, rfl, tp, ss, rfl, P9, prog, fun u Hu su nu hlt => ?_⟩
    obtain ⟨ts, eu, pu⟩ := hlt
    rw [len3] at pu
    have hl : hullsN ss 3 = [(r1 - 6, r1 - 6 + r3), (r2 - 6, r2 - 6 + r4), hullTri (r1 - 6) (r1 - 6 + r3) (r2 - 6) (r2 - 6 + r4) k sw] := by
      rw [← hss]
      exact hulls_tri _ _ _ _ _ _
    rw [hl] at pu
    match ts, pu with
    | [t1, t2, t3], .cons _ (.cons _ (.cons pu .nil)) =>
      obtain ⟨w1, w2⟩ := tri_small TO sw
      refine ⟨1, rfl, .inr (.inl ⟨u, _, _, .ref t3, rfl, rfl, .of eu, atI_last [V.ref t1, V.ref t2] _, _, _, rfl, .tup (.of pu) (.cons (.int _) (.cons (.int _) .nil)), row_two w1 w2, ?_⟩)⟩
      have ey : Hu D = some (.lst (((allN ss 3).map fun ins => (vals ss ins).getD 2 0).map V.int)) := su _ _ ez
      refine ⟨_, rfl, D, _, rfl, .of ey, vpos, fun m hm hml => ⟨_, rfl, D, _, rfl, .of ey, vpos, fun M hM hMg => ⟨by show 2 ≤ sizeLine; decide, fun p np => ?_⟩⟩⟩
      have key := tri_min TO sw (vs := (allN ss 3).map fun ins => (vals ss ins).getD 2 0) (by rw [← hss]) hm hml hM hMg
      rw [key] at w1 w2 ⊢
      refine ⟨_, _, rfl, .tup (.of upd_same) (.cons (.int m) (.cons (.int M) .nil)), row_two w1 w2, rfl, ?_⟩
      rw [decide_eq_true rfl]
      exact q _ ((Bz.more (su.trans (same_new np))).less s7)
theorem ok__law_step (T : Txt K mg a) : FnOk P w K mg base CX0 5 a.f__law_step a.d__law_step ["box", "i"] (sp__law_step K) := by
  have G__law_draw : FnOk P w K mg base CX0 1 a.f__law_draw a.d__law_draw ["box", "many"] (sp__law_draw K) := ok__law_draw T
  have G__law_stretch : FnOk P w K mg base CX0 4 a.f__law_stretch a.d__law_stretch ["box"] (sp__law_stretch K) := ok__law_stretch T
  have G__law_number : FnOk P w K mg base CX0 3 a.f__law_number a.d__law_number ["box"] (sp__law_number K) := ok__law_number T
  refine T._law_step.F.ok sc__law_step (fun vs H Q E h => ?_) (fun cdv A outer s H vs Q E hr h => ?_)
  · obtain ⟨_, _, _, _, rfl, _⟩ := h
    rfl
  · have hu := hu_of hr
    obtain ⟨H0, b, g, i, rfl, B, hi, q⟩ := h
    have dr : ∀ m : Int, 0 < m → m < 2 ^ 60 → Small m := fun m h0 h1 => small_of h0 h1
    refine ⟨_, (pss_cons (ps_set (i := 2) sc__law_step.nd rfl (by first | exact Or.inl rfl | exact Or.inr rfl) (pe_cut (pe_ifExp (pt_cmpR op_gt (pv 1) pe_int (nomark _)) (pe_call G__law_draw (hr.mono (by decide)) (by rfl) T._law_draw.m T._law_draw.F.kp T._law_draw.b .nil pass0 (pa_cons (pv 0) (pa_cons pe_int pa_nil))) (pe_call G__law_draw (hr.mono (by decide)) (by rfl) T._law_draw.m T._law_draw.F.kp T._law_draw.b .nil pass0 (pa_cons (pv 0) (pa_cons pe_int pa_nil))))))
      (pss_cons (ps_if (pt_cmpR op_lt (pv 2) pe_int (nomark _)) (pss_one (ps_ret (pe_op (show OpR _ _ (rCatT K) from op_catT) (pe_tup (pa_cons pe_str pa_nil)) (pe_call G__law_stretch hr (by rfl) T._law_stretch.m T._law_stretch.F.kp T._law_stretch.b .nil pass0 (pa_cons (pv 0) pa_nil))))) pss_nil)
      (pss_cons (ps_if (pt_cmpR op_eq (pv 2) pe_int (nomark _)) (pss_one (ps_ret (pe_tup (pa_cons pe_str (pa_cons (pe_call G__law_number (hr.mono (by decide)) (by rfl) T._law_number.m T._law_number.F.kp T._law_number.b .nil pass0 (pa_cons (pv 0) pa_nil)) pa_nil))))) pss_nil)
      (pss_one (ps_ret (pe_tup (pa_cons (pe_ix (show IxR _ (rIx K) from ix_seq) (pe_lst (pa_cons pe_str (pa_cons pe_str (pa_cons pe_str (pa_cons pe_str (pa_cons pe_str (pa_cons pe_str pa_nil))))))) (pe_op op_sub (pv 2) pe_int) (fun _ _ => rfl)) (pa_cons (pe_call G__law_draw (hr.mono (by decide)) (by rfl) T._law_draw.m T._law_draw.F.kp T._law_draw.b .nil pass0 (pa_cons (pv 0) (pa_cons (pv 1) pa_nil))) (pa_cons (pe_call G__law_draw (hr.mono (by decide)) (by rfl) T._law_draw.m T._law_draw.F.kp T._law_draw.b .nil pass0 (pa_cons (pv 0) (pa_cons (pv 1) pa_nil))) pa_nil))))))))), ?_⟩
    refine ⟨fun v H' => ∃ w : Int, v = .int w ∧ 0 ≤ w ∧ w < 9 ∧ (i = 0 → w < 3) ∧ Bs H0 H' b g, ?_, ?_⟩
    · refine ⟨_, rfl, _, _, rfl, rfl, _, rfl, ite2 (fun h0 => ?_) (fun _ => ?_)⟩
      · have h1 : (0 : Int) < (i : Nat) := of_decide_eq_true h0
        exact ⟨_, rfl, H0, b, g, 9, rfl, B, dr _ (by decide) (by decide), fun r H1 r0 r1 B1 => ⟨r, rfl, r0, r1, fun z => by omega, B1⟩⟩
      · exact ⟨_, rfl, H0, b, g, 3, rfl, B, dr _ (by decide) (by decide), fun r H1 r0 r1 B1 => ⟨r, rfl, r0, by omega, fun _ => r1, B1⟩⟩
    rintro v H1 ⟨w, rfl, w0, w9, wi, B1⟩
    -- way < 2
    refine ⟨_, rfl, _, _, rfl, rfl, _, rfl, ite2 (fun _ => ?_) (fun h2 => ?_)⟩
    · refine ⟨by show 1 ≤ sizeLine; decide, fun p np => ?_⟩
      have n0 := B1.sub.free np
      refine ⟨_, rfl, _, b, g, rfl, B1.new np, fun lo hi p2 H2 H3 n1 n2 n3 s2 m2 e2 B3 => ?_⟩
      have hp3 : H3 p = some (.tup [.str "in"]) := B3.sub _ _ (s2 _ _ upd_same)
      have e3 : H3 p2 = some (.tup [.int lo, .int hi]) := B3.sub _ _ e2
      refine ⟨p, p2, _, _, rfl, rfl, .of hp3, .of e3, (fun z => nomatch z), by show 1 + 2 ≤ sizeLine; decide, (fun z => nomatch z), fun _ p4 np4 => ?_⟩
      have s3 : Same H0 H2 := (same_new n0).trans s2
      exact q (.inn lo hi) p4 (upd H2 p4 (.tup (stepV (.inn lo hi)))) _ ⟨n1, n2, n3⟩ (s3.trans (same_new (B3.sub.free np4))) (s3.free (B3.sub.free np4)) upd_same (B3.new np4)
    -- way == 2
    refine ⟨_, rfl, rfl, _, rfl, ite2 (fun _ => ?_) (fun h3 => ?_)⟩
    · refine ⟨_, rfl, H0, b, g, rfl, B1, fun n H2 hn B2 => ⟨by show 2 ≤ sizeLine; decide, fun p np => ?_⟩⟩
      exact q (.num n) p (upd H0 p (.tup (stepV (.num n)))) _ hn (same_new (B2.sub.free np)) (B2.sub.free np) upd_same (B2.new np)
    -- an operation
    have w2 : ¬ w < 2 := fun z => h2 (decide_eq_true z)
    have w3 : ¬ w = 2 := fun z => h3 (by subst z; exact decide_eq_true rfl)
    have ipos : 0 < i := by
      rcases Nat.eq_zero_or_pos i with h | h
      · have := wi h
        omega
      · exact h
    refine ⟨by show 6 ≤ sizeLine; decide, fun l nl => ?_⟩
    have B2 := B1.more (same_new (o := .lst [.str "sum", .str "sum", .str "less", .str "less", .str "times", .str "times"]) nl)
    obtain ⟨k, kk, ek, ev⟩ : ∃ k kk : Nat, kk ≤ 2 ∧ w - 3 = (k : Int) ∧ [V.str "sum", .str "sum", .str "less", .str "less", .str "times", .str "times"][k]? = some (.str (opw kk)) := by
      have hw : w = 3 ∨ w = 4 ∨ w = 5 ∨ w = 6 ∨ w = 7 ∨ w = 8 := by omega
      rcases hw with rfl | rfl | rfl | rfl | rfl | rfl
      · exact ⟨0, 0, by decide, rfl, rfl⟩
      · exact ⟨1, 0, by decide, rfl, rfl⟩
      · exact ⟨2, 1, by decide, rfl, rfl⟩
      · exact ⟨3, 1, by decide, rfl, rfl⟩
      · exact ⟨4, 2, by decide, rfl, rfl⟩
      · exact ⟨5, 2, by decide, rfl, rfl⟩
    refine ⟨_, rfl, w, 3, rfl, rfl, .inl ⟨l, _, w - 3, _, rfl, rfl, .of upd_same, by rw [ev.1]; exact atI_nat ev.2, ?_⟩⟩
    refine ⟨_, rfl, _, rfl, H0, b, g, (i : Nat), rfl, B2, dr _ (by omega) (by omega), fun r1 H2 r2 r3 B3 => ?_⟩
    refine ⟨_, rfl, _, rfl, H0, b, g, (i : Nat), rfl, B3, dr _ (by omega) (by omega), fun r4 H3 r5 r6 B4 => ⟨by show 3 ≤ sizeLine; decide, fun p np => ?_⟩⟩
    obtain ⟨a1, rfl⟩ : ∃ n : Nat, r1 = (n : Int) := ⟨r1.toNat, by omega⟩
    obtain ⟨a2, rfl⟩ : ∃ n : Nat, r4 = (n : Int) := ⟨r4.toNat, by omega⟩
    exact q (.op kk a1 a2) p (upd H0 p (.tup (stepV (.op kk a1 a2)))) _ ⟨ek, by omega, by omega⟩ (same_new (B4.sub.free np)) (B4.sub.free np) upd_same (B4.new np)
theorem ok__law_program (T : Txt K mg a) : FnOk P w K mg base CX0 6 a.f__law_program a.d__law_program ["box", "most"] (sp__law_program K) := by
  have G__law_step : FnOk P w K mg base CX0 5 a.f__law_step a.d__law_step ["box", "i"] (sp__law_step K) := ok__law_step T
  have G__law_draw : FnOk P w K mg base CX0 1 a.f__law_draw a.d__law_draw ["box", "many"] (sp__law_draw K) := ok__law_draw T
  have G__law_hull : FnOk P w K mg base CX0 1 a.f__law_hull a.d__law_hull ["ends", "step"] (sp__law_hull K) := ok__law_hull T
  have G__law_number : FnOk P w K mg base CX0 3 a.f__law_number a.d__law_number ["box"] (sp__law_number K) := ok__law_number T
  refine T._law_program.F.ok sc__law_program (fun vs H Q E h => ?_) (fun cdv A outer s H vs Q E hr h => ?_)
  · obtain ⟨_, _, _, _, rfl, _⟩ := h
    rfl
  · have hu := hu_of hr
    obtain ⟨H0, b, g, most, rfl, B, m1, m2, q⟩ := h
    have dr : ∀ m : Int, 0 < m → m < 2 ^ 60 → Small m := fun m h0 h1 => small_of h0 h1
    refine ⟨_, (pss_cons (ps_par (i := 3) (j := 4) (by rfl) sc__law_program.nd rfl rfl (by decide) rfl rfl (pa_cons (pe_lst pa_nil) (pa_cons (pe_lst pa_nil) pa_nil)) (by rfl))
      (pss_cons (ps_for PassesOwn.never rfl (pi_range1 rfl T.b_range (pa_cons (pe_op op_add pe_int (pe_call G__law_draw (hr.mono (by decide)) (by rfl) T._law_draw.m T._law_draw.F.kp T._law_draw.b .nil pass0 (pa_cons (pv 0) (pa_cons (pv 1) pa_nil)))) pa_nil)) (pg_name (i := 2) sc__law_program.nd rfl (by first | exact Or.inl rfl | exact Or.inr rfl)) (pss_cons (ps_set (i := 5) sc__law_program.nd rfl (by first | exact Or.inl rfl | exact Or.inr rfl) (pe_call G__law_step hr (by rfl) T._law_step.m T._law_step.F.kp T._law_step.b .nil pass0 (pa_cons (pv 0) (pa_cons (pv 2) pa_nil))))
        (Evl.pss_cut (ps_if (pt_cmpR op_gt (pe_callB (show CallR _ _ (rMax K) from cr_max rfl) (by rfl) T.b_max (by decide +kernel) (pa_cons (pe_lc (own := [("end", 6)]) rfl sc__law_program.nd (show PI _ _ _ (iSeq K _) from pi_seq (pe_call G__law_hull (hr.mono (by decide)) (by rfl) T._law_hull.m T._law_hull.F.kp T._law_hull.b .nil pass0 (pa_cons (pv 4) (pa_cons (pv 5) pa_nil)))) (blkOk_by (N := ["box", "most", "i", "steps", "ends", "step", "end"]) (sc := defScope s__law_program) (by decide +kernel)) (fun _ _ _ _ _ => (pg_name (i := 6) sc__law_program.nd rfl (by first | exact Or.inl rfl | exact Or.inr rfl))) (fun _ _ _ _ _ => pts_nil) (fun _ _ _ _ _ => (pe_callB call_abs (by rfl) T.b_abs (by decide +kernel) (pa_cons (pv 6) pa_nil)))) pa_nil)) (pe_op op_mulW (pe_op op_pow pe_int pe_int) (pe_op op_pow pe_int pe_int)) (nomark _)) (pss_one (ps_set (i := 5) sc__law_program.nd rfl (by first | exact Or.inl rfl | exact Or.inr rfl) (pe_tup (pa_cons pe_str (pa_cons (pe_call G__law_number (hr.mono (by decide)) (by rfl) T._law_number.m T._law_number.F.kp T._law_number.b .nil pass0 (pa_cons (pv 0) pa_nil)) pa_nil))))) pss_nil)
        (pss_cons (ps_expr (show PE _ _ (tBM K "list" _ _ _) from pe_bm PySem.F.plainAttrs_list PySem.F.slot_list_append PySem.F.type_list_append mt_append (pv 3) (pa_cons (pv 5) pa_nil)))
        (pss_one (ps_expr (show PE _ _ (tBM K "list" _ _ _) from pe_bm PySem.F.plainAttrs_list PySem.F.slot_list_append PySem.F.type_list_append mt_append (pv 4) (pa_cons (pe_call G__law_hull (hr.mono (by decide)) (by rfl) T._law_hull.m T._law_hull.F.kp T._law_hull.b .nil pass0 (pa_cons (pv 4) (pa_cons (pv 5) pa_nil))) pa_nil))))))))
      (pss_one (ps_ret (pe_callTy (show CallR _ _ (rTupS K) from call_tuple_of) (by rfl) T.b_tuple (by decide +kernel) (pa_cons (pv 3) pa_nil)))))), ?_⟩
    refine ⟨Nat.zero_le _, fun sl nsl => ⟨Nat.zero_le _, fun el nel => ⟨_, _, rfl, ?_⟩⟩⟩
    have x1 := B.sub.free nsl
    have nel0 : H el = none := (same_new nsl).free nel
    have x2 := B.sub.free nel0
    have B1 := (B.new (o := .lst []) nsl).new (o := .lst []) nel
    have hse : sl ≠ el := ne_of_none (upd_same (H := H) (a := sl) (o := .lst [])) nel
    refine ⟨_, rfl, _, rfl, _, b, g, most, rfl, B1, dr _ (by omega) (by omega), fun n H1 n0 n1 B2 => ⟨_, _, rfl, rfl, _, rfl, by omega, by omega, ?_⟩⟩
    refine for_it (walk_range0 (n := (1 + n).toNat)) (fun i σ H' => ∃ (v2 v5 : Option V) (ss : List Stp) (as es : List Addr) (H2 : Hp), σ = [some (.ref b), some (.int most), v2, some (.ref sl), some (.ref el), v5, none] ∧ Same H0 H2 ∧ ss.length = i ∧
        H2 sl = some (.lst (as.map V.ref)) ∧ H2 el = some (.lst (es.map V.ref)) ∧ Paired (StepAt H2) as ss ∧ Paired (PairAt H2) es (hullsN ss ss.length) ∧ Part ss ∧ Bs H2 H' b g)
      ⟨none, none, [], [], [], _, rfl, (same_new x1).trans (same_new (by rw [upd_ne (Ne.symm hse)]; exact x2)), rfl, by rw [upd_ne hse, upd_same]; rfl, upd_same, .nil, .nil, Part.nil, B2⟩ (fun _ _ _ _ _ => trivial) ?_ ?_
    · rintro i x σ H3 H4 hi ⟨v2, v5, ss, as, es, H2, rfl, s2, hl, a1, a2, p1, p2, P, B3⟩ ⟨rfl, rfl⟩
      have hlen : as.length = i := (paired_len p1).trans hl
      have hlen2 : es.length = i := (paired_len p2).trans ((hullsN_len ss _).trans hl)
      refine ⟨_, rfl, _, rfl, H2, b, g, i, rfl, B3, by omega, fun s p H5 H6 so s5 np e5 B6 => ?_⟩
      -- the hull of the new step
      have hE : HlsAt H6 el (hullsN ss ss.length) := ⟨es, B6.sub _ _ (s5 _ _ a2), paired_same (fun a x r => B6.sub _ _ (s5 _ _ r)) p2⟩
      have hso : StepOk (hullsN ss ss.length).length s := by
        rw [hullsN_len, hl]
        exact so
      refine ⟨fun σ H' => ∃ (s' : Stp) (p' : Addr) (H7 : Hp), σ = [some (.ref b), some (.int most), some (.int (i : Nat)), some (.ref sl), some (.ref el), some (.ref p'), none] ∧ StepOk i s' ∧ Bnd (hullS (hullsN ss ss.length) s') ∧ Same H2 H7 ∧ StepAt H7 p' s' ∧ Bs H7 H' b g, ?_, ?_⟩
      · refine .inr ⟨_, rfl, _, rfl, p, el, s, hullsN ss ss.length, rfl, B6.sub _ _ e5, hE, hso, P.bnd _ (Nat.le_refl _), fun a H7 s7 na pa => ⟨a, rfl, ⟨_, .of pa⟩, fun D hD => ?_⟩⟩
        generalize hge : hullS (hullsN ss ss.length) s = e at pa
        obtain ⟨lo, hi'⟩ := e
        refine lc_reckon (walk_tup (xs := [lo, hi'].map V.int)) (zs := [lo, hi']) rfl (fun _ => true) (fun m => .int (if m < 0 then -m else m)) (by show 2 ≤ 100000; decide) hD (fun H8 s8 => .of (s8 _ _ pa)) ?_ ?_
        · rintro k m x H8 H9 hz s8 ⟨rfl, hx⟩
          rw [List.getElem?_map, hz] at hx
          obtain rfl : V.int m = x := Option.some.inj hx
          exact ⟨Same.refl _, _, fun Q q => q, rfl, fun Q q => q _ (Same.refl _), fun _ H9 Q _ s9 q => ⟨_, rfl, m, rfl, q _ (Same.refl _)⟩⟩
        intro H8 s8 e8
        have e8 : H8 D = some (.lst ([if lo < 0 then -lo else lo, if hi' < 0 then -hi' else hi'].map V.int)) := e8
        refine ⟨D, _, rfl, .of e8, Nat.zero_lt_succ _, fun m hm hmax => ?_⟩
        have B8 := B6.more (s7.trans s8)
        have hab : ∀ z : Int, (if z < 0 then -z else z) ≤ m → m ≤ 10 ^ 120 → z.natAbs ≤ 10 ^ 120 := by
          intro z h1 h2
          have h3 : (z.natAbs : Int) ≤ 10 ^ 120 := by split at h1 <;> omega
          exact Int.ofNat_le.mp h3
        refine ⟨10, 60, rfl, rfl, ⟨by decide, by decide, by decide⟩, 10, 60, rfl, rfl, ⟨by decide, by decide, by decide⟩, _, _, rfl, rfl, bnd_wide (by decide +kernel) (by decide +kernel), m, _, rfl, rfl, _, rfl, ite2 (fun _ => ?_) (fun hle => ?_)⟩
        · refine ⟨_, rfl, H5, b, g, rfl, B8, fun n2 H9 hn B9 => ⟨by show 2 ≤ sizeLine; decide, fun p' np' => ?_⟩⟩
          refine ⟨.num n2, p', upd H5 p' (.tup (stepV (.num n2))), rfl, hn, ⟨num_bnd hn, num_bnd hn⟩, s5.trans (same_new (B9.sub.free np')), upd_same, B9.new np'⟩
        · have hle' : m ≤ 10 ^ 120 := by
            have h1 : ¬ ((10 : Int) ^ 60 * 10 ^ 60 < m) := fun z => hle (decide_eq_true z)
            have h2 : (10 : Int) ^ 60 * 10 ^ 60 = 10 ^ 120 := by decide +kernel
            rw [h2] at h1
            exact Int.not_lt.mp h1
          refine ⟨s, p, H5, rfl, so, ?_, s5, e5, B8⟩
          rw [hge]
          exact ⟨hab lo (hmax _ (by simp)) hle', hab hi' (hmax _ (by simp)) hle'⟩
      · rintro σ H8 ⟨s', p', H7, rfl, so', hb', s7, e7, B7⟩
        have a1' : H7 sl = some (.lst (as.map V.ref)) := s7 _ _ a1
        have a2' : H7 el = some (.lst (es.map V.ref)) := s7 _ _ a2
        -- steps.append(step)
        refine ⟨_, rfl, .inl ⟨rfl, _, .of (B7.sub _ _ a1')⟩, _, rfl, sl, as.map V.ref, .ref p', rfl, rfl, B7.sub _ _ a1', ?_, ?_⟩
        · rw [List.length_map, hlen]
          exact small1000 (by omega)
        have B8 : Bs (upd H7 sl (.lst (as.map V.ref ++ [.ref p']))) (upd H8 sl (.lst (as.map V.ref ++ [.ref p']))) b g := B7.put a1'
        have b2 : (upd H7 sl (.lst (as.map V.ref ++ [.ref p']))) el = some (.lst (es.map V.ref)) := by
          rw [upd_ne (Ne.symm hse)]
          exact a2'
        have b1 : (upd H7 sl (.lst (as.map V.ref ++ [.ref p']))) sl = some (.lst (as.map V.ref ++ [.ref p'])) := upd_same
        have c1 : Paired (StepAt (upd H7 sl (.lst (as.map V.ref ++ [.ref p'])))) as ss := paired_same (fun a x r => tup_put a1' (s7 _ _ r)) p1
        have c2 : Paired (PairAt (upd H7 sl (.lst (as.map V.ref ++ [.ref p'])))) es (hullsN ss ss.length) := paired_same (fun a x r => tup_put a1' (s7 _ _ r)) p2
        have c3 : StepAt (upd H7 sl (.lst (as.map V.ref ++ [.ref p']))) p' s' := tup_put a1' e7
        have c4 : Same H0 (upd H7 sl (.lst (as.map V.ref ++ [.ref p']))) := same_put (s2.trans s7) x1
        generalize upd H7 sl (.lst (as.map V.ref ++ [.ref p'])) = H9 at B8 b1 b2 c1 c2 c3 c4
        generalize upd H8 sl (.lst (as.map V.ref ++ [.ref p'])) = H10 at B8 ⊢
        -- ends.append(..)
        refine ⟨_, rfl, .inl ⟨rfl, _, .of (B8.sub _ _ b2)⟩, _, rfl, _, rfl, p', el, s', hullsN ss ss.length, rfl, B8.sub _ _ c3, ⟨es, B8.sub _ _ b2, paired_same (fun a x r => B8.sub _ _ r) c2⟩, ?_, P.bnd _ (Nat.le_refl _), fun a H11 s11 na pa => ?_⟩
        · rw [hullsN_len, hl]
          exact so'
        have e11 : H11 el = some (.lst (es.map V.ref)) := s11 _ _ (B8.sub _ _ b2)
        refine ⟨el, es.map V.ref, .ref a, rfl, rfl, e11, ?_, ?_⟩
        · rw [List.length_map, hlen2]
          exact small1000 (by omega)
        have B11 := B8.keep s11 na pa
        have na9 : H9 a = none := B8.sub.free na
        have d2 : (upd H9 a (.tup [.int (hullS (hullsN ss ss.length) s').1, .int (hullS (hullsN ss ss.length) s').2])) el = some (.lst (es.map V.ref)) := same_new na9 _ _ b2
        have B12 : Bs (upd (upd H9 a (.tup [.int (hullS (hullsN ss ss.length) s').1, .int (hullS (hullsN ss ss.length) s').2])) el (.lst (es.map V.ref ++ [.ref a]))) (upd H11 el (.lst (es.map V.ref ++ [.ref a]))) b g := B11.put d2
        have sN : Same H9 (upd H9 a (.tup [.int (hullS (hullsN ss ss.length) s').1, .int (hullS (hullsN ss ss.length) s').2])) := same_new na9
        have d3 : PairAt (upd H9 a (.tup [.int (hullS (hullsN ss ss.length) s').1, .int (hullS (hullsN ss ss.length) s').2])) a (hullS (hullsN ss ss.length) s') := upd_same
        generalize upd H9 a (.tup [.int (hullS (hullsN ss ss.length) s').1, .int (hullS (hullsN ss ss.length) s').2]) = H12 at B11 d2 B12 sN d3
        have el0 : H0 el = none := by
          have h := x2
          exact h
        refine ⟨_, _, ss ++ [s'], as ++ [p'], es ++ [a], upd H12 el (.lst (es.map V.ref ++ [.ref a])), rfl, same_put (c4.trans sN) el0, ?_, ?_, ?_, ?_, ?_, P.snoc (by rw [hl]; exact so') hb', B12⟩
        · rw [List.length_append, hl] <;> rfl
        · rw [upd_ne hse, List.map_append]
          exact sN _ _ b1
        · rw [upd_same, List.map_append] <;> rfl
        · exact paired_snoc (paired_same (fun a x r => tup_put d2 (sN _ _ r)) c1) (tup_put d2 (sN _ _ c3))
        · rw [List.length_append, List.length_singleton, hullsN_snoc]
          exact paired_snoc (paired_same (fun a x r => tup_put d2 (sN _ _ r)) c2) (tup_put d2 d3)
    rintro σ H3 ⟨v2, v5, ss, as, es, H2, rfl, s2, hl, a1, a2, p1, p2, P, B3⟩
    refine ⟨_, rfl, sl, as.map V.ref, rfl, .inl ⟨.of (B3.sub _ _ a1), fun l nl => ?_⟩⟩
    have nl2 := B3.sub.free nl
    exact q ss l (upd H2 l (.tup (as.map V.ref))) _ ⟨by omega, by omega, P.ok, P.bnd⟩ (s2.trans (same_new nl2)) (s2.free nl2) ⟨as, upd_same, paired_same (fun a x r => same_new nl2 _ _ r) p1⟩ (B3.new nl)
theorem ok_law (T : Txt K mg a) : FnG P w K mg base CX0 7 a.f_law a.d_law ["script"] (sp_law K) := by
  have G__law_box : FnOk P w K mg base CX0 1 a.f__law_box a.d__law_box ["script"] (sp__law_box K) := ok__law_box T
  have G__law_program : FnOk P w K mg base CX0 6 a.f__law_program a.d__law_program ["box", "most"] (sp__law_program K) := ok__law_program T
  have G__law_inputs : FnOk P w K mg base CX0 3 a.f__law_inputs a.d__law_inputs ["box", "program"] (sp__law_inputs K) := ok__law_inputs T
  have G__law_hull : FnOk P w K mg base CX0 1 a.f__law_hull a.d__law_hull ["ends", "step"] (sp__law_hull K) := ok__law_hull T
  have G__law_values : FnOk P w K mg base CX0 1 a.f__law_values a.d__law_values ["program", "inputs"] (sp__law_values K) := ok__law_values T
  have G_run : FnOk P w K mg base CX0 2 a.f_run a.d_run ["program", "inputs"] (sp_run K) := ok_run T
  have G_result : FnOk P w K mg base CX0 3 a.f_result a.d_result ["program", "inputs"] (sp_result K) := ok_result T
  have G__law_is_filled : FnG P w K mg base CX0 4 a.f__law_is_filled a.d__law_is_filled ["box"] (sp__law_is_filled K) := ok__law_is_filled T
  have G_hulls : FnOk P w K mg base CX0 2 a.f_hulls a.d_hulls ["program"] (sp_hulls K) := ok_hulls T
  refine Sx.okG T.law.F sc_law (fun vs H Q E h => ?_) (fun cdv A outer s H vs Q E hg hr h => ?_)
  · obtain ⟨_, _, rfl, _⟩ := h
    rfl
  · have hu := hu_of hr
    obtain ⟨s0, xs0, rfl, hS, hlen, q⟩ := h
    refine ⟨_, (pss_cons (ps_set (i := 1) sc_law.nd rfl (by first | exact Or.inl rfl | exact Or.inr rfl) (pe_call G__law_box (hr.mono (by decide)) (by rfl) T._law_box.m T._law_box.F.kp T._law_box.b .nil pass0 (pa_cons (pv 0) pa_nil)))
      (pss_cons (ps_for PassesOwn.never rfl (pi_range1 rfl T.b_range (pa_cons pe_int pa_nil)) (pg_name (i := 2) sc_law.nd rfl (by first | exact Or.inl rfl | exact Or.inr rfl)) (pss_cons (ps_set (i := 3) sc_law.nd rfl (by first | exact Or.inl rfl | exact Or.inr rfl) (pe_call G__law_program hr (by rfl) T._law_program.m T._law_program.F.kp T._law_program.b .nil pass0 (pa_cons (pv 1) (pa_cons (pe_cut (pe_ifExp (pt_cmpR op_eq (pv 2) pe_int (nomark _)) pe_int pe_int)) pa_nil))))
        (pss_cons (ps_set (i := 4) sc_law.nd rfl (by first | exact Or.inl rfl | exact Or.inr rfl) (pe_lst pa_nil))
        (pss_cons (ps_for PassesOwn.never rfl (show PI _ _ _ (iSeq K _) from pi_seq (pv 3)) (pg_name (i := 5) sc_law.nd rfl (by first | exact Or.inl rfl | exact Or.inr rfl)) (pss_one (ps_expr (show PE _ _ (tBM K "list" _ _ _) from pe_bm PySem.F.plainAttrs_list PySem.F.slot_list_append PySem.F.type_list_append mt_append (pv 4) (pa_cons (pe_call G__law_hull (hr.mono (by decide)) (by rfl) T._law_hull.m T._law_hull.F.kp T._law_hull.b .nil pass0 (pa_cons (pv 4) (pa_cons (pv 5) pa_nil))) pa_nil)))))
        (pss_cons (ps_set (i := 6) sc_law.nd rfl (by first | exact Or.inl rfl | exact Or.inr rfl) (pe_callB (show CallR _ _ (rShow K) from call_show hg hr.units) (by rfl) T.b_repr (by decide +kernel) (pa_cons (pv 3) pa_nil)))
        (pss_cons (ps_if (pt_cmpR op_ne (pe_callB (show CallR _ _ (rShow K) from call_show hg hr.units) (by rfl) T.b_repr (by decide +kernel) (pa_cons (pe_lst (pa_cons (pe_call G_hulls (hr.mono (by decide)) (by rfl) T.hulls.m T.hulls.F.kp T.hulls.b .nil pass0 (pa_cons (pv 3) pa_nil)) (pa_cons (pe_callKs G_hulls (hr.mono (by decide)) (by rfl) T.hulls.m T.hulls.F.kp (kb_hulls_program T) pass0 (pk_cons (pv 3) pk_nil)) pa_nil))) pa_nil)) (pe_callB (show CallR _ _ (rShow K) from call_show hg hr.units) (by rfl) T.b_repr (by decide +kernel) (pa_cons (pe_op op_rep (pe_lst (pa_cons (pe_callTy (show CallR _ _ (rTupS K) from call_tuple_of) (by rfl) T.b_tuple (by decide +kernel) (pa_cons (pv 4) pa_nil)) pa_nil)) pe_int) pa_nil)) (nomark _)) (pss_one (ps_ret pe_bl)) pss_nil)
        (pss_cons (ps_for PassesOwn.never rfl (pi_range1 rfl T.b_range (pa_cons pe_int pa_nil)) (pg_name (i := 7) sc_law.nd rfl (by first | exact Or.inl rfl | exact Or.inr rfl)) (pss_cons (ps_set (i := 8) sc_law.nd rfl (by first | exact Or.inl rfl | exact Or.inr rfl) (pe_call G__law_inputs (hr.mono (by decide)) (by rfl) T._law_inputs.m T._law_inputs.F.kp T._law_inputs.b .nil pass0 (pa_cons (pv 1) (pa_cons (pv 3) pa_nil))))
          (pss_cons (ps_set (i := 9) sc_law.nd rfl (by first | exact Or.inl rfl | exact Or.inr rfl) (pe_callTy (show CallR _ _ (rTupS K) from call_tuple_of) (by rfl) T.b_tuple (by decide +kernel) (pa_cons (pe_call G__law_values (hr.mono (by decide)) (by rfl) T._law_values.m T._law_values.F.kp T._law_values.b .nil pass0 (pa_cons (pv 3) (pa_cons (pv 8) pa_nil))) pa_nil)))
          (pss_cons (ps_set (i := 10) sc_law.nd rfl (by first | exact Or.inl rfl | exact Or.inr rfl) (pe_lst (pa_cons (pe_call G_run (hr.mono (by decide)) (by rfl) T.run.m T.run.F.kp T.run.b .nil pass0 (pa_cons (pv 3) (pa_cons (pv 8) pa_nil))) (pa_cons (pe_call G_result (hr.mono (by decide)) (by rfl) T.result.m T.result.F.kp T.result.b .nil pass0 (pa_cons (pv 3) (pa_cons (pv 8) pa_nil))) pa_nil))))
          (Evl.pss_cut (ps_if (pt_cmpR op_eq (pv 7) pe_int (nomark _)) (pss_one (ps_set (i := 10) sc_law.nd rfl (by first | exact Or.inl rfl | exact Or.inr rfl) (pe_lst (pa_cons (pe_callKs G_run (hr.mono (by decide)) (by rfl) T.run.m T.run.F.kp (kb_run_inputs_program T) pass0 (pk_cons (pv 8) (pk_cons (pv 3) pk_nil))) (pa_cons (pe_callKs G_result (hr.mono (by decide)) (by rfl) T.result.m T.result.F.kp (kb_result_inputs_program T) pass0 (pk_cons (pv 8) (pk_cons (pv 3) pk_nil))) pa_nil))))) pss_nil)
          (pss_cons (ps_if (pt_cmpR op_ne (pe_callB (show CallR _ _ (rShow K) from call_show hg hr.units) (by rfl) T.b_repr (by decide +kernel) (pa_cons (pv 10) pa_nil)) (pe_callB (show CallR _ _ (rShow K) from call_show hg hr.units) (by rfl) T.b_repr (by decide +kernel) (pa_cons (pe_lst (pa_cons (pv 9) (pa_cons (pe_ix (show IxR _ (rIx K) from ix_seq) (pv 9) (pe_un un_neg pe_int) (fun _ _ => rfl)) pa_nil))) pa_nil)) (nomark _)) (pss_one (ps_ret pe_bl)) pss_nil)
          (pss_one (ps_for PassesOwn.never rfl (show PI _ _ _ (iZipTL K _) from pi_zipTL (by rfl) T.b_zip (pa_cons (pv 9) (pa_cons (pv 4) pa_nil))) (show PG _ _ (gTup K 2 _) from pg_tup rfl (pgs_cons (pg_name (i := 11) sc_law.nd rfl (by first | exact Or.inl rfl | exact Or.inr rfl)) (pgs_cons (show PG _ _ (gTup K 2 _) from pg_tup rfl (pgs_cons (pg_name (i := 12) sc_law.nd rfl (by first | exact Or.inl rfl | exact Or.inr rfl)) (pgs_cons (pg_name (i := 13) sc_law.nd rfl (by first | exact Or.inl rfl | exact Or.inr rfl)) pgs_nil))) pgs_nil))) (pss_one (ps_if (pt_not (pt_chain op_le op_le (pv 12) (pv 11) (pv 13))) (pss_one (ps_ret pe_bl)) pss_nil))))))))))
        (pss_one (ps_if (PW.pt (pw_or (pt_cmpR op_ne (pe_callB (show CallR _ _ (rShow K) from call_show hg hr.units) (by rfl) T.b_repr (by decide +kernel) (pa_cons (pv 3) pa_nil)) (pv 6) (nomark _)) (pw_or1 (pt_not (pt_val (pe_callG hg G__law_is_filled (hr.mono (by decide)) (by rfl) T._law_is_filled.m T._law_is_filled.F.kp T._law_is_filled.b pass0 (pa_cons (pv 1) pa_nil))))))) (pss_one (ps_ret pe_bl)) pss_nil)))))))))
      (pss_one (ps_ret pe_bl)))), ?_⟩
    refine ⟨_, rfl, s0, xs0, rfl, hS, hlen, fun b g H1 B0 => ?_⟩
    refine ⟨3, rfl, by decide, by decide, for_range (lo := 0) (n := 3) (fun i σ H' => ∃ v2 v3 v4 v5 v6 v7 v8 v9 v10 v11 v12 v13 : Option V, σ = [some (.ref s0), some (.ref b), v2, v3, v4, v5, v6, v7, v8, v9, v10, v11, v12, v13] ∧ Bs H H' b g)
      ⟨none, none, none, none, none, none, none, none, none, none, none, none, rfl, B0⟩ ?_ ?_⟩
    rotate_left
    · rintro σ H' ⟨v2, v3, v4, v5, v6, v7, v8, v9, v10, v11, v12, v13, rfl, B1⟩
      exact q _
    rintro turn σ H2 hturn ⟨v2, v3, v4, v5, v6, v7, v8, v9, v10, v11, v12, v13, rfl, B1⟩
    -- program
    refine ⟨_, rfl, fun v H' => H' = H2 ∧ ∃ most : Int, v = .int most ∧ 1 ≤ most ∧ most ≤ 30, ⟨_, rfl, rfl, _, rfl, ite2 (fun _ => ⟨rfl, 30, rfl, by decide, by decide⟩) (fun _ => ⟨rfl, 9, rfl, by decide, by decide⟩)⟩, ?_⟩
    rintro v H' ⟨rfl, most, rfl, m1, m2⟩
    refine ⟨H, b, g, most, rfl, B1, m1, m2, fun ss p Hm H3 P sP np pp B2 => ?_⟩
    have h30 := P.most
    -- ends
    refine ⟨Nat.zero_le _, fun el nel => ?_⟩
    have B3 := B2.new (o := .lst []) nel
    have nelp := B2.sub.free nel
    have c1 : Same Hm (upd Hm el (.lst [])) := same_new nelp
    have PA0 := ProgAt.same c1 pp
    obtain ⟨as, ep, pr⟩ := PA0
    have c2 := upd_same (H := Hm) (a := el) (o := .lst [])
    have c3 := sP.trans c1
    generalize upd Hm el (.lst []) = Hq at B3 ep pr c1 c2 c3
    generalize upd H3 el (.lst []) = H4 at B3 ⊢
    refine .inr ⟨_, rfl, p, rfl, ⟨_, .of (B3.sub _ _ ep)⟩, for_tup (K := K) (a := p) (xs := as.map V.ref) (fun i σ H' => ∃ (v5 : Option V) (es : List Addr) (Hk : Hp), σ = [some (.ref s0), some (.ref b), some (.int (0 + (turn : Int))), some (.ref p), some (.ref el), v5, v6, v7, v8, v9, v10, v11, v12, v13] ∧ Same H Hk ∧ Hk p = some (.tup (as.map V.ref)) ∧ Paired (StepAt Hk) as ss ∧ Hk el = some (.lst (es.map V.ref)) ∧ Paired (PairAt Hk) es (hullsN ss i) ∧ Bs Hk H' b g)
      ⟨v5, [], Hq, rfl, c3, ep, pr, c2, .nil, B3⟩ (fun i σ H' _ ⟨_, _, _, _, _, e, _, _, _, B⟩ => .of (B.sub _ _ e)) ?_ ?_⟩
    · rintro i x σ H5 hx ⟨v5, es, Hk, rfl, sk, ek, pk, e1, pe, B4⟩
      obtain ⟨hi, a, rfl, hs, ha⟩ := stps_at pk hx
      have ok := P.ok i _ hs
      have elen := (paired_len pe).trans (hullsN_len ss i)
      refine ⟨_, rfl, .inl ⟨rfl, _, .of (B4.sub _ _ e1)⟩, _, rfl, _, rfl, a, el, _, _, rfl, B4.sub _ _ ha, ⟨es, B4.sub _ _ e1, paired_same (fun a x r => B4.sub _ _ r) pe⟩, by rw [hullsN_len]; exact ok, P.bnd i (by omega), fun c H6 s6 nc ec => ?_⟩
      have e6 : H6 el = some (.lst (es.map V.ref)) := s6 _ _ (B4.sub _ _ e1)
      refine ⟨el, _, _, rfl, rfl, e6, ?_, ?_⟩
      · rw [List.length_map, elen]
        exact small1000 (by omega)
      have B5 := B4.keep s6 nc ec
      have nck := B4.sub.free nc
      have d1 := same_new (o := .tup [.int (hullS (hullsN ss i) (ss.getD i default)).1, .int (hullS (hullsN ss i) (ss.getD i default)).2]) nck
      have d2 := d1 _ _ e1
      have d3 : PairAt (upd Hk c (.tup [.int (hullS (hullsN ss i) (ss.getD i default)).1, .int (hullS (hullsN ss i) (ss.getD i default)).2])) c (hullS (hullsN ss i) (ss.getD i default)) := upd_same
      have step : hullsN ss (i + 1) = hullsN ss i ++ [hullS (hullsN ss i) (ss.getD i default)] := rfl
      generalize hullS (hullsN ss i) (ss.getD i default) = hh at *
      generalize upd Hk c _ = Hc at *
      have B6 := B5.put (o := .lst (es.map V.ref ++ [.ref c])) d2
      refine ⟨_, es ++ [c], _, rfl, same_put (sk.trans d1) ?_, tup_put d2 (d1 _ _ ek), paired_same (fun a x r => tup_put d2 (d1 _ _ r)) pk, ?_, ?_, B6⟩
      · exact sP.free nelp
      · rw [upd_same, List.map_append] <;> rfl
      · rw [step]
        exact paired_snoc (paired_same (fun a x r => tup_put d2 (d1 _ _ r)) pe) (tup_put d2 d3)
    rintro σ H5 ⟨v5, es, Hk, rfl, sk, ek, pk, e1, pe, B4⟩
    rw [List.length_map, paired_len pr] at pe
    have PAk : ProgAt Hk p ss := ⟨as, ek, pk⟩
    -- known
    refine ⟨_, rfl, _, _, rfl, dp_prog (ProgAt.same B4.sub PAk), (Row.prog P).one, ?_⟩
    -- repr([hulls(program), hulls(program=program)]) != repr([tuple(ends)] * 2)
    refine ⟨_, rfl, p, ss, rfl, ProgAt.same B4.sub PAk, P, fun u1 H6 s6 n6 hl6 => ⟨_, rfl, p, ss, rfl, ProgAt.same (B4.sub.trans s6) PAk, P, fun u2 H7 s7 n7 hl7 => ⟨by show 2 ≤ sizeLine; decide, fun l1 nl1 => ?_⟩⟩⟩
    have t1 := same_new (o := .lst [.ref u1, .ref u2]) nl1
    have bE := P.bnd ss.length (Nat.le_refl _)
    have rowE := Row.hlt bE (by rw [hullsN_len]; omega)
    refine ⟨_, _, rfl, .lst (.of upd_same) (.cons (dp_hlt (HltAt.same (s7.trans t1) hl6)) (.cons (dp_hlt (HltAt.same t1 hl7)) .nil)), Row.two rowE rowE, ?_⟩
    have B7 := B4.more (s6.trans (s7.trans t1))
    generalize upd H7 l1 _ = H8 at B7 ⊢
    refine ⟨_, rfl, el, _, rfl, .inl ⟨.of (B7.sub _ _ e1), fun u3 nu3 => ⟨by show 1 ≤ sizeLine; decide, fun l2 nl2 => ⟨l2, 2, [.ref u3], rfl, rfl, upd_same, by decide, by decide, by show 2 ≤ sizeLine; decide, fun l3 nl3 => ?_⟩⟩⟩⟩
    have t3 := same_new (o := .tup (es.map V.ref)) nu3
    have t4 := same_new (o := .lst [.ref u3]) nl2
    have t5 := same_new (o := .lst (List.replicate (2 : Int).toNat [V.ref u3]).flatten) nl3
    have hl3 : HltAt (upd (upd (upd H8 u3 (.tup (es.map V.ref))) l2 (.lst [.ref u3])) l3 (.lst (List.replicate (2 : Int).toNat [V.ref u3]).flatten)) u3 (hullsN ss ss.length) :=
      HltAt.same (t4.trans t5) ⟨es, upd_same, paired_same (fun a x r => t3 _ _ (B7.sub _ _ r)) pe⟩
    refine ⟨_, _, rfl, .lst (.of upd_same) (.cons (dp_hlt hl3) (.cons (dp_hlt hl3) .nil)), Row.two rowE rowE, rfl, _, rfl, iteNS rfl ?_⟩
    have B8 := B7.more (t3.trans (t4.trans t5))
    generalize upd (upd (upd H8 u3 _) l2 _) l3 _ = H9 at B8 ⊢
    -- for again in range(3)
    generalize hkn : PyData.shown (.tuple (ss.map fun s => .tuple (stepD s))) = kn
    refine ⟨3, rfl, by decide, by decide, for_range (lo := 0) (n := 3) (fun i σ H' => ∃ v7 v8 v9 v10 v11 v12 v13 : Option V, σ = [some (.ref s0), some (.ref b), some (.int (0 + (turn : Int))), some (.ref p), some (.ref el), v5, some (.str kn), v7, v8, v9, v10, v11, v12, v13] ∧ Bs Hk H' b g)
      ⟨v7, v8, v9, v10, v11, v12, v13, rfl, B8⟩ ?_ ?_⟩
    · rintro again σ Ha hag ⟨v7, v8, v9, v10, v11, v12, v13, rfl, B9⟩
      refine ⟨_, rfl, _, rfl, Hk, b, g, p, ss, rfl, B9, PAk, P, fun ins q1 Hn H10 I sn nq eq B10 => ?_⟩
      have PAn := ProgAt.same sn PAk
      have eqq : SqT K H10 q1 (ins.map V.int) := .of (B10.sub _ _ eq)
      refine ⟨_, rfl, _, rfl, p, q1, ss, ins, rfl, ProgAt.same B10.sub PAn, eqq, P, I, fun l H11 s11 nl el11 => ⟨l, _, rfl, .inl ⟨.of el11, fun vt nvt => ?_⟩⟩⟩
      have B11 := (B10.more s11).new (o := .tup ((vals ss ins).map V.int)) nvt
      have nvn := (B10.more s11).sub.free nvt
      have d1 := same_new (o := .tup ((vals ss ins).map V.int)) nvn
      have d2 := upd_same (H := Hn) (a := vt) (o := .tup ((vals ss ins).map V.int))
      have sv := sn.trans d1
      have eq2 := d1 _ _ eq
      have PAv := ProgAt.same d1 PAn
      generalize upd Hn vt _ = Hv at B11 d1 d2 sv eq2 PAv
      generalize upd H11 vt _ = H12 at B11 ⊢
      have bv := vals_bndAll P I
      have lenv : (vals ss ins).length = ss.length := valsN_len ss ins _
      have eT : ∀ H', Bs Hv H' b g → SqT K H' q1 (ins.map V.int) := fun H' B => .of (B.sub _ _ eq2)
      have last : (vals ss ins).getD (ss.length - 1) 0 ∈ vals ss ins := List.mem_of_getElem? (getD_some 0 (by have := P.one; omega))
      generalize hla : (vals ss ins).getD (ss.length - 1) 0 = la at last
      -- told
      refine ⟨_, rfl, _, rfl, p, q1, ss, ins, rfl, ProgAt.same B11.sub PAv, eT _ B11, P, I, fun r1 H13 s13 n13 e13 => ?_⟩
      have B13 := B11.more s13
      refine ⟨_, rfl, _, rfl, p, q1, ss, ins, rfl, ProgAt.same B13.sub PAv, eT _ B13, P, I, fun H14 s14 => ⟨by show 2 ≤ sizeLine; decide, fun tl ntl => ?_⟩⟩
      rw [hla]
      have B14 := B13.more (s14.trans (same_new (o := .lst [.ref r1, .int la]) ntl))
      refine ⟨fun σ H' => ∃ (tl r : Addr) , σ = [some (.ref s0), some (.ref b), some (.int (0 + (turn : Int))), some (.ref p), some (.ref el), v5, some (.str kn), some (.int (0 + (again : Int))), some (.ref q1), some (.ref vt), some (.ref tl), v11, v12, v13] ∧ H' tl = some (.lst [.ref r, .int la]) ∧ H' r = some (.tup ((vals ss ins).map V.int)) ∧ Bs Hv H' b g, ?_, ?_⟩
      · refine ⟨_, rfl, rfl, _, rfl, ite2 (fun _ => ?_) (fun _ => ⟨tl, r1, rfl, upd_same, same_new ntl _ _ (s14 _ _ e13), B14⟩)⟩
        generalize upd H14 tl _ = H15 at B14 ⊢
        refine ⟨_, rfl, _, rfl, p, q1, ss, ins, rfl, ProgAt.same B14.sub PAv, eT _ B14, P, I, fun r2 H16 s16 n16 e16 => ?_⟩
        have B16 := B14.more s16
        refine ⟨_, rfl, _, rfl, p, q1, ss, ins, rfl, ProgAt.same B16.sub PAv, eT _ B16, P, I, fun H17 s17 => ⟨by show 2 ≤ sizeLine; decide, fun tl2 ntl2 => ?_⟩⟩
        exact ⟨tl2, r2, rfl, by rw [upd_same, hla], same_new ntl2 _ _ (s17 _ _ e16), B16.more (s17.trans (same_new ntl2))⟩
      rintro σ H15 ⟨tl, r, rfl, e15, er, B15⟩
      have rowV := Row.nums bv (by omega)
      have rowL := Row.int (bv _ last)
      have ev15 : H15 vt = some (.tup ((vals ss ins).map V.int)) := B15.sub _ _ d2
      refine ⟨_, rfl, _, _, rfl, .lst (.of e15) (.cons (.tup (.of er) (dpa_ints _)) (.cons (.int la) .nil)), Row.two rowV rowL, ?_⟩
      have atl : atI ((vals ss ins).map V.int) (-1) = some (.int la) := by
        rw [← hla]
        exact vals_last (ins := ins) P.one
      refine ⟨_, rfl, _, rfl, 1, rfl, .inr (.inl ⟨vt, _, _, .int la, rfl, rfl, .of ev15, atl, by show 2 ≤ sizeLine; decide, fun l4 nl4 => ?_⟩)⟩
      have t6 := same_new (o := .lst [.ref vt, .int la]) nl4
      refine ⟨_, _, rfl, .lst (.of upd_same) (.cons (.tup (.of (t6 _ _ ev15)) (dpa_ints _)) (.cons (.int la) .nil)), Row.two rowV rowL, rfl, _, rfl, iteNS rfl ?_⟩
      have B16 := B15.more t6
      generalize upd H15 l4 _ = H16 at B16 ⊢
      -- the values lie in their hulls
      have ekv : Hv el = some (.lst (es.map V.ref)) := sv _ _ e1
      have pev : Paired (PairAt Hv) es (hullsN ss ss.length) := paired_same (fun a x r => sv _ _ r) pe
      refine ⟨_, rfl, _, rfl, vt, el, (vals ss ins).map V.int, es.map V.ref, rfl, .of (B16.sub _ _ d2), .of (B16.sub _ _ ekv), ?_⟩
      refine for_it (walk_zipTL (xs := (vals ss ins).map V.int) (ys := es.map V.ref) (n := ss.length) (by rw [List.length_map, lenv]) (by rw [List.length_map, paired_len pe, hullsN_len])) (fun i σ H' => ∃ v11 v12 v13 : Option V, σ = [some (.ref s0), some (.ref b), some (.int (0 + (turn : Int))), some (.ref p), some (.ref el), v5, some (.str kn), some (.int (0 + (again : Int))), some (.ref q1), some (.ref vt), some (.ref tl), v11, v12, v13] ∧ Bs Hv H' b g)
        ⟨v11, v12, v13, rfl, B16⟩ (fun i σ H' _ ⟨_, _, _, _, B⟩ => ⟨.of (B.sub _ _ d2), .of (B.sub _ _ ekv)⟩) ?_ ?_
      · rintro i x σ H17 H18 hi ⟨v11, v12, v13, rfl, B17⟩ ⟨T1, x1, x2, rfl, nT, rfl, f1, f2⟩
        rw [List.getElem?_map, getD_some 0 (show i < (vals ss ins).length by omega)] at f1
        obtain rfl := Option.some.inj f1
        obtain ⟨hi2, c, rfl, pc⟩ := prs_at pev f2
        obtain ⟨k1, k2⟩ := vals_in P I ss.length (Nat.le_refl _) i hi
        generalize (hullsN ss ss.length).getD i (0, 0) = hh at *
        have t7 := same_new (o := .tup [.int ((vals ss ins).getD i 0), .ref c]) nT
        have B18 := B17.more t7
        have pc2 := B18.sub _ _ pc
        refine ⟨T1, _, rfl, .of upd_same, rfl, _, _, rfl, _, _, rfl, c, _, rfl, .of pc2, rfl, _, _, rfl, _, _, rfl, rfl, rfl, ?_⟩
        refine ⟨_, rfl, _, rfl, _, _, rfl, rfl, _, rfl, ?_⟩
        rw [decide_eq_true k1]
        refine iteT ⟨_, rfl, _, _, rfl, rfl, _, rfl, ?_⟩
        rw [decide_eq_true k2]
        exact iteF ⟨_, _, _, rfl, B18⟩
      rintro σ H17 ⟨v11, v12, v13, rfl, B17⟩
      exact ⟨_, _, _, _, _, _, _, rfl, B17.less sv⟩
    rintro σ H10 ⟨v7, v8, v9, v10, v11, v12, v13, rfl, B9⟩
    have PA10 := ProgAt.same B9.sub PAk
    refine ⟨_, rfl, _, _, rfl, dp_prog PA10, (Row.prog P).one, _, rfl, ?_⟩
    rw [hkn]
    refine ⟨rfl, _, rfl, ?_⟩
    rw [decide_eq_true rfl]
    refine iteF ?_
    refine ⟨_, rfl, Hk, b, g, rfl, B9, fun H11 B11 => ?_⟩
    exact ⟨_, rfl, iteF ⟨_, _, _, _, _, _, _, _, _, _, _, _, rfl, B11.less sk⟩⟩
end
theorem all_mk {l : PySem.W.OpenLaw} {w : World} {K : PySem.W.Frag} {h : Heap} {mg : Str → Option Value} {fa f1 f2 f3 f4 f5 f6 f7 f8 f9 f10 f11 f12 f13 f14 f15 f16 f17 f18 f19 f20 : Addr} (X : K.In h) (G : h.Ns mainGlobals mg) (hfa : mg "law" = some (.ref fa))
    {od1 an1 od2 an2 od3 an3 od4 an4 od5 an5 od6 an6 od7 an7 od8 an8 od9 an9 od10 an10 od11 an11 od12 an12 od13 an13 od14 an14 od15 an15 od16 an16 od17 an17 od18 an18 od19 an19 od20 an20 : Option Addr} {sl1 sl2 sl3 sl4 sl5 sl6 sl7 sl8 sl9 sl10 sl11 sl12 sl13 sl14 sl15 sl16 sl17 sl18 sl19 sl20 : Array (Option Value)} {oc1 kV1 dc1 pm1 cd1 ct1 oc2 kV2 dc2 pm2 cd2 ct2 oc3 kV3 dc3 pm3 cd3 ct3 oc4 kV4 dc4 pm4 cd4 ct4 oc5 kV5 dc5 pm5 cd5 ct5 oc6 kV6 dc6 pm6 cd6 ct6 oc7 kV7 dc7 pm7 cd7 ct7 oc8 kV8 dc8 pm8 cd8 ct8 oc9 kV9 dc9 pm9 cd9 ct9 oc10 kV10 dc10 pm10 cd10 ct10 oc11 kV11 dc11 pm11 cd11 ct11 oc12 kV12 dc12 pm12 cd12 ct12 oc13 kV13 dc13 pm13 cd13 ct13 oc14 kV14 dc14 pm14 cd14 ct14 oc15 kV15 dc15 pm15 cd15 ct15 oc16 kV16 dc16 pm16 cd16 ct16 oc17 kV17 dc17 pm17 cd17 ct17 oc18 kV18 dc18 pm18 cd18 ct18 oc19 kV19 dc19 pm19 cd19 ct19 oc20 kV20 dc20 pm20 cd20 ct20 : Value}
    (a1 : PySem.W.nsIn K mainGlobals "hull_of" = some (some (.ref f1))) (l1 : K.lookup f1 = some ⟨oc1, od1, .func (PySem.W.fnOf "hull_of" "hull_of" (defArgs s_hull_of) (defBody s_hull_of) (defScope s_hull_of) .none kV1 dc1 pm1 an1 cd1 ct1), sl1⟩) (c1 : PySem.W.codeIn K cd1 "hull_of" = true) (k1 : PySem.W.keepIn K (.ref f1) = true)
    (a2 : PySem.W.nsIn K mainGlobals "given_integers" = some (some (.ref f2))) (l2 : K.lookup f2 = some ⟨oc2, od2, .func (PySem.W.fnOf "given_integers" "given_integers" (defArgs s_given_integers) (defBody s_given_integers) (defScope s_given_integers) .none kV2 dc2 pm2 an2 cd2 ct2), sl2⟩) (c2 : PySem.W.codeIn K cd2 "given_integers" = true) (k2 : PySem.W.keepIn K (.ref f2) = true)
    (a3 : PySem.W.nsIn K mainGlobals "reckoned" = some (some (.ref f3))) (l3 : K.lookup f3 = some ⟨oc3, od3, .func (PySem.W.fnOf "reckoned" "reckoned" (defArgs s_reckoned) (defBody s_reckoned) (defScope s_reckoned) .none kV3 dc3 pm3 an3 cd3 ct3), sl3⟩) (c3 : PySem.W.codeIn K cd3 "reckoned" = true) (k3 : PySem.W.keepIn K (.ref f3) = true)
    (a4 : PySem.W.nsIn K mainGlobals "run" = some (some (.ref f4))) (l4 : K.lookup f4 = some ⟨oc4, od4, .func (PySem.W.fnOf "run" "run" (defArgs s_run) (defBody s_run) (defScope s_run) .none kV4 dc4 pm4 an4 cd4 ct4), sl4⟩) (c4 : PySem.W.codeIn K cd4 "run" = true) (k4 : PySem.W.keepIn K (.ref f4) = true)
    (a5 : PySem.W.nsIn K mainGlobals "result" = some (some (.ref f5))) (l5 : K.lookup f5 = some ⟨oc5, od5, .func (PySem.W.fnOf "result" "result" (defArgs s_result) (defBody s_result) (defScope s_result) .none kV5 dc5 pm5 an5 cd5 ct5), sl5⟩) (c5 : PySem.W.codeIn K cd5 "result" = true) (k5 : PySem.W.keepIn K (.ref f5) = true)
    (a6 : PySem.W.nsIn K mainGlobals "hulls" = some (some (.ref f6))) (l6 : K.lookup f6 = some ⟨oc6, od6, .func (PySem.W.fnOf "hulls" "hulls" (defArgs s_hulls) (defBody s_hulls) (defScope s_hulls) .none kV6 dc6 pm6 an6 cd6 ct6), sl6⟩) (c6 : PySem.W.codeIn K cd6 "hulls" = true) (k6 : PySem.W.keepIn K (.ref f6) = true)
    (a7 : PySem.W.nsIn K mainGlobals "_law_box" = some (some (.ref f7))) (l7 : K.lookup f7 = some ⟨oc7, od7, .func (PySem.W.fnOf "_law_box" "_law_box" (defArgs s__law_box) (defBody s__law_box) (defScope s__law_box) .none kV7 dc7 pm7 an7 cd7 ct7), sl7⟩) (c7 : PySem.W.codeIn K cd7 "_law_box" = true) (k7 : PySem.W.keepIn K (.ref f7) = true)
    (a8 : PySem.W.nsIn K mainGlobals "_law_draw" = some (some (.ref f8))) (l8 : K.lookup f8 = some ⟨oc8, od8, .func (PySem.W.fnOf "_law_draw" "_law_draw" (defArgs s__law_draw) (defBody s__law_draw) (defScope s__law_draw) .none kV8 dc8 pm8 an8 cd8 ct8), sl8⟩) (c8 : PySem.W.codeIn K cd8 "_law_draw" = true) (k8 : PySem.W.keepIn K (.ref f8) = true)
    (a9 : PySem.W.nsIn K mainGlobals "_law_pick" = some (some (.ref f9))) (l9 : K.lookup f9 = some ⟨oc9, od9, .func (PySem.W.fnOf "_law_pick" "_law_pick" (defArgs s__law_pick) (defBody s__law_pick) (defScope s__law_pick) .none kV9 dc9 pm9 an9 cd9 ct9), sl9⟩) (c9 : PySem.W.codeIn K cd9 "_law_pick" = true) (k9 : PySem.W.keepIn K (.ref f9) = true)
    (a10 : PySem.W.nsIn K mainGlobals "_law_great" = some (some (.ref f10))) (l10 : K.lookup f10 = some ⟨oc10, od10, .func (PySem.W.fnOf "_law_great" "_law_great" (defArgs s__law_great) (defBody s__law_great) (defScope s__law_great) .none kV10 dc10 pm10 an10 cd10 ct10), sl10⟩) (c10 : PySem.W.codeIn K cd10 "_law_great" = true) (k10 : PySem.W.keepIn K (.ref f10) = true)
    (a11 : PySem.W.nsIn K mainGlobals "_law_number" = some (some (.ref f11))) (l11 : K.lookup f11 = some ⟨oc11, od11, .func (PySem.W.fnOf "_law_number" "_law_number" (defArgs s__law_number) (defBody s__law_number) (defScope s__law_number) .none kV11 dc11 pm11 an11 cd11 ct11), sl11⟩) (c11 : PySem.W.codeIn K cd11 "_law_number" = true) (k11 : PySem.W.keepIn K (.ref f11) = true)
    (a12 : PySem.W.nsIn K mainGlobals "_law_hull" = some (some (.ref f12))) (l12 : K.lookup f12 = some ⟨oc12, od12, .func (PySem.W.fnOf "_law_hull" "_law_hull" (defArgs s__law_hull) (defBody s__law_hull) (defScope s__law_hull) .none kV12 dc12 pm12 an12 cd12 ct12), sl12⟩) (c12 : PySem.W.codeIn K cd12 "_law_hull" = true) (k12 : PySem.W.keepIn K (.ref f12) = true)
    (a13 : PySem.W.nsIn K mainGlobals "_law_stretch" = some (some (.ref f13))) (l13 : K.lookup f13 = some ⟨oc13, od13, .func (PySem.W.fnOf "_law_stretch" "_law_stretch" (defArgs s__law_stretch) (defBody s__law_stretch) (defScope s__law_stretch) .none kV13 dc13 pm13 an13 cd13 ct13), sl13⟩) (c13 : PySem.W.codeIn K cd13 "_law_stretch" = true) (k13 : PySem.W.keepIn K (.ref f13) = true)
    (a14 : PySem.W.nsIn K mainGlobals "_law_step" = some (some (.ref f14))) (l14 : K.lookup f14 = some ⟨oc14, od14, .func (PySem.W.fnOf "_law_step" "_law_step" (defArgs s__law_step) (defBody s__law_step) (defScope s__law_step) .none kV14 dc14 pm14 an14 cd14 ct14), sl14⟩) (c14 : PySem.W.codeIn K cd14 "_law_step" = true) (k14 : PySem.W.keepIn K (.ref f14) = true)
    (a15 : PySem.W.nsIn K mainGlobals "_law_program" = some (some (.ref f15))) (l15 : K.lookup f15 = some ⟨oc15, od15, .func (PySem.W.fnOf "_law_program" "_law_program" (defArgs s__law_program) (defBody s__law_program) (defScope s__law_program) .none kV15 dc15 pm15 an15 cd15 ct15), sl15⟩) (c15 : PySem.W.codeIn K cd15 "_law_program" = true) (k15 : PySem.W.keepIn K (.ref f15) = true)
    (a16 : PySem.W.nsIn K mainGlobals "_law_inputs" = some (some (.ref f16))) (l16 : K.lookup f16 = some ⟨oc16, od16, .func (PySem.W.fnOf "_law_inputs" "_law_inputs" (defArgs s__law_inputs) (defBody s__law_inputs) (defScope s__law_inputs) .none kV16 dc16 pm16 an16 cd16 ct16), sl16⟩) (c16 : PySem.W.codeIn K cd16 "_law_inputs" = true) (k16 : PySem.W.keepIn K (.ref f16) = true)
    (a17 : PySem.W.nsIn K mainGlobals "_law_values" = some (some (.ref f17))) (l17 : K.lookup f17 = some ⟨oc17, od17, .func (PySem.W.fnOf "_law_values" "_law_values" (defArgs s__law_values) (defBody s__law_values) (defScope s__law_values) .none kV17 dc17 pm17 an17 cd17 ct17), sl17⟩) (c17 : PySem.W.codeIn K cd17 "_law_values" = true) (k17 : PySem.W.keepIn K (.ref f17) = true)
    (a18 : PySem.W.nsIn K mainGlobals "_law_all_inputs" = some (some (.ref f18))) (l18 : K.lookup f18 = some ⟨oc18, od18, .func (PySem.W.fnOf "_law_all_inputs" "_law_all_inputs" (defArgs s__law_all_inputs) (defBody s__law_all_inputs) (defScope s__law_all_inputs) .none kV18 dc18 pm18 an18 cd18 ct18), sl18⟩) (c18 : PySem.W.codeIn K cd18 "_law_all_inputs" = true) (k18 : PySem.W.keepIn K (.ref f18) = true)
    (a19 : PySem.W.nsIn K mainGlobals "_law_is_filled" = some (some (.ref f19))) (l19 : K.lookup f19 = some ⟨oc19, od19, .func (PySem.W.fnOf "_law_is_filled" "_law_is_filled" (defArgs s__law_is_filled) (defBody s__law_is_filled) (defScope s__law_is_filled) .none kV19 dc19 pm19 an19 cd19 ct19), sl19⟩) (c19 : PySem.W.codeIn K cd19 "_law_is_filled" = true) (k19 : PySem.W.keepIn K (.ref f19) = true)
    (a20 : PySem.W.nsIn K mainGlobals "law" = some (some (.ref f20))) (l20 : K.lookup f20 = some ⟨oc20, od20, .func (PySem.W.fnOf "law" "law" (defArgs s_law) (defBody s_law) (defScope s_law) .none kV20 dc20 pm20 an20 cd20 ct20), sl20⟩) (c20 : PySem.W.codeIn K cd20 "law" = true) (k20 : PySem.W.keepIn K (.ref f20) = true)
    (z_abs : PySem.W.nsIn K mainGlobals "abs" = some none)
    (z_int : PySem.W.nsIn K mainGlobals "int" = some none)
    (z_len : PySem.W.nsIn K mainGlobals "len" = some none)
    (z_list : PySem.W.nsIn K mainGlobals "list" = some none)
    (z_max : PySem.W.nsIn K mainGlobals "max" = some none)
    (z_min : PySem.W.nsIn K mainGlobals "min" = some none)
    (z_range : PySem.W.nsIn K mainGlobals "range" = some none)
    (z_repr : PySem.W.nsIn K mainGlobals "repr" = some none)
    (z_sorted : PySem.W.nsIn K mainGlobals "sorted" = some none)
    (z_tuple : PySem.W.nsIn K mainGlobals "tuple" = some none)
    (z_zip : PySem.W.nsIn K mainGlobals "zip" = some none)
    : ∃ fd : FuncData, (∀ (s : Shared) (v : Value), BindsTo s fd ⟨[v], []⟩ [("script", v)]) ∧ ∀ base : Heap, K.In base → base.Ns mainGlobals mg → FnG l.prog w K mg base CX0 7 fa fd ["script"] (sp_law K) := by
  have e := hfa.symm.trans (PySem.W.mg_of X G a20)
  cases e
  have F1 := fun_mk (st := s_hull_of) l1 c1 k1
  have b1 := F1.binds (ps := ["step", "ahead"]) fun _ _ _ _ _ _ us hl => match us, hl with | [_, _], _ => rfl
  have F2 := fun_mk (st := s_given_integers) l2 c2 k2
  have b2 := F2.binds (ps := ["program", "inputs"]) fun _ _ _ _ _ _ us hl => match us, hl with | [_, _], _ => rfl
  have F3 := fun_mk (st := s_reckoned) l3 c3 k3
  have b3 := F3.binds (ps := ["step", "ahead"]) fun _ _ _ _ _ _ us hl => match us, hl with | [_, _], _ => rfl
  have F4 := fun_mk (st := s_run) l4 c4 k4
  have b4 := F4.binds (ps := ["program", "inputs"]) fun _ _ _ _ _ _ us hl => match us, hl with | [_, _], _ => rfl
  have F5 := fun_mk (st := s_result) l5 c5 k5
  have b5 := F5.binds (ps := ["program", "inputs"]) fun _ _ _ _ _ _ us hl => match us, hl with | [_, _], _ => rfl
  have F6 := fun_mk (st := s_hulls) l6 c6 k6
  have b6 := F6.binds (ps := ["program"]) fun _ _ _ _ _ _ us hl => match us, hl with | [_], _ => rfl
  have F7 := fun_mk (st := s__law_box) l7 c7 k7
  have b7 := F7.binds (ps := ["script"]) fun _ _ _ _ _ _ us hl => match us, hl with | [_], _ => rfl
  have F8 := fun_mk (st := s__law_draw) l8 c8 k8
  have b8 := F8.binds (ps := ["box", "many"]) fun _ _ _ _ _ _ us hl => match us, hl with | [_, _], _ => rfl
  have F9 := fun_mk (st := s__law_pick) l9 c9 k9
  have b9 := F9.binds (ps := ["box", "items"]) fun _ _ _ _ _ _ us hl => match us, hl with | [_, _], _ => rfl
  have F10 := fun_mk (st := s__law_great) l10 c10 k10
  have b10 := F10.binds (ps := ["box", "many"]) fun _ _ _ _ _ _ us hl => match us, hl with | [_, _], _ => rfl
  have F11 := fun_mk (st := s__law_number) l11 c11 k11
  have b11 := F11.binds (ps := ["box"]) fun _ _ _ _ _ _ us hl => match us, hl with | [_], _ => rfl
  have F12 := fun_mk (st := s__law_hull) l12 c12 k12
  have b12 := F12.binds (ps := ["ends", "step"]) fun _ _ _ _ _ _ us hl => match us, hl with | [_, _], _ => rfl
  have F13 := fun_mk (st := s__law_stretch) l13 c13 k13
  have b13 := F13.binds (ps := ["box"]) fun _ _ _ _ _ _ us hl => match us, hl with | [_], _ => rfl
  have F14 := fun_mk (st := s__law_step) l14 c14 k14
  have b14 := F14.binds (ps := ["box", "i"]) fun _ _ _ _ _ _ us hl => match us, hl with | [_, _], _ => rfl
  have F15 := fun_mk (st := s__law_program) l15 c15 k15
  have b15 := F15.binds (ps := ["box", "most"]) fun _ _ _ _ _ _ us hl => match us, hl with | [_, _], _ => rfl
  have F16 := fun_mk (st := s__law_inputs) l16 c16 k16
  have b16 := F16.binds (ps := ["box", "program"]) fun _ _ _ _ _ _ us hl => match us, hl with | [_, _], _ => rfl
  have F17 := fun_mk (st := s__law_values) l17 c17 k17
  have b17 := F17.binds (ps := ["program", "inputs"]) fun _ _ _ _ _ _ us hl => match us, hl with | [_, _], _ => rfl
  have F18 := fun_mk (st := s__law_all_inputs) l18 c18 k18
  have b18 := F18.binds (ps := ["program"]) fun _ _ _ _ _ _ us hl => match us, hl with | [_], _ => rfl
  have F19 := fun_mk (st := s__law_is_filled) l19 c19 k19
  have b19 := F19.binds (ps := ["box"]) fun _ _ _ _ _ _ us hl => match us, hl with | [_], _ => rfl
  have F20 := fun_mk (st := s_law) l20 c20 k20
  have b20 := F20.binds (ps := ["script"]) fun _ _ _ _ _ _ us hl => match us, hl with | [_], _ => rfl
  have T : Txt K mg ⟨f1, _, f2, _, f3, _, f4, _, f5, _, f6, _, f7, _, f8, _, f9, _, f10, _, f11, _, f12, _, f13, _, f14, _, f15, _, f16, _, f17, _, f18, _, f19, _, fa, _⟩ := ⟨⟨F1, b1, PySem.W.mg_of X G a1⟩, ⟨F2, b2, PySem.W.mg_of X G a2⟩, ⟨F3, b3, PySem.W.mg_of X G a3⟩, ⟨F4, b4, PySem.W.mg_of X G a4⟩, ⟨F5, b5, PySem.W.mg_of X G a5⟩, ⟨F6, b6, PySem.W.mg_of X G a6⟩, ⟨F7, b7, PySem.W.mg_of X G a7⟩, ⟨F8, b8, PySem.W.mg_of X G a8⟩, ⟨F9, b9, PySem.W.mg_of X G a9⟩, ⟨F10, b10, PySem.W.mg_of X G a10⟩, ⟨F11, b11, PySem.W.mg_of X G a11⟩, ⟨F12, b12, PySem.W.mg_of X G a12⟩, ⟨F13, b13, PySem.W.mg_of X G a13⟩, ⟨F14, b14, PySem.W.mg_of X G a14⟩, ⟨F15, b15, PySem.W.mg_of X G a15⟩, ⟨F16, b16, PySem.W.mg_of X G a16⟩, ⟨F17, b17, PySem.W.mg_of X G a17⟩, ⟨F18, b18, PySem.W.mg_of X G a18⟩, ⟨F19, b19, PySem.W.mg_of X G a19⟩, ⟨F20, b20, PySem.W.mg_of X G a20⟩, PySem.W.mg_none_of X G z_abs, PySem.W.mg_none_of X G z_int, PySem.W.mg_none_of X G z_len, PySem.W.mg_none_of X G z_list, PySem.W.mg_none_of X G z_max, PySem.W.mg_none_of X G z_min, PySem.W.mg_none_of X G z_range, PySem.W.mg_none_of X G z_repr, PySem.W.mg_none_of X G z_sorted, PySem.W.mg_none_of X G z_tuple, PySem.W.mg_none_of X G z_zip⟩
  exact ⟨_, fun s v => .of_eq rfl, fun base _ _ => ok_law T⟩
end K5
open PySem PySem.W PyProof.Rows
set_option maxHeartbeats 0 in
theorem PySem.Challenge.cw_straylanes_k05_whole_values_and_hulls_holds : PySem.Challenge.rw_straylanes_k05_whole_values_and_hulls.Holds := by
  w_on; o_law; k_head; (case hw => w_witness2)
  k_fill
  refine Sx.walkG (l := PySem.Challenge.rw_straylanes_k05_whole_values_and_hulls) (n := 63) (k := 7) (x := "script") (sp := Sx.sp_law) rfl (by decide) rfl ⟨rfl, by decide, by decide⟩ (fun w h Y => PySem.W.kIn_of Y) ?F (fun _ _ a ns hl _ hS => ⟨a, ns, rfl, hS, hl, fun _ => rfl⟩)
  case F =>
    intro w mg fa h KX G hmg
    refine' K5.all_mk KX G hmg ?a1 ?l1 ?c1 ?k1 ?a2 ?l2 ?c2 ?k2 ?a3 ?l3 ?c3 ?k3 ?a4 ?l4 ?c4 ?k4 ?a5 ?l5 ?c5 ?k5 ?a6 ?l6 ?c6 ?k6 ?a7 ?l7 ?c7 ?k7 ?a8 ?l8 ?c8 ?k8 ?a9 ?l9 ?c9 ?k9 ?a10 ?l10 ?c10 ?k10 ?a11 ?l11 ?c11 ?k11 ?a12 ?l12 ?c12 ?k12 ?a13 ?l13 ?c13 ?k13 ?a14 ?l14 ?c14 ?k14 ?a15 ?l15 ?c15 ?k15 ?a16 ?l16 ?c16 ?k16 ?a17 ?l17 ?c17 ?k17 ?a18 ?l18 ?c18 ?k18 ?a19 ?l19 ?c19 ?k19 ?a20 ?l20 ?c20 ?k20 ?z_abs ?z_int ?z_len ?z_list ?z_max ?z_min ?z_range ?z_repr ?z_sorted ?z_tuple ?z_zip
    (case a1 => k_is)
    (case l1 => k_is)
    (case c1 => k_is)
    (case k1 => k_is)
    (case a2 => k_is)
    (case l2 => k_is)
    (case c2 => k_is)
    (case k2 => k_is)
    (case a3 => k_is)
    (case l3 => k_is)
    (case c3 => k_is)
    (case k3 => k_is)
    (case a4 => k_is)
    (case l4 => k_is)
    (case c4 => k_is)
    (case k4 => k_is)
    (case a5 => k_is)
    (case l5 => k_is)
    (case c5 => k_is)
    (case k5 => k_is)
    (case a6 => k_is)
    (case l6 => k_is)
    (case c6 => k_is)
    (case k6 => k_is)
    (case a7 => k_is)
    (case l7 => k_is)
    (case c7 => k_is)
    (case k7 => k_is)
    (case a8 => k_is)
    (case l8 => k_is)
    (case c8 => k_is)
    (case k8 => k_is)
    (case a9 => k_is)
    (case l9 => k_is)
    (case c9 => k_is)
    (case k9 => k_is)
    (case a10 => k_is)
    (case l10 => k_is)
    (case c10 => k_is)
    (case k10 => k_is)
    (case a11 => k_is)
    (case l11 => k_is)
    (case c11 => k_is)
    (case k11 => k_is)
    (case a12 => k_is)
    (case l12 => k_is)
    (case c12 => k_is)
    (case k12 => k_is)
    (case a13 => k_is)
    (case l13 => k_is)
    (case c13 => k_is)
    (case k13 => k_is)
    (case a14 => k_is)
    (case l14 => k_is)
    (case c14 => k_is)
    (case k14 => k_is)
    (case a15 => k_is)
    (case l15 => k_is)
    (case c15 => k_is)
    (case k15 => k_is)
    (case a16 => k_is)
    (case l16 => k_is)
    (case c16 => k_is)
    (case k16 => k_is)
    (case a17 => k_is)
    (case l17 => k_is)
    (case c17 => k_is)
    (case k17 => k_is)
    (case a18 => k_is)
    (case l18 => k_is)
    (case c18 => k_is)
    (case k18 => k_is)
    (case a19 => k_is)
    (case l19 => k_is)
    (case c19 => k_is)
    (case k19 => k_is)
    (case a20 => k_is)
    (case l20 => k_is)
    (case c20 => k_is)
    (case k20 => k_is)
    (case z_abs => k_is)
    (case z_int => k_is)
    (case z_len => k_is)
    (case z_list => k_is)
    (case z_max => k_is)
    (case z_min => k_is)
    (case z_range => k_is)
    (case z_repr => k_is)
    (case z_sorted => k_is)
    (case z_tuple => k_is)
    (case z_zip => k_is)
