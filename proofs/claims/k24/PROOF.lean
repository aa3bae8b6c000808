import PyProof.Rows.All
import Wide.All
import OpenK.AllK
import Wide.FinOn
import PyProof.ReprRoads
import PyProof.ReprLen
import HandS.ForMost
import HandS.Wide
import HandS.IsInst
import HandS.Walk
import HandS.Zip
import HandS.TupAny
import HandS.TupMul
import HandS.SortInts
import HandS.Flow
import HandS.Evl
import KE.GoesEnum
import KE.GoesMore
import KE.GoesZip
import KE.DataMinMax
import HandS.Conv
import PyProof.ReprReads
import PyProof.ReprDict
import HandS.TupLe
import HandS.Style
import PyProof.NeKinds
import KE.KUnpack
import HandS.Strs
import HandS.Gcd
import KE.DataEq
import PyProof.EqKinds
import HandS.NamedTupSort
import HandS.SortRule
import HandS.Rev
import HandS.RevTup
import HandS.WideBits
import KE.BitLaws
import KE.OsArith
import KE.KMathG
import HandS.SetFor
import HandS.SortKw
import HandS.TupSets
import HandS.TupLen
import HandS.ExcInit
import HandS.ExcField
import HandS.ExcIs
import HandS.WordsExc
import HandS.ExcOwn
import HandS.TryOnly
import HandS.TryMany
import HandS.Small
import KE.KExcIs
import KE.KDictDisplayH
import HandS.SetBool
import PyProof.Rows.SortShellAny
import KE.KDictZip
import HandS.Zip0
import PyProof.EnumMake
import PyProof.LongRange
import KE.KDictSum
import PySem.Challenge.RW_straylanes_k24_whole_told_for_all_strays
set_option maxHeartbeats 4000000
set_option Elab.async false
set_option linter.all false
set_option maxRecDepth 100000
namespace Sx
open PySem PySem.Spec PyProof.Rows L2

structure FnG (P : Program) (w : World) (K : PySem.W.Frag) (mg : Str → Option Value) (B : Heap) (CX : CXT) (n : Nat) (f : Addr) (fd : FuncData) (ps : List Str) (sp : Sp) : Prop where
  lenG : ∀ vs H Q E, sp vs H Q E → vs.length = ps.length
  runG : ∀ (A : Around) (out : List Env) (s : Shared) (H : Hp) (as : Args) (us : List Value) (vs : List V) (Q : VK) (E : XK), A.guards = some [] → Room n A →
    Env0 P w K mg B A out s H → BindsTo s fd as (ps.zip us) → Vals vs us → sp vs H Q E → codeAny (model P w) A (.call (.ref f) as) (CR CX out P w H s Q E) s

section
variable {P : Program} {w : World} {K : PySem.W.Frag} {mg : Str → Option Value} {B : Heap} {CX : CXT}
theorem FnG.up {n m : Nat} {f : Addr} {fd : FuncData} {ps : List Str} {sp : Sp} (F : FnG P w K mg B CX n f fd ps sp) (h : n ≤ m) : FnG P w K mg B CX m f fd ps sp :=
  ⟨F.lenG, fun A out s H as us vs Q E hg hr => F.runG A out s H as us vs Q E hg (hr.mono h)⟩
theorem okGX {x qual : Str} {st : Stmt} {f : Addr} {fd : FuncData} {N ps : List Str} {n : Nat} {sp : Sp} (F : Fun K x qual st f fd) (S : FnScope N ps (defScope st)) (hlen : ∀ vs H Q E, sp vs H Q E → vs.length = ps.length)
    (body : ∀ (cd : Value) (A : Around) (out : List Env) (s : Shared) (H : Hp) (vs : List V) (Q : VK) (E : XK), A.guards = some [] → Room n (A.deeper (envOfC qual (defScope st) s.heap.objs.size f cd)) → sp vs H Q E →
      ∃ t, PSs (cxOf CX P w K mg B N qual (defScope st) f cd A out s H E) (defBody st) t ∧ t { nx := fun _ H1 => Q .non H1, rt := Q } (start N vs) H) : FnG P w K mg B CX (n + 1) f fd ps sp := by
  obtain ⟨oc, od, kV, doc, pm, an, cd, ct, osl, rfl, lk, hcd⟩ := F.ex
  refine ⟨hlen, ?_⟩
  intro A out s H as us vs Q E hg hr e0 hb rel hsp
  have hl := hlen vs H Q E hsp
  have kin : K.In s.heap := e0.mod.kin.keeps (fun b o e => (e0.bs b o e).1)
  have nol : s.heap.NoLimit := e0.mod.nolimit.keeps (fun b o e => (e0.bs b o e).1)
  refine codeAny_call_function hr.depth (kin _ _ lk) rfl S.co S.gen rfl (PySem.W.codeRec_of kin hcd)
    (hb _ _ _ _ ?_)
  refine wpAny_newFunctionEnv_cells S.kind (fun y hy => (S.par y.1 (List.of_mem_zip (a := y.1) (b := y.2) hy).1).elim (fun q => Or.inl q) fun q => Or.inr ⟨q, PySem.W.cellsFrom_some _ _ _ (Or.inl q)⟩) ?_
  intro env he s1 x
  subst he
  refine ⟨nol.keeps x.toInCall.keep, codeAny_func ?_⟩
  obtain ⟨t, ht, hq⟩ := body cd A out s H vs Q E hg (hr.deeper _) hsp
  have I := inv_start (CX := CX) (E := E) S hr.hd e0 hl rel x
  refine wpAny_mono (ht.run [] s1 (start N vs) H _ I hq) ?_ (fun _ _ z => z)
  intro fl s' hs
  cases fl with
  | ret u =>
    obtain ⟨v, σ1, H1, J, rv, q⟩ := hs
    exact (show CE out P w H s Q u s' from ⟨v, H1, J.os, J.bare, J.base, J.hok, rv, q⟩)
  | next =>
    obtain ⟨σ1, H1, J, q⟩ := hs
    exact (show CE out P w H s Q Value.none s' from ⟨V.non, H1, J.os, J.bare, J.base, J.hok, rfl, q⟩)
  | brk =>
    obtain ⟨_, _, _, q⟩ := hs
    exact q.elim
  | cont =>
    obtain ⟨_, _, _, q⟩ := hs
    exact q.elim
theorem okG {x qual : Str} {st : Stmt} {f : Addr} {fd : FuncData} {N ps : List Str} {n : Nat} {sp : Sp} (F : Fun K x qual st f fd) (S : FnScope N ps (defScope st)) (hlen : ∀ vs H Q E, sp vs H Q E → vs.length = ps.length)
    (body : ∀ (cd : Value) (A : Around) (out : List Env) (s : Shared) (H : Hp) (vs : List V) (Q : VK) (E : XK), A.guards = some [] → Room n (A.deeper (envOfC qual (defScope st) s.heap.objs.size f cd)) → sp vs H Q E →
      ∃ t, PSs (cxOf CX0 P w K mg B N qual (defScope st) f cd A out s H E).nox (defBody st) t ∧ t { nx := fun _ H1 => Q .non H1, rt := Q } (start N vs) H) : FnG P w K mg B CX0 (n + 1) f fd ps sp :=
  okGX F S hlen fun cd A out s H vs Q E hg hr hsp => let ⟨t, h, q⟩ := body cd A out s H vs Q E hg hr hsp; ⟨t, h.nox, q⟩
end

section
variable {X : Cx} {CX : CXT} {n : Nat} {f : Addr} {fd : FuncData} {ps : List Str} {sp : Sp} {dvs : List V} {ds : List Value} {E : XK} {x : Str} {p pos : Pos} {e : Expr} {es : List Expr} {t : TA}
theorem pe_callKs {ks : List Str} {kws : List Keyword} {tk : TA} {g : List Value → List Value → List Value} {gV : List V → List V → List V} (F : FnOk X.prog X.w X.K X.mg X.base CX n f fd ps sp) (hr : Room n X.A) (hgl : Gl X x) (hm : X.mg x = some (.ref f))
    (hk : PySem.W.keepIn X.K (.ref f) = true) (hb : KBinds X.K fd ps ks g gV) (hx : Passes CX X E) (hkw : PK X kws tk) (hall : (backToKw pos (keywordEach kws X.env)).all (·.1.isSome) = true := by rfl)
    (hks : (backToKw pos (keywordEach kws X.env)).filterMap (·.1) = ks := by rfl) (hdb : (x == ("__debug__" : Str)) = false := by decide)
    (hpl : ((backTo pos (starEach [] X.env)).any (·.1) || (backToKw pos (keywordEach kws X.env)).any (·.1.isNone)) = false := by rfl) : PE X (.Call (.Name x p) [] kws pos) (tCallK sp gV E tNil tk) := by
  refine ⟨fun pins s σ H Q I h => wpAny_Call_Name_kw (ld_glob I hgl hm ?_ hdb)⟩
  refine PySem.W.callWith_KW0 (h₀ := X.base) I.ok.mod.kin hk hall (thn (hkw.run pos pins s σ H _ I h) ?_) hpl
  rintro ws s2 ⟨zs, H2, I2, rz, q2⟩
  refine ⟨I2.kIn, ?_⟩
  rw [hks]
  exact run_fnk (us := []) (vs := []) F hr hb hx I2 .nil rz q2
end

theorem Fun.kb {K : PySem.W.Frag} {x qual : Str} {st : Stmt} {f : Addr} {fd : FuncData} {ps ks : List Str} {g : List Value → List Value → List Value} {gV : List V → List V → List V} (F : Fun K x qual st f fd)
    (h : ∀ (kV doc pm : Value) (an : Option Addr) (cd ct : Value) (us ws : List Value), (g us ws).length = ps.length → bindArgs (PySem.W.fnOf x qual (defArgs st) (defBody st) (defScope st) .none kV doc pm an cd ct) ⟨us, ks.zip ws⟩ = pure (ps.zip (g us ws)))
    (rel : ∀ {vs : List V} {us : List Value} {zs : List V} {ws : List Value}, Vals vs us → Vals zs ws → Vals (gV vs zs) (g us ws)) : KBinds K fd ps ks g gV := by
  obtain ⟨oc, od, kV, doc, pm, an, cd, ct, osl, rfl, lk, hcd⟩ := F.ex
  exact ⟨fun s us ws _ hl => .of_eq (h kV doc pm an cd ct us ws hl), rel⟩

mutual
theorem dp_plain {K : PySem.W.Frag} {H : Hp} : ∀ (d : PyData) (v : V), Dp K H v d → d.hasDict = false
  | .none, _, _ => by simp only [PyData.hasDict]
  | .bool _, _, _ => by simp only [PyData.hasDict]
  | .int _, _, _ => by simp only [PyData.hasDict]
  | .str _, _, _ => by simp only [PyData.hasDict]
  | .list ds, _, h => by
    cases h with
    | lst _ ha =>
      simp only [PyData.hasDict]
      exact dp_plainAll ds _ ha
  | .tuple ds, _, h => by
    cases h with
    | tup _ ha =>
      simp only [PyData.hasDict]
      exact dp_plainAll ds _ ha
  | .dict _, _, h => by cases h
theorem dp_plainAll {K : PySem.W.Frag} {H : Hp} : ∀ (ds : List PyData) (vs : List V), DpAll K H vs ds → PyData.hasDictAll ds = false
  | [], _, _ => by simp only [PyData.hasDictAll]
  | d :: ds, _, h => by
    cases h with
    | cons h1 h2 =>
      simp only [PyData.hasDictAll, dp_plain d _ h1, dp_plainAll ds _ h2, Bool.or_self]
end
structure Shows (d : PyData) : Prop where
  ok : d.showable = true
  sz : d.shown.length ≤ sizeLine
  dp : d.depth ≤ 60
def rShow (K : PySem.W.Frag) : List V → Hp → VK → Prop := fun xs H Q => ∃ v d, xs = [v] ∧ Dp K H v d ∧ Shows d ∧ Q (.str d.shown) H
theorem call_show {X : Cx} (hg : X.A.guards = some []) (hu : X.A.units + 64 < cLine) : CallR X (.builtin "repr") (rShow X.K) := by
  intro pins s σ H xs us Q I r h
  obtain ⟨v, d, rfl, hd, S, q⟩ := h
  obtain ⟨u, rfl, r1⟩ := vals1 r
  have q0 : (PyData.shown d) = d.shown := rfl
  cases hd with
  | non =>
    obtain rfl : u = Value.none := r1
    simp only [PyData.shown] at q
    exact PySem.P.repr_of_none ⟨.str _, H, I.tok _, ⟨_, rfl⟩, q⟩
  | bl b =>
    obtain rfl : u = Value.bool b := r1
    simp only [PyData.shown] at q
    exact PySem.P.repr_of_bool ⟨.str _, H, I.tok _, ⟨_, rfl⟩, by cases b <;> exact q⟩
  | int i =>
    obtain ⟨t, rfl⟩ := r1
    have hs := S.ok
    simp only [PyData.shown] at q
    exact PySem.P.repr_of_int (by simpa [PyData.showable] using hs) ⟨.str _, H, I.tok _, ⟨_, rfl⟩, q⟩
  | str y =>
    obtain ⟨t, rfl⟩ := r1
    have hz := S.sz
    simp only [PyData.shown] at q hz
    exact PySem.P.repr_of_str ⟨.str _, H, I.tok _, ⟨_, rfl⟩, q⟩ hz
  | @lst a ys ds h1 h2 =>
    obtain rfl : u = Value.ref a := r1
    have hp := dp_plain _ _ (Dp.lst h1 h2)
    obtain ⟨as, rd⟩ := Dp.reads I _ (V.ref a) (Value.ref a) (Dp.lst h1 h2) rfl
    exact repr_of_reads' rd S.ok (PyData.noDict_hsm hp) hg (by have := S.dp; omega) (fun _ _ e => e) (fun h' tu tk hk => ⟨.str _, H, I.kept hk, ⟨_, rfl⟩, q⟩) S.sz
  | @tup a ys ds h1 h2 =>
    obtain rfl : u = Value.ref a := r1
    have hp := dp_plain _ _ (Dp.tup h1 h2)
    obtain ⟨as, rd⟩ := Dp.reads I _ (V.ref a) (Value.ref a) (Dp.tup h1 h2) rfl
    exact repr_of_reads' rd S.ok (PyData.noDict_hsm hp) hg (by have := S.dp; omega) (fun _ _ e => e) (fun h' tu tk hk => ⟨.str _, H, I.kept hk, ⟨_, rfl⟩, q⟩) S.sz
end Sx
namespace Sx
open PySem PySem.Spec PyProof.Rows L2

section
variable {P : Program} {w : World} {K : PySem.W.Frag} {mg mb : Str → Option Value} {n : Nat} {fa a : Addr} {fd : FuncData} {x : Str} {sp : Sp} {s : Shared} {us : List Value} {ns : List Int}
abbrev Good (s : Shared) : Result → Shared → Prop := fun r s' => r = .ok (.ret (.bool true)) ∧ OldK s.heap s'.heap ∧ s'.os = s.os ∧ AllBare s'.gens
theorem law_from (kin : K.In s.heap) (hns : s.heap.Ns mainGlobals mg) (hb : s.heap.Ns builtinsNs mb) (hbb : ∀ x : Str, x ≠ "__name__" → mb x = bootBuiltins x) (hlim : s.heap.NoLimit) (hgens : s.gens = #[])
    (ha : s.heap.get? a = some { cls := .type "list", data := .seq us.toArray }) (hr : Room n callerA)
    (F : ∀ B : Heap, K.In B → B.Ns mainGlobals mg → FnG P w K mg B CX0 n fa fd [x] sp) (hbind : ∀ (s : Shared) (u : Value), BindsTo s fd ⟨[u], []⟩ [(x, u)]) (H : Hp)
    (hsp : sp [.ref a] H (fun v _ => v = .bl true) fun _ _ _ => False) (only : Only H) (ok : HOk P w H s.heap) (one : ∀ b, H b ≠ none → b = a) (apart : H a ≠ none → K.lookup a = none) :
    codeAny (model P w) callerA (.call (.ref fa) ⟨[.ref a], []⟩) (Good s) s := by
  have free : ∀ {b : Addr} {o : Obj} {es : Array DictEntry} {ep : Nat}, s.heap.get? b = some o → o.data = .dict es ep → H b = none := by
    intro b o es ep e d
    cases q : H b with
    | none => rfl
    | some z =>
      obtain rfl : b = a := one b (by rw [q]; exact fun z => nomatch z)
      rw [ha] at e
      cases e
      exact nomatch (show Data.seq us.toArray _ = Data.dict es ep from d)
  have hidN : ∀ {b : Addr} {m : Str → Option Value}, s.heap.Ns b m → (hidT s.heap H).Ns b m := by
    rintro b m ⟨o, es, ep, e, d, r⟩
    exact ⟨o, es, ep, hidT_get e (free e d), d, r⟩
  have hidK : K.In (hidT s.heap H) := by
    intro b o e
    refine hidT_get (kin b o e) ?_
    cases q : H b with
    | none => rfl
    | some z =>
      obtain rfl : b = a := one b (by rw [q]; exact fun z => nomatch z)
      rw [apart (by rw [q]; exact fun z => nomatch z)] at e
      cases e
  have M : Mod K mg (hidT s.heap H) := by
    obtain ⟨mc, h1, h2⟩ := hlim
    exact ⟨hidK, hidN hns, ⟨mb, hidN hb, hbb⟩, ⟨mc, hidN h1, h2⟩⟩
  have e0 : Env0 P w K mg (hidT s.heap H) callerA [] s H :=
    ⟨rfl, M, fun b o e => of_hidT e, Nat.le_of_eq (hidT_size _ _), trivial, fun b z => (List.not_mem_nil (a := b) z).elim, ok, .of_eq hgens⟩
  refine codeAny_mono ((F _ hidK (hidN hns)).runG callerA [] s H ⟨[.ref a], []⟩ [.ref a] [.ref a] _ _ rfl hr e0 (hbind s (.ref a)) (.cons rfl .nil) hsp) ?_
  intro r s' h
  match r, h with
  | .error e, h => exact (show False from h).elim
  | .ok .next, h => exact (show False from h).elim
  | .ok .brk, h => exact (show False from h).elim
  | .ok .cont, h => exact (show False from h).elim
  | .ok (.ret u), h =>
    obtain ⟨v, H1, os, bare, un, ok1, rv, q⟩ := h
    obtain rfl : v = .bl true := q
    obtain rfl : u = Value.bool true := rv
    refine ⟨rfl, OldK.of_keep ?_, os, bare⟩
    intro b o e
    cases q : H b with
    | none => exact un.keep b o e q (List.not_mem_nil (a := b)) (List.not_mem_nil (a := b))
    | some z =>
      rcases only b with h | ⟨ob, xs, h⟩
      · rw [q] at h
        cases h
      · obtain ⟨e1, _⟩ := ok b _ h
        obtain ⟨e2, _⟩ := ok1 b _ (un.frzs b ob _ h)
        rw [e] at e1
        cases e1
        exact e2
theorem law_callG (kin : K.In s.heap) (hns : s.heap.Ns mainGlobals mg) (hb : s.heap.Ns builtinsNs mb) (hbb : ∀ x : Str, x ≠ "__name__" → mb x = bootBuiltins x) (hlim : s.heap.NoLimit) (hgens : s.gens = #[])
    (ha : s.heap.get? a = some { cls := .type "list", data := .seq us.toArray }) (hi : IntsAre us ns) (hl : ns.length ≤ sizeLine) (hr : Room n callerA)
    (F : ∀ B : Heap, K.In B → B.Ns mainGlobals mg → FnG P w K mg B CX0 n fa fd [x] sp) (hbind : ∀ (s : Shared) (u : Value), BindsTo s fd ⟨[u], []⟩ [(x, u)])
    (hsp : ∀ H : Hp, Only H → SqL K H a (ns.map V.int) → sp [.ref a] H (fun v _ => v = .bl true) fun _ _ _ => False) : codeAny (model P w) callerA (.call (.ref fa) ⟨[.ref a], []⟩) (Good s) s := by
  have rv := vals_ints hi
  cases hk : K.lookup a with
  | some o =>
    have e := kin a o hk
    rw [ha] at e
    cases e
    have hO : Only (fun _ => none) := fun _ => Or.inl rfl
    refine law_from kin hns hb hbb hlim hgens ha hr F hbind (fun _ => none) (hsp _ hO (.inr ⟨_, us.toArray, _, hk, rfl, rfl, rfl, ?_, ?_⟩)) hO (fun b z h => nomatch h) (fun b z => absurd rfl z) (fun z => absurd rfl z)
    · rw [List.size_toArray, hi.length]
      exact hl
    · simpa using rv
  | none =>
    let ob : Obj := { cls := .type "list", data := .seq us.toArray }
    let H0 : Hp := fun b => if b = a then some (.frz ob (.lst (ns.map V.int))) else none
    have at_a : H0 a = some (.frz ob (.lst (ns.map V.int))) := if_pos rfl
    have off_a : ∀ b, b ≠ a → H0 b = none := fun b h => if_neg h
    have hO : Only H0 := by
      intro b
      by_cases h : b = a
      · rw [h]
        exact Or.inr ⟨_, _, at_a⟩
      · exact Or.inl (off_a b h)
    refine law_from kin hns hb hbb hlim hgens ha hr F hbind H0 (hsp _ hO (.inl (.inr ⟨ob, at_a⟩))) hO ?_ ?_ (fun _ => hk)
    · intro b z h
      by_cases hb : b = a
      · subst hb
        rw [at_a] at h
        cases h
        refine ⟨ha, ?_, us, _, rv, ha⟩
        rw [List.length_map]
        exact hl
      · rw [off_a b hb] at h
        cases h
    · intro b z
      by_cases h : b = a
      · exact h
      · exact absurd (off_a b h) z
end
theorem walkG {l : PySem.W.OpenLaw} {n k : Nat} {q : Program} {loose : List Str} {XP : (Str → Option Value) → Heap → Prop} {YP : World → Heap → Prop} {d : DefRec} {K : Params → PySem.W.Frag} {sp : PySem.W.Frag → Sp} {x : Str}
    (hn : l.most = some n) (hz : n ≤ sizeLine) (hdf : d.params.defaults = []) (hr : Room k callerA) (hY : ∀ (w : World) (h : Heap), YP w h → (K w.params).In h)
    (F : ∀ (w : World) (mg : Str → Option Value) (fa : Addr) (h : Heap), (K w.params).In h → h.Ns mainGlobals mg → mg d.name = some (.ref fa) →
      ∃ fd : FuncData, (∀ (s : Shared) (u : Value), BindsTo s fd ⟨[u], []⟩ [(x, u)]) ∧ ∀ B : Heap, (K w.params).In B → B.Ns mainGlobals mg → FnG l.prog w (K w.params) mg B CX0 k fa fd [x] (sp (K w.params)))
    (hsp : ∀ (K : PySem.W.Frag) (H : Hp) (a : Addr) (ns : List Int), ns.length ≤ n → Only H → SqL K H a (ns.map V.int) → sp K [.ref a] H (fun v _ => v = .bl true) fun _ _ _ => False) :
    PySem.W.WalkO q loose XP YP l.row.toRowW d [] (fun f vs => PySem.call f vs) := by
  refine Att.attach_call hn hdf ?_
  intro w s₀ s₁ mg mb fa o pm cd doc a vs ns G Y ho hd hcd hmg hobj hints hlen hg
  have kin := hY w _ Y
  obtain ⟨fd, hb, hF⟩ := F w mg fa _ kin G.T.g hmg
  exact law_callG kin G.T.g G.T.b G.T.builtins G.T.nolimit hg hobj hints (Nat.le_trans hlen hz) hr hF hb fun H hO hS => hsp _ H a ns hlen hO hS
end Sx
namespace Sx
open PySem PySem.Spec PyProof.Rows L2


theorem OpR.or {X : Cx} {f : Value → Value → Sem Value} {r r' : R2} (h : OpR X f r) (h' : OpR X f r') : OpR X f (fun x y H Q => r x y H Q ∨ r' x y H Q) := by
  intro pins s σ H x y v u Q I rx ry q
  rcases q with q | q
  · exact h pins s σ H x y v u Q I rx ry q
  · exact h' pins s σ H x y v u Q I rx ry q
theorem PI.or {X : Cx} {tg it : Expr} {wi wi' : TI} (h : PI X tg it wi) (h' : PI X tg it wi') : PI X tg it (fun σ H R => wi σ H R ∨ wi' σ H R) := by
  refine ⟨fun pins s σ H R I q => ?_⟩
  rcases q with q | q
  · exact h.run pins s σ H R I q
  · exact h'.run pins s σ H R I q
def iSeq (K : PySem.W.Frag) (tl : TE) : TI := fun σ H R => iList K tl σ H R ∨ iTup K tl σ H R
theorem pi_seq {X : Cx} {tg l : Expr} {tl : TE} (h : PE X l tl) : PI X tg l (iSeq X.K tl) := PI.or (pi_list h) (pi_tup h)
structure Cst (mg : Str → Option Value) (x : Str) (v : V) : Prop where
  ex : ∃ u, mg x = some u ∧ RelV v u
structure At (K : PySem.W.Frag) (mg : Str → Option Value) (x : Str) (st : Stmt) (ps : List Str) (f : Addr) (fd : FuncData) : Prop where
  F : Fun K x x st f fd
  b : Binds K fd ps []
  m : mg x = some (.ref f)

def rLenS (K : PySem.W.Frag) : List V → Hp → VK → Prop := fun xs H Q => ∃ p ys, xs = [.ref p] ∧ (SqL K H p ys ∨ SqT K H p ys) ∧ Q (.int (ys.length : Nat)) H
def rListS (K : PySem.W.Frag) : List V → Hp → VK → Prop := fun xs H Q => ∃ p ys, xs = [.ref p] ∧ (SqL K H p ys ∨ SqT K H p ys) ∧ ∀ l, H l = none → Q (.ref l) (upd H l (.lst ys))
def rTupS (K : PySem.W.Frag) : List V → Hp → VK → Prop := fun xs H Q => ∃ p ys, xs = [.ref p] ∧ ((SqL K H p ys ∧ ∀ l, H l = none → Q (.ref l) (upd H l (.tup ys))) ∨ (SqT K H p ys ∧ Q (.ref p) H))

theorem same_new {H : Hp} {p : Addr} {o : HO} (h : H p = none) : Same H (upd H p o) := by
  intro b x e
  rw [upd_ne (ne_of_none e h)]
  exact e
theorem Same.tup {K : PySem.W.Frag} {H H' : Hp} {a : Addr} {xs : List V} (e : Same H H') (h : SqT K H a xs) : SqT K H' a xs := by
  rcases h with (h | ⟨o, h⟩) | h
  · exact .inl (.inl (e _ _ h))
  · exact .inl (.inr ⟨o, e _ _ h⟩)
  · exact .inr h
theorem dpa_ints {K : PySem.W.Frag} {H : Hp} : ∀ ns : List Int, DpAll K H (ns.map V.int) (ns.map PyData.int)
  | [] => .nil
  | n :: ns => .cons (.int n) (dpa_ints ns)

theorem canAll_ints : ∀ ns : List Int, PyData.canLayAll0 (ns.map PyData.int) = true
  | [] => by simp [PyData.canLayAll0]
  | n :: ns => by simp [PyData.canLayAll0, PyData.canLay0, canAll_ints ns]
theorem depthAll_ints : ∀ ns : List Int, PyData.depthAll (ns.map PyData.int) ≤ 1
  | [] => by simp [PyData.depthAll]
  | n :: ns => by
    have := depthAll_ints ns
    simp only [List.map_cons, PyData.depthAll, PyData.depth]
    exact Nat.max_le.mpr ⟨Nat.zero_le _, this⟩
theorem shaped_ints (ns : List Int) : SeqAt.shaped (.list (ns.map PyData.int)) = true := by
  have h1 := canAll_ints ns
  have h2 := depthAll_ints ns
  unfold SeqAt.shaped
  simp only [PyData.canLay0, PyData.depth, Bool.and_eq_true, decide_eq_true_eq]
  exact ⟨h1, decide_eq_true (by omega)⟩
theorem eqv_nil_ints (ns : List Int) : PyData.eqv (.list (ns.map PyData.int)) (.list []) = ns.isEmpty := by
  cases ns <;> simp [PyData.eqv, PyData.eqvAll]

def boxKv (g : Addr) (st ct : Int) : List (Key × V) := [(Sum.inr "great", .ref g), (Sum.inr "stirred", .int st), (Sum.inr "count", .int ct)]
structure Bs (H0 H : Hp) (b g : Addr) : Prop where
  sub : Same H0 H
  nb : H0 b = none
  ng : H0 g = none
  ls : ∃ ms : List Int, H g = some (.lst (ms.map V.int)) ∧ ms.length ≤ 63
  dc : ∃ st ct : Int, H b = some (.dK (boxKv g st ct))
namespace Bs
variable {H0 H H1 : Hp} {b g p : Addr} {o u : HO} {K : PySem.W.Frag}
theorem bg (B : Bs H0 H b g) : b ≠ g := by
  obtain ⟨ms, h1, _⟩ := B.ls
  obtain ⟨st, ct, h2⟩ := B.dc
  exact ne_of h2 h1 (fun z => nomatch z)
theorem pb (B : Bs H0 H b g) (n : H p = none) : p ≠ b := by
  obtain ⟨st, ct, h2⟩ := B.dc
  exact (ne_of_none h2 n).symm
theorem pg (B : Bs H0 H b g) (n : H p = none) : p ≠ g := by
  obtain ⟨ms, h2, _⟩ := B.ls
  exact (ne_of_none h2 n).symm
theorem more (B : Bs H0 H b g) (s : Same H H1) : Bs H0 H1 b g := by
  obtain ⟨ms, h1, h2⟩ := B.ls
  obtain ⟨st, ct, h3⟩ := B.dc
  exact ⟨B.sub.trans s, B.nb, B.ng, ⟨ms, s _ _ h1, h2⟩, ⟨st, ct, s _ _ h3⟩⟩
theorem new (B : Bs H0 H b g) (n : H p = none) : Bs (upd H0 p o) (upd H p o) b g := by
  have n0 := B.sub.free n
  have B1 := B.more (same_new (o := o) n)
  refine ⟨?_, by rw [upd_ne (B.pb n).symm]; exact B.nb, by rw [upd_ne (B.pg n).symm]; exact B.ng, B1.ls, B1.dc⟩
  intro c x e
  by_cases h : c = p
  · subst h
    rw [upd_same] at e ⊢
    exact e
  · rw [upd_ne h] at e ⊢
    exact B.sub c x e
theorem keep (B : Bs H0 H b g) (s : Same H H1) (n : H p = none) (e : H1 p = some o) : Bs (upd H0 p o) H1 b g := by
  have B1 := B.more s
  refine ⟨?_, by rw [upd_ne (B.pb n).symm]; exact B.nb, by rw [upd_ne (B.pg n).symm]; exact B.ng, B1.ls, B1.dc⟩
  intro c x h
  by_cases hc : c = p
  · subst hc
    rw [upd_same] at h
    cases h
    exact e
  · rw [upd_ne hc] at h
    exact B1.sub c x h
theorem put (B : Bs H0 H b g) (e : H0 p = some u) : Bs (upd H0 p o) (upd H p o) b g := by
  have pb : p ≠ b := ne_of_none e B.nb
  have pg : p ≠ g := ne_of_none e B.ng
  obtain ⟨ms, h1, h2⟩ := B.ls
  obtain ⟨st, ct, h3⟩ := B.dc
  refine ⟨?_, by rw [upd_ne pb.symm]; exact B.nb, by rw [upd_ne pg.symm]; exact B.ng, ⟨ms, by rw [upd_ne pg.symm]; exact h1, h2⟩, ⟨st, ct, by rw [upd_ne pb.symm]; exact h3⟩⟩
  intro c x h
  by_cases hc : c = p
  · subst hc
    rw [upd_same] at h ⊢
    exact h
  · rw [upd_ne hc] at h ⊢
    exact B.sub c x h
theorem less {H2 : Hp} (B : Bs H0 H b g) (s : Same H2 H0) : Bs H2 H b g := ⟨s.trans B.sub, s.free B.nb, s.free B.ng, B.ls, B.dc⟩
end Bs
theorem key_s {x : Str} {kvs : List (Key × V)} {H : Hp} {a : Addr} {v : V} (h : H a = some (.dK kvs)) (e : valV kvs (Sum.inr x) = some v) : DGet H a (.str x) (some v) := by
  have q := DGet.k (k := Sum.inr x) h
  rw [e] at q
  exact q

def Small (m : Int) : Prop := 0 < m ∧ m.natAbs.log2 < 9000
theorem small_of {m : Int} (h0 : 0 < m) (h1 : m < 2 ^ 60) : Small m := ⟨h0, Nat.lt_trans (PySem.Flt.log2_lt_of (k := 60) (by decide) (by omega)) (by decide)⟩
def sp__law_draw (_ : PySem.W.Frag) : Sp := fun vs H Q _ => ∃ (H0 : Hp) (b g : Addr) (m : Int), vs = [.ref b, .int m] ∧ Bs H0 H b g ∧ Small m ∧ ∀ (r : Int) (H' : Hp), 0 ≤ r → r < m → Bs H0 H' b g → Q (.int r) H'
def sp__law_pick (K : PySem.W.Frag) : Sp := fun vs H Q _ => ∃ (H0 : Hp) (b g a : Addr) (xs : List V), vs = [.ref b, .ref a] ∧ Bs H0 H b g ∧ (SqL K H0 a xs ∨ SqT K H0 a xs) ∧ xs ≠ [] ∧ xs.length ≤ 100000 ∧
  ∀ (i : Nat) (x : V) (H' : Hp), xs[i]? = some x → Bs H0 H' b g → Q x H'
def IsNum (n : Int) : Prop := -(10 ^ 60) ≤ n ∧ n ≤ 10 ^ 60
structure IsMach (ns : List Int) : Prop where
  one : 1 ≤ ns.length
  ten : ns.length ≤ 10
  mod : ∀ n ∈ ns, 2 ≤ n ∧ n ≤ 1000000
def sp__law_machine (_ : PySem.W.Frag) : Sp := fun vs H Q _ => ∃ (H0 : Hp) (b g : Addr), vs = [.ref b] ∧ Bs H0 H b g ∧ ∀ (ns : List Int) (p : Addr) (H' : Hp), IsMach ns → H0 p = none → H' p = some (.tup (ns.map V.int)) → p ≠ b → p ≠ g → Bs H0 H' b g → Q (.ref p) H'
def sp_law (K : PySem.W.Frag) : Sp := fun vs H Q _ => ∃ (a : Addr) (ns : List Int), vs = [.ref a] ∧ SqL K H a (ns.map V.int) ∧ ns.length ≤ 63 ∧ ∀ H', Q (.bl true) H'
end Sx
namespace Sx
open PySem PySem.Spec PyProof.Rows L2

theorem tuple_mul1 (l : Addr) (items : Array Value) (n : Nat) (dd : Option Addr) (sl : Array (Option Value)) (u : Tok) :
    Meets (Builtin.«tuple.__mul__» ⟨[.ref l, .int 1 u], []⟩) (fun _ R s => s.heap.get? l = some { cls := .type "tuple", dict := dd, data := .seq items n, slots := sl } ∧ R (.ok (.ret (.ref l))) s) :=
  .of_wp fun prog w A R s h => by
    obtain ⟨hp, g, d, tk, os⟩ := s
    obtain ⟨hl, h⟩ := h
    have f1 := AutoSeq1.idx_int
    have c1 : (items.isEmpty || (1 : Int) == 1) = true := by simp
    wp_walk using wpAny_loadPart' hl
    repeat (first
      | (refine wpAny_ite_true (decide_eq_true (by rw [c1])) ?_; wp_walk using wpAny_loadPart' hl)
      | (refine wpAny_ite_false (by decide) ?_; wp_walk using wpAny_loadPart' hl))
    exact ⟨_, rfl, h⟩
def rRep1 (K : PySem.W.Frag) : R2 := fun x y H Q => ∃ l xs, x = .ref l ∧ y = .int 1 ∧ SqT K H l xs ∧ Q (.ref l) H
theorem op_rep1 {X : Cx} : OpR X (binaryOp .Mult) (rRep1 X.K) := by
  intro pins s σ H x y v u Q I rx ry h
  obtain ⟨l, xs, rfl, rfl, hT, q⟩ := h
  obtain rfl : v = Value.ref l := rx
  obtain ⟨t, rfl⟩ := ry
  obtain ⟨its, r, ⟨⟨cls, dd, data, sl⟩, ho, hc, n, hd⟩, hs⟩ := I.tuple hT
  simp only at hc hd
  subst hc hd
  exact wpAny_binaryOp_repeat_ref (T := "tuple") (U := "int") (by decide) ⟨_, ho, rfl⟩ (fun s' => typeIs_int s' 1 t) noFill_tuple_mul F.fills_int_mul F.slot_int_rmul repeat_tuple F.slot_int_index.lookup
    (call_meets F.slot_int_rmul (typeIs_int s 1 t) F.entry_int_rmul (F.args_int_rmul_2 _ _) (int_rmul_tuple 1 t l its.toArray n dd sl)
      ⟨ho, rfl, ⟨_, ho, rfl⟩, call_meets F.slot_tuple_mul ⟨_, ho, rfl⟩ F.entry_tuple_mul (F.args_tuple_mul_2 _ _) (tuple_mul1 l its.toArray n dd sl t) ⟨ho, ⟨.ref l, H, I, rfl, q⟩⟩⟩)
def rRepAny (K : PySem.W.Frag) : R2 := fun x y H Q => rRepT K x y H Q ∨ rRep1 K x y H Q
theorem op_repAny {X : Cx} : OpR X (binaryOp .Mult) (rRepAny X.K) := OpR.or op_repT op_rep1

def rests (ns : List Int) (n : Int) : List Int := ns.map fun m => n % m
def sp_rests_of (K : PySem.W.Frag) : Sp := fun vs H Q _ => ∃ (t : Addr) (ns : List Int) (n : Int), vs = [.ref t, .int n] ∧ SqT K H t (ns.map V.int) ∧ IsMach ns ∧
  ∀ (p : Addr) (H' : Hp), Same H H' → H p = none → H' p = some (.tup ((rests ns n).map V.int)) → Q (.ref p) H'
end Sx
namespace Sx
open PySem PySem.Spec PyProof.Rows L2

section
variable {prog : Program} {w : World} {A : Around} {E : Value → Shared → Prop} {s : Shared}
set_option maxHeartbeats 1000000 in
theorem meets_enum_one {v : Value} {o : Obj} {H : Heap → Prop} (B : Begins v o H) :
    Meets (Builtin.«enumerate.__new__» ⟨[.type "enumerate", v], []⟩) (fun _ R s => H s.heap ∧
      R (.ok (.ret (.ref (s.heap.push o).objs.size))) { s with heap := (s.heap.push o).push { cls := .type "enumerate", data := .fields #[.none, .bool false, .ref s.heap.objs.size, rawInt 0, .none, .none] } }) :=
  .of_wp fun prog w A R s h => by
    obtain ⟨hp, g, d, tk, os⟩ := s
    obtain ⟨h1, h⟩ := h
    have hsub := sub_enumerate
    have q1 : ∀ {A' : Around} {E Q : Value → Shared → Prop}, Q (.ref hp.objs.size) ⟨hp.push o, g, d, tk, os⟩ → wpAny (model prog w) A' (pyIter v) Q E ⟨hp, g, d, tk, os⟩ :=
      fun q => B.iter prog w _ _ ⟨hp, g, d, tk, os⟩ _ h1 q
    wp_walk using q1
    refine wpAny_stack_any fun st => wpAny_pure ?_
    split
    · rename_i c _ _ _ _ _
      cases (c == Value.type "enumerate")
      all_goals
        wp_walk using q1
        exact ⟨_, rfl, h⟩
    · wp_walk using q1
      exact ⟨_, rfl, h⟩
theorem call_enum_one {v : Value} {o : Obj} {H : Heap → Prop} {Q : Value → Shared → Prop} (B : Begins v o H) (h1 : H s.heap)
    (h : ∀ h1 : Heap, IsEnum h1 (s.heap.objs.size + 1) s.heap.objs.size 0 .none → h1.get? s.heap.objs.size = some o → h1.objs.size = s.heap.objs.size + 2 →
      (∀ b o, s.heap.get? b = some o → h1.get? b = some o) → Q (.ref (s.heap.objs.size + 1)) { s with heap := h1 }) : wpAny (model prog w) A (call (.type "enumerate") [v]) Q E s := by
  refine callType_new F.called_enumerate (by decide) (F.typeCall_enumerate_1 _) (F.newCall_enumerate_1 _) (fun obj => F.args_object_init_2 obj _) F.entry_enumerate_new (meets_enum_one B) ⟨h1, ?_⟩
  have hz : (s.heap.push o).objs.size = s.heap.objs.size + 1 := Heap.size_push ..
  show _ ∧ _
  rw [hz]
  have hnew : IsEnum ((s.heap.push o).push { cls := .type "enumerate", data := .fields #[.none, .bool false, .ref s.heap.objs.size, rawInt 0, .none, .none] }) (s.heap.objs.size + 1) s.heap.objs.size 0 .none := by
    have q := Heap.get?_push_size (s.heap.push o) (o := { cls := .type "enumerate", data := .fields #[.none, .bool false, .ref s.heap.objs.size, rawInt 0, .none, .none] }) rfl
    rw [hz] at q
    exact q
  exact ⟨⟨_, hnew, rfl⟩, h _ hnew (Heap.get?_push_of_some _ (Heap.get?_push_size _ B.free)) (by rw [Heap.size_push, hz]) (fun b o x => Heap.get?_push_of_some _ (Heap.get?_push_of_some _ x))⟩
end
def IteT (K : PySem.W.Frag) (a : Addr) : It where
  go := fun i H => ∃ (xs : List V) (x : V), SqT K H a xs ∧ xs[i]? = some x
  yld := fun i H v H1 => ∃ T x, v = .ref T ∧ H T = none ∧ H1 = upd H T (.tup [.int (i : Nat), x]) ∧ ∀ xs, SqT K H a xs → xs[i]? = some x
  stop := fun i H => ∃ xs : List V, SqT K H a xs ∧ xs.length ≤ i
theorem turn_enumT {P : Program} {w : World} {K : PySem.W.Frag} {elts : List Expr} {kk : Nat} {tpos : Pos} (a e it : Addr) :
    Turn P w K (.Tuple elts kk tpos) (IteT K a) [e, it] e (fun i h => (∃ old, IsEnum h e it ((i : Nat) : Int) old) ∧ h.IsTupleIter it a i ∧ e ≠ it ∧ e ≠ a ∧ a ≠ it) where
  mem := List.mem_cons_self
  obj := by
    rintro i h ⟨⟨old, he⟩, ⟨o, ho, hc, hd⟩, _⟩ b hb
    rcases List.mem_cons.mp hb with z | z
    · rw [z]
      exact ⟨_, he, fun v q => nomatch q⟩
    · rw [List.mem_singleton.mp z]
      refine ⟨o, ho, fun v q => ?_⟩
      rw [hd] at q
      cases q
  keep := by
    rintro i h h' ⟨⟨old, he⟩, hi, ne⟩ k
    exact ⟨⟨old, k e (by simp) _ he⟩, hi.at fun o q => k it (by simp) o q, ne⟩
  item := by
    intro X hP hw hK hc i pins s σ H E I hf st hg
    subst hP hw hK
    obtain ⟨⟨old, he⟩, hit, n1, n2, n3⟩ := st
    obtain ⟨xs, x, hq, hx⟩ := hg
    obtain ⟨its, rv, p, hz⟩ := I.tuple hq
    obtain ⟨u, hu, ru⟩ := rv.get hx
    have hel : e < s.heap.objs.size := Heap.lt_size he
    have hil : it < s.heap.objs.size := by
      obtain ⟨_, q, _⟩ := hit
      exact Heap.lt_size q
    have hlt : i < its.toArray.size := by
      have := (List.getElem?_eq_some_iff.mp hu).1
      simpa using this
    refine wpAny_pyNext_enum_itemC (Draws.tuple (A := X.A.in1) (I.ok.hd hc) it a n3 its.toArray) he ⟨hit, p⟩ hlt n1 (by simp [n1, n2]) fun y h' tk hy ho hs' hT hsz hk => ?_
    obtain rfl : y = u := by
      have hu' : its.toArray[i]? = some u := by simpa using hu
      exact Option.some.inj (hy.symm.trans hu')
    refine ⟨_, rfl, wpAny_letOwnedTupleGo_enum (s := { s with heap := h', toks := tk + 1 }) ho fun h2 he' sb => ?_⟩
    have hT2 : h2.get? s.heap.objs.size = some { cls := .type "tuple", data := .seq #[.int i tk, y] } := (sb.2 _ (Nat.ne_of_gt hel)).trans hT
    have new : ObjOk X.prog X.w (upd H s.heap.objs.size (.tup [.int (i : Nat), x])) h2 s.heap.objs.size (.tup [.int (i : Nat), x]) :=
      ⟨(show 2 ≤ sizeLine by decide), [.int i tk, y], .cons ⟨_, rfl⟩ (.cons ru .nil), ⟨_, hT2, rfl, _, rfl⟩⟩
    have I1 : Inv X pins σ (upd H s.heap.objs.size (.tup [.int (i : Nat), x])) { s with heap := h2, toks := tk + 1 } :=
      I.turnedNew (ch := [e, it]) (fun b ob hb q => (sb.2 b (fun z => hb (by simp [z]))).trans (hk b ob (fun z => hb (by simp [z])) (fun z => hb (by simp [z])) q)) hf (Nat.le_refl _) new
    refine ⟨.ref s.heap.objs.size, _, I1, rfl, ⟨_, x, rfl, I.hok.fresh (Nat.le_refl _), rfl, fun ys hy => by rw [I.tuple_inj hy hq]; exact hx⟩, ⟨⟨y, ?_⟩, hs'.1.at fun o q => (sb.2 it (Ne.symm n1)).trans q, n1, n2, n3⟩, fun b hb => ?_⟩
    · rw [show ((i + 1 : Nat) : Int) = (i : Int) + 1 by omega]
      exact he'
    · have hb' : b < s.heap.objs.size := by
        rcases List.mem_cons.mp hb with z | z
        · rw [z]
          exact hel
        · rw [List.mem_singleton.mp z]
          exact hil
      rw [upd_ne (Nat.ne_of_lt hb')]
      exact (hf b hb).1
  done := by
    intro X hP hw hK hc i pins s σ H E I hf st hg
    subst hP hw hK
    obtain ⟨⟨old, he⟩, hit, n1, n2, n3⟩ := st
    obtain ⟨xs, hq, hx⟩ := hg
    obtain ⟨its, rv, p, hz⟩ := I.tuple hq
    obtain ⟨f0, f1, f2, f3, f4, f5⟩ := hf it (by simp)
    have hl := rv.length
    have hT : s.TypeIs (.ref e) "enumerate" := ⟨_, he, rfl⟩
    unfold pyNext
    refine wpAny_bind (wpAny_attempt (wpAny_callSpecial?_slot (name := Str.ofString "__next__") hT F.slot_enumerate_next
      (wpAny_call_entry F.slot_enumerate_next hT F.entry_enumerate_next ?_ (F.args_enumerate_next_1 _))))
    show wpAny _ _ (field (.ref e) 2 >>= _) _ _ _
    refine wpAny_bind (wpAny_field he rfl (x := .ref it) rfl ?_)
    refine wpAny_bind (wpAny_nextOf_tuple_end (A := X.A.in1) (I.ok.hd hc) hit p (by simp; omega) fun h' x he' hx' => ?_)
    obtain ⟨o, ho, hc'⟩ := hx'
    refine wpAny_bind (wpAny_isInstance (T := "StopIteration") (b := true) ⟨o, ho, hc'⟩ isSubtype_stop ?_)
    exact wpAny_pure ⟨rfl, I.turned (t' := s.toks) (fun b o hb q => he' b o hb q) f0 f1 f3 f4 f5⟩
  self := by
    rintro A i s Q E ⟨⟨_, he⟩, _⟩ h
    exact wpAny_pyIter_enum he h
end Sx
namespace Sx
open PySem PySem.Spec PyProof.Rows L2

mutual
def nod : PyData → Nat
  | .none | .bool _ | .int _ => 1
  | .str x => 1 + x.length
  | .list xs | .tuple xs => 1 + nodAll xs
  | .dict _ => 1
def nodAll : List PyData → Nat
  | [] => 0
  | x :: xs => nod x + nodAll xs
end
def big : Nat := 10 ^ 250
mutual
def fine : PyData → Bool
  | .none | .bool _ => true
  | .int i => decide (i.natAbs < big)
  | .str x => x.cps.toList.all fun c => decide (c < 16 ^ 8)
  | .list xs | .tuple xs => fineAll xs
  | .dict kvs => kvs.isEmpty
def fineAll : List PyData → Bool
  | [] => true
  | x :: xs => fine x && fineAll xs
end
theorem big_log {i : Nat} (h : i < big) : i.log2 < 1920 := by
  have h2 : i < 2 ^ 1920 := Nat.lt_trans h (by decide +kernel)
  exact PySem.Flt.log2_lt_of (by decide) h2
theorem big_len {i : Int} (h : i.natAbs < big) : (PyData.shown (.int i)).length ≤ 251 := by
  have e := int_text_length_le10 (k := 250) (by decide) h
  show (Str.ofString (toString i)).length ≤ 251
  rw [PySem.ofString_length]
  exact e
mutual
theorem fine_show : ∀ d : PyData, fine d = true → d.showable = true ∧ d.shown.length + 3 ≤ 300 * nod d
  | .none, _ => ⟨rfl, by decide +kernel⟩
  | .bool b, _ => by
    cases b
    · exact ⟨rfl, by decide +kernel⟩
    · exact ⟨rfl, by decide +kernel⟩
  | .int i, h => by
    have h1 : i.natAbs < big := by simpa [fine] using h
    have e := big_len h1
    refine ⟨by simpa [PyData.showable] using big_log h1, ?_⟩
    show _ ≤ 300 * 1
    omega
  | .str x, h => by
    have h1 : ∀ c ∈ x.cps.toList, c < 16 ^ 8 := by
      have h' := h
      simp only [fine, List.all_eq_true, decide_eq_true_eq] at h'
      exact h'
    have e := StrLaws.reprText_len x h1
    refine ⟨rfl, ?_⟩
    simp only [PyData.shown]
    show _ ≤ 300 * (1 + x.length)
    omega
  | .list xs, h => by
    obtain ⟨h1, h2⟩ := fineAll_show xs (by simpa [fine] using h)
    have e := listText_len_le (PyData.shownAll xs)
    rw [PyData.shownAll_length] at e
    refine ⟨by simpa [PyData.showable] using h1, ?_⟩
    simp only [PyData.shown]
    show _ ≤ 300 * (1 + nodAll xs)
    omega
  | .tuple xs, h => by
    obtain ⟨h1, h2⟩ := fineAll_show xs (by simpa [fine] using h)
    have e := tupleText_len_le (PyData.shownAll xs)
    rw [PyData.shownAll_length] at e
    refine ⟨by simpa [PyData.showable] using h1, ?_⟩
    simp only [PyData.shown]
    show _ ≤ 300 * (1 + nodAll xs)
    omega
  | .dict kvs, h => by
    cases kvs with
    | nil => exact ⟨by simp [PyData.showable, PyData.showableKv], by decide +kernel⟩
    | cons _ _ => exact nomatch h
theorem fineAll_show : ∀ xs : List PyData, fineAll xs = true → PyData.showableAll xs = true ∧ ((PyData.shownAll xs).map (·.length)).sum + 3 * xs.length ≤ 300 * nodAll xs
  | [], _ => ⟨rfl, by decide⟩
  | x :: xs, h => by
    have h' : fine x = true ∧ fineAll xs = true := by simpa [fineAll] using h
    obtain ⟨a1, a2⟩ := fine_show x h'.1
    obtain ⟨b1, b2⟩ := fineAll_show xs h'.2
    refine ⟨by simp [PyData.showableAll, a1, b1], ?_⟩
    simp only [PyData.shownAll, List.map_cons, List.sum_cons, List.length_cons]
    show _ ≤ 300 * (nod x + nodAll xs)
    omega
end
theorem shows_of {d : PyData} (h : fine d = true) (hn : nod d ≤ 50000) (hd : d.depth ≤ 60) : Shows d := by
  obtain ⟨a, b⟩ := fine_show d h
  refine ⟨a, ?_, hd⟩
  rw [sizeLine_eq]
  omega

def dO : Option Int → PyData
  | none => .none
  | some i => .int i
theorem nodAll_map {α : Type} {f : α → PyData} (h : ∀ x, nod (f x) = 1) : ∀ xs : List α, nodAll (xs.map f) = xs.length
  | [] => rfl
  | x :: xs => by
    show nod (f x) + nodAll (xs.map f) = xs.length + 1
    rw [h x, nodAll_map h xs]
    omega
theorem fineAll_map {α : Type} {f : α → PyData} : ∀ xs : List α, (∀ x ∈ xs, fine (f x) = true) → fineAll (xs.map f) = true
  | [], _ => rfl
  | x :: xs, h => by
    show (fine (f x) && fineAll (xs.map f)) = true
    rw [h x List.mem_cons_self, fineAll_map xs fun y hy => h y (List.mem_cons_of_mem _ hy)] <;> rfl
theorem depthAll_map {α : Type} {f : α → PyData} {k : Nat} : ∀ xs : List α, (∀ x ∈ xs, (f x).depth ≤ k) → PyData.depthAll (xs.map f) ≤ k
  | [], _ => Nat.zero_le _
  | x :: xs, h => by
    show max (f x).depth (PyData.depthAll (xs.map f)) ≤ k
    exact Nat.max_le.mpr ⟨h x List.mem_cons_self, depthAll_map xs fun y hy => h y (List.mem_cons_of_mem _ hy)⟩
theorem dO_depth (o : Option Int) : (dO o).depth = 0 := by cases o <;> rfl
theorem dO_nod (o : Option Int) : nod (dO o) = 1 := by cases o <;> rfl

end Sx
namespace Sx
open PySem PySem.Spec PyProof.Rows L2

end Sx
namespace Sx
open PySem PySem.Spec PyProof.Rows L2

def nI (l : List Nat) : List V := l.map fun i => V.int (i : Nat)
def dI (l : List Nat) : List PyData := l.map fun i => PyData.int (i : Nat)
theorem fine_int {i : Int} (h : i.natAbs < 10 ^ 120) : fine (.int i) = true := by
  have h2 : i.natAbs < big := Nat.lt_trans h (by decide +kernel)
  simpa [fine] using h2
theorem fineAll_dI {l : List Nat} (h : ∀ i ∈ l, i < 1000000) : fineAll (dI l) = true := fineAll_map l fun i hi => fine_int (by
  have := h i hi
  show i < 10 ^ 120
  exact Nat.lt_trans this (by decide +kernel))
theorem nodAll_dI (l : List Nat) : nodAll (dI l) = l.length := nodAll_map (fun _ => rfl) l
theorem depthAll_dI (l : List Nat) : PyData.depthAll (dI l) ≤ 0 := depthAll_map l fun _ _ => Nat.le_refl 0
theorem shows2 {d1 d2 : PyData} (h1 : fine d1 = true) (h2 : fine d2 = true) (n1 : nod d1 ≤ 10000) (n2 : nod d2 ≤ 10000) (e1 : d1.depth ≤ 9) (e2 : d2.depth ≤ 9) : Shows (.list [d1, d2]) := by
  refine shows_of ?_ ?_ ?_
  · show (fine d1 && (fine d2 && true)) = true
    rw [h1, h2] <;> rfl
  · show 1 + (nod d1 + (nod d2 + 0)) ≤ 50000
    omega
  · show max d1.depth (max d2.depth 0) + 1 ≤ 60
    omega
structure Row (d : PyData) : Prop where
  f : fine d = true
  n : nod d ≤ 10000
  d : d.depth ≤ 9
theorem Row.one {d : PyData} (a : Row d) : Shows d := shows_of a.f (by have := a.n; omega) (by have := a.d; omega)
theorem Row.tup {ds : List PyData} (h : fineAll ds = true) (hn : nodAll ds ≤ 9000) (hd : PyData.depthAll ds ≤ 8) : Row (.tuple ds) :=
  ⟨h, (by show 1 + nodAll ds ≤ 10000; omega), (by show PyData.depthAll ds + 1 ≤ 9; omega)⟩
theorem Row.lst {ds : List PyData} (h : fineAll ds = true) (hn : nodAll ds ≤ 9000) (hd : PyData.depthAll ds ≤ 8) : Row (.list ds) :=
  ⟨h, (by show 1 + nodAll ds ≤ 10000; omega), (by show PyData.depthAll ds + 1 ≤ 9; omega)⟩
theorem Row.two {d1 d2 : PyData} (a : Row d1) (b : Row d2) : Shows (.list [d1, d2]) := shows2 a.f b.f a.n b.n a.d b.d
theorem Row.ints {ns : List Int} (h : ∀ n ∈ ns, n.natAbs < 10 ^ 120) (hl : ns.length ≤ 9000) : Row (.tuple (ns.map PyData.int)) := by
  refine .tup (fineAll_map ns fun n hn => fine_int (h n hn)) ?_ (depthAll_map ns fun _ _ => Nat.zero_le _)
  rw [nodAll_map (fun _ => rfl)]
  exact hl
def IsWord (ws : List (Option Int)) : Prop := ws.length ≤ 10 ∧ ∀ r, some r ∈ ws → 0 ≤ r ∧ r < 1000000
theorem Row.word {ws : List (Option Int)} (h : IsWord ws) : Row (.tuple (ws.map dO)) := by
  refine .tup (fineAll_map ws fun o ho => ?_) ?_ (depthAll_map ws fun o _ => by rw [dO_depth]; exact Nat.zero_le _)
  · cases o with
    | none => rfl
    | some r =>
      have := h.2 r ho
      exact fine_int (Nat.lt_trans (show r.natAbs < 1000000 by omega) (by decide +kernel))
  · rw [nodAll_map dO_nod]
    have := h.1
    omega
theorem Row.places {l : List Nat} (h : ∀ i ∈ l, i < 10) (hl : l.length ≤ 10) : Row (.tuple (dI l)) := by
  refine .tup (fineAll_dI fun i hi => by have := h i hi; omega) ?_ (Nat.le_trans (depthAll_dI l) (by decide))
  rw [nodAll_dI]
  omega

theorem getD_some {α : Type} {xs : List α} {i : Nat} (d : α) (h : i < xs.length) : xs[i]? = some (xs.getD i d) := by
  rw [List.getD_eq_getElem?_getD, List.getElem?_eq_getElem h] <;> rfl
theorem Bs.own {H0 H : Hp} {b g p : Addr} {o : HO} (B : Bs H0 H b g) (e : H p = some o) (pb : p ≠ b) (pg : p ≠ g) : Bs (upd H0 p o) H b g := by
  refine ⟨?_, by rw [upd_ne pb.symm]; exact B.nb, by rw [upd_ne pg.symm]; exact B.ng, B.ls, B.dc⟩
  intro c x h
  by_cases hc : c = p
  · subst hc
    rw [upd_same] at h
    cases h
    exact e
  · rw [upd_ne hc] at h
    exact B.sub c x h

theorem eqvAll_ints : ∀ xs ys : List Int, PyData.eqvAll (xs.map PyData.int) (ys.map PyData.int) = decide (xs = ys)
  | [], [] => by simp [PyData.eqvAll]
  | [], _ :: _ => by simp [PyData.eqvAll]
  | _ :: _, [] => by simp [PyData.eqvAll]
  | x :: xs, y :: ys => by
    have e := eqvAll_ints xs ys
    simp only [List.map_cons, PyData.eqvAll, PyData.eqv, e]
    by_cases h : x = y <;> simp [h]
theorem eqv_tup_ints (xs ys : List Int) : PyData.eqv (.tuple (xs.map PyData.int)) (.tuple (ys.map PyData.int)) = decide (xs = ys) := by
  simp only [PyData.eqv, eqvAll_ints]
def op3 (j : Nat) (a b : Int) : Int := match j with | 0 => a + b | 1 => a - b | _ => a * b
end Sx
namespace Sx
open PySem PySem.Spec PyProof.Rows L2

theorem alike_ints (ns : List Int) : PySem.W.AlikeAll (ns.map PyData.int) := by
  constructor
  · intro x hx y hy
    obtain ⟨a, _, rfl⟩ := List.mem_map.mp hx
    obtain ⟨b, _, rfl⟩ := List.mem_map.mp hy
    rfl
  · intro x hx
    obtain ⟨a, _, rfl⟩ := List.mem_map.mp hx
    exact fun z => nomatch z
def rMinT (K : PySem.W.Frag) : List V → Hp → VK → Prop := fun vs H Q => ∃ (a : Addr) (n : Int) (ns : List Int), vs = [V.ref a] ∧ SqT K H a ((n :: ns).map V.int) ∧ Q (.int (ns.foldl min n)) H
theorem cr_minT {X : Cx} (hc : X.calm = true) (hu : X.A.units + 64 < cLine) : CallR X (.builtin "min") (rMinT X.K) := by
  intro pins s σ H vs us Q I r h
  obtain ⟨a, n, ns, rfl, hs, q⟩ := h
  obtain ⟨its, rv, tp, _⟩ := I.tuple hs
  obtain ⟨as, rd⟩ := Dp.readsAll I ((n :: ns).map PyData.int) _ its (dpa_ints (n :: ns)) rv
  rw [Vals.ref1 r]
  have hd := depthAll_ints (n :: ns)
  refine PySem.W.min_tuple_data (x := .int n) (xs := ns.map PyData.int) (I.ok.hd hc) (show s.heap.IsTuple a its.toArray from tp) (by simpa using rd) (alike_ints (n :: ns)) (by
    show X.A.units + 1 + PyData.depthAll ((n :: ns).map PyData.int) < cLine
    omega) fun i v h' tk bs hv hr hk => ?_
  rw [PySem.W.minD_ints] at hr
  cases hr with
  | int _ t => exact ⟨.int (ns.foldl min n), H, I.kept hk, ⟨_, rfl⟩, q⟩
inductive Stp where
  | inn (lo hi : Int)
  | num (c : Int)
  | op (k i j : Nat)
instance : Inhabited Stp := ⟨.num 0⟩
def opw : Nat → Str
  | 0 => "sum"
  | 1 => "less"
  | _ => "times"
def stepV : Stp → List V
  | .inn lo hi => [.str "in", .int lo, .int hi]
  | .num c => [.str "is", .int c]
  | .op k i j => [.str (opw k), .int (i : Nat), .int (j : Nat)]
def stepD : Stp → List PyData
  | .inn lo hi => [.str "in", .int lo, .int hi]
  | .num c => [.str "is", .int c]
  | .op k i j => [.str (opw k), .int (i : Nat), .int (j : Nat)]
def StepOk (n : Nat) : Stp → Prop
  | .inn lo hi => IsNum lo ∧ IsNum hi ∧ lo ≤ hi
  | .num c => IsNum c
  | .op k i j => k ≤ 2 ∧ i < n ∧ j < n
def min4 (a b c d : Int) : Int := min (min (min a b) c) d
def max4 (a b c d : Int) : Int := max (max (max a b) c) d
def hullOp (k : Nat) (x y : Int × Int) : Int × Int := match k with
  | 0 => (x.1 + y.1, x.2 + y.2)
  | 1 => (x.1 - y.2, x.2 - y.1)
  | _ => (min4 (x.1 * y.1) (x.1 * y.2) (x.2 * y.1) (x.2 * y.2), max4 (x.1 * y.1) (x.1 * y.2) (x.2 * y.1) (x.2 * y.2))
def hullS (E : List (Int × Int)) : Stp → Int × Int
  | .inn lo hi => (lo, hi)
  | .num c => (c, c)
  | .op k i j => hullOp k (E.getD i (0, 0)) (E.getD j (0, 0))
def hullsN (ss : List Stp) : Nat → List (Int × Int)
  | 0 => []
  | i + 1 => hullsN ss i ++ [hullS (hullsN ss i) (ss.getD i default)]
def Bnd (e : Int × Int) : Prop := e.1.natAbs ≤ 10 ^ 120 ∧ e.2.natAbs ≤ 10 ^ 120
structure IsProg (ss : List Stp) : Prop where
  one : 1 ≤ ss.length
  most : ss.length ≤ 30
  ok : ∀ i s, ss[i]? = some s → StepOk i s
  bnd : ∀ i, i ≤ ss.length → ∀ e ∈ hullsN ss i, Bnd e
theorem bnd_wide {a b : Int} (ha : a.natAbs ≤ 10 ^ 120) (hb : b.natAbs ≤ 10 ^ 120) : CMulW a b :=
  wide_mul (a := 400) (b := 400) (Nat.lt_of_le_of_lt ha (by decide +kernel)) (Nat.lt_of_le_of_lt hb (by decide +kernel)) (by decide) (by decide) (by decide)
theorem num_bnd {n : Int} (h : IsNum n) : n.natAbs ≤ 10 ^ 120 := by
  have h2 : n.natAbs ≤ 10 ^ 60 := by
    have a := h.1
    have b := h.2
    omega
  exact Nat.le_trans h2 (by decide +kernel)
abbrev PairAt (H : Hp) (a : Addr) (e : Int × Int) : Prop := H a = some (.tup [.int e.1, .int e.2])
def HlsAt (H : Hp) (l : Addr) (E : List (Int × Int)) : Prop := ∃ as : List Addr, H l = some (.lst (as.map V.ref)) ∧ Paired (PairAt H) as E
def HltAt (H : Hp) (t : Addr) (E : List (Int × Int)) : Prop := ∃ as : List Addr, H t = some (.tup (as.map V.ref)) ∧ Paired (PairAt H) as E
abbrev StepAt (H : Hp) (a : Addr) (s : Stp) : Prop := H a = some (.tup (stepV s))
def ProgAt (H : Hp) (t : Addr) (ss : List Stp) : Prop := ∃ as : List Addr, H t = some (.tup (as.map V.ref)) ∧ Paired (StepAt H) as ss
theorem paired_same {β : Type} {R : Hp → Addr → β → Prop} {H H1 : Hp} (h : ∀ a x, R H a x → R H1 a x) : ∀ {as : List Addr} {xs : List β}, Paired (R H) as xs → Paired (R H1) as xs
  | _, _, .nil => .nil
  | _, _, .cons r t => .cons (h _ _ r) (paired_same h t)
theorem HlsAt.same {H H1 : Hp} {l : Addr} {E : List (Int × Int)} (s : Same H H1) (h : HlsAt H l E) : HlsAt H1 l E := by
  obtain ⟨as, e, p⟩ := h
  exact ⟨as, s _ _ e, paired_same (fun a x r => s _ _ r) p⟩
theorem HltAt.same {H H1 : Hp} {l : Addr} {E : List (Int × Int)} (s : Same H H1) (h : HltAt H l E) : HltAt H1 l E := by
  obtain ⟨as, e, p⟩ := h
  exact ⟨as, s _ _ e, paired_same (fun a x r => s _ _ r) p⟩
theorem ProgAt.same {H H1 : Hp} {t : Addr} {ss : List Stp} (s : Same H H1) (h : ProgAt H t ss) : ProgAt H1 t ss := by
  obtain ⟨as, e, p⟩ := h
  exact ⟨as, s _ _ e, paired_same (fun a x r => s _ _ r) p⟩
def hullD (e : Int × Int) : PyData := .tuple [.int e.1, .int e.2]
end Sx
namespace Sx
open PySem PySem.Spec PyProof.Rows L2
end Sx
namespace Sx
open PySem PySem.Spec PyProof.Rows L2
theorem hullsN_app {ss : List Stp} {s : Stp} : ∀ {i : Nat}, i ≤ ss.length → hullsN (ss ++ [s]) i = hullsN ss i
  | 0, _ => rfl
  | i + 1, h => by
    have e := hullsN_app (ss := ss) (s := s) (i := i) (by omega)
    show hullsN (ss ++ [s]) i ++ [hullS (hullsN (ss ++ [s]) i) ((ss ++ [s]).getD i default)] = hullsN ss i ++ [hullS (hullsN ss i) (ss.getD i default)]
    rw [e]
    have h2 : (ss ++ [s]).getD i default = ss.getD i default := by
      rw [List.getD_eq_getElem?_getD, List.getD_eq_getElem?_getD, List.getElem?_append_left (by omega)]
    rw [h2]
theorem hullsN_snoc {ss : List Stp} {s : Stp} : hullsN (ss ++ [s]) (ss.length + 1) = hullsN ss ss.length ++ [hullS (hullsN ss ss.length) s] := by
  show hullsN (ss ++ [s]) ss.length ++ [hullS (hullsN (ss ++ [s]) ss.length) ((ss ++ [s]).getD ss.length default)] = _
  rw [hullsN_app (Nat.le_refl _)]
  have h2 : (ss ++ [s]).getD ss.length default = s := by
    rw [List.getD_eq_getElem?_getD, List.getElem?_append_right (Nat.le_refl _), Nat.sub_self] <;> rfl
  rw [h2]
structure Part (ss : List Stp) : Prop where
  ok : ∀ i s, ss[i]? = some s → StepOk i s
  bnd : ∀ i, i ≤ ss.length → ∀ e ∈ hullsN ss i, Bnd e
theorem Part.nil : Part [] := by
  refine ⟨fun i s h => by simp at h, fun i h e he => ?_⟩
  obtain rfl : i = 0 := Nat.le_zero.mp h
  exact nomatch he
theorem Part.snoc {ss : List Stp} {s : Stp} (P : Part ss) (h : StepOk ss.length s) (hb : Bnd (hullS (hullsN ss ss.length) s)) : Part (ss ++ [s]) := by
  constructor
  · intro i x hx
    by_cases hi : i < ss.length
    · rw [List.getElem?_append_left hi] at hx
      exact P.ok i x hx
    · rw [List.getElem?_append_right (by omega)] at hx
      have e : i - ss.length = 0 := by
        have := (List.getElem?_eq_some_iff.mp hx).1
        rw [List.length_singleton] at this
        omega
      rw [e] at hx
      have e2 : i = ss.length := by omega
      rw [e2, ← Option.some.inj hx]
      exact h
  · intro i hi e he
    rw [List.length_append, List.length_singleton] at hi
    by_cases h2 : i ≤ ss.length
    · rw [hullsN_app h2] at he
      exact P.bnd i h2 e he
    · obtain rfl : i = ss.length + 1 := by omega
      rw [hullsN_snoc] at he
      rcases List.mem_append.mp he with h3 | h3
      · exact P.bnd _ (Nat.le_refl _) e h3
      · rw [List.mem_singleton.mp h3]
        exact hb
end Sx
namespace Sx
open PySem PySem.Spec PyProof.Rows L2
theorem same_put {H0 H : Hp} {p : Addr} {o : HO} (s : Same H0 H) (n : H0 p = none) : Same H0 (upd H p o) := by
  intro c x e
  rw [upd_ne (ne_of_none e n)]
  exact s c x e
end Sx
namespace Sx
open PySem PySem.Spec PyProof.Rows L2

def isIn : Stp → Bool
  | .inn _ _ => true
  | _ => false
def cnt (ss : List Stp) (i : Nat) : Nat := (ss.take i).countP isIn
def givOf (ss : List Stp) (ins : List Int) (i : Nat) : Option Int := match ss.getD i default with
  | .inn _ _ => some (ins.getD (cnt ss i) 0)
  | .num c => some c
  | .op _ _ _ => none
def valOf (acc : List Int) (o : Option Int) (s : Stp) : Int := match o, s with
  | some x, _ => x
  | none, .op k i j => op3 k (acc.getD i 0) (acc.getD j 0)
  | none, _ => 0
def valsN (ss : List Stp) (ins : List Int) : Nat → List Int
  | 0 => []
  | i + 1 => valsN ss ins i ++ [valOf (valsN ss ins i) (givOf ss ins i) (ss.getD i default)]
abbrev vals (ss : List Stp) (ins : List Int) : List Int := valsN ss ins ss.length
theorem cnt_succ {ss : List Stp} {i : Nat} (h : i < ss.length) : cnt ss (i + 1) = cnt ss i + (if isIn (ss.getD i default) then 1 else 0) := by
  unfold cnt
  rw [List.take_add_one, getD_some default h, List.countP_append]
  show _ + List.countP isIn [ss.getD i default] = _
  rw [List.countP_cons, List.countP_nil, Nat.zero_add]
structure InpOk (ss : List Stp) (ins : List Int) : Prop where
  len : ins.length = cnt ss ss.length
  fit : ∀ i lo hi, ss[i]? = some (.inn lo hi) → lo ≤ ins.getD (cnt ss i) 0 ∧ ins.getD (cnt ss i) 0 ≤ hi
theorem cnt_mono {ss : List Stp} : ∀ {i j : Nat}, i ≤ j → j ≤ ss.length → cnt ss i ≤ cnt ss j
  | i, 0, h, _ => by
    obtain rfl : i = 0 := Nat.le_zero.mp h
    exact Nat.le_refl _
  | i, j + 1, h, hj => by
    by_cases e : i = j + 1
    · rw [e]
      exact Nat.le_refl _
    · rw [cnt_succ (by omega)]
      exact Nat.le_trans (cnt_mono (show i ≤ j by omega) (by omega)) (Nat.le_add_right _ _)
theorem getD_append_left {α : Type} {xs ys : List α} {i : Nat} (d : α) (h : i < xs.length) : (xs ++ ys).getD i d = xs.getD i d := by
  rw [List.getD_eq_getElem?_getD, List.getD_eq_getElem?_getD, List.getElem?_append_left h]
theorem getD_append_last {α : Type} {xs : List α} {x : α} (d : α) : (xs ++ [x]).getD xs.length d = x := by
  rw [List.getD_eq_getElem?_getD, List.getElem?_append_right (Nat.le_refl _), Nat.sub_self] <;> rfl
end Sx
namespace Sx
open PySem PySem.Spec PyProof.Rows L2
end Sx

namespace Sx
open PySem PySem.Spec PyProof.Rows L2
end Sx

namespace Sx
open PySem PySem.Spec PyProof.Rows L2
end Sx
namespace Sx
open PySem PySem.Spec PyProof.Rows L2

theorem SqT.put {K : PySem.W.Frag} {H : Hp} {p a : Addr} {xs ys : List V} {o : HO} (hp : H p = some (.lst xs)) (h : SqT K H a ys) : SqT K (upd H p o) a ys := by
  rcases h with (h | ⟨ob, h⟩) | h
  · exact .inl (.inl (by rw [upd_ne (ne_of h hp (fun z => nomatch z))]; exact h))
  · exact .inl (.inr ⟨ob, by rw [upd_ne (ne_of h hp (fun z => nomatch z))]; exact h⟩)
  · exact .inr h
def grow (L : List (List Int)) (zs : List Int) : List (List Int) := zs.flatMap fun z => L.map (· ++ [z])
structure Tiny (ss : List Stp) : Prop where
  most : ss.length ≤ 3
  ok : ∀ (i : Nat) (s : Stp), ss[i]? = some s → StepOk i s
  near : ∀ (i : Nat) (lo hi : Int), ss[i]? = some (Stp.inn lo hi) → -100 ≤ lo ∧ lo ≤ hi ∧ hi < lo + 5 ∧ lo ≤ 100
structure TriOk (a b c d : Int) (k : Nat) : Prop where
  ab : a ≤ b
  b5 : b < a + 5
  cd : c ≤ d
  d5 : d < c + 5
  al : -50 ≤ a
  ah : a ≤ 50
  cl : -50 ≤ c
  ch : c ≤ 50
  k2 : k ≤ 2
end Sx
namespace Sx
open PySem PySem.Spec PyProof.Rows L2
theorem fine_int' {i : Int} (h : i.natAbs ≤ 10 ^ 120) : fine (.int i) = true := by
  have h2 : i.natAbs < big := Nat.lt_of_le_of_lt h (by decide +kernel)
  simpa [fine] using h2
theorem nodAll_le {α : Type} {f : α → PyData} {k : Nat} (h : ∀ x, nod (f x) ≤ k) : ∀ xs : List α, nodAll (xs.map f) ≤ k * xs.length
  | [] => Nat.le_refl _
  | x :: xs => by
    show nod (f x) + nodAll (xs.map f) ≤ k * (xs.length + 1)
    have := nodAll_le h xs
    have := h x
    rw [Nat.mul_succ]
    omega
theorem stepD_nod (s : Stp) : nod (.tuple (stepD s)) ≤ 12 := by
  cases s with
  | inn lo hi => exact (by decide +kernel : nod (.tuple [.str "in", .int 0, .int 0]) ≤ 12)
  | num c => exact (by decide +kernel : nod (.tuple [.str "is", .int 0]) ≤ 12)
  | op k i j =>
    match k with
    | 0 => exact (by decide +kernel : nod (.tuple [.str "sum", .int 0, .int 0]) ≤ 12)
    | 1 => exact (by decide +kernel : nod (.tuple [.str "less", .int 0, .int 0]) ≤ 12)
    | _ + 2 => exact (by decide +kernel : nod (.tuple [.str "times", .int 0, .int 0]) ≤ 12)
theorem stepD_depth (s : Stp) : PyData.depth (.tuple (stepD s)) ≤ 1 := by
  cases s with
  | inn lo hi => exact (by decide +kernel : PyData.depth (.tuple [.str "in", .int 0, .int 0]) ≤ 1)
  | num c => exact (by decide +kernel : PyData.depth (.tuple [.str "is", .int 0]) ≤ 1)
  | op k i j => exact (by decide +kernel : PyData.depth (.tuple [.str "", .int 0, .int 0]) ≤ 1)
theorem fine3 {x y z : PyData} (h1 : fine x = true) (h2 : fine y = true) (h3 : fine z = true) : fine (.tuple [x, y, z]) = true := by
  show (fine x && (fine y && (fine z && true))) = true
  rw [h1, h2, h3] <;> rfl
theorem fine2 {x y : PyData} (h1 : fine x = true) (h2 : fine y = true) : fine (.tuple [x, y]) = true := by
  show (fine x && (fine y && true)) = true
  rw [h1, h2] <;> rfl
theorem stepD_fine {n : Nat} {s : Stp} (h : StepOk n s) (hn : n ≤ 1000) : fine (.tuple (stepD s)) = true := by
  cases s with
  | inn lo hi =>
    obtain ⟨h1, h2, _⟩ := h
    exact fine3 (by decide +kernel : fine (.str "in") = true) (fine_int' (num_bnd h1)) (fine_int' (num_bnd h2))
  | num c =>
    exact fine2 (by decide +kernel : fine (.str "is") = true) (fine_int' (num_bnd h))
  | op k i j =>
    obtain ⟨_, h1, h2⟩ := h
    have hw : fine (.str (opw k)) = true := by
      match k with
      | 0 => decide +kernel
      | 1 => decide +kernel
      | _ + 2 => exact (by decide +kernel : fine (.str "times") = true)
    have big : 1000 ≤ 10 ^ 120 := by decide +kernel
    exact fine3 hw (fine_int' (Nat.le_trans (show ((i : Nat) : Int).natAbs ≤ 1000 by omega) big)) (fine_int' (Nat.le_trans (show ((j : Nat) : Int).natAbs ≤ 1000 by omega) big))
theorem Row.prog {ss : List Stp} (P : IsProg ss) : Row (.tuple (ss.map fun s => .tuple (stepD s))) := by
  have h30 := P.most
  refine .tup (fineAll_map ss fun s hs => ?_) ?_ (Nat.le_trans (depthAll_map (k := 1) ss fun s _ => stepD_depth s) (by decide))
  · obtain ⟨i, hi, e⟩ := List.mem_iff_getElem.mp hs
    exact stepD_fine (P.ok i s (by rw [List.getElem?_eq_getElem hi, e])) (by omega)
  · have := nodAll_le (f := fun s => PyData.tuple (stepD s)) (k := 12) stepD_nod ss
    omega
theorem Row.hlt {E : List (Int × Int)} (hb : ∀ e ∈ E, Bnd e) (hl : E.length ≤ 1000) : Row (.tuple (E.map hullD)) := by
  refine .tup (fineAll_map E fun e he => ?_) ?_ (Nat.le_trans (depthAll_map (k := 1) E fun e _ => Nat.le_refl _) (by decide))
  · obtain ⟨h1, h2⟩ := hb e he
    exact fine2 (fine_int' h1) (fine_int' h2)
  · have := nodAll_le (f := hullD) (k := 3) (fun e => Nat.le_refl _) E
    omega
theorem Row.int {n : Int} (h : n.natAbs ≤ 10 ^ 120) : Row (.int n) := ⟨fine_int' h, by show 1 ≤ 10000; decide, Nat.zero_le _⟩
end Sx
namespace Sx
open PySem PySem.Spec PyProof.Rows L2

mutual
inductive Dt (K : PySem.W.Frag) (H : Hp) : V → PyData → Prop
  | non : Dt K H .non .none
  | bl (b : Bool) : Dt K H (.bl b) (.bool b)
  | int (i : Int) : Dt K H (.int i) (.int i)
  | str (x : Str) : Dt K H (.str x) (.str x)
  | lst {a : Addr} {xs : List V} {ds : List PyData} (e : SqL K H a xs) (h : DtAll K H xs ds) : Dt K H (.ref a) (.list ds)
  | tup {a : Addr} {xs : List V} {ds : List PyData} (e : SqT K H a xs) (h : DtAll K H xs ds) : Dt K H (.ref a) (.tuple ds)
  | dct {a : Addr} (e : H a = some (.dK [])) : Dt K H (.ref a) (.dict [])
inductive DtAll (K : PySem.W.Frag) (H : Hp) : List V → List PyData → Prop
  | nil : DtAll K H [] []
  | cons {v : V} {vs : List V} {d : PyData} {ds : List PyData} : Dt K H v d → DtAll K H vs ds → DtAll K H (v :: vs) (d :: ds)
end
section
variable {X : Cx} {pins : List (Addr × Obj)} {σ : L2.St} {H : Hp} {s : Shared}
theorem empty_dict {a : Addr} (I : Inv X pins σ H s) (e : H a = some (.dK [])) : (a == sysModules) = false ∧ ∃ o n, s.heap.get? a = some o ∧ o.cls = .type "dict" ∧ o.data = .dict #[] n := by
  obtain ⟨_, hd, vs, rel, o, es, ep, h1, h2, h3, h4⟩ := dk_of I.hok e
  cases rel
  obtain ⟨_, hp, _⟩ := h4
  have he : es = #[] := by
    have := hp.length
    simpa using this
  subst he
  exact ⟨hd, o, ep, h1, h2.1, h3⟩
def Sh (X : Cx) (s : Shared) (u : Value) (d : PyData) : Prop := (∃ as, Reads s.heap u d as) ∧ ∃ bs, ReadAtMost s.heap d.depth bs ∧ ReprK X.prog X.w bs s.heap d.depth u d.shown
def ShAll (X : Cx) (s : Shared) (us : List Value) (ds : List PyData) : Prop := (∃ as, ReadsAll s.heap us ds as) ∧ ∃ bs, ReadAtMost s.heap (PyData.depthAll ds) bs ∧ ReprAllK X.prog X.w bs s.heap (PyData.depthAll ds) us (PyData.shownAll ds)
mutual
theorem Dt.sh (I : Inv X pins σ H s) : ∀ (d : PyData) (v : V) (u : Value), Dt X.K H v d → RelV v u → d.showable = true → d.shown.length ≤ sizeLine → Sh X s u d
  | .none, _, _, h, r, _, _ => by
    cases h
    cases r
    exact ⟨⟨_, .none⟩, [], (fun _ z => nomatch z), by simp only [PyData.shown]; exact .of_is ReprIs.none _ _ _⟩
  | .bool b, _, _, h, r, _, _ => by
    cases h
    cases r
    exact ⟨⟨_, .bool b⟩, [], (fun _ z => nomatch z), by simp only [PyData.shown]; exact .of_is (ReprIs.bool b) _ _ _⟩
  | .int i, _, _, h, r, hs, _ => by
    cases h
    obtain ⟨t, rfl⟩ := r
    exact ⟨⟨_, .int i t⟩, [], (fun _ z => nomatch z), by simp only [PyData.shown]; exact .of_is (ReprIs.int t (by simpa [PyData.showable] using hs)) _ _ _⟩
  | .str x, _, _, h, r, _, hz => by
    cases h
    obtain ⟨t, rfl⟩ := r
    exact ⟨⟨_, .str x t⟩, [], (fun _ z => nomatch z), by simp only [PyData.shown]; exact .of_is (ReprIs.str x t (by simpa only [PyData.shown] using hz)) _ _ _⟩
  | .list ds, _, _, h, r, hs, hz => by
    cases h with
    | lst e ha =>
      cases r
      obtain ⟨its, rv, ⟨o, n, ho, hc, _, hd⟩, _⟩ := I.list e
      have hz' : (listText (PyData.shownAll ds)).length ≤ sizeLine := by simpa only [PyData.shown] using hz
      obtain ⟨⟨as, ra⟩, bs, hb, hk⟩ := DtAll.sh I ds _ its ha rv (by simpa [PyData.showable] using hs) fun t ht => Nat.le_trans (listText_mem_le ht) hz'
      have r0 := Reads.list ho hc hd ra
      have hna := not_mem_of_deeper r0 (by simp only [PyData.depth]; omega) hb
      refine ⟨⟨_, r0⟩, _, ReadAtMost.cons r0 (by simp only [PyData.depth]; omega) hb, ?_⟩
      simp only [PyData.depth, PyData.shown]
      cases its with
      | nil =>
        cases ra
        simp only [PyData.shownAll, listText_nil]
        exact ReprK.listEmpty ho hc hd
      | cons x l => exact ReprK.list ho hc hd hna (by simpa using hk.length_eq) fun i y z => hk.item i y (by simpa using z)
  | .tuple ds, _, _, h, r, hs, hz => by
    cases h with
    | tup e ha =>
      cases r
      obtain ⟨its, rv, ⟨o, ho, hc, n, hd⟩, _⟩ := I.tuple e
      have hz' : (tupleText (PyData.shownAll ds)).length ≤ sizeLine := by simpa only [PyData.shown] using hz
      obtain ⟨⟨as, ra⟩, bs, hb, hk⟩ := DtAll.sh I ds _ its ha rv (by simpa [PyData.showable] using hs) fun t ht => Nat.le_trans (tupleText_mem_le ht) hz'
      have r0 := Reads.tuple ho hc hd ra
      have hna := not_mem_of_deeper r0 (by simp only [PyData.depth]; omega) hb
      refine ⟨⟨_, r0⟩, _, ReadAtMost.cons r0 (by simp only [PyData.depth]; omega) hb, ?_⟩
      simp only [PyData.depth, PyData.shown]
      exact ReprK.tuple ho hc hd hna hk
  | .dict kvs, _, _, h, r, hs, hz => by
    cases h with
    | dct e =>
      cases r
      obtain ⟨hsys, o, n, ho, hc, hd⟩ := empty_dict I e
      have r0 : Reads s.heap (.ref _) (.dict []) _ := Reads.dict ho hc hd ReadsAll.nil ReadsAll.nil
      refine ⟨⟨_, r0⟩, [_], ReadAtMost.cons (n := 0) (bs := []) r0 (Nat.zero_le _) (fun _ z => nomatch z), ?_⟩
      simp only [PyData.depth, PyData.shown, PyData.shownKv_eq]
      exact ReprK.dict (as := []) ho hc hd hsys (fun z => nomatch z) .nil
theorem DtAll.sh (I : Inv X pins σ H s) : ∀ (ds : List PyData) (vs : List V) (us : List Value), DtAll X.K H vs ds → Vals vs us → PyData.showableAll ds = true → (∀ t ∈ PyData.shownAll ds, t.length ≤ sizeLine) → ShAll X s us ds
  | [], _, _, h, r, _, _ => by
    cases h
    cases r
    exact ⟨⟨_, .nil⟩, [], (fun _ z => nomatch z), by simp only [PyData.shownAll]; exact .nil⟩
  | d :: ds, _, _, h, r, hs, hz => by
    cases h with
    | cons h1 h2 =>
      cases r with
      | cons r1 r2 =>
        have hs' : d.showable = true ∧ PyData.showableAll ds = true := by simpa [PyData.showableAll] using hs
        obtain ⟨⟨a1, q1⟩, b1, m1, k1⟩ := Dt.sh I d _ _ h1 r1 hs'.1 (hz _ (by simp only [PyData.shownAll]; exact List.mem_cons_self ..))
        obtain ⟨⟨a2, q2⟩, b2, m2, k2⟩ := DtAll.sh I ds _ _ h2 r2 hs'.2 fun t ht => hz t (by simp only [PyData.shownAll]; exact List.mem_cons_of_mem _ ht)
        refine ⟨⟨_, .cons q1 q2⟩, b1 ++ b2, ?_, ?_⟩
        · simp only [PyData.depthAll]
          exact (m1.mono (Nat.le_max_left _ _)).append (m2.mono (Nat.le_max_right _ _))
        · simp only [PyData.depthAll, PyData.shownAll]
          exact .cons ((k1.more fun b z => List.mem_append_left _ z).level_le (Nat.le_max_left _ _)) (k2.more_le (fun b z => List.mem_append_right _ z) (Nat.le_max_right _ _))
end
end
def rShowD (K : PySem.W.Frag) : List V → Hp → VK → Prop := fun xs H Q => ∃ v d, xs = [v] ∧ Dt K H v d ∧ Shows d ∧ Q (.str d.shown) H
theorem call_showD {X : Cx} (hg : X.A.guards = some []) (hu : X.A.units + 64 < cLine) : CallR X (.builtin "repr") (rShowD X.K) := by
  intro pins s σ H xs us Q I r h
  obtain ⟨v, d, rfl, hd, S, q⟩ := h
  obtain ⟨u, rfl, r1⟩ := vals1 r
  obtain ⟨⟨as, rd⟩, _⟩ := Dt.sh I d v u hd r1 S.ok S.sz
  have hdp := S.dp
  have fin : ∀ {a : Addr} {T idr : String}, u = .ref a → ShowsBy X.prog X.w s.heap a d T idr → wpAny (model X.prog X.w) X.A (call (.builtin "repr") [u]) (EP X pins σ Q) X.xe s := by
    rintro a T idr rfl SB
    exact call_repr_slot (by omega) (SB.typeIs s fun _ _ e => e) SB.slotRepr (SB.call X.A.in1 _ s _ hg (by show X.A.units + 1 + d.depth < cLine; omega) (fun _ _ e => e) fun h' tu tk hk => ⟨_, _, rfl, .str _, H, I.kept hk, ⟨_, rfl⟩, q⟩)
  cases hd with
  | non => exact call_show hg hu pins s σ H _ _ Q I r ⟨_, _, rfl, .non, S, q⟩
  | bl b => exact call_show hg hu pins s σ H _ _ Q I r ⟨_, _, rfl, .bl b, S, q⟩
  | int i => exact call_show hg hu pins s σ H _ _ Q I r ⟨_, _, rfl, .int i, S, q⟩
  | str y => exact call_show hg hu pins s σ H _ _ Q I r ⟨_, _, rfl, .str y, S, q⟩
  | @lst a ys ds e ha =>
    obtain rfl : u = Value.ref a := r1
    obtain ⟨its, rv, ⟨o, n, ho, hc, _, hdd⟩, _⟩ := I.list e
    have hz' : (listText (PyData.shownAll ds)).length ≤ sizeLine := by simpa only [PyData.shown] using S.sz
    obtain ⟨⟨as2, ra⟩, bs, hb, hk⟩ := DtAll.sh I ds _ its ha rv (by simpa [PyData.showable] using S.ok) fun t ht => Nat.le_trans (listText_mem_le ht) hz'
    have hna := not_mem_of_deeper (Reads.list ho hc hdd ra) (by simp only [PyData.depth]; omega) hb
    refine fin rfl (T := "list") (idr := "list.__repr__") ⟨F.slot_list_repr.toG, F.slot_list_str, F.slot_list_format, fun s hk0 => ⟨o, hk0 _ _ ho, hc⟩, fun A E s Q hg hu hk0 hQ => ?_⟩
    simp only [PyData.depth] at hu
    simp only [PyData.shown] at hQ
    cases its with
    | nil =>
      cases ra
      simp only [PyData.shownAll, listText_nil] at hQ
      exact call_list_repr_empty ⟨o, hk0 _ _ ho, hc⟩ (hk0 _ _ ho) hdd (hQ s.heap _ _ fun _ _ e => e)
    | cons x l => exact call_list_reprK ho hc hdd hna (by simpa using hk.length_eq) (fun i y z => hk.item i y (by simpa using z)) hg (fun b _ => Clear.nil b) hu hk0 hQ hz'
  | @tup a ys ds e ha =>
    obtain rfl : u = Value.ref a := r1
    obtain ⟨its, rv, ⟨o, ho, hc, n, hdd⟩, _⟩ := I.tuple e
    have hz' : (tupleText (PyData.shownAll ds)).length ≤ sizeLine := by simpa only [PyData.shown] using S.sz
    obtain ⟨⟨as2, ra⟩, bs, hb, hk⟩ := DtAll.sh I ds _ its ha rv (by simpa [PyData.showable] using S.ok) fun t ht => Nat.le_trans (tupleText_mem_le ht) hz'
    have hna := not_mem_of_deeper (Reads.tuple ho hc hdd ra) (by simp only [PyData.depth]; omega) hb
    refine fin rfl (T := "tuple") (idr := "tuple.__repr__") ⟨F.slot_tuple_repr, F.slot_tuple_str, F.slot_tuple_format, fun s hk0 => ⟨o, hk0 _ _ ho, hc⟩, fun A E s Q hg hu hk0 hQ => ?_⟩
    simp only [PyData.depth] at hu
    simp only [PyData.shown] at hQ
    exact call_tuple_reprK ho hc hdd hna hk hg (fun b _ => Clear.nil b) hu hk0 hQ hz'
  | @dct a e =>
    obtain rfl : u = Value.ref a := r1
    obtain ⟨hsys, o, n, ho, hc, hdd⟩ := empty_dict I e
    refine fin rfl (T := "dict") (idr := "dict.__repr__") ⟨F.slot_dict_repr, F.slot_dict_str, F.slot_dict_format, fun s hk0 => ⟨o, hk0 _ _ ho, hc⟩, fun A E s Q hg hu hk0 hQ => ?_⟩
    simp only [PyData.depth] at hu
    simp only [PyData.shown, PyData.shownKv_eq] at hQ
    exact call_dict_reprK (as := []) ho hc hdd hsys (fun z => nomatch z) .nil hg (fun b _ => Clear.nil b) hu hk0 hQ (by decide +kernel)
end Sx
namespace Sx
open PySem PySem.Spec PyProof.Rows L2

def clsOf : PyData → String
  | .none => "NoneType"
  | .bool _ => "bool"
  | .int _ => "int"
  | .str _ => "str"
  | .list _ => "list"
  | .tuple _ => "tuple"
  | .dict _ => "dict"
theorem tyx_of {K : PySem.W.Frag} {H : Hp} {v : V} {d : PyData} (h : Dt K H v d) : TyX K H v (.type (clsOf d)) := by
  cases h with
  | non => exact .base .non
  | bl b => exact .base (.bl b)
  | int i => exact .base (.int i)
  | str x => exact .base (.str x)
  | lst e _ =>
    rcases e with (e | ⟨o, e⟩) | ⟨o, its, n, e, c, _⟩
    · exact .base (.lst e)
    · exact .base (.frz e)
    · exact .kList e c
  | tup e _ =>
    rcases e with (e | ⟨o, e⟩) | ⟨o, its, n, e, c, _⟩
    · exact .base (.tup e)
    · exact .fTuple e
    · exact .kTuple e c
  | dct e => exact .base (.dK e)
def wholeD : PyData → Bool
  | .int _ => true
  | _ => false
def tupD : PyData → Bool
  | .tuple _ => true
  | _ => false
theorem kit_int (d : PyData) : kitB (clsOf d) "int" = some (match d with | .int _ => true | .bool _ => true | _ => false) := by
  cases d
  · exact (by decide +kernel : kitB "NoneType" "int" = some false)
  · exact (by decide +kernel : kitB "bool" "int" = some true)
  · exact (by decide +kernel : kitB "int" "int" = some true)
  · exact (by decide +kernel : kitB "str" "int" = some false)
  · exact (by decide +kernel : kitB "list" "int" = some false)
  · exact (by decide +kernel : kitB "tuple" "int" = some false)
  · exact (by decide +kernel : kitB "dict" "int" = some false)
end Sx
namespace Sx
open PySem PySem.Spec PyProof.Rows L2 HT

end Sx
namespace Sx
open PySem PySem.Spec PyProof.Rows L2

structure Ok (n k : Nat) (d : PyData) : Prop where
  f : fine d = true
  n : nod d ≤ n
  d : d.depth ≤ k
structure OkAll (n k : Nat) (ds : List PyData) : Prop where
  f : fineAll ds = true
  n : nodAll ds ≤ n
  d : PyData.depthAll ds ≤ k
theorem fineAll_app : ∀ xs ys : List PyData, fineAll (xs ++ ys) = (fineAll xs && fineAll ys)
  | [], _ => rfl
  | x :: xs, ys => by
    show (fine x && fineAll (xs ++ ys)) = ((fine x && fineAll xs) && fineAll ys)
    rw [fineAll_app xs ys, Bool.and_assoc]
theorem nodAll_app : ∀ xs ys : List PyData, nodAll (xs ++ ys) = nodAll xs + nodAll ys
  | [], _ => (Nat.zero_add _).symm
  | x :: xs, ys => by
    show nod x + nodAll (xs ++ ys) = (nod x + nodAll xs) + nodAll ys
    rw [nodAll_app xs ys, Nat.add_assoc]
theorem depthAll_app : ∀ xs ys : List PyData, PyData.depthAll (xs ++ ys) = max (PyData.depthAll xs) (PyData.depthAll ys)
  | [], ys => by
    show PyData.depthAll ys = max 0 (PyData.depthAll ys)
    omega
  | x :: xs, ys => by
    show max x.depth (PyData.depthAll (xs ++ ys)) = max (max x.depth (PyData.depthAll xs)) (PyData.depthAll ys)
    rw [depthAll_app xs ys]
    omega
namespace OkAll
variable {n m k j : Nat} {xs ys ds : List PyData} {d : PyData}
theorem app (a : OkAll n k xs) (b : OkAll m k ys) : OkAll (n + m) k (xs ++ ys) :=
  ⟨by rw [fineAll_app, a.f, b.f] <;> rfl, by rw [nodAll_app]; exact Nat.add_le_add a.n b.n, by rw [depthAll_app]; exact Nat.max_le.mpr ⟨a.d, b.d⟩⟩
theorem ge (a : OkAll n k xs) (h : n ≤ m) (h2 : k ≤ j) : OkAll m j xs := ⟨a.f, Nat.le_trans a.n h, Nat.le_trans a.d h2⟩
theorem parts (a : OkAll n k (xs ++ ys)) : OkAll n k xs ∧ OkAll n k ys := by
  obtain ⟨f, l, d⟩ := a
  rw [fineAll_app] at f
  rw [nodAll_app] at l
  rw [depthAll_app] at d
  obtain ⟨f1, f2⟩ := Bool.and_eq_true_iff.mp f
  exact ⟨⟨f1, by omega, by omega⟩, ⟨f2, by omega, by omega⟩⟩
theorem take (a : OkAll n k xs) (i : Nat) : OkAll n k (xs.take i) := by
  rw [← List.take_append_drop i xs] at a
  exact a.parts.1
theorem drop (a : OkAll n k xs) (i : Nat) : OkAll n k (xs.drop i) := by
  rw [← List.take_append_drop i xs] at a
  exact a.parts.2
theorem one (a : Ok n k d) : OkAll n k [d] := by
  obtain ⟨f, l, h⟩ := a
  refine ⟨?_, ?_, ?_⟩
  · show (fine d && true) = true
    rw [f] <;> rfl
  · show nod d + 0 ≤ n
    exact l
  · show max d.depth 0 ≤ k
    omega
theorem cons (a : Ok n k d) (b : OkAll m k xs) : OkAll (n + m) k (d :: xs) := (one a).app b
theorem nil : OkAll 0 k [] := ⟨rfl, Nat.le_refl _, Nat.zero_le _⟩
theorem mem (a : OkAll n k xs) (h : d ∈ xs) : Ok n k d := by
  obtain ⟨l, r, rfl⟩ := List.append_of_mem h
  have b := (a.parts.2).f
  have c := (a.parts.2).n
  have e := (a.parts.2).d
  have b' : (fine d && fineAll r) = true := b
  have c' : nod d + nodAll r ≤ n := c
  have e' : max d.depth (PyData.depthAll r) ≤ k := e
  obtain ⟨b1, _⟩ := Bool.and_eq_true_iff.mp b'
  exact ⟨b1, by omega, by omega⟩
theorem rev : ∀ {xs : List PyData}, fineAll xs.reverse = fineAll xs ∧ nodAll xs.reverse = nodAll xs ∧ PyData.depthAll xs.reverse = PyData.depthAll xs
  | [] => ⟨rfl, rfl, rfl⟩
  | x :: xs => by
    obtain ⟨h1, h2, h3⟩ := rev (xs := xs)
    rw [List.reverse_cons]
    refine ⟨?_, ?_, ?_⟩
    · rw [fineAll_app, h1]
      show (fineAll xs && (fine x && true)) = (fine x && fineAll xs)
      rw [Bool.and_true, Bool.and_comm]
    · rw [nodAll_app, h2]
      show nodAll xs + (nod x + 0) = nod x + nodAll xs
      omega
    · rw [depthAll_app, h3]
      show max (PyData.depthAll xs) (max x.depth 0) = max x.depth (PyData.depthAll xs)
      omega
theorem reverse (a : OkAll n k xs) : OkAll n k xs.reverse := by
  obtain ⟨h1, h2, h3⟩ := rev (xs := xs)
  exact ⟨by rw [h1]; exact a.f, by rw [h2]; exact a.n, by rw [h3]; exact a.d⟩
theorem tup (a : OkAll n k xs) : Ok (1 + n) (k + 1) (.tuple xs) := ⟨a.f, Nat.add_le_add_left a.n 1, Nat.add_le_add_right a.d 1⟩
theorem lst (a : OkAll n k xs) : Ok (1 + n) (k + 1) (.list xs) := ⟨a.f, Nat.add_le_add_left a.n 1, Nat.add_le_add_right a.d 1⟩
end OkAll
theorem nod_pos : ∀ d : PyData, 1 ≤ nod d
  | .none | .bool _ | .int _ | .dict _ => Nat.le_refl _
  | .str _ | .list _ | .tuple _ => Nat.le_add_right _ _
theorem nodAll_len : ∀ xs : List PyData, xs.length ≤ nodAll xs
  | [] => Nat.le_refl _
  | x :: xs => by
    show xs.length + 1 ≤ nod x + nodAll xs
    have := nodAll_len xs
    have := nod_pos x
    omega
theorem OkAll.len {n k : Nat} {xs : List PyData} (a : OkAll n k xs) : xs.length ≤ n := Nat.le_trans (nodAll_len xs) a.n
theorem Ok.ge {n m k j : Nat} {d : PyData} (a : Ok n k d) (h : n ≤ m) (h2 : k ≤ j) : Ok m j d := ⟨a.f, Nat.le_trans a.n h, Nat.le_trans a.d h2⟩
theorem Ok.shows {n k : Nat} {d : PyData} (a : Ok n k d) (h : n ≤ 50000) (h2 : k ≤ 60) : Shows d := shows_of a.f (Nat.le_trans a.n h) (Nat.le_trans a.d h2)
theorem Ok.tup_in {n k : Nat} {ds : List PyData} (a : Ok n (k + 1) (.tuple ds)) : OkAll n k ds := by
  obtain ⟨f, l, d⟩ := a
  have l' : 1 + nodAll ds ≤ n := l
  have d' : PyData.depthAll ds + 1 ≤ k + 1 := d
  exact ⟨f, by omega, by omega⟩
theorem Row.ok {d : PyData} (a : Row d) : Ok 10000 9 d := ⟨a.f, a.n, a.d⟩
theorem Ok.small {i : Int} {k : Nat} (h : i.natAbs ≤ 10 ^ 120) : Ok 1 k (.int i) := ⟨fine_int' h, Nat.le_refl _, Nat.zero_le _⟩

def cutD (xs : List PyData) (lo hi : Option Int) : List PyData := (xs.drop (HT.sIx xs.length 0 lo)).take (HT.sIx xs.length xs.length hi - HT.sIx xs.length 0 lo)
theorem OkAll.cut {n k : Nat} {xs : List PyData} (a : OkAll n k xs) (lo hi : Option Int) : OkAll n k (cutD xs lo hi) := (a.drop _).take _
theorem tup_in {K : PySem.W.Frag} {H : Hp} {v : V} {ds : List PyData} (h : Dt K H v (.tuple ds)) : ∃ a xs, v = .ref a ∧ SqT K H a xs ∧ DtAll K H xs ds := by
  cases h with
  | tup e ha => exact ⟨_, _, rfl, e, ha⟩
structure Kn (G0 F0 G F H : Hp) (b g : Addr) : Prop where
  B : Bs F H b g
  sG : Same G0 G
  sF : Same F0 F
  s : Same G F
  ap : ∀ D, G0 D = none → F0 D ≠ none → G D = none
namespace Kn
variable {G0 F0 G F H H' : Hp} {b g p : Addr}
theorem start (B : Bs F H b g) (s : Same G F) : Kn G F G F H b g := ⟨B, Same.refl _, Same.refl _, s, fun _ h _ => h⟩
theorem new (k : Kn G0 F0 G F H b g) (np : H p = none) (o : HO) : Kn G0 F0 (upd G p o) (upd F p o) (upd H p o) b g := by
  have nF := k.B.sub.free np
  refine ⟨k.B.new np, k.sG.trans (same_new (k.s.free nF)), k.sF.trans (same_new nF), ?_, fun D h1 h2 => ?_⟩
  · intro c x e
    by_cases h : c = p
    · subst h
      rw [upd_same] at e ⊢
      exact e
    · rw [upd_ne h] at e ⊢
      exact k.s c x e
  · have hD : D ≠ p := by
      intro e
      cases hx : F0 D with
      | none => exact h2 hx
      | some x =>
        have := k.sF _ _ hx
        rw [e, nF] at this
        cases this
    rw [upd_ne hD]
    exact k.ap D h1 h2
theorem trans {G1 F1 : Hp} (k : Kn G0 F0 G F H b g) (k2 : Kn G F G1 F1 H' b g) : Kn G0 F0 G1 F1 H' b g :=
  ⟨k2.B, k.sG.trans k2.sG, k.sF.trans k2.sF, k2.s, fun D h1 h2 => k2.ap D (k.ap D h1 h2) (by
    cases hx : F0 D with
    | none => exact absurd hx h2
    | some x =>
      rw [k.sF _ _ hx]
      exact fun z => nomatch z)⟩
end Kn
end Sx
namespace Sx
open PySem PySem.Spec PyProof.Rows L2
theorem Kn.newL {G0 F0 G F H : Hp} {b g p : Addr} (k : Kn G0 F0 G F H b g) (np : H p = none) (o : HO) : Kn G0 F0 G (upd F p o) (upd H p o) b g ∧ (upd F p o) p = some o ∧ G p = none ∧ Same F (upd F p o) :=
  have nF := k.B.sub.free np
  have nG := k.s.free nF
  ⟨⟨k.B.new np, k.sG, k.sF.trans (same_new nF), same_put k.s nG, k.ap⟩, upd_same, nG, same_new nF⟩
theorem Kn.off {G0 F0 G F H : Hp} {b g p L : Addr} {u : HO} (k : Kn G0 F0 G F H b g) (e : F L = some u) (gL : G L = none) (np : H p = none) (o : HO) : (upd F p o) L = some u ∧ (upd G p o) L = none := by
  have h := ne_of_none e (k.B.sub.free np)
  exact ⟨by rw [upd_ne h]; exact e, by rw [upd_ne h]; exact gL⟩
end Sx
namespace Sx
open PySem PySem.Spec PyProof.Rows L2
end Sx
namespace Sx
open PySem PySem.Spec PyProof.Rows L2

theorem tuple_mul0 (l : Addr) (items : Array Value) (n : Nat) (dd : Option Addr) (sl : Array (Option Value)) (u : Tok) (hi : items.isEmpty = false) :
    Meets (Builtin.«tuple.__mul__» ⟨[.ref l, .int 0 u], []⟩) (fun _ R s => s.heap.get? l = some { cls := .type "tuple", dict := dd, data := .seq items n, slots := sl } ∧
      R (.ok (.ret (Value.ref s.heap.objs.size))) { s with heap := s.heap.push { cls := Value.type "tuple", data := Data.seq #[] }, toks := s.toks }) :=
  .of_wp fun prog w A R s h => by
    obtain ⟨hp, g, d, tk, os⟩ := s
    obtain ⟨hl, h⟩ := h
    have f1 := AutoSeq1.idx_int
    have c1 : (items.isEmpty || (0 : Int) == 1) = false := by rw [hi] <;> rfl
    have c2 : (decide ((0 : Int) ≤ 0) || items.isEmpty) = true := by simp
    have hsz : (#[] : Array Value).size ≤ sizeLine := Nat.zero_le _
    wp_walk using wpAny_loadPart' hl
    repeat (first
      | (refine wpAny_ite_false (by decide) ?_; wp_walk using wpAny_loadPart' hl)
      | (refine wpAny_ite_false (decide_eq_false (by rw [c1]; exact Bool.false_ne_true)) ?_; wp_walk using wpAny_loadPart' hl)
      | (refine wpAny_ite_true (decide_eq_true (by rw [c2])) ?_; wp_walk using wpAny_loadPart' hl)
      | (refine wpAny_ite_false (decide_eq_false (Nat.not_lt.mpr hsz)) ?_; wp_walk using wpAny_loadPart' hl))
    exact ⟨_, rfl, h⟩
def rRep0 (K : PySem.W.Frag) : R2 := fun x y H Q => ∃ l xs, x = .ref l ∧ y = .int 0 ∧ SqT K H l xs ∧ xs ≠ [] ∧ ∀ p, H p = none → Q (.ref p) (upd H p (.tup []))
theorem op_rep0 {X : Cx} : OpR X (binaryOp .Mult) (rRep0 X.K) := by
  intro pins s σ H x y v u Q I rx ry h
  obtain ⟨l, xs, rfl, rfl, hT, hne, q⟩ := h
  obtain rfl : v = Value.ref l := rx
  obtain ⟨t, rfl⟩ := ry
  obtain ⟨its, r, ⟨⟨cls, dd, data, sl⟩, ho, hc, n, hd⟩, hs⟩ := I.tuple hT
  simp only at hc hd
  subst hc hd
  have hi : its.toArray.isEmpty = false := by
    cases its with
    | nil =>
      have := r.length
      exact absurd (List.eq_nil_of_length_eq_zero this) hne
    | cons a b => rfl
  refine wpAny_binaryOp_repeat_ref (T := "tuple") (U := "int") (by decide) ⟨_, ho, rfl⟩ (fun s' => typeIs_int s' 0 t) noFill_tuple_mul F.fills_int_mul F.slot_int_rmul repeat_tuple F.slot_int_index.lookup
    (call_meets F.slot_int_rmul (typeIs_int s 0 t) F.entry_int_rmul (F.args_int_rmul_2 _ _) (int_rmul_tuple 0 t l its.toArray n dd sl)
      ⟨ho, rfl, ⟨_, ho, rfl⟩, call_meets F.slot_tuple_mul ⟨_, ho, rfl⟩ F.entry_tuple_mul (F.args_tuple_mul_2 _ _) (tuple_mul0 l its.toArray n dd sl t hi) ⟨ho, ?_⟩⟩)
  refine ⟨.ref s.heap.objs.size, _, I.laid (t' := s.toks) (o := .tup []) (fun b ob q => Heap.get?_push_of_some _ q) (Nat.le_refl _) ?_, rfl, q _ (I.hok.fresh (Nat.le_refl _))⟩
  exact ⟨Nat.zero_le _, [], .nil, IsTup.new _ _⟩
def rRepZ (K : PySem.W.Frag) : R2 := fun x y H Q => rRepAny K x y H Q ∨ rRep0 K x y H Q
theorem op_repZ {X : Cx} : OpR X (binaryOp .Mult) (rRepZ X.K) := OpR.or op_repAny op_rep0

theorem Kn.own {G0 F0 G F H H' : Hp} {b g p : Addr} {o : HO} (k : Kn G0 F0 G F H b g) (B : Bs F H' b g) (nF : F p = none) (e : H' p = some o) (pb : p ≠ b) (pg : p ≠ g) : Kn G0 F0 (upd G p o) (upd F p o) H' b g := by
  refine ⟨B.own e pb pg, k.sG.trans (same_new (k.s.free nF)), k.sF.trans (same_new nF), ?_, fun D h1 h2 => ?_⟩
  · intro c x e
    by_cases h : c = p
    · subst h
      rw [upd_same] at e ⊢
      exact e
    · rw [upd_ne h] at e ⊢
      exact k.s c x e
  · have hD : D ≠ p := by
      intro e
      cases hx : F0 D with
      | none => exact h2 hx
      | some x =>
        have := k.sF _ _ hx
        rw [e, nF] at this
        cases this
    rw [upd_ne hD]
    exact k.ap D h1 h2
end Sx
namespace Sx
open PySem PySem.Spec PyProof.Rows L2
end Sx
namespace Sx
open PySem PySem.Spec PyProof.Rows L2
end Sx
namespace Lf
open PySem PySem.Spec PyProof.Rows L2 Sx

structure Rw where
  ms : List Int
  ws : List (Option Int)
  lo : Int
  hi : Int
structure Ex where
  cls : Str
  fs : List (Str × PyData)
inductive Spk where
  | dk (kvs : List (Key × PyData))
  | dt (kvs : List (List Int × PyData))
  | exc (a : Addr) (c : Value) (dd : Option Addr) (e : Ex)
  | row (r : Rw)
  | rowL (rs : List Rw)
  | si (w : World) (ns : List Int)
inductive A where
  | un
  | raw (v : V)
  | d (x : PyData)
  | own (ds : List PyData)
  | sp (o : Spk)
def Spk.own : Spk → Bool
  | .dk _ => true
  | .dt _ => true
  | .si _ _ => true
  | _ => false
def A.isOwn : A → Bool
  | .own _ => true
  | .sp o => o.own
  | _ => false
def hashT (ks : List Int) : Int := reduceHash (Builtin.Tuple.tupleHashOf (ks.map hashInt))
def entT (x : List Int × Addr × Value) : DictEntry := ⟨hashT x.1, .ref x.2.1, x.2.2⟩
def DtP (a : Addr) (xs : List (List Int × Addr × V)) (h : Heap) : Prop := xs.length ≤ sizeLine ∧ (a == sysModules) = false ∧ ∃ (ys : List (List Int × Addr × Value)) (o : Obj) (es : Array DictEntry) (ep : Nat),
  Paired (fun (p : List Int × Addr × V) (q : List Int × Addr × Value) => p.1 = q.1 ∧ p.2.1 = q.2.1 ∧ RelV p.2.2 q.2.2) xs ys ∧ h.get? a = some o ∧ o.ExactDict ∧ o.data = .dict es ep ∧ es.toList = ys.map entT ∧ (xs.map (·.1)).Nodup
def DtO (a : Addr) (xs : List (List Int × Addr × V)) : HO := .ext (DtP a xs)


mutual
inductive Dv (K : PySem.W.Frag) (H : Hp) : V → PyData → Prop
  | non : Dv K H .non .none
  | bl (b : Bool) : Dv K H (.bl b) (.bool b)
  | int (i : Int) : Dv K H (.int i) (.int i)
  | str (x : Str) : Dv K H (.str x) (.str x)
  | lst {a : Addr} {xs : List V} {ds : List PyData} (e : H a = some (.lst xs)) (h : DvAll K H xs ds) : Dv K H (.ref a) (.list ds)
  | tup {a : Addr} {xs : List V} {ds : List PyData} (e : SqT K H a xs) (h : DvAll K H xs ds) : Dv K H (.ref a) (.tuple ds)
  | dct {a : Addr} (e : H a = some (.dK [])) : Dv K H (.ref a) (.dict [])
inductive DvAll (K : PySem.W.Frag) (H : Hp) : List V → List PyData → Prop
  | nil : DvAll K H [] []
  | cons {v : V} {vs : List V} {d : PyData} {ds : List PyData} : Dv K H v d → DvAll K H vs ds → DvAll K H (v :: vs) (d :: ds)
end
mutual
theorem dv_same {K : PySem.W.Frag} {H H' : Hp} (e : Same H H') : ∀ (d : PyData) (v : V), Dv K H v d → Dv K H' v d
  | .none, _, h => by
    cases h
    exact .non
  | .bool _, _, h => by
    cases h
    exact .bl _
  | .int _, _, h => by
    cases h
    exact .int _
  | .str _, _, h => by
    cases h
    exact .str _
  | .list ds, _, h => by
    cases h with
    | lst h1 h2 => exact .lst (e _ _ h1) (dva_same e ds _ h2)
  | .tuple ds, _, h => by
    cases h with
    | tup h1 h2 => exact .tup (Same.tup e h1) (dva_same e ds _ h2)
  | .dict _, _, h => by
    cases h with
    | dct h1 => exact .dct (e _ _ h1)
theorem dva_same {K : PySem.W.Frag} {H H' : Hp} (e : Same H H') : ∀ (ds : List PyData) (vs : List V), DvAll K H vs ds → DvAll K H' vs ds
  | [], _, h => by
    cases h
    exact .nil
  | d :: ds, _, h => by
    cases h with
    | cons h1 h2 => exact .cons (dv_same e d _ h1) (dva_same e ds _ h2)
end
mutual
theorem dv_dt {K : PySem.W.Frag} {H : Hp} : ∀ (d : PyData) (v : V), Dv K H v d → Dt K H v d
  | .none, _, h => by
    cases h
    exact .non
  | .bool _, _, h => by
    cases h
    exact .bl _
  | .int _, _, h => by
    cases h
    exact .int _
  | .str _, _, h => by
    cases h
    exact .str _
  | .list ds, _, h => by
    cases h with
    | lst h1 h2 => exact .lst (.of h1) (dva_dta ds _ h2)
  | .tuple ds, _, h => by
    cases h with
    | tup h1 h2 => exact .tup h1 (dva_dta ds _ h2)
  | .dict _, _, h => by
    cases h with
    | dct h1 => exact .dct h1
theorem dva_dta {K : PySem.W.Frag} {H : Hp} : ∀ (ds : List PyData) (vs : List V), DvAll K H vs ds → DtAll K H vs ds
  | [], _, h => by
    cases h
    exact .nil
  | d :: ds, _, h => by
    cases h with
    | cons h1 h2 => exact .cons (dv_dt d _ h1) (dva_dta ds _ h2)
end
theorem dva_len {K : PySem.W.Frag} {H : Hp} : ∀ {vs : List V} {ds : List PyData}, DvAll K H vs ds → vs.length = ds.length
  | _, _, .nil => rfl
  | _, _, .cons _ t => congrArg (· + 1) (dva_len t)
theorem dva_at {K : PySem.W.Frag} {H : Hp} : ∀ {vs : List V} {ds : List PyData} {i : Nat} {d : PyData}, DvAll K H vs ds → ds[i]? = some d → ∃ v, vs[i]? = some v ∧ Dv K H v d
  | _, _, _, _, .nil, h => by simp at h
  | _, _, 0, d, .cons r t, h => ⟨_, rfl, by rw [← Option.some.inj h]; exact r⟩
  | _, _, i + 1, d, .cons r t, h => dva_at (i := i) t (by simpa using h)
theorem dva_app {K : PySem.W.Frag} {H : Hp} : ∀ {vs ws : List V} {ds es : List PyData}, DvAll K H vs ds → DvAll K H ws es → DvAll K H (vs ++ ws) (ds ++ es)
  | _, _, _, _, .nil, h => h
  | _, _, _, _, .cons r t, h => .cons r (dva_app t h)
theorem dva_take {K : PySem.W.Frag} {H : Hp} : ∀ {vs : List V} {ds : List PyData} (n : Nat), DvAll K H vs ds → DvAll K H (vs.take n) (ds.take n)
  | _, _, 0, _ => .nil
  | _, _, _ + 1, .nil => .nil
  | _, _, n + 1, .cons r t => .cons r (dva_take n t)
theorem dva_drop {K : PySem.W.Frag} {H : Hp} : ∀ {vs : List V} {ds : List PyData} (n : Nat), DvAll K H vs ds → DvAll K H (vs.drop n) (ds.drop n)
  | _, _, 0, h => h
  | _, _, _ + 1, .nil => .nil
  | _, _, n + 1, .cons _ t => dva_drop n t
theorem dva_set {K : PySem.W.Frag} {H : Hp} {v : V} {d : PyData} (hv : Dv K H v d) : ∀ {vs : List V} {ds : List PyData} (i : Nat), DvAll K H vs ds → DvAll K H (vs.set i v) (ds.set i d)
  | _, _, _, .nil => .nil
  | _, _, 0, .cons _ t => .cons hv t
  | _, _, i + 1, .cons r t => .cons r (dva_set hv i t)
theorem dva_erase {K : PySem.W.Frag} {H : Hp} : ∀ {vs : List V} {ds : List PyData} (i : Nat), DvAll K H vs ds → DvAll K H (vs.eraseIdx i) (ds.eraseIdx i)
  | _, _, _, .nil => .nil
  | _, _, 0, .cons _ t => t
  | _, _, i + 1, .cons r t => .cons r (dva_erase i t)
theorem dva_rep {K : PySem.W.Frag} {H : Hp} {vs : List V} {ds : List PyData} (h : DvAll K H vs ds) : ∀ n : Nat, DvAll K H (List.replicate n vs).flatten (List.replicate n ds).flatten
  | 0 => .nil
  | n + 1 => by
    rw [List.replicate_succ, List.replicate_succ, List.flatten_cons, List.flatten_cons]
    exact dva_app h (dva_rep h n)
theorem dva_val {K : PySem.W.Frag} {H : Hp} {vs : List V} {ds : List PyData} {i : Nat} {v : V} (h : DvAll K H vs ds) (e : vs[i]? = some v) : i < ds.length ∧ Dv K H v (ds.getD i .none) := by
  have hi : i < ds.length := by
    rw [← dva_len h]
    exact (List.getElem?_eq_some_iff.mp e).1
  obtain ⟨w, h1, h2⟩ := dva_at h (getD_some PyData.none hi)
  rw [e] at h1
  cases h1
  exact ⟨hi, h2⟩
theorem tup_in {K : PySem.W.Frag} {H : Hp} {v : V} {ds : List PyData} (h : Dv K H v (.tuple ds)) : ∃ a xs, v = .ref a ∧ SqT K H a xs ∧ DvAll K H xs ds := by
  cases h with
  | tup e ha => exact ⟨_, _, rfl, e, ha⟩
theorem lst_in {K : PySem.W.Frag} {G : Hp} {v : V} {ds : List PyData} (h : Dv K G v (.list ds)) : ∃ a xs, v = .ref a ∧ G a = some (.lst xs) ∧ DvAll K G xs ds := by
  cases h with
  | lst e ha => exact ⟨_, _, rfl, e, ha⟩

def NoIns : HO → Prop
  | .ins _ _ _ => False
  | _ => True
def oV : Option Int → V
  | some i => .int i
  | none => .non
def oD : Option Int → PyData
  | some i => .int i
  | none => .none
def rowF (m w : V) (kd : Addr) (r : Rw) : List (Str × V) := ([("machine", m), ("word", w), ("known", .ref kd), ("known", .int r.lo), ("known", .int r.hi)] : List (Str × V)) ++ ((r.ms.map fun i => (("machine" : Str), V.int i)) ++ r.ws.map fun o => (("word" : Str), oV o))
def RowAt (K : PySem.W.Frag) (G : Hp) (v : V) (r : Rw) : Prop := ∃ (a C dx kd : Addr) (m w : V), v = .ref a ∧ G a = some (.ins C dx (rowF m w kd r)) ∧ Dv K G m (.tuple (r.ms.map PyData.int)) ∧ Dv K G w (.tuple (r.ws.map oD))
def SpAt (K : PySem.W.Frag) (G : Hp) (p : Addr) (u : HO) : Spk → Prop
  | .dk kvs => ∃ vs : List (Key × V), u = .dK vs ∧ Paired (fun (x : Key × V) (y : Key × PyData) => x.1 = y.1 ∧ Dv K G x.2 y.2) vs kvs
  | .dt kvs => ∃ xs : List (List Int × Addr × V), u = DtO p xs ∧ Paired (fun (x : List Int × Addr × V) (y : List Int × PyData) => x.1 = y.1 ∧ SqT K G x.2.1 (x.1.map V.int) ∧ Dv K G x.2.2 y.2) xs kvs
  | .si w ns => ∃ n, u = SetO w p (fun j => decide (j ∈ ns)) n ∧ n ≤ ns.length
  | _ => False
def ExAt (K : PySem.W.Frag) (G : Hp) (dd : Option Addr) (fs : List (Str × PyData)) : Prop := (fs = [] ∧ dd = none) ∨ ∃ (d : Addr) (vs : List (Str × V)), dd = some d ∧ G d = some (.xd vs) ∧ Paired (fun (x : Str × V) (y : Str × PyData) => x.1 = y.1 ∧ Dv K G x.2 y.2) vs fs
def SpNo (K : PySem.W.Frag) (G : Hp) (x : Option V) : Spk → Prop
  | .exc a c dd e => x = some (.ref a) ∧ ExAt K G dd e.fs
  | .row r => ∃ v, x = some v ∧ RowAt K G v r
  | .rowL rs => ∃ (l : Addr) (vs : List V), x = some (.ref l) ∧ G l = some (.lst vs) ∧ Paired (RowAt K G) vs rs
  | _ => False
theorem paired_imp {α β : Type} {F F' : α → β → Prop} (h : ∀ a b, F a b → F' a b) : ∀ {l : List α} {m : List β}, Paired F l m → Paired F' l m
  | _, _, .nil => .nil
  | _, _, .cons r t => .cons (h _ _ r) (paired_imp h t)
theorem SpAt.same {K : PySem.W.Frag} {G G' : Hp} {p : Addr} {u : HO} {o : Spk} (e : Same G G') (h : SpAt K G p u o) : SpAt K G' p u o := by
  cases o with
  | dk kvs =>
    obtain ⟨vs, h1, h2⟩ := h
    exact ⟨vs, h1, paired_imp (fun a b q => ⟨q.1, dv_same e _ _ q.2⟩) h2⟩
  | dt kvs =>
    obtain ⟨xs, h1, h2⟩ := h
    exact ⟨xs, h1, paired_imp (fun a b q => ⟨q.1, Same.tup e q.2.1, dv_same e _ _ q.2.2⟩) h2⟩
  | si w ns => exact h
  | exc _ _ _ _ => exact h.elim
  | row _ => exact h.elim
  | rowL _ => exact h.elim
theorem SpAt.noIns {K : PySem.W.Frag} {G : Hp} {p : Addr} {u : HO} {o : Spk} (h : SpAt K G p u o) : NoIns u := by
  cases o with
  | dk kvs =>
    obtain ⟨vs, rfl, _⟩ := h
    exact True.intro
  | dt kvs =>
    obtain ⟨xs, rfl, _⟩ := h
    exact True.intro
  | si w ns =>
    obtain ⟨n, rfl, _⟩ := h
    exact True.intro
  | exc _ _ _ _ => exact h.elim
  | row _ => exact h.elim
  | rowL _ => exact h.elim
theorem SpAt.mut {K : PySem.W.Frag} {G : Hp} {p : Addr} {u : HO} {o : Spk} (h : SpAt K G p u o) : Mut (some u) := by
  cases o with
  | dk kvs =>
    obtain ⟨vs, rfl, _⟩ := h
    exact True.intro
  | dt kvs =>
    obtain ⟨xs, rfl, _⟩ := h
    exact True.intro
  | si w ns =>
    obtain ⟨n, rfl, _⟩ := h
    exact True.intro
  | exc _ _ _ _ => exact h.elim
  | row _ => exact h.elim
  | rowL _ => exact h.elim
theorem RowAt.same {K : PySem.W.Frag} {G G' : Hp} {v : V} {r : Rw} (e : Same G G') (h : RowAt K G v r) : RowAt K G' v r := by
  obtain ⟨a, C, dx, kd, m, w, rfl, h1, h2, h3⟩ := h
  exact ⟨a, C, dx, kd, m, w, rfl, e _ _ h1, dv_same e _ _ h2, dv_same e _ _ h3⟩
theorem ExAt.same {K : PySem.W.Frag} {G G' : Hp} {dd : Option Addr} {fs : List (Str × PyData)} (e : Same G G') (h : ExAt K G dd fs) : ExAt K G' dd fs := by
  rcases h with h | ⟨d, vs, h1, h2, h3⟩
  · exact .inl h
  · exact .inr ⟨d, vs, h1, e _ _ h2, paired_imp (fun a b q => ⟨q.1, dv_same e _ _ q.2⟩) h3⟩
theorem SpNo.same {K : PySem.W.Frag} {G G' : Hp} {x : Option V} {o : Spk} (e : Same G G') (h : SpNo K G x o) : SpNo K G' x o := by
  cases o with
  | dk _ => exact h.elim
  | dt _ => exact h.elim
  | si _ _ => exact h.elim
  | exc _ _ _ _ => exact ⟨h.1, h.2.same e⟩
  | row r =>
    obtain ⟨v, h1, h2⟩ := h
    exact ⟨v, h1, h2.same e⟩
  | rowL rs =>
    obtain ⟨l, vs, h1, h2, h3⟩ := h
    exact ⟨l, vs, h1, e _ _ h2, paired_imp (fun _ _ q => q.same e) h3⟩

structure Bx where
  P : Hp → Hp → Prop
  sub : ∀ {F H}, P F H → Same F H
  more : ∀ {F H H1}, P F H → Same H H1 → P F H1
  new : ∀ {F H p} (o : HO), P F H → H p = none → NoIns o → P (upd F p o) (upd H p o)
  put : ∀ {F H p u} (o : HO), P F H → F p = some u → Mut (some u) → NoIns o → P (upd F p o) (upd H p o)
  less : ∀ {F F' H}, P F H → Same F' F → P F' H
  /-- the classes of errors, by their names -/
  cn : Str → Value := fun _ => .none
def Bx.nm (B : Bx) (N : Str → Value) : Bx := { B with cn := N }
def Bx.nil : Bx where
  P := Same
  sub h := h
  more h s := h.trans s
  new {F H p} o h n _ := by
    intro c x e
    by_cases hc : c = p
    · subst hc
      rw [upd_same] at e ⊢
      exact e
    · rw [upd_ne hc] at e ⊢
      exact h c x e
  put {F H p u} o h e0 _ _ := by
    intro c x e
    by_cases hc : c = p
    · subst hc
      rw [upd_same] at e ⊢
      exact e
    · rw [upd_ne hc] at e ⊢
      exact h c x e
  less h s := s.trans h

structure Kn (B : Bx) (G0 F0 G F H : Hp) : Prop where
  B : B.P F H
  sG : Same G0 G
  sF : Same F0 F
  s : Same G F
  ap : ∀ D, G0 D = none → F0 D ≠ none → G D = none
  fm : ∀ D u, G D = none → F D = some u → Mut (some u)

section
variable {B : Bx} {K : PySem.W.Frag} {G0 F0 G F H : Hp}
theorem Kn.sub (k : Kn B G0 F0 G F H) : Same F H := B.sub k.B
theorem Kn.gh (k : Kn B G0 F0 G F H) : Same G H := k.s.trans k.sub
theorem Kn.start (b : B.P F H) (s : Same G F) (m : ∀ D u, G D = none → F D = some u → Mut (some u)) : Kn B G F G F H := ⟨b, Same.refl _, Same.refl _, s, fun _ h _ => h, m⟩
theorem Kn.trans {G1 F1 H' : Hp} (k : Kn B G0 F0 G F H) (k2 : Kn B G F G1 F1 H') : Kn B G0 F0 G1 F1 H' :=
  ⟨k2.B, k.sG.trans k2.sG, k.sF.trans k2.sF, k2.s, fun D h1 h2 => k2.ap D (k.ap D h1 h2) (by
    cases hx : F0 D with
    | none => exact absurd hx h2
    | some x =>
      rw [k.sF _ _ hx]
      exact fun z => nomatch z), k2.fm⟩
theorem Kn.old {p : Addr} (k : Kn B G0 F0 G F H) (h : F p = none) : F0 p = none := by
  cases e : F0 p with
  | none => rfl
  | some x =>
    rw [k.sF _ _ e] at h
    cases h
theorem Kn.newG (k : Kn B G0 F0 G F H) {p : Addr} (np : H p = none) (o : HO) (ni : NoIns o := by exact True.intro) : Kn B G0 F0 (upd G p o) (upd F p o) (upd H p o) := by
  have nF := k.sub.free np
  have nG := k.s.free nF
  have n0 := k.old nF
  refine ⟨B.new o k.B np ni, k.sG.trans (same_new nG), k.sF.trans (same_new nF), ?_, fun D h1 h2 => ?_, fun D u h1 h2 => ?_⟩
  · intro c x e
    by_cases h : c = p
    · subst h
      rw [upd_same] at e ⊢
      exact e
    · rw [upd_ne h] at e ⊢
      exact k.s c x e
  · have hD : D ≠ p := fun e => h2 (by rw [e]; exact n0)
    rw [upd_ne hD]
    exact k.ap D h1 h2
  · by_cases h : D = p
    · subst h
      rw [upd_same] at h1
      cases h1
    · rw [upd_ne h] at h1 h2
      exact k.fm D u h1 h2
theorem Kn.newF (k : Kn B G0 F0 G F H) {p : Addr} (np : H p = none) (o : HO) (ni : NoIns o := by exact True.intro) (mu : Mut (some o) := by exact True.intro) : Kn B G0 F0 G (upd F p o) (upd H p o) := by
  have nF := k.sub.free np
  have nG := k.s.free nF
  refine ⟨B.new o k.B np ni, k.sG, k.sF.trans (same_new nF), k.s.trans (same_new nF), k.ap, fun D u h1 h2 => ?_⟩
  by_cases h : D = p
  · subst h
    rw [upd_same] at h2
    cases h2
    exact mu
  · rw [upd_ne h] at h2
    exact k.fm D u h1 h2
theorem Kn.putF (k : Kn B G0 F0 G F H) {p : Addr} {u : HO} (e : F p = some u) (nG : G p = none) (n0 : F0 p = none) (mu : Mut (some u)) (o : HO) (ni : NoIns o := by exact True.intro) (mo : Mut (some o) := by exact True.intro) : Kn B G0 F0 G (upd F p o) (upd H p o) :=
  ⟨B.put o k.B e mu ni, k.sG, same_put k.sF n0, same_put k.s nG, k.ap, fun D u h1 h2 => by
    by_cases h : D = p
    · subst h
      rw [upd_same] at h2
      cases h2
      exact mo
    · rw [upd_ne h] at h2
      exact k.fm D u h1 h2⟩
theorem Kn.fix (k : Kn B G0 F0 G F H) {p : Addr} {o : HO} (e : F p = some o) (n0 : F0 p = none) (nG : G p = none) : Kn B G0 F0 (upd G p o) F H := by
  refine ⟨k.B, k.sG.trans (same_new nG), k.sF, ?_, fun D h1 h2 => ?_, fun D u h1 h2 => ?_⟩
  · intro c x h
    by_cases hc : c = p
    · subst hc
      rw [upd_same] at h
      rw [e]
      exact h
    · rw [upd_ne hc] at h
      exact k.s c x h
  · have hD : D ≠ p := fun z => h2 (by rw [z]; exact n0)
    rw [upd_ne hD]
    exact k.ap D h1 h2
  · by_cases hD : D = p
    · subst hD
      rw [upd_same] at h1
      cases h1
    · rw [upd_ne hD] at h1
      exact k.fm D u h1 h2
theorem Kn.more {H1 : Hp} (k : Kn B G0 F0 G F H) (s : Same H H1) : Kn B G0 F0 G F H1 := ⟨B.more k.B s, k.sG, k.sF, k.s, k.ap, k.fm⟩

def VOk (K : PySem.W.Frag) (G F0 F : Hp) : A → Option V → Prop
  | .un, _ => True
  | .raw v, x => x = some v
  | .d y, x => ∃ v, x = some v ∧ Dv K G v y
  | .own ds, x => ∃ a ws, x = some (.ref a) ∧ F a = some (.lst ws) ∧ G a = none ∧ F0 a = none ∧ DvAll K G ws ds
  | .sp o, x => (o.own = true ∧ ∃ a u, x = some (.ref a) ∧ F a = some u ∧ G a = none ∧ F0 a = none ∧ SpAt K G a u o) ∨ SpNo K G x o
structure Sl (K : PySem.W.Frag) (G F0 F : Hp) (as : List A) (xs : List (Option V)) : Prop where
  len : as.length = xs.length
  ok : ∀ (i : Nat) (a : A), as[i]? = some a → ∃ x, xs[i]? = some x ∧ VOk K G F0 F a x
  nd : ∀ (i j : Nat) (b c : A) (p : Addr), as[i]? = some b → as[j]? = some c → b.isOwn = true → c.isOwn = true → xs[i]? = some (some (.ref p)) → xs[j]? = some (some (.ref p)) → i = j
theorem Sl.nil : Sl K G F0 F [] [] := ⟨rfl, fun i a h => by simp at h, fun i j b c p h => by simp at h⟩
theorem Sl.reindex {as bs : List A} {xs ys : List (Option V)} (S : Sl K G F0 F as xs) (l : bs.length = ys.length) (f : Nat → Nat) (h1 : ∀ i, i < bs.length → bs[i]? = as[f i]?) (h2 : ∀ i, i < bs.length → ys[i]? = xs[f i]?)
    (inj : ∀ i j, i < bs.length → j < bs.length → f i = f j → i = j) : Sl K G F0 F bs ys := by
  refine ⟨l, fun i a h => ?_, fun i j b c p e1 e2 o1 o2 e3 e4 => ?_⟩
  · have hi := (List.getElem?_eq_some_iff.mp h).1
    rw [h1 i hi] at h
    rw [h2 i hi]
    exact S.ok _ _ h
  · have hi := (List.getElem?_eq_some_iff.mp e1).1
    have hj := (List.getElem?_eq_some_iff.mp e2).1
    rw [h1 i hi] at e1
    rw [h1 j hj] at e2
    rw [h2 i hi] at e3
    rw [h2 j hj] at e4
    exact inj i j hi hj (S.nd _ _ _ _ _ e1 e2 o1 o2 e3 e4)
theorem Sl.pop {a : A} {x : Option V} {as : List A} {xs : List (Option V)} (S : Sl K G F0 F (a :: as) (x :: xs)) : Sl K G F0 F as xs :=
  S.reindex (Nat.succ.inj S.len) (· + 1) (fun i _ => (List.getElem?_cons_succ ..).symm) (fun i _ => (List.getElem?_cons_succ ..).symm) fun i j _ _ h => Nat.succ.inj h
theorem Sl.push {a : A} {x : Option V} {as : List A} {xs : List (Option V)} (S : Sl K G F0 F as xs) (h : VOk K G F0 F a x) (n : a.isOwn = true → ∀ p, x = some (V.ref p) → ∀ (j : Nat) (c : A), as[j]? = some c → c.isOwn = true → xs[j]? ≠ some (some (V.ref p))) : Sl K G F0 F (a :: as) (x :: xs) := by
  refine ⟨congrArg (· + 1) S.len, fun i b e => ?_, fun i j b c p e1 e2 o1 o2 e3 e4 => ?_⟩
  · match i, e with
    | 0, e =>
      cases e
      exact ⟨x, rfl, h⟩
    | i + 1, e => exact S.ok i b e
  · match i, j, e1, e2, e3, e4 with
    | 0, 0, _, _, _, _ => rfl
    | 0, j + 1, e1, e2, e3, e4 =>
      cases e1
      cases e3
      exact absurd e4 (n o1 _ rfl _ _ e2 o2)
    | i + 1, 0, e1, e2, e3, e4 =>
      cases e2
      cases e4
      exact absurd e3 (n o2 _ rfl _ _ e1 o1)
    | i + 1, j + 1, e1, e2, e3, e4 => exact congrArg (· + 1) (S.nd i j b c p e1 e2 o1 o2 e3 e4)
theorem VOk.at (h : VOk K G F0 F a x) (o : a.isOwn = true) : ∃ p u, x = some (.ref p) ∧ F p = some u ∧ G p = none ∧ F0 p = none := by
  cases a with
  | un => exact nomatch o
  | raw v => exact nomatch o
  | d y => exact nomatch o
  | own ds =>
    obtain ⟨p, ws, e, e1, e2, e3, e4⟩ := h
    exact ⟨p, _, e, e1, e2, e3⟩
  | sp q =>
    rcases h with ⟨_, p, u, e, e1, e2, e3, _⟩ | h
    · exact ⟨p, u, e, e1, e2, e3⟩
    · cases q with
      | dk _ => exact h.elim
      | dt _ => exact h.elim
      | si _ _ => exact h.elim
      | exc _ _ _ _ => exact nomatch o
      | row _ => exact nomatch o
      | rowL _ => exact nomatch o
theorem VOk.grow {G' F' : Hp} {a : A} {x : Option V} (h : VOk K G F0 F a x) (sg : Same G G') (sf : ∀ p, a.isOwn = true → x = some (V.ref p) → F' p = F p ∧ G' p = none) : VOk K G' F0 F' a x := by
  cases a with
  | un => exact trivial
  | raw v => exact h
  | d y =>
    obtain ⟨v, e, hd⟩ := h
    exact ⟨v, e, dv_same sg _ _ hd⟩
  | own ds =>
    obtain ⟨p, ws, e, e1, e2, e3, e4⟩ := h
    obtain ⟨q1, q2⟩ := sf _ rfl e
    exact ⟨p, ws, e, by rw [q1]; exact e1, q2, e3, dva_same sg _ _ e4⟩
  | sp o =>
    rcases h with ⟨ho, p, u, e, e1, e2, e3, e4⟩ | h
    · obtain ⟨q1, q2⟩ := sf _ ho e
      exact .inl ⟨ho, p, u, e, by rw [q1]; exact e1, q2, e3, e4.same sg⟩
    · exact .inr (h.same sg)
theorem Sl.grow {G' F' : Hp} {as : List A} {xs : List (Option V)} (S : Sl K G F0 F as xs) (sg : Same G G') (sf : ∀ p u, F p = some u → G p = none → F0 p = none → F' p = F p ∧ G' p = none) : Sl K G' F0 F' as xs := by
  refine ⟨S.len, fun i a e => ?_, S.nd⟩
  obtain ⟨x, hx, ok⟩ := S.ok i a e
  refine ⟨x, hx, ok.grow sg fun p e1 e2 => ?_⟩
  obtain ⟨q, u, e3, e4, e5, e6⟩ := ok.at e1
  rw [e2] at e3
  cases e3
  exact sf p _ e4 e5 e6

structure St (B : Bx) (K : PySem.W.Frag) (G0 F0 : Hp) (as : List A) (xs : List (Option V)) (H : Hp) : Prop where
  ex : ∃ G F, Kn B G0 F0 G F H ∧ Sl K G F0 F as xs
def XR (B : Bx) (K : PySem.W.Frag) (G : Hp) (e : Ex) (c : Value) (dd : Option Addr) : Prop := c = B.cn e.cls ∧ ExAt K G dd e.fs
structure XS (B : Bx) (K : PySem.W.Frag) (G0 F0 : Hp) (as : List A) (xs : List (Option V)) (H : Hp) (e : Ex) (c : Value) (dd : Option Addr) : Prop where
  ex : ∃ G F, Kn B G0 F0 G F H ∧ Sl K G F0 F as xs ∧ XR B K G e c dd

variable {as bs θ ρ : List A} {xs ys τ σ : List (Option V)} {a : A} {x : Option V} {v : V} {y : PyData}
theorem St.len (S : St B K G0 F0 as xs H) : as.length = xs.length := by
  obtain ⟨_, _, _, s⟩ := S.ex
  exact s.len
theorem St.pop (S : St B K G0 F0 (a :: as) (x :: xs) H) : St B K G0 F0 as xs H := by
  obtain ⟨G, F, k, s⟩ := S.ex
  exact ⟨G, F, k, s.pop⟩
theorem St.reindex (S : St B K G0 F0 as xs H) (l : bs.length = ys.length) (f : Nat → Nat) (h1 : ∀ i, i < bs.length → bs[i]? = as[f i]?) (h2 : ∀ i, i < bs.length → ys[i]? = xs[f i]?)
    (inj : ∀ i j, i < bs.length → j < bs.length → f i = f j → i = j) : St B K G0 F0 bs ys H := by
  obtain ⟨G, F, k, s⟩ := S.ex
  exact ⟨G, F, k, s.reindex l f h1 h2 inj⟩
theorem St.more {H1 : Hp} (S : St B K G0 F0 as xs H) (s : Same H H1) : St B K G0 F0 as xs H1 := by
  obtain ⟨G, F, k, s1⟩ := S.ex
  exact ⟨G, F, k.more s, s1⟩
theorem St.push (S : St B K G0 F0 as xs H) (h : ∀ G, Dv K G v y) : St B K G0 F0 (.d y :: as) (some v :: xs) H := by
  obtain ⟨G, F, k, s⟩ := S.ex
  exact ⟨G, F, k, s.push ⟨v, rfl, h G⟩ fun z => nomatch z⟩
theorem St.data (S : St B K G0 F0 as xs H) (h : ∀ G F, Same G F → Same F H → Sl K G F0 F as xs → Dv K G v y) : St B K G0 F0 (.d y :: as) (some v :: xs) H := by
  obtain ⟨G, F, k, s⟩ := S.ex
  exact ⟨G, F, k, s.push ⟨v, rfl, h G F k.s k.sub s⟩ fun z => nomatch z⟩
theorem St.get (S : St B K G0 F0 (.d y :: as) (some v :: xs) H) : Dv K H v y := by
  obtain ⟨G, F, k, s⟩ := S.ex
  obtain ⟨x, e, v', e2, h⟩ := s.ok 0 _ rfl
  cases e
  cases e2
  exact dv_same k.gh _ _ h
theorem St.getRaw {u : V} (S : St B K G0 F0 (.raw u :: as) (x :: xs) H) : x = some u := by
  obtain ⟨G, F, k, s⟩ := S.ex
  obtain ⟨x, e, h⟩ := s.ok 0 _ rfl
  cases e
  exact h
theorem St.newD {p : Addr} {o : HO} (S : St B K G0 F0 as xs H) (np : H p = none) (h : ∀ G F, Same G F → Same F H → Sl K G F0 F as xs → ∀ G', Same G G' → G' p = some o → Dv K G' (.ref p) y) (ni : NoIns o := by exact True.intro) : St B K G0 F0 (.d y :: as) (some (.ref p) :: xs) (upd H p o) := by
  obtain ⟨G, F, k, s⟩ := S.ex
  have nF := k.sub.free np
  have nG := k.s.free nF
  have sg : Same G (upd G p o) := same_new nG
  refine ⟨_, _, k.newG np o ni, Sl.push (s.grow sg fun q u e1 e2 e3 => ?_) ⟨_, rfl, h G F k.s k.sub s _ sg upd_same⟩ fun z => nomatch z⟩
  have hq := ne_of_none e1 nF
  exact ⟨upd_ne hq, by rw [upd_ne hq]; exact e2⟩
theorem St.newL {p : Addr} {ws : List V} {ds : List PyData} (S : St B K G0 F0 as xs H) (np : H p = none) (h : ∀ G F, Same G F → Same F H → Sl K G F0 F as xs → DvAll K G ws ds) : St B K G0 F0 (.own ds :: as) (some (.ref p) :: xs) (upd H p (.lst ws)) := by
  obtain ⟨G, F, k, s⟩ := S.ex
  have nF := k.sub.free np
  have nG := k.s.free nF
  refine ⟨_, _, k.newF np (.lst ws), Sl.push (s.grow (Same.refl _) fun q u e1 e2 e3 => ?_) ⟨p, ws, rfl, upd_same, nG, k.old nF, h G F k.s k.sub s⟩ fun _ q e j c e2 oc e3 => ?_⟩
  · exact ⟨upd_ne (ne_of_none e1 nF), e2⟩
  · cases e
    obtain ⟨x, e4, ok⟩ := s.ok j _ e2
    obtain ⟨q, u, e5, e6, _⟩ := ok.at oc
    rw [e3] at e4
    cases e4
    cases e5
    rw [nF] at e6
    cases e6
theorem St.fix {ds : List PyData} (S : St B K G0 F0 (.own ds :: as) (x :: xs) H) : St B K G0 F0 (.d (.list ds) :: as) (x :: xs) H := by
  obtain ⟨G, F, k, s⟩ := S.ex
  obtain ⟨x', e, p, ws, rfl, e1, e2, e3, e4⟩ := s.ok 0 _ rfl
  cases e
  have sg : Same G (upd G p (.lst ws)) := same_new e2
  refine ⟨_, F, k.fix e1 e3 e2, Sl.push ⟨?_, fun j b hb => ?_, s.pop.nd⟩ ⟨_, rfl, .lst upd_same (dva_same sg _ _ e4)⟩ fun z => nomatch z⟩
  · exact s.pop.len
  · obtain ⟨x, hx, ok⟩ := s.pop.ok j b hb
    refine ⟨x, hx, ok.grow sg fun q z1 z2 => ⟨rfl, ?_⟩⟩
    obtain ⟨q', u', z3, _, z4, _⟩ := ok.at z1
    rw [z2] at z3
    cases z3
    have hq : q ≠ p := by
      rintro rfl
      have := s.nd 0 (j + 1) _ _ q rfl hb rfl z1 rfl (by rw [List.getElem?_cons_succ, hx, z2])
      omega
    rw [upd_ne hq]
    exact z4
theorem St.alter {ds es : List PyData} (S : St B K G0 F0 (.own ds :: as) (x :: xs) H) : ∃ p ws, x = some (.ref p) ∧ H p = some (.lst ws) ∧ ws.length = ds.length ∧ (∃ G, DvAll K G ws ds ∧ Same G H ∧ G p = none) ∧
    ∀ us, (∀ G F, Same G F → Same F H → Sl K G F0 F (.own ds :: as) (x :: xs) → DvAll K G ws ds → DvAll K G us es) → St B K G0 F0 (.own es :: as) (x :: xs) (upd H p (.lst us)) := by
  obtain ⟨G, F, k, s⟩ := S.ex
  obtain ⟨x', e, p, ws, rfl, e1, e2, e3, e4⟩ := s.ok 0 _ rfl
  cases e
  refine ⟨p, ws, rfl, k.sub _ _ e1, dva_len e4, ⟨G, e4, k.gh, e2⟩, fun us hus => ⟨G, _, k.putF e1 e2 e3 True.intro (.lst us), Sl.push ⟨s.pop.len, fun j b hb => ?_, s.pop.nd⟩ ⟨p, us, rfl, upd_same, e2, e3, hus G F k.s k.sub s e4⟩ fun _ q hq j c hj oc hx => ?_⟩⟩
  · obtain ⟨x, hx, ok⟩ := s.pop.ok j b hb
    refine ⟨x, hx, ok.grow (Same.refl _) fun q z1 z2 => ?_⟩
    obtain ⟨q', u', z3, _, z4, _⟩ := ok.at z1
    rw [z2] at z3
    cases z3
    refine ⟨upd_ne ?_, z4⟩
    rintro rfl
    have := s.nd 0 (j + 1) _ _ q rfl hb rfl z1 rfl (by rw [List.getElem?_cons_succ, hx, z2])
    omega
  · cases hq
    have := s.nd 0 (j + 1) _ _ p rfl (by rw [List.getElem?_cons_succ]; exact hj) rfl oc rfl (by rw [List.getElem?_cons_succ]; exact hx)
    omega
theorem St.newS {p : Addr} {u : HO} {o : Spk} (ho : o.own = true) (S : St B K G0 F0 as xs H) (np : H p = none) (h : ∀ G F, Same G F → Same F H → Sl K G F0 F as xs → SpAt K G p u o) (ni : NoIns u := by exact True.intro) (mu : Mut (some u) := by exact True.intro) : St B K G0 F0 (.sp o :: as) (some (.ref p) :: xs) (upd H p u) := by
  obtain ⟨G, F, k, s⟩ := S.ex
  have nF := k.sub.free np
  have nG := k.s.free nF
  refine ⟨G, _, k.newF np u ni mu, Sl.push (s.grow (Same.refl _) fun q u e1 e2 e3 => ?_) (.inl ⟨ho, p, u, rfl, upd_same, nG, k.old nF, h G F k.s k.sub s⟩) fun _ q e j c e2 oc e3 => ?_⟩
  · exact ⟨upd_ne (ne_of_none e1 nF), e2⟩
  · cases e
    obtain ⟨x, e4, ok⟩ := s.ok j _ e2
    obtain ⟨q, u, e5, e6, _⟩ := ok.at oc
    rw [e3] at e4
    cases e4
    cases e5
    rw [nF] at e6
    cases e6
theorem St.alterS {o o' : Spk} (ho : o.own = true) (ho' : o'.own = true) (S : St B K G0 F0 (.sp o :: as) (x :: xs) H) : ∃ p u, x = some (.ref p) ∧ H p = some u ∧ (∃ G, SpAt K G p u o ∧ Same G H ∧ G p = none) ∧
    ∀ u', (∀ G F, Same G F → Same F H → Sl K G F0 F (.sp o :: as) (x :: xs) → SpAt K G p u o → SpAt K G p u' o') → St B K G0 F0 (.sp o' :: as) (x :: xs) (upd H p u') := by
  obtain ⟨G, F, k, s⟩ := S.ex
  obtain ⟨x', e, h⟩ := s.ok 0 _ rfl
  cases e
  have h : o.own = true ∧ ∃ a u, x = some (.ref a) ∧ F a = some u ∧ G a = none ∧ F0 a = none ∧ SpAt K G a u o := by
    rcases h with h | h
    · exact h
    · cases o with
      | dk _ => exact h.elim
      | dt _ => exact h.elim
      | si _ _ => exact h.elim
      | exc _ _ _ _ => exact nomatch ho
      | row _ => exact nomatch ho
      | rowL _ => exact nomatch ho
  obtain ⟨_, p, u, rfl, e1, e2, e3, e4⟩ := h
  refine ⟨p, u, rfl, k.sub _ _ e1, ⟨G, e4, k.gh, e2⟩, fun u' hu' => ⟨G, _, k.putF e1 e2 e3 e4.mut u' (hu' G F k.s k.sub s e4).noIns (hu' G F k.s k.sub s e4).mut, Sl.push ⟨s.pop.len, fun j b hb => ?_, s.pop.nd⟩ (.inl ⟨ho', p, u', rfl, upd_same, e2, e3, hu' G F k.s k.sub s e4⟩) fun _ q hq j c hj oc hx => ?_⟩⟩
  · obtain ⟨x, hx, ok⟩ := s.pop.ok j b hb
    refine ⟨x, hx, ok.grow (Same.refl _) fun q z1 z2 => ?_⟩
    obtain ⟨q', u', z3, _, z4, _⟩ := ok.at z1
    rw [z2] at z3
    cases z3
    refine ⟨upd_ne ?_, z4⟩
    rintro rfl
    have := s.nd 0 (j + 1) _ _ q rfl hb ho z1 rfl (by rw [List.getElem?_cons_succ, hx, z2])
    omega
  · cases hq
    have := s.nd 0 (j + 1) _ _ p rfl (by rw [List.getElem?_cons_succ]; exact hj) ho oc rfl (by rw [List.getElem?_cons_succ]; exact hx)
    omega
end
end Lf
namespace Lf
open PySem PySem.Spec PyProof.Rows L2 Sx

abbrev Po := A → List A → Prop
abbrev Zo := Ex → List A → Prop
abbrev AEx := List A → Po → Zo → Prop
abbrev ATx := List A → (Bool → List A → Prop) → Zo → Prop
abbrev AAx := List A → (List A → List A → Prop) → Zo → Prop
abbrev AOx := List A → (Option Int → List A → Prop) → Zo → Prop
abbrev AIx := List A → (List PyData → List A → Prop) → Zo → Prop
abbrev AGx := A → List A → (List A → Prop) → Zo → Prop
structure AE where
  rt : A → Prop
  bk : List A → Prop
  ct : List A → Prop
  ex : Zo
abbrev ASx := AE → (List A → Prop) → List A → Prop
abbrev Wx := Value → Option Addr → L2.St → Hp → Prop
def A.on : A → (PyData → Prop) → Prop
  | .d x, k => k x
  | .own ds, k => k (.list ds)
  | _, _ => False
def A.fz : A → A
  | .own ds => .d (.list ds)
  | .sp o => if o.own = true then .un else .sp o
  | a => a

def A.isL : A → Bool
  | .own _ => true
  | _ => false

section
variable (B : Bx) (K : PySem.W.Frag) (W : Wx) (G0 F0 : Hp)
def WOk (θ : List A) (τ : List (Option V)) (Z : Zo) : Prop := ∀ e ρ' σ' H' c dd, Z e ρ' → XS B K G0 F0 (θ ++ ρ') (τ ++ σ') H' e c dd → W c dd σ' H'
def LE (t : TE) (f : AEx) : Prop := ∀ (G0 F0 : Hp) (θ : List A) (τ : List (Option V)) (ρ : List A) (σ : L2.St) (H : Hp) (R : Po) (Z : Zo) (Q : VK), θ.length = τ.length → St B K G0 F0 (θ ++ ρ) (τ ++ σ) H → f ρ R Z →
  (∀ v H' a ρ', R a ρ' → St B K G0 F0 (a :: (θ ++ ρ')) (some v :: (τ ++ σ)) H' → Q v H') → WOk B K W G0 F0 θ τ Z → t σ H Q
def LT (t : TT) (f : ATx) : Prop := ∀ (G0 F0 : Hp) (θ : List A) (τ : List (Option V)) (ρ : List A) (σ : L2.St) (H : Hp) (R : Bool → List A → Prop) (Z : Zo) (Q : Bool → Hp → Prop), θ.length = τ.length → St B K G0 F0 (θ ++ ρ) (τ ++ σ) H → f ρ R Z →
  (∀ b H' ρ', R b ρ' → St B K G0 F0 (θ ++ ρ') (τ ++ σ) H' → Q b H') → WOk B K W G0 F0 θ τ Z → t σ H Q
def LO (t : TO) (f : AOx) : Prop := ∀ (G0 F0 : Hp) (θ : List A) (τ : List (Option V)) (ρ : List A) (σ : L2.St) (H : Hp) (R : Option Int → List A → Prop) (Z : Zo) (Q : Option Int → Hp → Prop), θ.length = τ.length → St B K G0 F0 (θ ++ ρ) (τ ++ σ) H → f ρ R Z →
  (∀ o H' ρ', R o ρ' → St B K G0 F0 (θ ++ ρ') (τ ++ σ) H' → Q o H') → WOk B K W G0 F0 θ τ Z → t σ H Q
def LG (t : TG) (f : AGx) : Prop := ∀ (G0 F0 : Hp) (θ : List A) (τ : List (Option V)) (ρ : List A) (σ : L2.St) (H : Hp) (a : A) (v : V) (R : List A → Prop) (Z : Zo) (Q : L2.St → Hp → Prop), θ.length = τ.length → St B K G0 F0 (a :: (θ ++ ρ)) (some v :: (τ ++ σ)) H → f a ρ R Z →
  (∀ ρ' σ' H', R ρ' → St B K G0 F0 (θ ++ ρ') (τ ++ σ') H' → Q σ' H') → WOk B K W G0 F0 θ τ Z → t v σ H Q
def LGs (t : TGs) (f : List A → List A → (List A → Prop) → Zo → Prop) : Prop := ∀ (G0 F0 : Hp) (θ : List A) (τ : List (Option V)) (ρ : List A) (σ : L2.St) (H : Hp) (as : List A) (vs : List V) (R : List A → Prop) (Z : Zo) (Q : L2.St → Hp → Prop), θ.length = τ.length → as.length = vs.length → St B K G0 F0 (as ++ (θ ++ ρ)) (vs.map some ++ (τ ++ σ)) H → f as ρ R Z →
  (∀ ρ' σ' H', R ρ' → St B K G0 F0 (θ ++ ρ') (τ ++ σ') H' → Q σ' H') → WOk B K W G0 F0 θ τ Z → t vs σ H Q
structure EOk (θ : List A) (τ : List (Option V)) (E : AE) (N : List A → Prop) (D : Ends) : Prop where
  nx : ∀ ρ' σ' H', N ρ' → St B K G0 F0 (θ ++ ρ') (τ ++ σ') H' → D.nx σ' H'
  rt : ∀ v a H', E.rt a → St B K G0 F0 (a :: θ) (some v :: τ) H' → D.rt v H'
  bk : ∀ ρ' σ' H', E.bk ρ' → St B K G0 F0 (θ ++ ρ') (τ ++ σ') H' → D.bk σ' H'
  ct : ∀ ρ' σ' H', E.ct ρ' → St B K G0 F0 (θ ++ ρ') (τ ++ σ') H' → D.ct σ' H'
  ex : WOk B K W G0 F0 θ τ E.ex
def LS (t : TS) (f : ASx) : Prop := ∀ (G0 F0 : Hp) (θ : List A) (τ : List (Option V)) (ρ : List A) (σ : L2.St) (H : Hp) (E : AE) (N : List A → Prop) (D : Ends), θ.length = τ.length → St B K G0 F0 (θ ++ ρ) (τ ++ σ) H → f E N ρ → EOk B K W G0 F0 θ τ E N D → t D σ H
def ItOk (θ1 : List A) (τ1 : List (Option V)) (J : It) (ds : List PyData) : Prop := ∀ as xs H i, St B K G0 F0 (θ1 ++ as) (τ1 ++ xs) H →
  (i < ds.length → J.go i H ∧ ∀ x H', J.yld i H x H' → St B K G0 F0 (.d (ds.getD i .none) :: (θ1 ++ as)) (some x :: (τ1 ++ xs)) H') ∧ (ds.length ≤ i → J.stop i H)
def LI (t : TI) (f : AIx) : Prop := ∀ (G0 F0 : Hp) (θ : List A) (τ : List (Option V)) (ρ : List A) (σ : L2.St) (H : Hp) (R : List PyData → List A → Prop) (Z : Zo) (Q : It → Hp → Prop), θ.length = τ.length → St B K G0 F0 (θ ++ ρ) (τ ++ σ) H → f ρ R Z →
  (∀ J H' θ1 τ1 ds ρ', R ds ρ' → θ1.length = τ1.length → St B K G0 F0 (θ1 ++ (θ ++ ρ')) (τ1 ++ (τ ++ σ)) H' → ItOk B K G0 F0 θ1 τ1 J ds → Q J H') → WOk B K W G0 F0 θ τ Z → t σ H Q
end

section
variable {B : Bx} {K : PySem.W.Frag} {W : Wx} {G0 F0 H : Hp} {θ ρ as bs : List A} {τ xs ys : List (Option V)} {σ : L2.St} {a b : A} {x : Option V} {v w : V}
theorem XS.pop {e : Ex} {c : Value} {dd : Option Addr} (S : XS B K G0 F0 (a :: as) (x :: xs) H e c dd) : XS B K G0 F0 as xs H e c dd := by
  obtain ⟨G, F, k, s, r⟩ := S.ex
  exact ⟨G, F, k, s.pop, r⟩
theorem WOk.push {Z : Zo} (h : WOk B K W G0 F0 θ τ Z) : WOk B K W G0 F0 (a :: θ) (x :: τ) Z := fun e ρ' σ' H' c dd z s => h e ρ' σ' H' c dd z s.pop
theorem St.pops {θ : List A} {τ : List (Option V)} (hl : θ.length = τ.length) (S : St B K G0 F0 (θ ++ as) (τ ++ xs) H) : St B K G0 F0 as xs H := by
  induction θ generalizing τ with
  | nil =>
    cases τ with
    | nil => exact S
    | cons _ _ => exact nomatch hl
  | cons a θ ih =>
    cases τ with
    | nil => exact nomatch hl
    | cons x τ => exact ih (Nat.succ.inj hl) S.pop
theorem XS.pops {e : Ex} {c : Value} {dd : Option Addr} {θ : List A} {τ : List (Option V)} (hl : θ.length = τ.length) (S : XS B K G0 F0 (θ ++ as) (τ ++ xs) H e c dd) : XS B K G0 F0 as xs H e c dd := by
  induction θ generalizing τ with
  | nil =>
    cases τ with
    | nil => exact S
    | cons _ _ => exact nomatch hl
  | cons a θ ih =>
    cases τ with
    | nil => exact nomatch hl
    | cons x τ => exact ih (Nat.succ.inj hl) S.pop
theorem WOk.pushes {Z : Zo} {θ1 : List A} {τ1 : List (Option V)} (hl : θ1.length = τ1.length) (h : WOk B K W G0 F0 θ τ Z) : WOk B K W G0 F0 (θ1 ++ θ) (τ1 ++ τ) Z := fun e ρ' σ' H' c dd z s => h e ρ' σ' H' c dd z (by
  rw [List.append_assoc, List.append_assoc] at s
  exact s.pops hl)
theorem app_at {α : Type} {l m : List α} {i : Nat} : (l ++ m)[l.length + i]? = m[i]? := by
  rw [List.getElem?_append_right (Nat.le_add_right _ _), Nat.add_sub_cancel_left]
theorem Sl.set {G F : Hp} {i : Nat} (hl : θ.length = τ.length) (S : Sl K G F0 F (a :: (θ ++ ρ)) (x :: (τ ++ σ))) : Sl K G F0 F (θ ++ ρ.set i a) (τ ++ σ.set i x) := by
  have l0 := S.len
  have l1 : ρ.length = σ.length := by simp at l0; omega
  refine S.reindex (by simp; omega) (fun j => if j = θ.length + i then 0 else j + 1) (fun j hj => ?_) (fun j hj => ?_) fun j k hj hk h => ?_
  · rw [List.length_append, List.length_set] at hj
    by_cases e : j = θ.length + i
    · subst e
      rw [if_pos rfl, app_at, List.getElem?_set_self (by omega)] <;> rfl
    · rw [if_neg e, List.getElem?_cons_succ]
      by_cases z : j < θ.length
      · rw [List.getElem?_append_left z, List.getElem?_append_left z]
      · rw [List.getElem?_append_right (by omega), List.getElem?_append_right (by omega), List.getElem?_set_ne (by omega)]
  · rw [List.length_append, List.length_set] at hj
    by_cases e : j = θ.length + i
    · subst e
      rw [if_pos rfl, hl, app_at, List.getElem?_set_self (by omega)] <;> rfl
    · rw [if_neg e, List.getElem?_cons_succ]
      by_cases z : j < τ.length
      · rw [List.getElem?_append_left z, List.getElem?_append_left z]
      · rw [List.getElem?_append_right (by omega), List.getElem?_append_right (by omega), List.getElem?_set_ne (by omega)]
  · split at h <;> split at h <;> omega
theorem St.set {i : Nat} (hl : θ.length = τ.length) (S : St B K G0 F0 (a :: (θ ++ ρ)) (x :: (τ ++ σ)) H) : St B K G0 F0 (θ ++ ρ.set i a) (τ ++ σ.set i x) H := by
  obtain ⟨G, F, k, s⟩ := S.ex
  exact ⟨G, F, k, s.set hl⟩
theorem St.dup {i : Nat} (hl : θ.length = τ.length) (S : St B K G0 F0 (θ ++ ρ) (τ ++ σ) H) (e : ρ[i]? = some a) (ha : a.isOwn = false) : ∃ x, σ[i]? = some x ∧ St B K G0 F0 (a :: (θ ++ ρ)) (x :: (τ ++ σ)) H := by
  obtain ⟨G, F, k, s⟩ := S.ex
  obtain ⟨x, hx, ok⟩ := s.ok (θ.length + i) a (by rw [app_at]; exact e)
  rw [hl, app_at] at hx
  exact ⟨x, hx, G, F, k, s.push ok fun z => by rw [ha] at z; exact nomatch z⟩
theorem Sl.takeA {G F : Hp} {i : Nat} {a : A} (own : a.isOwn = true) (hl : θ.length = τ.length) (s : Sl K G F0 F (θ ++ ρ) (τ ++ σ)) (e : ρ[i]? = some a) : ∃ x, σ[i]? = some x ∧ Sl K G F0 F (a :: (θ ++ ρ.set i .un)) (x :: (τ ++ σ)) := by
  have l0 := s.len
  have l1 : ρ.length = σ.length := by simp at l0; omega
  have hi : i < ρ.length := (List.getElem?_eq_some_iff.mp e).1
  obtain ⟨x, hx⟩ : ∃ x, σ[i]? = some x := ⟨_, List.getElem?_eq_getElem (by omega)⟩
  refine ⟨x, hx, ?_⟩
  obtain ⟨x', hx', ok⟩ := s.ok (θ.length + i) _ (by rw [app_at]; exact e)
  rw [hl, app_at, hx] at hx'
  cases hx'
  have s' : Sl K G F0 F (θ ++ ρ.set i .un) (τ ++ σ) := by
    refine ⟨by rw [List.length_append, List.length_append, List.length_set]; omega, fun j b hb => ?_, fun j k es fs p e1 e2 o1 o2 e3 e4 => ?_⟩
    · by_cases z : j < θ.length
      · rw [List.getElem?_append_left z] at hb
        exact s.ok j b (by rw [List.getElem?_append_left z]; exact hb)
      · rw [List.getElem?_append_right (by omega)] at hb
        by_cases z2 : j - θ.length = i
        · rw [z2, List.getElem?_set_self (by omega)] at hb
          cases hb
          refine ⟨x, ?_, trivial⟩
          rw [List.getElem?_append_right (by omega), ← hl, z2]
          exact hx
        · rw [List.getElem?_set_ne (by omega)] at hb
          exact s.ok j b (by rw [List.getElem?_append_right (by omega)]; exact hb)
    · have at' : ∀ (j : Nat) (es : A), (θ ++ ρ.set i A.un)[j]? = some es → es.isOwn = true → (θ ++ ρ)[j]? = some es := by
        intro j es h ho
        by_cases z : j < θ.length
        · rw [List.getElem?_append_left z] at h ⊢
          exact h
        · rw [List.getElem?_append_right (by omega)] at h ⊢
          by_cases z2 : j - θ.length = i
          · rw [z2, List.getElem?_set_self (by omega)] at h
            cases h
            exact nomatch ho
          · rw [List.getElem?_set_ne (by omega)] at h
            exact h
      exact s.nd j k es fs p (at' j es e1 o1) (at' k fs e2 o2) o1 o2 e3 e4
  refine s'.push ok fun z p hp j fs hj oc hxj => ?_
  subst hp
  have hj' : (θ ++ ρ)[j]? = some fs ∧ j ≠ θ.length + i := by
    by_cases z : j < θ.length
    · rw [List.getElem?_append_left z] at hj ⊢
      exact ⟨hj, by omega⟩
    · rw [List.getElem?_append_right (by omega)] at hj ⊢
      by_cases z2 : j - θ.length = i
      · rw [z2, List.getElem?_set_self (by omega)] at hj
        cases hj
        exact nomatch oc
      · rw [List.getElem?_set_ne (by omega)] at hj
        exact ⟨hj, by omega⟩
  exact hj'.2 (s.nd j (θ.length + i) _ _ p hj'.1 (by rw [app_at]; exact e) oc own hxj (by rw [hl, app_at]; exact hx))
theorem St.takeA {i : Nat} {a : A} (own : a.isOwn = true) (hl : θ.length = τ.length) (S : St B K G0 F0 (θ ++ ρ) (τ ++ σ) H) (e : ρ[i]? = some a) : ∃ x, σ[i]? = some x ∧ St B K G0 F0 (a :: (θ ++ ρ.set i .un)) (x :: (τ ++ σ)) H := by
  obtain ⟨G, F, k, s⟩ := S.ex
  obtain ⟨x, hx, s'⟩ := s.takeA own hl e
  exact ⟨x, hx, G, F, k, s'⟩
theorem St.takeOwn {i : Nat} {ds : List PyData} (hl : θ.length = τ.length) (S : St B K G0 F0 (θ ++ ρ) (τ ++ σ) H) (e : ρ[i]? = some (.own ds)) : ∃ x, σ[i]? = some x ∧ St B K G0 F0 (A.own ds :: (θ ++ ρ.set i .un)) (x :: (τ ++ σ)) H := S.takeA rfl hl e
theorem St.dupOwn {i : Nat} {ds : List PyData} (hl : θ.length = τ.length) (S : St B K G0 F0 (θ ++ ρ) (τ ++ σ) H) (e : ρ[i]? = some (.own ds)) : ∃ x, σ[i]? = some x ∧ St B K G0 F0 (.d (.list ds) :: (θ ++ ρ.set i (.d (.list ds)))) (x :: (τ ++ σ)) H := by
  have l0 := S.len
  have l1 : ρ.length = σ.length := by simp at l0; omega
  have hi : i < ρ.length := (List.getElem?_eq_some_iff.mp e).1
  obtain ⟨x, hx⟩ : ∃ x, σ[i]? = some x := ⟨_, List.getElem?_eq_getElem (by omega)⟩
  obtain ⟨x', hx', S1⟩ := S.takeOwn hl e
  rw [hx] at hx'
  cases hx'
  have S2 := S1.fix
  refine ⟨x, hx, ?_⟩
  -- its old place knows it again
  obtain ⟨G, F, k, s⟩ := S2.ex
  refine ⟨G, F, k, ?_⟩
  obtain ⟨x', e1, ok⟩ := s.ok 0 _ rfl
  cases e1
  have hset : ∀ j, (A.d (.list ds) :: (θ ++ ρ.set i (.d (.list ds))))[j]? = if j = θ.length + i + 1 then some (.d (.list ds)) else (A.d (.list ds) :: (θ ++ ρ.set i .un))[j]? := by
    intro j
    match j with
    | 0 => rw [if_neg (by omega)] <;> rfl
    | j + 1 =>
      rw [List.getElem?_cons_succ, List.getElem?_cons_succ]
      by_cases z : j = θ.length + i
      · subst z
        rw [if_pos rfl, app_at, List.getElem?_set_self (by omega)]
      · rw [if_neg (by omega)]
        by_cases z1 : j < θ.length
        · rw [List.getElem?_append_left z1, List.getElem?_append_left z1]
        · rw [List.getElem?_append_right (by omega), List.getElem?_append_right (by omega), List.getElem?_set_ne (by omega), List.getElem?_set_ne (by omega)]
  refine ⟨by have := s.len; simp at this ⊢; omega, fun j b hb => ?_, fun j k es fs p e1 e2 o1 o2 e3 e4 => ?_⟩
  · rw [hset] at hb
    by_cases z : j = θ.length + i + 1
    · rw [if_pos z] at hb
      cases hb
      refine ⟨x, ?_, ok⟩
      rw [z, List.getElem?_cons_succ, hl, app_at]
      exact hx
    · rw [if_neg z] at hb
      exact s.ok j b hb
  · rw [hset] at e1 e2
    by_cases z : j = θ.length + i + 1
    · rw [if_pos z] at e1
      cases e1
      exact nomatch o1
    · by_cases z2 : k = θ.length + i + 1
      · rw [if_pos z2] at e2
        cases e2
        exact nomatch o2
      · rw [if_neg z] at e1
        rw [if_neg z2] at e2
        exact s.nd j k es fs p e1 e2 o1 o2 e3 e4
theorem St.lose (S : St B K G0 F0 (a :: as) (x :: xs) H) : St B K G0 F0 (.un :: as) (x :: xs) H := by
  obtain ⟨G, F, k, s⟩ := S.ex
  exact ⟨G, F, k, Sl.push s.pop trivial fun z => nomatch z⟩
theorem St.fz (S : St B K G0 F0 (a :: as) (x :: xs) H) : St B K G0 F0 (a.fz :: as) (x :: xs) H := by
  cases a with
  | own ds => exact S.fix
  | un => exact S
  | raw v => exact S
  | d y => exact S
  | sp o =>
    by_cases h : o.own = true
    · rw [show A.fz (.sp o) = .un from if_pos h]
      exact S.lose
    · rw [show A.fz (.sp o) = .sp o from if_neg h]
      exact S
theorem A.on_fz {k : PyData → Prop} (h : a.on k) : ∃ y, a.fz = .d y ∧ k y := by
  cases a with
  | own ds => exact ⟨_, rfl, h⟩
  | un => exact h.elim
  | raw v => exact h.elim
  | d y => exact ⟨_, rfl, h⟩
  | sp _ => exact h.elim
theorem St.on (S : St B K G0 F0 (a :: as) (x :: xs) H) {k : PyData → Prop} (h : a.on k) : ∃ y, k y ∧ St B K G0 F0 (.d y :: as) (x :: xs) H := by
  obtain ⟨y, e, q⟩ := A.on_fz h
  have := S.fz
  rw [e] at this
  exact ⟨y, q, this⟩
theorem St.swap2 {y : Option V} (S : St B K G0 F0 (a :: b :: as) (x :: y :: xs) H) : St B K G0 F0 (b :: a :: as) (y :: x :: xs) H := by
  refine S.reindex (by have := S.len; simpa using this) (fun j => if j = 0 then 1 else if j = 1 then 0 else j) (fun j hj => ?_) (fun j hj => ?_) fun j k hj hk h => ?_
  · match j with
    | 0 => rfl
    | 1 => rfl
    | j + 2 => rfl
  · match j with
    | 0 => rfl
    | 1 => rfl
    | j + 2 => rfl
  · split at h <;> split at h <;> (try split at h) <;> (try split at h) <;> omega
theorem St.front (hl : as.length = xs.length) (S : St B K G0 F0 (as ++ a :: bs) (xs ++ x :: ys) H) : St B K G0 F0 (a :: (as ++ bs)) (x :: (xs ++ ys)) H := by
  induction as generalizing xs with
  | nil =>
    cases xs with
    | nil => exact S
    | cons _ _ => exact nomatch hl
  | cons c as ih =>
    cases xs with
    | nil => exact nomatch hl
    | cons w xs =>
      obtain ⟨G, F, k, s⟩ := S.ex
      have hl' : as.length = xs.length := Nat.succ.inj hl
      suffices h : Sl K G F0 F (c :: a :: (as ++ bs)) (w :: x :: (xs ++ ys)) from St.swap2 ⟨G, F, k, h⟩
      -- by places
      refine s.reindex (by have := s.len; simp at this ⊢; omega) (fun j => if j = 0 then 0 else if j = 1 then as.length + 1 else if j < as.length + 2 then j - 1 else j) (fun j hj => ?_) (fun j hj => ?_) fun j k hj hk h => ?_
      · match j with
        | 0 => rfl
        | 1 =>
          show some a = (as ++ a :: bs)[as.length]?
          rw [List.getElem?_append_right (Nat.le_refl _), Nat.sub_self] <;> rfl
        | j + 2 =>
          try show (c :: a :: (as ++ bs))[j + 2]? = _
          try show (w :: x :: (xs ++ ys))[j + 2]? = _
          rw [if_neg (show ¬ j + 2 = 0 by omega), if_neg (show ¬ j + 2 = 1 by omega)]
          by_cases z : j < as.length
          · rw [if_pos (by omega), List.getElem?_cons_succ, List.getElem?_cons_succ, show j + 2 - 1 = j + 1 from rfl, List.cons_append, List.getElem?_cons_succ, List.getElem?_append_left z, List.getElem?_append_left z]
          · rw [if_neg (by omega), List.getElem?_cons_succ, List.getElem?_cons_succ, List.cons_append, List.getElem?_cons_succ, List.getElem?_append_right (by omega), List.getElem?_append_right (by omega), show j + 1 - as.length = (j - as.length) + 1 by omega, List.getElem?_cons_succ]
      · match j with
        | 0 => rfl
        | 1 =>
          show some x = (xs ++ x :: ys)[as.length]?
          rw [hl', List.getElem?_append_right (Nat.le_refl _), Nat.sub_self] <;> rfl
        | j + 2 =>
          try show (c :: a :: (as ++ bs))[j + 2]? = _
          try show (w :: x :: (xs ++ ys))[j + 2]? = _
          rw [if_neg (show ¬ j + 2 = 0 by omega), if_neg (show ¬ j + 2 = 1 by omega)]
          by_cases z : j < xs.length
          · rw [if_pos (by omega), List.getElem?_cons_succ, List.getElem?_cons_succ, show j + 2 - 1 = j + 1 from rfl, List.cons_append, List.getElem?_cons_succ, List.getElem?_append_left z, List.getElem?_append_left z]
          · rw [if_neg (by omega), List.getElem?_cons_succ, List.getElem?_cons_succ, List.cons_append, List.getElem?_cons_succ, List.getElem?_append_right (by omega), List.getElem?_append_right (by omega), show j + 1 - xs.length = (j - xs.length) + 1 by omega, List.getElem?_cons_succ]
      · split at h <;> split at h <;> (try split at h) <;> (try split at h) <;> (try split at h) <;> (try split at h) <;> omega
end
end Lf
namespace Lf
open PySem PySem.Spec PyProof.Rows L2 Sx

def sl : List A → Nat → A
  | [], _ => .un
  | a :: _, 0 => a
  | _ :: l, n + 1 => sl l n
theorem sl_get : ∀ {l : List A} {i : Nat}, sl l i ≠ .un → l[i]? = some (sl l i)
  | [], _, h => absurd rfl h
  | a :: _, 0, _ => rfl
  | _ :: l, n + 1, h => by
    rw [List.getElem?_cons_succ]
    exact sl_get (l := l) h
def A.bl : A → (Bool → Prop) → Prop
  | .d (.bool b), k => k b
  | _, _ => False
def A.ons : List A → (List PyData → Prop) → Prop
  | [], k => k []
  | a :: as, k => a.on fun d => A.ons as fun ds => k (d :: ds)
def A.look (a : A) (i : Nat) (ρ : List A) (R : Po) : Prop := match a with
  | .d x => R (.d x) ρ
  | .raw v => R (.raw v) ρ
  | .own ds => R (.d (.list ds)) (ρ.set i (.d (.list ds)))
  | .un => False
  | .sp o => if o.own = true then R (.sp o) (ρ.set i .un) else R (.sp o) ρ
def aVar (i : Nat) : AEx := fun ρ R _ => (sl ρ i).look i ρ R
def aC (y : PyData) : AEx := fun ρ R _ => R (.d y) ρ
def aRaw (v : V) : AEx := fun ρ R _ => R (.raw v) ρ
abbrev G1 := PyData → (A → Prop) → Prop
abbrev G2 := PyData → PyData → (A → Prop) → Prop
abbrev GB := List A → (A → Prop) → Prop
abbrev Ct := List A → (A → Prop) → (Ex → Prop) → Prop
def aOp (g : G2) (fa fb : AEx) : AEx := fun ρ R Z => fa ρ (fun x ρ1 => fb ρ1 (fun y ρ2 => x.on fun dx => y.on fun dy => g dx dy fun a => R a ρ2) Z) Z
def aUn (g : G1) (fa : AEx) : AEx := fun ρ R Z => fa ρ (fun x ρ1 => x.on fun dx => g dx fun a => R a ρ1) Z
def aNot (fa : AEx) : AEx := fun ρ R Z => fa ρ (fun x ρ1 => x.bl fun b => R (.d (.bool (!b))) ρ1) Z
def aAnd (fa fb : AEx) : AEx := fun ρ R Z => fa ρ (fun x ρ1 => x.bl fun b => if b = true then fb ρ1 R Z else R (.d (.bool false)) ρ1) Z
def aOr (fa fb : AEx) : AEx := fun ρ R Z => fa ρ (fun x ρ1 => x.bl fun b => if b = true then R (.d (.bool true)) ρ1 else fb ρ1 R Z) Z
def aChain (g g' : G2) (fa fb fc : AEx) : AEx := fun ρ R Z => fa ρ (fun x ρ1 => fb ρ1 (fun y ρ2 => x.on fun dx => y.on fun dy => g dx dy fun a => a.bl fun b => if b = true then fc ρ2 (fun z ρ3 => z.on fun dz => g' dy dz fun a => R a ρ3) Z else R (.d (.bool false)) ρ2) Z) Z
def aTern (ft : ATx) (fa fb : AEx) : AEx := fun ρ R Z => ft ρ (fun b ρ1 => if b = true then fa ρ1 R Z else fb ρ1 R Z) Z
def aNil : AAx := fun ρ R _ => R [] ρ
def aCons (fa : AEx) (fr : AAx) : AAx := fun ρ R Z => fa ρ (fun a ρ1 => fr ρ1 (fun as ρ2 => R (a :: as) ρ2) Z) Z
def aTup (fa : AAx) : AEx := fun ρ R Z => fa ρ (fun as ρ1 => A.ons as fun ds => R (.d (.tuple ds)) ρ1) Z
def aLst (fa : AAx) : AEx := fun ρ R Z => fa ρ (fun as ρ1 => A.ons as fun ds => R (.own ds) ρ1) Z
def aB (fa : AEx) : ATx := fun ρ R Z => fa ρ (fun x ρ1 => x.bl fun b => R b ρ1) Z
def tAndA (fa fb : ATx) : ATx := fun ρ R Z => fa ρ (fun b ρ1 => if b = true then fb ρ1 R Z else R false ρ1) Z
def tOrA (fa fb : ATx) : ATx := fun ρ R Z => fa ρ (fun b ρ1 => if b = true then R true ρ1 else fb ρ1 R Z) Z
def tNotA (fa : ATx) : ATx := fun ρ R Z => fa ρ (fun b ρ1 => R (!b) ρ1) Z
def aCB (g : GB) (fa : AAx) : AEx := fun ρ R Z => fa ρ (fun as ρ1 => g (as.map A.fz) fun a => R a ρ1) Z
def aCall (c : Ct) (fa : AAx) : AEx := fun ρ R Z => fa ρ (fun as ρ1 => c (as.map A.fz) (fun a => R a ρ1) fun e => Z e ρ1) Z
def aCallK (c : Ct) (gA : List A → List A → List A) (fa fk : AAx) : AEx := fun ρ R Z => fa ρ (fun as ρ1 => fk ρ1 (fun zs ρ2 => c (gA (as.map A.fz) (zs.map A.fz)) (fun a => R a ρ2) fun e => Z e ρ2) Z) Z
def aSl (g : PyData → Option Int → Option Int → (A → Prop) → Prop) (fe : AEx) (fl fh : AOx) : AEx := fun ρ R Z => fe ρ (fun x ρ1 => fl ρ1 (fun l ρ2 => fh ρ2 (fun h ρ3 => x.on fun dx => g dx l h fun a => R a ρ3) Z) Z) Z
def aNoP : AOx := fun ρ R _ => R none ρ
def aPart (fe : AEx) : AOx := fun ρ R Z => fe ρ (fun x ρ1 => x.on fun d => match d with
  | .int i => R (some i) ρ1
  | _ => False) Z

def SpL {ι : Type} (K : PySem.W.Frag) (box : ι → Bx → Prop) (c : ι → Ct) : Sp := fun vs H Q E => ∃ (dk : ι) (B : Bx) (G0 F0 : Hp) (as bs : List A) (xs : List (Option V)) (R : A → Prop) (Z : Ex → Prop), box dk B ∧ as.length = vs.length ∧ (∀ a ∈ as, a.isOwn = false) ∧
  St B K G0 F0 (as ++ bs) (vs.map some ++ xs) H ∧ c dk as R Z ∧ (∀ a v H', R a → St B K G0 F0 (a :: bs) (some v :: xs) H' → Q v H') ∧ (∀ e H' cv dd, Z e → XS B K G0 F0 bs xs H' e cv dd → E cv dd H')
def noBox {ι : Type} : ι → Bx → Prop := fun _ _ => True
def aCall0 (c : Ct) (fa : AAx) : AEx := fun ρ R Z => fa ρ (fun as ρ1 => c (as.map A.fz) (fun a => R a ρ1) fun _ => False) Z
def aCallK0 (c : Ct) (gA : List A → List A → List A) (fa fk : AAx) : AEx := fun ρ R Z => fa ρ (fun as ρ1 => fk ρ1 (fun zs ρ2 => c (gA (as.map A.fz) (zs.map A.fz)) (fun a => R a ρ2) fun _ => False) Z) Z

section
variable {B : Bx} {K : PySem.W.Frag} {W : Wx} {G0 F0 H : Hp} {θ ρ as bs : List A} {τ xs ys : List (Option V)} {σ : L2.St} {a b : A} {x : Option V} {v w : V}
variable {ta tb tc : TE} {fa fb fc : AEx}
def OpL (K : PySem.W.Frag) (r : R2) (g : G2) : Prop := ∀ (B : Bx) (G0 F0 : Hp) (as : List A) (xs : List (Option V)) (H : Hp) (v w : V) (x y : PyData) (R : A → Prop) (Q : VK), St B K G0 F0 (.d y :: .d x :: as) (some w :: some v :: xs) H → g x y R →
  (∀ u H' a, R a → St B K G0 F0 (a :: as) (some u :: xs) H' → Q u H') → r v w H Q
def UnL (K : PySem.W.Frag) (r : V → Hp → VK → Prop) (g : G1) : Prop := ∀ (B : Bx) (G0 F0 : Hp) (as : List A) (xs : List (Option V)) (H : Hp) (v : V) (x : PyData) (R : A → Prop) (Q : VK), St B K G0 F0 (.d x :: as) (some v :: xs) H → g x R →
  (∀ u H' a, R a → St B K G0 F0 (a :: as) (some u :: xs) H' → Q u H') → r v H Q
def CbL (K : PySem.W.Frag) (r : List V → Hp → VK → Prop) (g : GB) : Prop := ∀ (B : Bx) (G0 F0 : Hp) (cs as : List A) (vs : List V) (xs : List (Option V)) (H : Hp) (R : A → Prop) (Q : VK), cs.length = vs.length → (∀ a ∈ cs, a.isOwn = false) → St B K G0 F0 (cs ++ as) (vs.map some ++ xs) H → g cs R →
  (∀ u H' a, R a → St B K G0 F0 (a :: as) (some u :: xs) H' → Q u H') → r vs H Q
theorem St.back {as bs : List A} {xs ys : List (Option V)} (hl : as.length = xs.length) (S : St B K G0 F0 (a :: (as ++ bs)) (x :: (xs ++ ys)) H) : St B K G0 F0 (as ++ a :: bs) (xs ++ x :: ys) H := by
  refine S.reindex (by have := S.len; simp at this ⊢; omega) (fun j => if j < as.length then j + 1 else if j = as.length then 0 else j) (fun j hj => ?_) (fun j hj => ?_) fun i j hi hj e => ?_
  · by_cases z : j < as.length
    · rw [if_pos z, List.getElem?_append_left z, List.getElem?_cons_succ, List.getElem?_append_left z]
    · rw [if_neg z, List.getElem?_append_right (by omega)]
      by_cases z2 : j = as.length
      · rw [if_pos z2, z2, Nat.sub_self] <;> rfl
      · rw [if_neg z2]
        obtain ⟨m, rfl⟩ : ∃ m, j = as.length + 1 + m := ⟨j - (as.length + 1), by omega⟩
        rw [show as.length + 1 + m - as.length = m + 1 by omega, List.getElem?_cons_succ, show as.length + 1 + m = (as.length + m) + 1 by omega, List.getElem?_cons_succ, app_at]
  · by_cases z : j < as.length
    · rw [if_pos z, List.getElem?_append_left (by omega), List.getElem?_cons_succ, List.getElem?_append_left (by omega)]
    · rw [if_neg z, List.getElem?_append_right (by omega)]
      by_cases z2 : j = as.length
      · rw [if_pos z2, z2, hl, Nat.sub_self] <;> rfl
      · rw [if_neg z2]
        obtain ⟨m, rfl⟩ : ∃ m, j = xs.length + 1 + m := ⟨j - (as.length + 1), by omega⟩
        rw [show xs.length + 1 + m - xs.length = m + 1 by omega, List.getElem?_cons_succ, show xs.length + 1 + m = (xs.length + m) + 1 by omega, List.getElem?_cons_succ, app_at]
  · split at e <;> split at e <;> (try split at e) <;> (try split at e) <;> omega
theorem St.drop {θ1 : List A} {τ1 : List (Option V)} (hl : θ1.length = τ1.length) (S : St B K G0 F0 (a :: (θ1 ++ as)) (x :: (τ1 ++ xs)) H) : St B K G0 F0 (a :: as) (x :: xs) H := St.pops hl (St.back hl S)
theorem le_var {i : Nat} : LE B K W (tVar i) (aVar i) := by
  intro G0 F0 θ τ ρ σ H R Z Q hl S h q _
  unfold aVar at h
  cases e : sl ρ i with
  | un =>
    rw [e] at h
    exact h.elim
  | d y =>
    have e' := sl_get (l := ρ) (i := i) (by rw [e]; exact fun z => nomatch z)
    rw [e] at h e'
    obtain ⟨x, hx, S'⟩ := S.dup hl e' rfl
    obtain ⟨G, F, k, s⟩ := S'.ex
    obtain ⟨x', e1, v, e2, hd⟩ := s.ok 0 _ rfl
    cases e1
    subst e2
    exact ⟨v, hx, q v H _ _ h S'⟩
  | raw u =>
    have e' := sl_get (l := ρ) (i := i) (by rw [e]; exact fun z => nomatch z)
    rw [e] at h e'
    obtain ⟨x, hx, S'⟩ := S.dup hl e' rfl
    have e2 := S'.getRaw
    subst e2
    exact ⟨u, hx, q u H _ _ h S'⟩
  | own ds =>
    have e' := sl_get (l := ρ) (i := i) (by rw [e]; exact fun z => nomatch z)
    rw [e] at h e'
    obtain ⟨x, hx, S'⟩ := S.dupOwn hl e'
    obtain ⟨G, F, k, s⟩ := S'.ex
    obtain ⟨x', e1, v, e2, hd⟩ := s.ok 0 _ rfl
    cases e1
    subst e2
    exact ⟨v, hx, q v H _ _ h S'⟩
  | sp o =>
    have e' := sl_get (l := ρ) (i := i) (by rw [e]; exact fun z => nomatch z)
    rw [e] at h e'
    by_cases ho : o.own = true
    · obtain ⟨x, hx, S'⟩ := S.takeA (a := .sp o) ho hl e'
      obtain ⟨G, F, k, s⟩ := S'.ex
      obtain ⟨x', e1, ok⟩ := s.ok 0 _ rfl
      cases e1
      obtain ⟨p, u, rfl, _⟩ := ok.at ho
      exact ⟨_, hx, q _ H _ _ ((if_pos ho).mp h) S'⟩
    · obtain ⟨x, hx, S'⟩ := S.dup (a := .sp o) hl e' (by simpa [A.isOwn] using ho)
      obtain ⟨G, F, k, s⟩ := S'.ex
      obtain ⟨x', e1, ok⟩ := s.ok 0 _ rfl
      cases e1
      obtain ⟨v, rfl⟩ : ∃ v, x = some v := by
        rcases ok with ⟨z, _⟩ | ok
        · exact absurd z ho
        · cases o with
          | dk _ => exact ok.elim
          | dt _ => exact ok.elim
          | si _ _ => exact ok.elim
          | exc _ _ _ _ => exact ⟨_, ok.1⟩
          | row _ => exact ⟨_, ok.choose_spec.1⟩
          | rowL _ => exact ⟨_, ok.choose_spec.choose_spec.1⟩
      exact ⟨v, hx, q v H _ _ ((if_neg ho).mp h) S'⟩
theorem le_c {v : V} {y : PyData} (hy : ∀ H, Dv K H v y) : LE B K W (tC v) (aC y) := fun G0 F0 θ τ ρ σ H R Z Q hl S h q _ => q v H _ _ h (S.push hy)
theorem le_op {r : R2} {g : G2} (hg : OpL K r g) (la : LE B K W ta fa) (lb : LE B K W tb fb) : LE B K W (tOp r ta tb) (aOp g fa fb) := by
  intro G0 F0 θ τ ρ σ H R Z Q hl S h q w
  refine la G0 F0 θ τ ρ σ H _ Z _ hl S h (fun v H1 x ρ1 h1 S1 => ?_) w
  refine lb G0 F0 (x :: θ) (some v :: τ) ρ1 σ H1 _ Z _ (congrArg (· + 1) hl) S1 h1 (fun u H2 y ρ2 h2 S2 => ?_) w.push
  obtain ⟨dx, k1, S3⟩ := (S2.swap2).on h2
  obtain ⟨dy, k2, S4⟩ := (S3.swap2).on k1
  exact hg B G0 F0 _ _ H2 v u dx dy _ Q S4 k2 fun u H' a r S5 => q u H' a ρ2 r S5
theorem le_un {r : V → Hp → VK → Prop} {g : G1} (hg : UnL K r g) (la : LE B K W ta fa) : LE B K W (tUn r ta) (aUn g fa) := by
  intro G0 F0 θ τ ρ σ H R Z Q hl S h q w
  refine la G0 F0 θ τ ρ σ H _ Z _ hl S h (fun v H1 x ρ1 h1 S1 => ?_) w
  obtain ⟨dx, k1, S2⟩ := S1.on h1
  exact hg B G0 F0 _ _ H1 v dx _ Q S2 k1 fun u H' a r S5 => q u H' a ρ1 r S5
theorem A.is_bl {k : Bool → Prop} (h : a.bl k) : ∃ b, a = .d (.bool b) ∧ k b := by
  cases a with
  | d y =>
    cases y with
    | bool b => exact ⟨b, rfl, h⟩
    | none => exact h.elim
    | int _ => exact h.elim
    | str _ => exact h.elim
    | list _ => exact h.elim
    | tuple _ => exact h.elim
    | dict _ => exact h.elim
  | un => exact h.elim
  | raw _ => exact h.elim
  | own _ => exact h.elim
  | sp _ => exact h.elim
theorem St.bl (S : St B K G0 F0 (a :: as) (some v :: xs) H) {k : Bool → Prop} (h : a.bl k) : ∃ b, v = .bl b ∧ k b := by
  obtain ⟨b, rfl, q⟩ := A.is_bl h
  have := S.get
  cases this
  exact ⟨b, rfl, q⟩
theorem le_tern {tt : TT} {ft : ATx} (lt : LT B K W tt ft) (la : LE B K W ta fa) (lb : LE B K W tb fb) : LE B K W (tIf tt ta tb) (aTern ft fa fb) := by
  intro G0 F0 θ τ ρ σ H R Z Q hl S h q w
  refine lt G0 F0 θ τ ρ σ H _ Z _ hl S h (fun b H1 ρ1 h1 S1 => ?_) w
  cases b with
  | true => exact la G0 F0 θ τ ρ1 σ H1 _ Z _ hl S1 h1 q w
  | false => exact lb G0 F0 θ τ ρ1 σ H1 _ Z _ hl S1 h1 q w
def LAn (n : Nat) (B : Bx) (K : PySem.W.Frag) (W : Wx) (t : TA) (f : AAx) : Prop := ∀ (G0 F0 : Hp) (θ : List A) (τ : List (Option V)) (ρ : List A) (σ : L2.St) (H : Hp) (R : List A → List A → Prop) (Z : Zo) (Q : List V → Hp → Prop), θ.length = τ.length → St B K G0 F0 (θ ++ ρ) (τ ++ σ) H → f ρ R Z →
  (∀ vs H' as ρ', R as ρ' → as.length = n → vs.length = n → St B K G0 F0 (as ++ (θ ++ ρ')) (vs.map some ++ (τ ++ σ)) H' → Q vs H') → WOk B K W G0 F0 θ τ Z → t σ H Q
theorem la_nil : LAn 0 B K W tNil aNil := fun G0 F0 θ τ ρ σ H R Z Q hl S h q w => q [] H [] ρ h rfl rfl S
theorem la_cons {n : Nat} {tr : TA} {fr : AAx} (la : LE B K W ta fa) (lr : LAn n B K W tr fr) : LAn (n + 1) B K W (tCons ta tr) (aCons fa fr) := by
  intro G0 F0 θ τ ρ σ H R Z Q hl S h q w
  refine la G0 F0 θ τ ρ σ H _ Z _ hl S h (fun v H1 a ρ1 h1 S1 => ?_) w
  refine lr G0 F0 (a :: θ) (some v :: τ) ρ1 σ H1 _ Z _ (congrArg (· + 1) hl) S1 h1 (fun vs H2 as ρ2 h2 l1 l2 S2 => ?_) w.push
  exact q (v :: vs) H2 (a :: as) ρ2 h2 (congrArg (· + 1) l1) (congrArg (· + 1) l2) (St.front (by rw [List.length_map, l1, l2]) S2)
theorem ons_ok {cs : List A} {vs : List V} (l : cs.length = vs.length) (S : St B K G0 F0 (cs ++ as) (vs.map some ++ xs) H) {k : List PyData → Prop} (h : A.ons cs k) : ∃ ds, k ds ∧ ds.length = vs.length ∧ St B K G0 F0 (ds.map A.d ++ as) (vs.map some ++ xs) H := by
  induction cs generalizing vs as xs k with
  | nil =>
    cases vs with
    | nil => exact ⟨[], h, rfl, S⟩
    | cons _ _ => exact nomatch l
  | cons c cs ih =>
    cases vs with
    | nil => exact nomatch l
    | cons v vs =>
      obtain ⟨y, k1, S1⟩ := S.on h
      have hl : cs.length = vs.length := Nat.succ.inj l
      have S2 : St B K G0 F0 (cs ++ (.d y :: as)) (vs.map some ++ (some v :: xs)) H := St.back (by rw [List.length_map]; exact hl) S1
      obtain ⟨ds, k2, l2, S3⟩ := ih hl S2 k1
      refine ⟨y :: ds, k2, congrArg (· + 1) l2, ?_⟩
      exact St.front (by rw [List.length_map, List.length_map, l2]) S3
theorem St.dts {ds : List PyData} {vs : List V} (l : ds.length = vs.length) {G F : Hp} (s : Sl K G F0 F (ds.map A.d ++ as) (vs.map some ++ xs)) : DvAll K G vs ds := by
  induction ds generalizing vs with
  | nil =>
    cases vs with
    | nil => exact .nil
    | cons _ _ => exact nomatch l
  | cons d ds ih =>
    cases vs with
    | nil => exact nomatch l
    | cons v vs =>
      obtain ⟨x, e, v', e2, hd⟩ := s.ok 0 _ rfl
      cases e
      cases e2
      exact .cons hd (ih (Nat.succ.inj l) s.pop)
theorem le_tup {n : Nat} {tr : TA} {fr : AAx} (la : LAn n B K W tr fr) (hn : n ≤ 100000) : LE B K W (tTup tr) (aTup fr) := by
  intro G0 F0 θ τ ρ σ H R Z Q hl S h q w
  refine la G0 F0 θ τ ρ σ H _ Z _ hl S h (fun vs H1 as ρ1 h1 l1 l2 S1 => ?_) w
  refine ⟨Nat.le_trans (Nat.le_trans (Nat.le_of_eq l2) hn) (by decide), fun p np => ?_⟩
  obtain ⟨ds, k, l, S2⟩ := ons_ok (by rw [l1, l2]) S1 h1
  have S3 := S2.newD (p := p) (o := .tup vs) (y := .tuple ds) np fun G F s1 s2 s3 G' sg e => .tup (.of e) (dva_same sg _ _ (St.dts l s3))
  exact q (.ref p) _ _ ρ1 k (S3.drop (by rw [List.length_map, List.length_map, l]))
theorem le_lst {n : Nat} {tr : TA} {fr : AAx} (la : LAn n B K W tr fr) (hn : n ≤ 100000) : LE B K W (tLst tr) (aLst fr) := by
  intro G0 F0 θ τ ρ σ H R Z Q hl S h q w
  refine la G0 F0 θ τ ρ σ H _ Z _ hl S h (fun vs H1 as ρ1 h1 l1 l2 S1 => ?_) w
  refine ⟨Nat.le_trans (Nat.le_trans (Nat.le_of_eq l2) hn) (by decide), fun p np => ?_⟩
  obtain ⟨ds, k, l, S2⟩ := ons_ok (by rw [l1, l2]) S1 h1
  have S3 := S2.newL (p := p) (ws := vs) (ds := ds) np fun G F s1 s2 s3 => St.dts l s3
  exact q (.ref p) _ _ ρ1 k (S3.drop (by rw [List.length_map, List.length_map, l]))
theorem fz_not (a : A) : a.fz.isOwn = false := by
  cases a with
  | sp o =>
    cases o <;> rfl
  | _ => rfl
theorem fz_all {cs : List A} {vs : List V} (l : cs.length = vs.length) (S : St B K G0 F0 (cs ++ as) (vs.map some ++ xs) H) : St B K G0 F0 (cs.map A.fz ++ as) (vs.map some ++ xs) H := by
  induction cs generalizing vs as xs with
  | nil =>
    cases vs with
    | nil => exact S
    | cons _ _ => exact nomatch l
  | cons c cs ih =>
    cases vs with
    | nil => exact nomatch l
    | cons v vs =>
      have hl : cs.length = vs.length := Nat.succ.inj l
      have S2 : St B K G0 F0 (cs ++ (c.fz :: as)) (vs.map some ++ (some v :: xs)) H := St.back (by rw [List.length_map]; exact hl) (St.fz S)
      exact St.front (by rw [List.length_map, List.length_map, hl]) (ih hl S2)
theorem le_cb {n : Nat} {tr : TA} {fr : AAx} {r : List V → Hp → VK → Prop} {g : GB} (hg : CbL K r g) (la : LAn n B K W tr fr) : LE B K W (tCB r tr) (aCB g fr) := by
  intro G0 F0 θ τ ρ σ H R Z Q hl S h q w
  refine la G0 F0 θ τ ρ σ H _ Z _ hl S h (fun vs H1 as ρ1 h1 l1 l2 S1 => ?_) w
  exact hg B G0 F0 (as.map A.fz) _ vs _ H1 _ Q (by rw [List.length_map, l1, l2]) (fun a ha => by
    obtain ⟨b, _, rfl⟩ := List.mem_map.mp ha
    exact fz_not b) (fz_all (by rw [l1, l2]) S1) h1 fun u H' a r S5 => q u H' a ρ1 r S5
theorem le_call0 {n : Nat} {tr : TA} {fr : AAx} {ι : Type} {box : ι → Bx → Prop} {dk : ι} {c : ι → Ct} {E : XK} (hb : box dk B) (la : LAn n B K W tr fr) : LE B K W (tCall (SpL K box c) [] E tr) (aCall0 (c dk) fr) := by
  intro G0 F0 θ τ ρ σ H R Z Q hl S h q w
  refine la G0 F0 θ τ ρ σ H _ Z _ hl S h (fun vs H1 as ρ1 h1 l1 l2 S1 => ?_) w
  refine ⟨dk, B, G0, F0, as.map A.fz, θ ++ ρ1, τ ++ σ, _, _, hb, by rw [List.length_map, List.append_nil, l1, l2], fun a ha => ?_, ?_, h1, fun a v H' r S5 => q v H' a ρ1 r S5, fun e H' cv dd z xs => z.elim⟩
  · obtain ⟨b, _, rfl⟩ := List.mem_map.mp ha
    exact fz_not b
  · rw [List.append_nil]
    exact fz_all (by rw [l1, l2]) S1
theorem St.pick {cs : List A} {zs : List (Option V)} (S : St B K G0 F0 as xs H) (l : cs.length = zs.length) (h : ∀ i, i < cs.length → ∃ j : Nat, cs[i]? = as[j]? ∧ zs[i]? = xs[j]?) (n : ∀ a ∈ cs, a.isOwn = false) : St B K G0 F0 (cs ++ as) (zs ++ xs) H := by
  obtain ⟨G, F, k, s⟩ := S.ex
  refine ⟨G, F, k, ?_⟩
  induction cs generalizing zs with
  | nil =>
    cases zs with
    | nil => exact s
    | cons _ _ => exact nomatch l
  | cons c cs ih =>
    cases zs with
    | nil => exact nomatch l
    | cons z zs =>
      obtain ⟨j, e1, e2⟩ := h 0 (Nat.zero_lt_succ _)
      obtain ⟨x, hx, ok⟩ := s.ok j c e1.symm
      have hz : some z = xs[j]? := e2
      rw [hx] at hz
      cases hz
      refine Sl.push (ih (Nat.succ.inj l) (fun i hi => h (i + 1) (Nat.succ_lt_succ hi)) fun a ha => n a (List.mem_cons_of_mem _ ha)) ok fun e => ?_
      have := n c List.mem_cons_self
      rw [e] at this
      exact nomatch this
def KwOk (n m : Nat) (gA : List A → List A → List A) (gV : List V → List V → List V) : Prop := ∀ (as zs : List A) (vs ws : List V), as.length = n → vs.length = n → zs.length = m → ws.length = m →
  (gA as zs).length = (gV vs ws).length ∧ (∀ a ∈ gA as zs, a ∈ as ∨ a ∈ zs) ∧ ∀ i, i < (gA as zs).length → ∃ j : Nat, (gA as zs)[i]? = (zs ++ as)[j]? ∧ (gV vs ws)[i]? = (ws ++ vs)[j]?
theorem le_callK0 {n m : Nat} {tr tk : TA} {fr fk : AAx} {ι : Type} {box : ι → Bx → Prop} {dk : ι} {c : ι → Ct} {E : XK} {gA : List A → List A → List A} {gV : List V → List V → List V} (hb : box dk B) (hg : KwOk n m gA gV) (la : LAn n B K W tr fr) (lk : LAn m B K W tk fk) : LE B K W (tCallK (SpL K box c) gV E tr tk) (aCallK0 (c dk) gA fr fk) := by
  intro G0 F0 θ τ ρ σ H R Z Q hl S h q w
  refine la G0 F0 θ τ ρ σ H _ Z _ hl S h (fun vs H1 as ρ1 h1 l1 l2 S1 => ?_) w
  refine lk G0 F0 (as ++ θ) (vs.map some ++ τ) ρ1 σ H1 _ Z _ (by simp; omega) (by rw [List.append_assoc, List.append_assoc]; exact S1) h1 (fun ws H2 zs ρ2 h2 l3 l4 S2 => ?_) (w.pushes (by rw [List.length_map, l1, l2]))
  rw [List.append_assoc, List.append_assoc] at S2
  -- all of them as data
  have S3 : St B K G0 F0 ((zs ++ as).map A.fz ++ (θ ++ ρ2)) ((ws ++ vs).map some ++ (τ ++ σ)) H2 := by
    refine fz_all (by simp; omega) ?_
    rw [List.map_append, List.append_assoc, List.append_assoc]
    exact S2
  rw [List.map_append, List.map_append] at S3
  obtain ⟨k1, k2, k3⟩ := hg (as.map A.fz) (zs.map A.fz) vs ws (by rw [List.length_map, l1]) l2 (by rw [List.length_map, l3]) l4
  have nown : ∀ a ∈ gA (as.map A.fz) (zs.map A.fz), a.isOwn = false := fun a ha => by
    rcases k2 a ha with h | h <;> (obtain ⟨b, _, rfl⟩ := List.mem_map.mp h; exact fz_not b)
  have S4 := S3.pick (cs := gA (as.map A.fz) (zs.map A.fz)) (zs := (gV vs ws).map some) (by rw [List.length_map, k1]) (fun i hi => by
    obtain ⟨j, e1, e2⟩ := k3 i hi
    have hj : j < (zs.map A.fz ++ as.map A.fz).length := by
      rw [List.getElem?_eq_getElem hi] at e1
      exact (List.getElem?_eq_some_iff.mp e1.symm).1
    refine ⟨j, by rw [e1, List.getElem?_append_left hj], ?_⟩
    rw [List.getElem?_append_left (by simp at hj ⊢; omega), List.getElem?_map, e2, ← List.map_append, List.getElem?_map]) nown
  refine ⟨dk, B, G0, F0, gA (as.map A.fz) (zs.map A.fz), θ ++ ρ2, τ ++ σ, _, _, hb, k1, nown, ?_, h2, fun a v H' r S5 => q v H' a ρ2 r S5, fun e H' cv dd z xs => z.elim⟩
  -- the others go
  have l5 : (zs.map A.fz ++ as.map A.fz).length = (ws.map some ++ vs.map some).length := by simp; omega
  generalize gA (as.map A.fz) (zs.map A.fz) = cs at S4 k1
  have key : ∀ (cs : List A) (us : List (Option V)), cs.length = us.length → St B K G0 F0 (cs ++ ((zs.map A.fz ++ as.map A.fz) ++ (θ ++ ρ2))) (us ++ ((ws.map some ++ vs.map some) ++ (τ ++ σ))) H2 → St B K G0 F0 (cs ++ (θ ++ ρ2)) (us ++ (τ ++ σ)) H2 := by
    intro cs
    induction cs with
    | nil =>
      intro us hu S
      cases us with
      | nil => exact S.pops l5
      | cons _ _ => exact nomatch hu
    | cons c cs ih =>
      intro us hu S
      cases us with
      | nil => exact nomatch hu
      | cons u us =>
        have hl' : cs.length = us.length := Nat.succ.inj hu
        refine S.reindex (by simp; have := S.len; simp at this; omega) (fun j => if j < cs.length + 1 then j else j + (zs.map A.fz ++ as.map A.fz).length) (fun j hj => ?_) (fun j hj => ?_) fun i j hi hj e => ?_
        · by_cases z : j < cs.length + 1
          · rw [if_pos z, List.getElem?_append_left z, List.getElem?_append_left z]
          · rw [if_neg z]
            obtain ⟨m, rfl⟩ : ∃ m, j = (c :: cs).length + m := ⟨j - (cs.length + 1), by simp; omega⟩
            rw [app_at, show (c :: cs).length + m + (zs.map A.fz ++ as.map A.fz).length = (c :: cs).length + ((zs.map A.fz ++ as.map A.fz).length + m) by omega, app_at, app_at]
        · by_cases z : j < cs.length + 1
          · rw [if_pos z, List.getElem?_append_left (by simp; omega), List.getElem?_append_left (by simp; omega)]
          · rw [if_neg z]
            obtain ⟨m, rfl⟩ : ∃ m, j = (u :: us).length + m := ⟨j - (cs.length + 1), by simp; omega⟩
            rw [app_at, l5, show (u :: us).length + m + (ws.map some ++ vs.map some).length = (u :: us).length + ((ws.map some ++ vs.map some).length + m) by omega, app_at, app_at]
        · split at e <;> split at e <;> omega
  exact key cs _ (by rw [List.length_map, k1]) S4
end
end Lf
namespace Lf
open PySem PySem.Spec PyProof.Rows L2 Sx

def gN (i : Nat) : AGx := fun a ρ R _ => R (ρ.set i a)
def gNil : List A → List A → (List A → Prop) → Zo → Prop := fun as ρ R _ => match as with
  | [] => R ρ
  | _ => False
def gCons (g : AGx) (gs : List A → List A → (List A → Prop) → Zo → Prop) : List A → List A → (List A → Prop) → Zo → Prop := fun as ρ R Z => match as with
  | [] => False
  | a :: as => g a ρ (fun ρ' => gs as ρ' R Z) Z
def gT (gs : List A → List A → (List A → Prop) → Zo → Prop) : AGx := fun a ρ R Z => match a with
  | .d (.tuple ds) => gs (ds.map A.d) ρ R Z
  | _ => False
def gL (gs : List A → List A → (List A → Prop) → Zo → Prop) : AGx := fun a ρ R Z => match a with
  | .own ds => gs (ds.map A.d) ρ R Z
  | .d (.list ds) => gs (ds.map A.d) ρ R Z
  | _ => False
def aNext : ASx := fun _ N ρ => N ρ
def aSeq (f g : ASx) : ASx := fun E N ρ => f E (fun ρ' => g E N ρ') ρ
def aCut (f g : ASx) : ASx := fun E N ρ => ∃ M : List A → Prop, f E M ρ ∧ ∀ ρ', M ρ' → g E N ρ'
def aBrk : ASx := fun E _ ρ => E.bk ρ
def aCnt : ASx := fun E _ ρ => E.ct ρ
def aDrop (fe : AEx) : ASx := fun E N ρ => fe ρ (fun _ ρ1 => N ρ1) E.ex
def aRet (fe : AEx) : ASx := fun E _ ρ => fe ρ (fun a _ => E.rt a) E.ex
def aRetN : ASx := fun E _ _ => E.rt (.d .none)
def aIfS (ft : ATx) (f g : ASx) : ASx := fun E N ρ => ft ρ (fun b ρ1 => if b = true then f E N ρ1 else g E N ρ1) E.ex
def aAsg (fe : AEx) (g : AGx) : ASx := fun E N ρ => fe ρ (fun a ρ1 => g a ρ1 N E.ex) E.ex
def A.it : A → (Int → Prop) → Prop
  | .d (.int i), k => k i
  | _, _ => False
def aAug (i : Nat) (k : Int → Int → Int) (fe : AEx) : ASx := fun E N ρ => (sl ρ i).it fun m => fe ρ (fun a ρ1 => a.it fun n => N (ρ1.set i (.d (.int (k m n))))) E.ex
def A.two : List A → (A → A → Prop) → Prop
  | [a, b], k => k a b
  | _, _ => False
def A.three : List A → (A → A → A → Prop) → Prop
  | [a, b, c], k => k a b c
  | _, _ => False
def A.one : List A → (A → Prop) → Prop
  | [a], k => k a
  | _, _ => False
def aPar (i j : Nat) (fa : AAx) : ASx := fun E N ρ => fa ρ (fun as ρ1 => A.two as fun a b => N ((ρ1.set i a).set j b)) E.ex
def forRun (ds : List PyData) (g : AGx) (fb : ASx) (E : AE) (N : List A → Prop) (ρ1 : List A) : Prop := ∃ I : Nat → List A → Prop, I 0 ρ1 ∧ (∀ i ρ', i < ds.length → I i ρ' → g (.d (ds.getD i .none)) ρ' (fun ρ2 => fb { rt := E.rt, bk := N, ct := I (i + 1), ex := E.ex } (I (i + 1)) ρ2) E.ex) ∧ ∀ ρ', I ds.length ρ' → N ρ'
def aFor (fi : AIx) (g : AGx) (fb : ASx) : ASx := fun E N ρ => fi ρ (fun ds ρ1 => forRun ds g fb E N ρ1) E.ex
def whileRun (ft : ATx) (fb : ASx) (E : AE) (N : List A → Prop) (ρ : List A) : Prop := ∃ I : Nat → List A → Prop, (∃ m, I m ρ) ∧ ∀ m ρ', I m ρ' → ft ρ' (fun b ρ1 => if b = true then fb { rt := E.rt, bk := N, ct := fun ρ2 => ∃ m', m' < m ∧ I m' ρ2, ex := E.ex } (fun ρ2 => ∃ m', m' < m ∧ I m' ρ2) ρ1 else N ρ1) E.ex
def aWhile (ft : ATx) (fb : ASx) : ASx := fun E N ρ => whileRun ft fb E N ρ
def wipeA (ρ : List A) : List Nat → List A
  | [] => ρ
  | v :: vs => (wipeA ρ vs).set v .un
def aYes : ATx := fun ρ R _ => R true ρ
def compRun (ds : List PyData) (g : AGx) (ft : ATx) (fe : AEx) (vs : List Nat) (ρ1 : List A) (R : Po) : Prop := ∃ I : Nat → List PyData → List A → Prop, I 0 [] ρ1 ∧
  (∀ i acc ρ', i < ds.length → I i acc ρ' → g (.d (ds.getD i .none)) ρ' (fun ρ2 => ft ρ2 (fun b ρ3 => if b = true then fe ρ3 (fun a ρ4 => a.on fun y => acc.length < 4000000 ∧ I (i + 1) (acc ++ [y]) (wipeA ρ4 vs)) (fun _ _ => False) else I (i + 1) acc (wipeA ρ3 vs)) fun _ _ => False) fun _ _ => False) ∧
  ∀ acc ρ', I ds.length acc ρ' → R (.own acc) (wipeA ρ' vs)
def aComp (fi : AIx) (g : AGx) (ft : ATx) (fe : AEx) (vs : List Nat) : AEx := fun ρ R Z => fi ρ (fun ds ρ1 => compRun ds g ft fe vs (wipeA ρ1 vs) R) Z

section
variable {B : Bx} {K : PySem.W.Frag} {W : Wx} {G0 F0 H : Hp} {θ ρ as bs : List A} {τ xs ys : List (Option V)} {σ : L2.St} {a b : A} {x : Option V} {v w : V}
variable {ta tb tc : TE} {fa fb fc : AEx} {tt tu : TT} {ft fu : ATx} {ts us : TS} {fs gs : ASx} {tg : TG} {fg : AGx} {wi : TI} {fi : AIx}
theorem lt_b (la : LE B K W ta fa) : LT B K W (tB ta) (aB fa) := by
  intro G0 F0 θ τ ρ σ H R Z Q hl S h q w
  refine la G0 F0 θ τ ρ σ H _ Z _ hl S h (fun v H1 x ρ1 h1 S1 => ?_) w
  obtain ⟨b, rfl, k⟩ := S1.bl h1
  exact ⟨b, rfl, q b H1 ρ1 k S1.pop⟩
theorem lt_test (la : LE B K W ta fa) : LT B K W (tTest ta) (aB fa) := lt_b la
theorem lt_and (la : LT B K W tt ft) (lb : LT B K W tu fu) : LT B K W (tAnd tt tu) (tAndA ft fu) := by
  intro G0 F0 θ τ ρ σ H R Z Q hl S h q w
  refine la G0 F0 θ τ ρ σ H _ Z _ hl S h (fun b H1 ρ1 h1 S1 => ?_) w
  cases b with
  | true => exact lb G0 F0 θ τ ρ1 σ H1 _ Z _ hl S1 h1 q w
  | false => exact q false H1 ρ1 h1 S1
theorem lt_or (la : LT B K W tt ft) (lb : LT B K W tu fu) : LT B K W (tOr tt tu) (tOrA ft fu) := by
  intro G0 F0 θ τ ρ σ H R Z Q hl S h q w
  refine la G0 F0 θ τ ρ σ H _ Z _ hl S h (fun b H1 ρ1 h1 S1 => ?_) w
  cases b with
  | false => exact lb G0 F0 θ τ ρ1 σ H1 _ Z _ hl S1 h1 q w
  | true => exact q true H1 ρ1 h1 S1
theorem lt_not (la : LT B K W tt ft) : LT B K W (tNot tt) (tNotA ft) := fun G0 F0 θ τ ρ σ H R Z Q hl S h q w => la G0 F0 θ τ ρ σ H _ Z _ hl S h (fun b H1 ρ1 h1 S1 => q _ H1 ρ1 h1 S1) w
theorem lt_yes : LT B K W tYes aYes := fun G0 F0 θ τ ρ σ H R Z Q hl S h q w => q true H ρ h S
theorem lo_no : LO B K W tNoPart aNoP := fun G0 F0 θ τ ρ σ H R Z Q hl S h q w => q none H ρ h S
theorem lo_some (la : LE B K W ta fa) : LO B K W (tPart ta) (aPart fa) := by
  intro G0 F0 θ τ ρ σ H R Z Q hl S h q w
  refine la G0 F0 θ τ ρ σ H _ Z _ hl S h (fun v H1 x ρ1 h1 S1 => ?_) w
  obtain ⟨d, k, S2⟩ := S1.on h1
  cases d with
  | int i =>
    have := S2.get
    cases this
    exact ⟨i, rfl, q _ H1 ρ1 k S2.pop⟩
  | none => exact k.elim
  | bool _ => exact k.elim
  | str _ => exact k.elim
  | list _ => exact k.elim
  | tuple _ => exact k.elim
  | dict _ => exact k.elim
def SlL (K : PySem.W.Frag) (r : V → Option Int → Option Int → Hp → VK → Prop) (g : PyData → Option Int → Option Int → (A → Prop) → Prop) : Prop := ∀ (B : Bx) (G0 F0 : Hp) (as : List A) (xs : List (Option V)) (H : Hp) (v : V) (x : PyData) (lo hi : Option Int) (R : A → Prop) (Q : VK), St B K G0 F0 (.d x :: as) (some v :: xs) H → g x lo hi R →
  (∀ u H' a, R a → St B K G0 F0 (a :: as) (some u :: xs) H' → Q u H') → r v lo hi H Q
theorem le_sl {r : V → Option Int → Option Int → Hp → VK → Prop} {g : PyData → Option Int → Option Int → (A → Prop) → Prop} {tl th : TO} {fl fh : AOx} (hg : SlL K r g) (la : LE B K W ta fa) (l1 : LO B K W tl fl) (l2 : LO B K W th fh) : LE B K W (L2.tSl r ta tl th) (aSl g fa fl fh) := by
  intro G0 F0 θ τ ρ σ H R Z Q hl S h q w
  refine la G0 F0 θ τ ρ σ H _ Z _ hl S h (fun v H1 x ρ1 h1 S1 => ?_) w
  refine l1 G0 F0 (x :: θ) (some v :: τ) ρ1 σ H1 _ Z _ (congrArg (· + 1) hl) S1 h1 (fun l H2 ρ2 h2 S2 => ?_) w.push
  refine l2 G0 F0 (x :: θ) (some v :: τ) ρ2 σ H2 _ Z _ (congrArg (· + 1) hl) S2 h2 (fun u H3 ρ3 h3 S3 => ?_) w.push
  obtain ⟨dx, k1, S4⟩ := S3.on h3
  exact hg B G0 F0 _ _ H3 v dx l u _ Q S4 k1 fun u' H' a r S5 => q u' H' a ρ3 r S5
theorem lg_name {i : Nat} : LG B K W (gName i) (gN i) := fun G0 F0 θ τ ρ σ H a v R Z Q hl S h q w => q _ _ H h (S.set hl)
theorem lgs_nil : LGs B K W L2.gNil gNil := by
  intro G0 F0 θ τ ρ σ H as vs R Z Q hl hl2 S h q w
  cases as with
  | nil =>
    cases vs with
    | nil => exact ⟨rfl, q _ _ H h S⟩
    | cons _ _ => exact nomatch hl2
  | cons _ _ => exact h.elim
theorem lgs_cons {tgs : TGs} {fgs : List A → List A → (List A → Prop) → Zo → Prop} (l1 : LG B K W tg fg) (l2 : LGs B K W tgs fgs) : LGs B K W (L2.gCons tg tgs) (gCons fg fgs) := by
  intro G0 F0 θ τ ρ σ H as vs R Z Q hl hl2 S h q w
  cases as with
  | nil => exact h.elim
  | cons a as =>
    cases vs with
    | nil => exact nomatch hl2
    | cons v vs =>
      have hl3 : as.length = vs.length := Nat.succ.inj hl2
      refine ⟨v, vs, rfl, ?_⟩
      refine l1 G0 F0 (as ++ θ) (vs.map some ++ τ) ρ σ H a v _ Z _ (by simp; omega) (by rw [List.append_assoc, List.append_assoc]; exact S) h (fun ρ' σ' H' h' S' => ?_) (w.pushes (by rw [List.length_map, hl3]))
      rw [List.append_assoc, List.append_assoc] at S'
      exact l2 G0 F0 θ τ ρ' σ' H' as vs R Z Q hl hl3 S' h' q w
theorem Sl.items {G F : Hp} : ∀ {ws : List V} {ds : List PyData}, DvAll K G ws ds → Sl K G F0 F as xs → Sl K G F0 F (ds.map A.d ++ as) (ws.map some ++ xs)
  | _, _, .nil, s => s
  | _, _, .cons r t, s => (Sl.items t s).push ⟨_, rfl, r⟩ fun z => nomatch z
theorem St.items {ds : List PyData} {ws : List V} (S : St B K G0 F0 as xs H) (h : ∀ G F, Same G F → Same F H → Sl K G F0 F as xs → DvAll K G ws ds) : St B K G0 F0 (ds.map A.d ++ as) (ws.map some ++ xs) H := by
  obtain ⟨G, F, k, s⟩ := S.ex
  have hd := h G F k.s k.sub s
  exact ⟨G, F, k, Sl.items hd s⟩
theorem St.seqT {ds : List PyData} (S : St B K G0 F0 (.d (.tuple ds) :: as) (some v :: xs) H) : ∃ p ws, v = .ref p ∧ SqT K H p ws ∧ ws.length = ds.length ∧ St B K G0 F0 (ds.map A.d ++ (.d (.tuple ds) :: as)) (ws.map some ++ (some v :: xs)) H := by
  obtain ⟨G, F, k, s⟩ := S.ex
  obtain ⟨x, e, v', e2, hd⟩ := s.ok 0 _ rfl
  cases e
  cases e2
  obtain ⟨p, ws, rfl, e, ha⟩ := tup_in hd
  refine ⟨p, ws, rfl, Sx.Same.tup k.gh e, dva_len ha, ⟨G, F, k, Sl.items ha s⟩⟩
theorem St.dropEnd {cs : List A} {zs : List (Option V)} (hl : cs.length = zs.length) (S : St B K G0 F0 (cs ++ a :: as) (zs ++ x :: xs) H) : St B K G0 F0 (cs ++ as) (zs ++ xs) H := (St.front hl S).pop
theorem lg_tup {tgs : TGs} {n : Nat} {fgs : List A → List A → (List A → Prop) → Zo → Prop} (l : LGs B K W tgs fgs) (hn : ∀ as ρ R Z, fgs as ρ R Z → as.length = n) : LG B K W (gTup K n tgs) (gT fgs) := by
  intro G0 F0 θ τ ρ σ H a v R Z Q hl S h q w
  cases a with
  | d y =>
    cases y with
    | tuple ds =>
      obtain ⟨p, ws, rfl, e, l1, S1⟩ := S.seqT
      have hlen := hn _ _ _ _ h
      rw [List.length_map] at hlen
      exact ⟨p, ws, rfl, e, by omega, l G0 F0 θ τ ρ σ H (ds.map A.d) ws R Z Q hl (by rw [List.length_map, l1]) (S1.dropEnd (by rw [List.length_map, List.length_map, l1])) h q w⟩
    | none => exact h.elim
    | bool _ => exact h.elim
    | int _ => exact h.elim
    | str _ => exact h.elim
    | list _ => exact h.elim
    | dict _ => exact h.elim
  | un => exact h.elim
  | raw _ => exact h.elim
  | own _ => exact h.elim
  | sp _ => exact h.elim
theorem gN_len : ∀ as ρ R Z, gNil as ρ R Z → as.length = 0 := fun as ρ R Z h => by
  cases as with
  | nil => rfl
  | cons _ _ => exact h.elim
theorem gC_len {n i : Nat} {gs : List A → List A → (List A → Prop) → Zo → Prop} (h : ∀ as ρ R Z, gs as ρ R Z → as.length = n) : ∀ as ρ R Z, gCons (gN i) gs as ρ R Z → as.length = n + 1 := fun as ρ R Z z => by
  cases as with
  | nil => exact z.elim
  | cons a as => exact congrArg (· + 1) (h as _ _ _ z)
theorem ls_next : LS B K W tNext aNext := fun G0 F0 θ τ ρ σ H E N D hl S h e => e.nx ρ σ H h S
theorem ls_seq (l1 : LS B K W ts fs) (l2 : LS B K W us gs) : LS B K W (tSeq ts us) (aSeq fs gs) := fun G0 F0 θ τ ρ σ H E N D hl S h e =>
  l1 G0 F0 θ τ ρ σ H _ _ _ hl S h ⟨fun ρ' σ' H' n S' => l2 G0 F0 θ τ ρ' σ' H' E N D hl S' n e, e.rt, e.bk, e.ct, e.ex⟩
theorem ls_cut (l1 : LS B K W ts fs) (l2 : LS B K W us gs) : LS B K W (tSeq ts us) (aCut fs gs) := fun G0 F0 θ τ ρ σ H E N D hl S ⟨_, h, n⟩ e =>
  l1 G0 F0 θ τ ρ σ H _ _ _ hl S h ⟨fun ρ' σ' H' m S' => l2 G0 F0 θ τ ρ' σ' H' E N D hl S' (n ρ' m) e, e.rt, e.bk, e.ct, e.ex⟩
theorem ls_drop (la : LE B K W ta fa) : LS B K W (tDrop ta) (aDrop fa) := fun G0 F0 θ τ ρ σ H E N D hl S h e =>
  la G0 F0 θ τ ρ σ H _ E.ex _ hl S h (fun v H1 x ρ1 h1 S1 => e.nx ρ1 σ H1 h1 S1.pop) e.ex
theorem St.keepFirst (hl : θ.length = τ.length) (S : St B K G0 F0 (a :: (θ ++ ρ)) (x :: (τ ++ σ)) H) : St B K G0 F0 (a :: θ) (x :: τ) H := by
  refine S.reindex (congrArg (· + 1) hl) id (fun i hi => ?_) (fun i hi => ?_) fun i j _ _ h => h
  · rw [← List.cons_append]
    exact (List.getElem?_append_left hi).symm
  · rw [← List.cons_append]
    exact (List.getElem?_append_left (by simp at hi ⊢; omega)).symm
theorem ls_ret (la : LE B K W ta fa) : LS B K W (tRet ta) (aRet fa) := fun G0 F0 θ τ ρ σ H E N D hl S h e =>
  la G0 F0 θ τ ρ σ H _ E.ex _ hl S h (fun v H1 x ρ1 h1 S1 => e.rt v x H1 h1 (S1.keepFirst hl)) e.ex
theorem ls_if (lt : LT B K W tt ft) (l1 : LS B K W ts fs) (l2 : LS B K W us gs) : LS B K W (tIfS tt ts us) (aIfS ft fs gs) := by
  intro G0 F0 θ τ ρ σ H E N D hl S h e
  refine lt G0 F0 θ τ ρ σ H _ E.ex _ hl S h (fun b H1 ρ1 h1 S1 => ?_) e.ex
  cases b with
  | true => exact l1 G0 F0 θ τ ρ1 σ H1 E N D hl S1 h1 e
  | false => exact l2 G0 F0 θ τ ρ1 σ H1 E N D hl S1 h1 e
theorem ls_asg (la : LE B K W ta fa) (lg : LG B K W tg fg) : LS B K W (tAsg ta tg) (aAsg fa fg) := fun G0 F0 θ τ ρ σ H E N D hl S h e =>
  la G0 F0 θ τ ρ σ H _ E.ex _ hl S h (fun v H1 x ρ1 h1 S1 => lg G0 F0 θ τ ρ1 σ H1 x v N E.ex D.nx hl S1 h1 e.nx e.ex) e.ex
theorem St.at {i : Nat} {y : PyData} (hl : θ.length = τ.length) (S : St B K G0 F0 (θ ++ ρ) (τ ++ σ) H) (e : ρ[i]? = some (.d y)) : ∃ v, σ[i]? = some (some v) ∧ St B K G0 F0 (.d y :: (θ ++ ρ)) (some v :: (τ ++ σ)) H := by
  obtain ⟨x, hx, S'⟩ := S.dup hl e rfl
  obtain ⟨G, F, k, s⟩ := S'.ex
  obtain ⟨x', e1, v, e2, hd⟩ := s.ok 0 _ rfl
  cases e1
  subst e2
  exact ⟨v, hx, S'⟩
theorem A.is_it {k : Int → Prop} (h : a.it k) : ∃ i, a = .d (.int i) ∧ k i := by
  cases a with
  | d y =>
    cases y with
    | int b => exact ⟨b, rfl, h⟩
    | none => exact h.elim
    | bool _ => exact h.elim
    | str _ => exact h.elim
    | list _ => exact h.elim
    | tuple _ => exact h.elim
    | dict _ => exact h.elim
  | un => exact h.elim
  | raw _ => exact h.elim
  | own _ => exact h.elim
  | sp _ => exact h.elim
theorem ls_aug {i : Nat} {k : Int → Int → Int} (la : LE B K W ta fa) : LS B K W (L2.tAug i ta (ipI k)) (aAug i k fa) := by
  intro G0 F0 θ τ ρ σ H E N D hl S h e
  obtain ⟨m, e1, h1⟩ := A.is_it h
  have e2 := sl_get (l := ρ) (i := i) (by rw [e1]; exact fun z => nomatch z)
  rw [e1] at e2
  obtain ⟨v, hv, S1⟩ := S.at hl e2
  have := S1.get
  cases this
  refine ⟨.int m, hv, la G0 F0 θ τ ρ σ H _ E.ex _ hl S h1 (fun v H1 x ρ1 h1 S1 => ?_) e.ex⟩
  obtain ⟨n, rfl, k1⟩ := A.is_it h1
  have := S1.get
  cases this
  exact ⟨m, n, rfl, rfl, e.nx _ _ H1 k1 (St.set hl (S1.pop.push fun _ => .int _))⟩
theorem ls_par {i j : Nat} {tr : TA} {fr : AAx} (la : LAn 2 B K W tr fr) (hij : i ≠ j) : LS B K W (L2.tPar i j tr) (aPar i j fr) := by
  intro G0 F0 θ τ ρ σ H E N D hl S h e
  refine la G0 F0 θ τ ρ σ H _ E.ex _ hl S h (fun vs H1 as ρ1 h1 l1 l2 S1 => ?_) e.ex
  match as, vs, l1, l2, h1, S1 with
  | [a, b], [v, w], _, _, h1, S1 =>
    refine ⟨v, w, rfl, e.nx _ _ H1 h1 ?_⟩
    have S2 : St B K G0 F0 (b :: (θ ++ ρ1.set i a)) (some w :: (τ ++ σ.set i (some v))) H1 := St.set (θ := b :: θ) (τ := some w :: τ) (congrArg (· + 1) hl) S1
    exact S2.set hl
theorem ItOk.step {θ1 : List A} {τ1 : List (Option V)} {J : It} {ds : List PyData} (h : ItOk B K G0 F0 θ1 τ1 J ds) : ItOk B K G0 F0 θ1 τ1 J ds := h
theorem ls_for (li : LI B K W wi fi) (lg : LG B K W tg fg) (lb : LS B K W ts fs) : LS B K W (L2.tFor wi tg ts) (aFor fi fg fs) := by
  intro G0 F0 θ τ ρ σ H E N D hl S h e
  refine li G0 F0 θ τ ρ σ H _ E.ex _ hl S h (fun J H1 θ1 τ1 ds ρ1 h1 hl1 S1 hJ => ?_) e.ex
  obtain ⟨I, i0, step, last⟩ := h1
  have hl2 : (θ1 ++ θ).length = (τ1 ++ τ).length := by simp; omega
  refine ⟨fun i m σ H => i + m = ds.length ∧ ∃ ρ, I i ρ ∧ St B K G0 F0 (θ1 ++ (θ ++ ρ)) (τ1 ++ (τ ++ σ)) H, ⟨ds.length, by omega, ρ1, i0, S1⟩, ?_⟩
  rintro i m σ H ⟨hm, ρ, hi, S⟩
  obtain ⟨j1, j2⟩ := hJ _ _ H i S
  by_cases z : i < ds.length
  · obtain ⟨j3, j4⟩ := j1 z
    refine .inr ⟨j3, fun σ' H' => ∃ ρ', I (i + 1) ρ' ∧ St B K G0 F0 (θ1 ++ (θ ++ ρ')) (τ1 ++ (τ ++ σ')) H', fun σ' H' ⟨ρ', h1, h2⟩ => ⟨m - 1, by omega, by omega, ρ', h1, h2⟩, fun x H' hy => ?_⟩
    have S2 := j4 x H' hy
    rw [← List.append_assoc, ← List.append_assoc] at S2
    refine lg G0 F0 (θ1 ++ θ) (τ1 ++ τ) ρ σ H' _ x _ E.ex _ hl2 S2 (step i ρ z hi) (fun ρ2 σ2 H2 h2 S3 => ?_) (e.ex.pushes hl1)
    refine lb G0 F0 (θ1 ++ θ) (τ1 ++ τ) ρ2 σ2 H2 _ _ _ hl2 S3 h2 ⟨fun ρ' σ' H' n S' => ⟨ρ', n, ?_⟩, fun v a H' r S' => e.rt v a H' r (S'.drop hl1), fun ρ' σ' H' n S' => ?_, fun ρ' σ' H' n S' => ⟨ρ', n, ?_⟩, e.ex.pushes hl1⟩
    · rw [List.append_assoc, List.append_assoc] at S'
      exact S'
    · rw [List.append_assoc, List.append_assoc] at S'
      exact e.nx ρ' σ' H' n (S'.pops hl1)
    · rw [List.append_assoc, List.append_assoc] at S'
      exact S'
  · have hi' : i = ds.length := by omega
    refine .inl ⟨j2 (by omega), e.nx ρ σ H (last ρ (by rw [← hi']; exact hi)) (S.pops hl1)⟩
theorem ls_while (lt : LT B K W tt ft) (lb : LS B K W ts fs) : LS B K W (L2.tWhile tt ts) (aWhile ft fs) := by
  intro G0 F0 θ τ ρ σ H E N D hl S h e
  obtain ⟨I, ⟨m0, i0⟩, step⟩ := h
  refine ⟨fun m σ H => ∃ ρ, I m ρ ∧ St B K G0 F0 (θ ++ ρ) (τ ++ σ) H, ⟨m0, ρ, i0, S⟩, ?_⟩
  rintro m σ H ⟨ρ, hi, S⟩
  refine lt G0 F0 θ τ ρ σ H _ E.ex _ hl S (step m ρ hi) (fun b H1 ρ1 h1 S1 => ?_) e.ex
  cases b with
  | false => exact e.nx ρ1 σ H1 h1 S1
  | true =>
    refine ⟨fun σ' H' => ∃ m', m' < m ∧ ∃ ρ', I m' ρ' ∧ St B K G0 F0 (θ ++ ρ') (τ ++ σ') H', fun σ' H' ⟨m', h1, h2⟩ => ⟨m', h1, h2⟩, ?_⟩
    exact lb G0 F0 θ τ ρ1 σ H1 _ _ _ hl S1 h1 ⟨fun ρ' σ' H' ⟨m', z, n⟩ S' => ⟨m', z, ρ', n, S'⟩, e.rt, e.nx, fun ρ' σ' H' ⟨m', z, n⟩ S' => ⟨m', z, ρ', n, S'⟩, e.ex⟩
end
end Lf
namespace Lf
open PySem PySem.Spec PyProof.Rows L2 Sx

def iAny (K : PySem.W.Frag) (tl : TE) : TI := fun σ H R => tl σ H fun x H1 => ∃ a, x = .ref a ∧ (((∃ xs, SqL K H1 a xs) ∧ R (Itl K a) H1) ∨ ((∃ xs, SqT K H1 a xs) ∧ R (Itt K a) H1))
theorem pi_any {X : Cx} {tg l : Expr} {tl : TE} (hl : PE X l tl) : PI X tg l (iAny X.K tl) := by
  refine ⟨fun pins s σ H R I h => ?_⟩
  refine thn (hl.run pins s σ H _ I h) fun v s1 ⟨x, H1, I1, r1, q1⟩ => ?_
  obtain ⟨a, e, q1⟩ := q1
  subst e
  obtain rfl : v = Value.ref a := r1
  rcases q1 with ⟨⟨xs, hq⟩, q⟩ | ⟨⟨xs, hq⟩, q⟩
  · obtain ⟨its, rv, p, hz⟩ := I1.list hq
    refine wpAny_pyIter_list p.isList ?_
    refine ⟨s1.heap.objs.size, [s1.heap.objs.size], _, _, H1, rfl, I1.kept (t' := s1.toks) fun b o e => Heap.get?_push_of_some _ e, turn_list a _, ⟨_, Heap.get?_push_size _ rfl, rfl, rfl⟩, fun b hb => ?_, q⟩
    have e : b = s1.heap.objs.size := by simpa using hb
    subst e
    exact I1.fpOk (Nat.le_refl _) (I1.hok.fresh (Nat.le_refl _))
  · obtain ⟨its, rv, p, hz⟩ := I1.tuple hq
    refine wpAny_pyIter_tuple (show s1.heap.IsTuple a its.toArray from p) ?_
    refine ⟨s1.heap.objs.size, [s1.heap.objs.size], _, _, H1, rfl, I1.kept (t' := s1.toks) fun b o e => Heap.get?_push_of_some _ e, turn_tuple a _, ⟨_, Heap.get?_push_size _ rfl, rfl, rfl⟩, fun b hb => ?_, q⟩
    have e : b = s1.heap.objs.size := by simpa using hb
    subst e
    exact I1.fpOk (Nat.le_refl _) (I1.hok.fresh (Nat.le_refl _))
def iEnumA (K : PySem.W.Frag) (ta : TA) : TI := fun σ H R => ta σ H fun vs H1 => ∃ a, vs = [.ref a] ∧ (((∃ xs, SqL K H1 a xs) ∧ R (Ite K a) H1) ∨ ((∃ xs, SqT K H1 a xs) ∧ R (IteT K a) H1))
theorem pi_enumA {X : Cx} {e : Expr} {ta : TA} {p pos tpos : Pos} {elts : List Expr} {kk : Nat} (hg : Gl X "enumerate") (hm : X.mg "enumerate" = none) (ha : PA X [e] ta) (hs : starEach [e] X.env = [(false, eval e X.env)] := by rfl) :
    PI X (.Tuple elts kk tpos) (.Call (.Name "enumerate" p) [e] [] pos) (iEnumA X.K ta) := by
  refine ⟨fun pins s σ H R I h => Call_ (ld_blt I hg hm boot_enumerate (PyProof.Rows.callWith_type1 (thn (ha.run pos pins s σ H _ I h) ?_) hs rfl))⟩
  rintro us s1 ⟨vs, H1, I1, r1, a, rfl, q1⟩
  obtain ⟨u, rfl, rr⟩ := vals1 r1
  obtain rfl : u = Value.ref a := rr
  rcases q1 with ⟨⟨xs, hq⟩, q⟩ | ⟨⟨xs, hq⟩, q⟩
  · obtain ⟨its, rv, p', hz⟩ := I1.list hq
    refine call_enumerate_list p'.isList fun h' he hit hsz hk => wpAny_pyIter_enum he ?_
    have I2 : Inv X pins σ H1 { s1 with heap := h' } := I1.kept (t' := s1.toks) hk
    refine ⟨s1.heap.objs.size + 1, [s1.heap.objs.size + 1, s1.heap.objs.size], _, _, H1, rfl, I2, turn_enum a (s1.heap.objs.size + 1) s1.heap.objs.size, ⟨⟨.none, he⟩, hit, Nat.succ_ne_self _⟩, fun b hb => ?_, q⟩
    have hle : s1.heap.objs.size ≤ b := by
      rcases List.mem_cons.mp hb with z | z
      · rw [z]
        exact Nat.le_add_right _ _
      · rw [List.mem_singleton.mp z]
        exact Nat.le_refl _
    exact I1.fpOk hle (I1.hok.fresh hle) |> fun f => ⟨f.1, f.2⟩
  · obtain ⟨its, rv, tp, hz⟩ := I1.tuple hq
    have hal : a < s1.heap.objs.size := tp.lt
    refine call_enum_one (begins_tuple a its.toArray) tp fun h1 he hit hsz hk => wpAny_pyIter_enum he ?_
    have I2 : Inv X pins σ H1 { s1 with heap := h1 } := I1.kept (t' := s1.toks) hk
    have n1 : s1.heap.objs.size + 1 ≠ a := Nat.ne_of_gt (Nat.lt_succ_of_lt hal)
    have n2 : a ≠ s1.heap.objs.size := Nat.ne_of_lt hal
    refine ⟨s1.heap.objs.size + 1, [s1.heap.objs.size + 1, s1.heap.objs.size], _, _, H1, rfl, I2, turn_enumT a (s1.heap.objs.size + 1) s1.heap.objs.size, ⟨⟨.none, he⟩, ⟨_, hit, rfl, rfl⟩, Nat.succ_ne_self _, n1, n2⟩, fun b hb => ?_, q⟩
    have hle : s1.heap.objs.size ≤ b := by
      rcases List.mem_cons.mp hb with z | z
      · rw [z]
        exact Nat.le_add_right _ _
      · rw [List.mem_singleton.mp z]
        exact Nat.le_refl _
    exact I1.fpOk hle (I1.hok.fresh hle) |> fun f => ⟨f.1, f.2⟩

def A.seq : A → (List PyData → Prop) → Prop
  | .d (.tuple ds), k => k ds
  | .d (.list ds), k => k ds
  | .own ds, k => k ds
  | _, _ => False
def aIter (fe : AEx) : AIx := fun ρ R Z => fe ρ (fun a ρ1 => a.seq fun ds => R ds ρ1) Z
def enumD (ds : List PyData) : List PyData := (List.range ds.length).map fun i => .tuple [.int (i : Nat), ds.getD i .none]
def aEnum (fe : AAx) : AIx := fun ρ R Z => fe ρ (fun as ρ1 => A.one as fun a => a.seq fun ds => R (enumD ds) ρ1) Z
def rangeD (lo : Int) (n : Nat) : List PyData := (List.range n).map fun i => .int (lo + (i : Nat))
def aRange1 (fe : AAx) : AIx := fun ρ R Z => fe ρ (fun as ρ1 => A.one as fun a => a.it fun j => -(2 ^ 62) ≤ j ∧ j < 2 ^ 62 ∧ R (rangeD 0 j.toNat) ρ1) Z
def aRange2 (fe : AAx) : AIx := fun ρ R Z => fe ρ (fun as ρ1 => A.two as fun a b => a.it fun i => b.it fun j => (-(2 ^ 62) ≤ i ∧ i < 2 ^ 62 ∧ -(2 ^ 62) ≤ j ∧ j < 2 ^ 62) ∧ R (rangeD i (j - i).toNat) ρ1) Z
def zipD (xs ys : List PyData) : List PyData := (List.range (min xs.length ys.length)).map fun i => .tuple [xs.getD i .none, ys.getD i .none]
def zip3D (xs ys zs : List PyData) : List PyData := (List.range xs.length).map fun i => .tuple [xs.getD i .none, ys.getD i .none, zs.getD i .none]
def A.lst : A → (List PyData → Prop) → Prop
  | .d (.list ds), k => k ds
  | .own ds, k => k ds
  | _, _ => False
def A.tup : A → (List PyData → Prop) → Prop
  | .d (.tuple ds), k => k ds
  | _, _ => False
def A.same2 : A → A → (List PyData → List PyData → Prop) → Prop
  | .d (.tuple ds), .d (.tuple es), k => k ds es
  | a, b, k => a.lst fun ds => b.lst fun es => k ds es
def aZip (fe : AAx) : AIx := fun ρ R Z => fe ρ (fun as ρ1 => A.two as fun a b => A.same2 a.fz b.fz fun xs ys => R (zipD xs ys) ρ1) Z
def aZipTL (fe : AAx) : AIx := fun ρ R Z => fe ρ (fun as ρ1 => A.two as fun a b => a.fz.tup fun xs => b.fz.lst fun ys => xs.length = ys.length ∧ R (zipD xs ys) ρ1) Z
def aZip3T (fe : AAx) : AIx := fun ρ R Z => fe ρ (fun as ρ1 => A.three as fun a b c => a.fz.tup fun xs => b.fz.tup fun ys => c.fz.tup fun zs => xs.length = ys.length ∧ xs.length = zs.length ∧ R (zip3D xs ys zs) ρ1) Z

section
variable {B : Bx} {K : PySem.W.Frag} {W : Wx} {G0 F0 H : Hp} {θ ρ as bs : List A} {τ xs ys : List (Option V)} {σ : L2.St} {a b : A} {x : Option V} {v w : V}
variable {ta tb tc : TE} {fa fb fc : AEx} {tt tu : TT} {ft fu : ATx} {ts us : TS} {fs gs : ASx} {tg : TG} {fg : AGx} {wi : TI} {fi : AIx}
theorem A.is_seq {k : List PyData → Prop} (h : a.seq k) (S : St B K G0 F0 (a :: as) (x :: xs) H) : ∃ ds, k ds ∧ ((St B K G0 F0 (.d (.tuple ds) :: as) (x :: xs) H) ∨ St B K G0 F0 (.d (.list ds) :: as) (x :: xs) H) := by
  cases a with
  | d y =>
    cases y with
    | tuple ds => exact ⟨ds, h, .inl S⟩
    | list ds => exact ⟨ds, h, .inr S⟩
    | none => exact h.elim
    | bool _ => exact h.elim
    | int _ => exact h.elim
    | str _ => exact h.elim
    | dict _ => exact h.elim
  | un => exact h.elim
  | raw _ => exact h.elim
  | own ds => exact ⟨ds, h, .inr S.fix⟩
  | sp _ => exact h.elim
theorem St.headT {ds : List PyData} (S : St B K G0 F0 (.d (.tuple ds) :: as) (x :: xs) H) : ∃ p ws, x = some (.ref p) ∧ SqT K H p ws ∧ ws.length = ds.length := by
  obtain ⟨G, F, k, s⟩ := S.ex
  obtain ⟨x, e, v', e2, hd⟩ := s.ok 0 _ rfl
  cases e
  obtain ⟨p, ws, rfl, e, ha⟩ := tup_in hd
  exact ⟨p, ws, e2, Sx.Same.tup k.gh e, dva_len ha⟩
theorem St.headL {ds : List PyData} (S : St B K G0 F0 (.d (.list ds) :: as) (x :: xs) H) : ∃ p ws, x = some (.ref p) ∧ H p = some (.lst ws) ∧ ws.length = ds.length := by
  obtain ⟨G, F, k, s⟩ := S.ex
  obtain ⟨x, e, v', e2, hd⟩ := s.ok 0 _ rfl
  cases e
  obtain ⟨p, ws, rfl, e, ha⟩ := lst_in hd
  exact ⟨p, ws, e2, k.gh _ _ e, dva_len ha⟩
theorem ito_tup {ds : List PyData} {p : Addr} : ItOk B K G0 F0 [.d (.tuple ds)] [some (.ref p)] (Itt K p) ds := by
  intro as xs H i S
  obtain ⟨G, F, k, s⟩ := S.ex
  obtain ⟨x, e, v', e2, hd⟩ := s.ok 0 _ rfl
  cases e
  cases e2
  obtain ⟨q, ws, e, hq, ha⟩ := tup_in hd
  cases e
  have hH := Sx.Same.tup k.gh hq
  have hl := dva_len ha
  refine ⟨fun hi => ⟨⟨ws, _, hH, List.getElem?_eq_getElem (by omega)⟩, ?_⟩, fun hi => ⟨ws, hH, by omega⟩⟩
  rintro x H' ⟨rfl, hx⟩
  obtain ⟨_, hx2⟩ := dva_val ha (hx ws hH)
  exact ⟨G, F, k, s.push ⟨_, rfl, hx2⟩ fun z => nomatch z⟩
theorem ito_lst {ds : List PyData} {p : Addr} : ItOk B K G0 F0 [.d (.list ds)] [some (.ref p)] (Itl K p) ds := by
  intro as xs H i S
  obtain ⟨G, F, k, s⟩ := S.ex
  obtain ⟨x, e, v', e2, hd⟩ := s.ok 0 _ rfl
  cases e
  cases e2
  obtain ⟨q, ws, e, hq, ha⟩ := lst_in hd
  cases e
  have hH : SqL K H p ws := .of (k.gh _ _ hq)
  have hl := dva_len ha
  refine ⟨fun hi => ⟨⟨ws, _, hH, List.getElem?_eq_getElem (by omega)⟩, ?_⟩, fun hi => ⟨ws, hH, by omega⟩⟩
  rintro x H' ⟨rfl, hx⟩
  obtain ⟨_, hx2⟩ := dva_val ha (hx ws hH)
  exact ⟨G, F, k, s.push ⟨_, rfl, hx2⟩ fun z => nomatch z⟩
theorem li_any (la : LE B K W ta fa) : LI B K W (iAny K ta) (aIter fa) := by
  intro G0 F0 θ τ ρ σ H R Z Q hl S h q w
  refine la G0 F0 θ τ ρ σ H _ Z _ hl S h (fun v H1 x ρ1 h1 S1 => ?_) w
  obtain ⟨ds, k, S2 | S2⟩ := A.is_seq h1 S1
  · obtain ⟨p, ws, e, hs, _⟩ := S2.headT
    cases e
    exact ⟨p, rfl, .inr ⟨⟨ws, hs⟩, q _ H1 [_] [_] ds ρ1 k rfl S2 ito_tup⟩⟩
  · obtain ⟨p, ws, e, hs, _⟩ := S2.headL
    cases e
    exact ⟨p, rfl, .inl ⟨⟨ws, .of hs⟩, q _ H1 [_] [_] ds ρ1 k rfl S2 ito_lst⟩⟩
theorem enumD_len (ds : List PyData) : (enumD ds).length = ds.length := by simp [enumD]
theorem enumD_at {ds : List PyData} {i : Nat} (h : i < ds.length) : (enumD ds).getD i .none = .tuple [.int (i : Nat), ds.getD i .none] := by
  unfold enumD
  rw [List.getD_eq_getElem?_getD, List.getElem?_map, List.getElem?_range h] <;> rfl
theorem rangeD_len (lo : Int) (n : Nat) : (rangeD lo n).length = n := by simp [rangeD]
theorem rangeD_at {lo : Int} {n i : Nat} (h : i < n) : (rangeD lo n).getD i .none = .int (lo + (i : Nat)) := by
  unfold rangeD
  rw [List.getD_eq_getElem?_getD, List.getElem?_map, List.getElem?_range h] <;> rfl
theorem ito_enumT {ds : List PyData} {p : Addr} : ItOk B K G0 F0 [.d (.tuple ds)] [some (.ref p)] (IteT K p) (enumD ds) := by
  intro as xs H i S
  rw [enumD_len]
  obtain ⟨G, F, k, s⟩ := id S.ex
  obtain ⟨x, e, v', e2, hd⟩ := s.ok 0 _ rfl
  cases e
  cases e2
  obtain ⟨q, ws, e, hq, ha⟩ := tup_in hd
  cases e
  have hH := Sx.Same.tup k.gh hq
  have hl := dva_len ha
  refine ⟨fun hi => ⟨⟨ws, _, hH, List.getElem?_eq_getElem (by omega)⟩, ?_⟩, fun hi => ⟨ws, hH, by omega⟩⟩
  rintro x H' ⟨T, y, rfl, nT, rfl, hx⟩
  rw [enumD_at hi]
  obtain ⟨_, hx2⟩ := dva_val ha (hx ws hH)
  have S1 : St B K G0 F0 (.d (ds.getD i .none) :: ([.d (.tuple ds)] ++ as)) (some y :: ([some (.ref p)] ++ xs)) H := ⟨G, F, k, s.push ⟨_, rfl, hx2⟩ fun z => nomatch z⟩
  refine St.drop (θ1 := [_]) (τ1 := [_]) rfl (S1.newD nT fun G F s1 s2 s3 G' sg e => ?_)
  obtain ⟨x, e1, v, e2, h⟩ := s3.ok 0 _ rfl
  cases e1
  cases e2
  exact .tup (.of e) (.cons (.int _) (.cons (dv_same sg _ _ h) .nil))
theorem ito_enumL {ds : List PyData} {p : Addr} : ItOk B K G0 F0 [.d (.list ds)] [some (.ref p)] (Ite K p) (enumD ds) := by
  intro as xs H i S
  rw [enumD_len]
  obtain ⟨G, F, k, s⟩ := id S.ex
  obtain ⟨x, e, v', e2, hd⟩ := s.ok 0 _ rfl
  cases e
  cases e2
  obtain ⟨q, ws, e, hq, ha⟩ := lst_in hd
  cases e
  have hH : SqL K H p ws := .of (k.gh _ _ hq)
  have hl := dva_len ha
  refine ⟨fun hi => ⟨⟨ws, _, hH, List.getElem?_eq_getElem (by omega)⟩, ?_⟩, fun hi => ⟨ws, hH, by omega⟩⟩
  rintro x H' ⟨T, y, rfl, nT, rfl, hx⟩
  rw [enumD_at hi]
  obtain ⟨_, hx2⟩ := dva_val ha (hx ws hH)
  have S1 : St B K G0 F0 (.d (ds.getD i .none) :: ([.d (.list ds)] ++ as)) (some y :: ([some (.ref p)] ++ xs)) H := ⟨G, F, k, s.push ⟨_, rfl, hx2⟩ fun z => nomatch z⟩
  refine St.drop (θ1 := [_]) (τ1 := [_]) rfl (S1.newD nT fun G F s1 s2 s3 G' sg e => ?_)
  obtain ⟨x, e1, v, e2, h⟩ := s3.ok 0 _ rfl
  cases e1
  cases e2
  exact .tup (.of e) (.cons (.int _) (.cons (dv_same sg _ _ h) .nil))
theorem li_enum {tr : TA} {fr : AAx} (la : LAn 1 B K W tr fr) : LI B K W (iEnumA K tr) (aEnum fr) := by
  intro G0 F0 θ τ ρ σ H R Z Q hl S h q w
  refine la G0 F0 θ τ ρ σ H _ Z _ hl S h (fun vs H1 as ρ1 h1 l1 l2 S1 => ?_) w
  match as, vs, l1, l2, h1, S1 with
  | [a], [v], _, _, h1, S1 =>
    obtain ⟨ds, k, S2 | S2⟩ := A.is_seq h1 S1
    · obtain ⟨p, ws, e, hs, _⟩ := S2.headT
      cases e
      exact ⟨p, rfl, .inr ⟨⟨ws, hs⟩, q _ H1 [_] [_] _ ρ1 k rfl S2 ito_enumT⟩⟩
    · obtain ⟨p, ws, e, hs, _⟩ := S2.headL
      cases e
      exact ⟨p, rfl, .inl ⟨⟨ws, .of hs⟩, q _ H1 [_] [_] _ ρ1 k rfl S2 ito_enumL⟩⟩
theorem ito_range {lo : Int} {n : Nat} : ItOk B K G0 F0 [] [] (Itr lo n) (rangeD lo n) := by
  intro as xs H i S
  rw [rangeD_len]
  refine ⟨fun hi => ⟨hi, ?_⟩, fun hi => hi⟩
  rintro x H' ⟨rfl, rfl⟩
  rw [rangeD_at hi]
  exact S.push fun _ => .int _
theorem li_range1 {tr : TA} {fr : AAx} (la : LAn 1 B K W tr fr) : LI B K W (iRng1 tr) (aRange1 fr) := by
  intro G0 F0 θ τ ρ σ H R Z Q hl S h q w
  refine la G0 F0 θ τ ρ σ H _ Z _ hl S h (fun vs H1 as ρ1 h1 l1 l2 S1 => ?_) w
  match as, vs, l1, l2, h1, S1 with
  | [a], [v], _, _, h1, S1 =>
    obtain ⟨j, rfl, k1, k2, k⟩ := A.is_it h1
    have := S1.get
    cases this
    exact ⟨j, rfl, k1, k2, q _ H1 [] [] _ ρ1 k rfl S1.pop ito_range⟩
theorem li_range2 {tr : TA} {fr : AAx} (la : LAn 2 B K W tr fr) : LI B K W (iRng2 tr) (aRange2 fr) := by
  intro G0 F0 θ τ ρ σ H R Z Q hl S h q w
  refine la G0 F0 θ τ ρ σ H _ Z _ hl S h (fun vs H1 as ρ1 h1 l1 l2 S1 => ?_) w
  match as, vs, l1, l2, h1, S1 with
  | [a, b], [v, u], _, _, h1, S1 =>
    obtain ⟨i, e1, h1⟩ := A.is_it h1
    obtain ⟨j, e2, k1, k⟩ := A.is_it h1
    subst e1 e2
    have := S1.get
    cases this
    have := S1.pop.get
    cases this
    exact ⟨i, j, rfl, k1, q _ H1 [] [] _ ρ1 k rfl S1.pop.pop ito_range⟩
theorem wipe_len : ∀ (σ : L2.St) (vs : List Nat), (L2.wipe σ vs).length = σ.length
  | _, [] => rfl
  | σ, v :: vs => by
    show ((L2.wipe σ vs).set v none).length = σ.length
    rw [List.length_set, wipe_len]
theorem St.forget {i : Nat} {x : Option V} (hl : θ.length = τ.length) (S : St B K G0 F0 (θ ++ ρ) (τ ++ σ) H) : St B K G0 F0 (θ ++ ρ.set i .un) (τ ++ σ.set i x) H := by
  obtain ⟨G, F, k, s⟩ := S.ex
  exact St.set hl ⟨G, F, k, s.push (a := .un) (x := x) trivial fun z => nomatch z⟩
theorem St.wipe (hl : θ.length = τ.length) : ∀ (vs : List Nat), St B K G0 F0 (θ ++ ρ) (τ ++ σ) H → St B K G0 F0 (θ ++ wipeA ρ vs) (τ ++ L2.wipe σ vs) H
  | [], S => S
  | v :: vs, S => (St.wipe hl vs S).forget hl
theorem St.wipeBack (hl : θ.length = τ.length) : ∀ (vs : List Nat) (σ : L2.St), St B K G0 F0 (θ ++ wipeA ρ vs) (τ ++ L2.wipe σ vs) H → St B K G0 F0 (θ ++ wipeA ρ vs) (τ ++ σ) H := by
  intro vs σ S
  have l0 := S.len
  have l1 : (wipeA ρ vs).length = σ.length := by
    have := wipe_len σ vs
    simp at l0
    omega
  -- by places
  have key : ∀ (vs : List Nat) (i : Nat), (L2.wipe σ vs)[i]? = σ[i]? ∨ (wipeA ρ vs)[i]? = some .un ∨ (wipeA ρ vs)[i]? = none := by
    intro vs
    induction vs with
    | nil => exact fun i => .inl rfl
    | cons v vs ih =>
      intro i
      by_cases h : v = i
      · subst h
        by_cases hv : v < (wipeA ρ vs).length
        · exact .inr (.inl (by show ((wipeA ρ vs).set v .un)[v]? = _; rw [List.getElem?_set_self hv]))
        · exact .inr (.inr (by show ((wipeA ρ vs).set v .un)[v]? = _; rw [List.getElem?_eq_none (by rw [List.length_set]; omega)]))
      · show ((L2.wipe σ vs).set v none)[i]? = _ ∨ ((wipeA ρ vs).set v .un)[i]? = _ ∨ ((wipeA ρ vs).set v .un)[i]? = _
        rw [List.getElem?_set_ne h, List.getElem?_set_ne h]
        exact ih i
  obtain ⟨G, F, k, s⟩ := S.ex
  refine ⟨G, F, k, by simp; omega, fun j a ha => ?_, fun i j ds es p e1 e2 o1 o2 e3 e4 => ?_⟩
  · by_cases z : j < θ.length
    · obtain ⟨x, hx, ok⟩ := s.ok j a ha
      rw [List.getElem?_append_left (by omega)] at hx ⊢
      exact ⟨x, hx, ok⟩
    · obtain ⟨m, rfl⟩ : ∃ m, j = θ.length + m := ⟨j - θ.length, by omega⟩
      have ha' := ha
      rw [app_at] at ha'
      have hm : m < σ.length := by
        have := (List.getElem?_eq_some_iff.mp ha').1
        omega
      rcases key vs m with h | h | h
      · obtain ⟨x, hx, ok⟩ := s.ok _ a ha
        rw [hl, app_at] at hx ⊢
        rw [h] at hx
        exact ⟨x, hx, ok⟩
      · rw [h] at ha'
        cases ha'
        rw [hl, app_at]
        exact ⟨_, List.getElem?_eq_getElem hm, trivial⟩
      · rw [h] at ha'
        cases ha'
  · have tr : ∀ (j : Nat) (es : A), (θ ++ wipeA ρ vs)[j]? = some es → es.isOwn = true → (τ ++ L2.wipe σ vs)[j]? = (τ ++ σ)[j]? := by
      intro j es h ho
      by_cases z : j < θ.length
      · rw [List.getElem?_append_left (by omega), List.getElem?_append_left (by omega)]
      · obtain ⟨m, rfl⟩ : ∃ m, j = θ.length + m := ⟨j - θ.length, by omega⟩
        rw [app_at] at h
        rw [hl, app_at, app_at]
        rcases key vs m with h2 | h2 | h2
        · exact h2
        · rw [h2] at h
          cases h
          exact nomatch ho
        · rw [h2] at h
          cases h
    exact s.nd i j ds es p e1 e2 o1 o2 (by rw [tr i ds e1 o1]; exact e3) (by rw [tr j es e2 o2]; exact e4)
end
end Lf
namespace Lf
open PySem PySem.Spec PyProof.Rows L2 Sx
abbrev Wno : Wx := fun _ _ _ _ => False
def TgOk (vs : List Nat) (g : TG) : Prop := ∀ (v : V) (σ σ0 : L2.St) (H : Hp) (Q Q' : L2.St → Hp → Prop), L2.wipe σ vs = σ0 → g v σ H Q → (∀ σ2 H2, L2.wipe σ2 vs = σ0 → Q σ2 H2 → Q' σ2 H2) → g v σ H Q'
def TgsOk (vs : List Nat) (g : TGs) : Prop := ∀ (us : List V) (σ σ0 : L2.St) (H : Hp) (Q Q' : L2.St → Hp → Prop), L2.wipe σ vs = σ0 → g us σ H Q → (∀ σ2 H2, L2.wipe σ2 vs = σ0 → Q σ2 H2 → Q' σ2 H2) → g us σ H Q'
theorem wipe_set : ∀ (vs : List Nat) (σ : L2.St) (i : Nat) (x : Option V), i ∈ vs → L2.wipe (σ.set i x) vs = L2.wipe σ vs := by
  have comm : ∀ (vs : List Nat) (σ : L2.St) (i : Nat) (x : Option V), i ∉ vs → L2.wipe (σ.set i x) vs = (L2.wipe σ vs).set i x := by
    intro vs
    induction vs with
    | nil => exact fun _ _ _ _ => rfl
    | cons v vs ih =>
      intro σ i x h
      have h1 : i ≠ v := fun e => h (by rw [e]; exact List.mem_cons_self)
      have h2 : i ∉ vs := fun e => h (List.mem_cons_of_mem _ e)
      show (L2.wipe (σ.set i x) vs).set v none = ((L2.wipe σ vs).set v none).set i x
      rw [ih σ i x h2, List.set_comm _ _ h1]
  intro vs
  induction vs with
  | nil => exact fun _ _ _ h => nomatch h
  | cons v vs ih =>
    intro σ i x h
    show (L2.wipe (σ.set i x) vs).set v none = (L2.wipe σ vs).set v none
    by_cases hi : i ∈ vs
    · rw [ih σ i x hi]
    · have hv : i = v := by
        rcases List.mem_cons.mp h with h | h
        · exact h
        · exact absurd h hi
      subst hv
      rw [comm vs σ i x hi, List.set_set]
theorem tg_name {vs : List Nat} {i : Nat} (h : i ∈ vs) : TgOk vs (gName i) := fun v σ σ0 H Q Q' e q k => k _ _ (by rw [wipe_set vs σ i _ h]; exact e) q
theorem tgs_nil {vs : List Nat} : TgsOk vs L2.gNil := fun us σ σ0 H Q Q' e q k => ⟨q.1, k _ _ e q.2⟩
theorem tgs_cons {vs : List Nat} {g : TG} {gs : TGs} (h1 : TgOk vs g) (h2 : TgsOk vs gs) : TgsOk vs (L2.gCons g gs) := by
  rintro us σ σ0 H Q Q' e ⟨v, r, rfl, q⟩ k
  exact ⟨v, r, rfl, h1 v σ σ0 H _ _ e q fun σ2 H2 e2 q2 => h2 r σ2 σ0 H2 _ _ e2 q2 k⟩
theorem tg_tup {K : PySem.W.Frag} {vs : List Nat} {n : Nat} {gs : TGs} (h : TgsOk vs gs) : TgOk vs (gTup K n gs) := by
  rintro v σ σ0 H Q Q' e ⟨a, xs, rfl, h1, h2, q⟩ k
  exact ⟨a, xs, rfl, h1, h2, h xs σ σ0 H _ _ e q k⟩
section
variable {B : Bx} {K : PySem.W.Frag} {W : Wx} {G0 F0 H : Hp} {θ ρ as bs : List A} {τ xs ys : List (Option V)} {σ : L2.St} {a b : A} {x : Option V} {v w : V}
variable {ta tb tc te : TE} {fa fb fc fe : AEx} {tt tu : TT} {ft fu : ATx} {ts us : TS} {fs gs : ASx} {tg : TG} {fg : AGx} {wi : TI} {fi : AIx}
theorem wno_ok : WOk B K Wno G0 F0 θ τ (fun _ _ => False) := fun _ _ _ _ _ _ z _ => z.elim
theorem big_size {n : Nat} (h : n < 4000000) : n < sizeLine := Nat.lt_of_lt_of_le h (by decide)
theorem wipe_wipe (σ : L2.St) : ∀ vs : List Nat, L2.wipe (L2.wipe σ vs) vs = L2.wipe σ vs := by
  have key : ∀ (vs ws : List Nat), (∀ i ∈ ws, i ∈ vs) → L2.wipe (L2.wipe σ vs) ws = L2.wipe σ vs := by
    intro vs ws
    induction ws with
    | nil => exact fun _ => rfl
    | cons u ws ih =>
      intro h
      show (L2.wipe (L2.wipe σ vs) ws).set u none = L2.wipe σ vs
      rw [ih fun i hi => h i (List.mem_cons_of_mem _ hi)]
      have hu := h u List.mem_cons_self
      clear ih h
      induction vs with
      | nil => exact nomatch hu
      | cons v vs ih =>
        show ((L2.wipe σ vs).set v none).set u none = (L2.wipe σ vs).set v none
        by_cases e : u = v
        · rw [e, List.set_set]
        · rw [List.set_comm _ _ (fun z => e z.symm), ih (by
            rcases List.mem_cons.mp hu with h | h
            · exact absurd h e
            · exact h)]
  exact fun vs => key vs vs fun _ h => h
theorem alter_done {acc : List PyData} {d : PyData} {y : V} {p : Addr} {ws : List V} {cs : List A} {zs : List (Option V)} (alt : ∀ us, (∀ G F, Same G F → Same F H → Sl K G F0 F (.own acc :: .d d :: cs) (some (.ref p) :: some y :: zs) → DvAll K G ws acc → DvAll K G us (acc ++ [d])) → St B K G0 F0 (.own (acc ++ [d]) :: .d d :: cs) (some (.ref p) :: some y :: zs) (upd H p (.lst us))) :
    St B K G0 F0 (.own (acc ++ [d]) :: .d d :: cs) (some (.ref p) :: some y :: zs) (upd H p (.lst (ws ++ [y]))) := by
  refine alt _ fun G F s1 s2 s3 h => ?_
  obtain ⟨x, e, v, e2, hd⟩ := s3.ok 1 _ rfl
  cases e
  cases e2
  exact dva_app h (.cons hd .nil)
theorem le_comp {vs : List Nat} (li : LI B K W wi fi) (lg : LG B K Wno tg fg) (ok : TgOk vs tg) (lt : LT B K Wno tt ft) (le : LE B K Wno te fe) : LE B K W (L2.tLc wi tg tt te vs) (aComp fi fg ft fe vs) := by
  intro G0 F0 θ τ ρ σ H R Z Q hl S h q w
  refine li G0 F0 θ τ ρ σ H _ Z _ hl S h (fun J H1 θ1 τ1 ds ρ1 h1 hl1 S1 hJ => ?_) w
  obtain ⟨I, i0, step, last⟩ := h1
  intro D hD
  -- what is so at each turn
  let T : List PyData → List A → Hp → Prop := fun acc ρ' H => St B K G0 F0 (θ1 ++ (.own acc :: (θ ++ ρ'))) (τ1 ++ (some (.ref D) :: (τ ++ L2.wipe σ vs))) H
  have start : T [] (wipeA ρ1 vs) (upd H1 D (.lst [])) := by
    have S2 : St B K G0 F0 ((θ1 ++ θ) ++ wipeA ρ1 vs) ((τ1 ++ τ) ++ L2.wipe σ vs) H1 := St.wipe (by simp; omega) vs (by rw [List.append_assoc, List.append_assoc]; exact S1)
    rw [List.append_assoc, List.append_assoc] at S2
    exact St.back hl1 (S2.newL (ds := []) hD fun _ _ _ _ _ => .nil)
  refine ⟨fun i m H => i + m = ds.length ∧ ∃ acc ρ', I i acc ρ' ∧ T acc ρ' H, ⟨ds.length, by omega, [], _, i0, start⟩, ?_⟩
  rintro i m H ⟨hm, acc, ρ', hi, S⟩
  obtain ⟨j1, j2⟩ := hJ _ _ H i S
  by_cases z : i < ds.length
  · obtain ⟨j3, j4⟩ := j1 z
    refine .inr ⟨j3, fun H' => ∃ acc ρ', I (i + 1) acc ρ' ∧ T acc ρ' H', fun H' ⟨acc, ρ', h1, h2⟩ => ⟨m - 1, by omega, by omega, acc, ρ', h1, h2⟩, fun x H' hy => ?_⟩
    have S2 := j4 x H' hy
    have hl2 : (θ1 ++ (.own acc :: θ)).length = (τ1 ++ (some (V.ref D) :: τ)).length := by simp; omega
    have S3 : St B K G0 F0 (.d (ds.getD i .none) :: ((θ1 ++ (.own acc :: θ)) ++ ρ')) (some x :: ((τ1 ++ (some (V.ref D) :: τ)) ++ L2.wipe σ vs)) H' := by
      rw [List.append_assoc, List.append_assoc]
      exact S2
    refine ok x (L2.wipe σ vs) (L2.wipe σ vs) H' _ _ (wipe_wipe σ vs) (lg G0 F0 (θ1 ++ (.own acc :: θ)) (τ1 ++ (some (V.ref D) :: τ)) ρ' (L2.wipe σ vs) H' _ x _ _ (fun σ2 H2 => ∀ e : L2.wipe σ2 vs = L2.wipe σ vs, tt σ2 H2 fun b H3 => if b = true then te σ2 H3 fun y H4 => ∃ acc, H4 D = some (.lst acc) ∧ acc.length < sizeLine ∧ ∃ acc' ρ', I (i + 1) acc' ρ' ∧ T acc' ρ' (upd H4 D (.lst (acc ++ [y]))) else ∃ acc ρ', I (i + 1) acc ρ' ∧ T acc ρ' H3) hl2 S3 (step i acc ρ' z hi) (fun ρ2 σ2 H2 h2 S4 e2 => ?_) wno_ok) fun σ2 H2 e2 q2 => ⟨e2, q2 e2⟩
    refine lt G0 F0 _ _ ρ2 σ2 H2 _ _ _ hl2 S4 h2 (fun b H3 ρ3 h3 S5 => ?_) wno_ok
    cases b with
    | false =>
      refine ⟨acc, wipeA ρ3 vs, h3, ?_⟩
      have S6 := St.wipe hl2 vs S5
      rw [e2, List.append_assoc, List.append_assoc] at S6
      exact S6
    | true =>
      refine le G0 F0 _ _ ρ3 σ2 H3 _ _ _ hl2 S5 h3 (fun y H4 a ρ4 h4 S6 => ?_) wno_ok
      obtain ⟨d, ⟨hz, k⟩, S7⟩ := S6.on h4
      have S8 : St B K G0 F0 (.d d :: ((θ1 ++ (.own acc :: θ)) ++ wipeA ρ4 vs)) (some y :: ((τ1 ++ (some (V.ref D) :: τ)) ++ L2.wipe σ vs)) H4 := by
        rw [← e2]
        exact St.wipe (θ := .d d :: (θ1 ++ (.own acc :: θ))) (τ := some y :: (τ1 ++ (some (V.ref D) :: τ))) (congrArg (· + 1) hl2) vs S7
      rw [List.append_assoc, List.append_assoc] at S8
      have S9 : St B K G0 F0 (.own acc :: ((.d d :: θ1) ++ (θ ++ wipeA ρ4 vs))) (some (V.ref D) :: ((some y :: τ1) ++ (τ ++ L2.wipe σ vs))) H4 := St.front (as := .d d :: θ1) (xs := some y :: τ1) (congrArg (· + 1) hl1) S8
      obtain ⟨p, ws, e, eH, lw, _, alt⟩ := S9.alter (es := acc ++ [d])
      cases e
      refine ⟨ws, eH, big_size (by omega), acc ++ [d], wipeA ρ4 vs, k, ?_⟩
      have S10 := alter_done alt
      exact (St.back (as := .d d :: θ1) (xs := some y :: τ1) (congrArg (· + 1) hl1) S10).pop
  · have hi' : i = ds.length := by omega
    refine .inl ⟨j2 (by omega), q (.ref D) H _ _ (last acc ρ' (by rw [← hi']; exact hi)) ?_⟩
    have S2 : St B K G0 F0 (.own acc :: (θ ++ ρ')) (some (.ref D) :: (τ ++ L2.wipe σ vs)) H := S.pops hl1
    have S3 : St B K G0 F0 ((.own acc :: θ) ++ wipeA ρ' vs) ((some (V.ref D) :: τ) ++ L2.wipe (L2.wipe σ vs) vs) H := St.wipe (θ := .own acc :: θ) (τ := some (V.ref D) :: τ) (congrArg (· + 1) hl) vs S2
    rw [wipe_wipe] at S3
    exact St.wipeBack (θ := .own acc :: θ) (τ := some (V.ref D) :: τ) (congrArg (· + 1) hl) vs σ S3
end
end Lf
namespace Lf
open PySem PySem.Spec PyProof.Rows L2 Sx

section
variable {B : Bx} {K : PySem.W.Frag} {W : Wx} {G0 F0 H H' : Hp} {θ ρ as bs : List A} {τ xs ys : List (Option V)} {σ : L2.St} {a b : A} {x : Option V} {v w : V}
theorem VOk.any {G F F0' F' : Hp} (h : VOk K G F0 F a x) (n : a.isOwn = false) : VOk K G F0' F' a x := by
  cases a with
  | un => exact trivial
  | raw v => exact h
  | d y => exact h
  | own ds => exact nomatch n
  | sp o =>
    rcases h with ⟨ho, _⟩ | h
    · rw [show A.isOwn (.sp o) = o.own from rfl, ho] at n
      exact nomatch n
    · exact .inr h
theorem St.enter {vs : List V} (hl : as.length = vs.length) (n : ∀ a ∈ as, a.isOwn = false) (S : St B K G0 F0 (as ++ bs) (vs.map some ++ xs) H) :
    ∃ G F, Kn B G0 F0 G F H ∧ Sl K G F0 F bs xs ∧ ∀ m, St B K G F (as ++ List.replicate m .un) (vs.map some ++ List.replicate m none) H := by
  obtain ⟨G, F, k, s⟩ := S.ex
  have hl' : as.length = (vs.map some).length := by rw [List.length_map]; exact hl
  have sb : Sl K G F0 F bs xs := by
    have key : ∀ (as : List A) (zs : List (Option V)), as.length = zs.length → Sl K G F0 F (as ++ bs) (zs ++ xs) → Sl K G F0 F bs xs := by
      intro as
      induction as with
      | nil =>
        intro zs h s
        cases zs with
        | nil => exact s
        | cons _ _ => exact nomatch h
      | cons a as ih =>
        intro zs h s
        cases zs with
        | nil => exact nomatch h
        | cons z zs => exact ih zs (Nat.succ.inj h) s.pop
    exact key as _ hl' s
  refine ⟨G, F, k, sb, fun m => ⟨G, F, .start k.B k.s k.fm, by simp [hl], fun i a h => ?_, fun i j ds es p e1 e2 o1 _ _ _ => ?_⟩⟩
  · by_cases z : i < as.length
    · rw [List.getElem?_append_left z] at h
      obtain ⟨x, hx, ok⟩ := s.ok i a (by rw [List.getElem?_append_left z]; exact h)
      rw [List.getElem?_append_left (by omega)] at hx
      refine ⟨x, by rw [List.getElem?_append_left (by omega)]; exact hx, ok.any (n a (List.mem_of_getElem? h))⟩
    · rw [List.getElem?_append_right (by omega)] at h
      have hm := (List.getElem?_eq_some_iff.mp h).1
      rw [List.length_replicate] at hm
      rw [List.getElem?_replicate_of_lt hm] at h
      cases h
      exact ⟨none, by rw [List.getElem?_append_right (by omega), List.getElem?_replicate_of_lt (by omega)], trivial⟩
  · by_cases z : i < as.length
    · rw [List.getElem?_append_left z] at e1
      have := n _ (List.mem_of_getElem? e1)
      rw [o1] at this
      exact nomatch this
    · rw [List.getElem?_append_right (by omega)] at e1
      have hm := (List.getElem?_eq_some_iff.mp e1).1
      rw [List.length_replicate] at hm
      rw [List.getElem?_replicate_of_lt hm] at e1
      cases e1
      exact nomatch o1
theorem Sl.after {G F G1 F1 : Hp} (k : Kn B G0 F0 G F H) (k1 : Kn B G F G1 F1 H') (s : Sl K G F0 F bs xs) : Sl K G1 F0 F1 bs xs :=
  s.grow k1.sG fun p u e1 e2 e3 => ⟨by rw [e1]; exact k1.sF _ _ e1, k1.ap p e2 (by rw [e1]; exact fun z => nomatch z)⟩
theorem St.leave {G F : Hp} (k : Kn B G0 F0 G F H) (s : Sl K G F0 F bs xs) (S : St B K G F [a] [some v] H') : St B K G0 F0 (a :: bs) (some v :: xs) H' := by
  obtain ⟨G1, F1, k1, s1⟩ := S.ex
  refine ⟨G1, F1, k.trans k1, Sl.push (s.after k k1) ?_ fun z p hp j es hj oc hx => ?_⟩
  · obtain ⟨x, e, ok⟩ := s1.ok 0 _ rfl
    cases e
    cases a with
    | un => exact trivial
    | raw v => exact ok
    | d y => exact ok
    | own ds =>
      obtain ⟨p, ws, e, e1, e2, e3, e4⟩ := ok
      refine ⟨p, ws, e, e1, e2, k.old e3, e4⟩
    | sp o =>
      rcases ok with ⟨ho, p, u, e, e1, e2, e3, e4⟩ | ok
      · exact .inl ⟨ho, p, u, e, e1, e2, k.old e3, e4⟩
      · exact .inr ok
  · cases hp
    obtain ⟨x, e, ok⟩ := s1.ok 0 _ rfl
    cases e
    obtain ⟨q, u, e, e1, e2, e3⟩ := ok.at z
    cases e
    obtain ⟨x, e5, ok2⟩ := s.ok j _ hj
    obtain ⟨q, ws2, e6, e7, _⟩ := ok2.at oc
    rw [hx] at e5
    cases e5
    cases e6
    rw [e7] at e3
    cases e3
theorem XS.leave {G F : Hp} {e : Ex} {cv : Value} {dd : Option Addr} (k : Kn B G0 F0 G F H) (s : Sl K G F0 F bs xs) (S : XS B K G F ρ σ H' e cv dd) : XS B K G0 F0 bs xs H' e cv dd := by
  obtain ⟨G1, F1, k1, s1, r⟩ := S.ex
  exact ⟨G1, F1, k.trans k1, s.after k k1, r⟩
def unA : Nat → List A
  | 0 => []
  | n + 1 => .un :: unA n
theorem unA_eq : ∀ n : Nat, unA n = List.replicate n .un
  | 0 => rfl
  | n + 1 => by
    rw [List.replicate_succ, ← unA_eq n] <;> rfl
def ends0 (R : A → Prop) : AE := ⟨R, fun _ => False, fun _ => False, fun _ _ => False⟩
theorem run0 {ι : Type} {box : ι → Bx → Prop} {c : ι → Ct} {N : List Str} {np : Nat} {vs : List V} {Q : VK} {E : XK} {t : TS} {f : ι → ASx} (h : SpL K box c vs H Q E) (hn : vs.length = np)
    (hl : ∀ dk B, box dk B → LS B K Wno t (f dk)) (hf : ∀ dk as R Z, as.length = np → c dk as R Z → f dk (ends0 R) (fun _ => R (.d .none)) (as ++ unA (N.length - np))) :
    t { nx := fun _ H1 => Q .non H1, rt := Q } (L2.start N vs) H := by
  obtain ⟨dk, B, G0, F0, as, bs, xs, R, Z, hb, l, n, S, hc, hR, hZ⟩ := h
  obtain ⟨G, F, k, s, S1⟩ := S.enter l n
  have hz := hf dk as R Z (by omega) hc
  have S2 : St B K G F ([] ++ (as ++ unA (N.length - np))) ([] ++ L2.start N vs) H := by
    have := S1 (N.length - np)
    unfold L2.start
    rw [hn, unA_eq]
    exact this
  refine hl dk B hb G F [] [] _ _ H (ends0 R) _ _ rfl S2 hz ⟨fun ρ' σ' H' r S' => ?_, fun v a H' r S' => hR a v H' r (St.leave k s S'), fun ρ' σ' H' r S' => r.elim, fun ρ' σ' H' r S' => r.elim, fun e ρ' σ' H' cv dd z _ => z.elim⟩
  refine hR _ _ H' r (St.leave k s ?_)
  exact St.keepFirst (θ := []) (τ := []) rfl (S'.push (v := .non) (y := .none) fun _ => .non)
theorem sp_len {ι : Type} {box : ι → Bx → Prop} {c : ι → Ct} {vs : List V} {Q : VK} {E : XK} {n : Nat} (hc : ∀ dk as R Z, c dk as R Z → as.length = n) (h : SpL K box c vs H Q E) : vs.length = n := by
  obtain ⟨dk, B, G0, F0, as, bs, xs, R, Z, hb, l, _, S, h, _⟩ := h
  rw [← l]
  exact hc dk as R Z h
end
end Lf
namespace Sx
open PySem PySem.Spec PyProof.Rows L2
def eNx (p q : Int × Int) : Int × Int := (p.1 - p.1 / q.1 * q.1, p.2 - p.1 / q.1 * q.2)
def eR (a b : Int) : Nat → Int × Int
  | 0 => (a, 0)
  | 1 => (b, 1)
  | n + 2 => eNx (eR a b n) (eR a b (n + 1))
structure EI (a b : Int) (n : Nat) (p q : Int × Int) : Prop where
  s0 : 0 ≤ q.1
  sr : q.1 < p.1
  sum : p.1 * (q.2.natAbs : Int) + q.1 * (p.2.natAbs : Int) = a
  sg : (p.2 ≤ 0 ∧ 0 < q.2) ∨ (0 ≤ p.2 ∧ q.2 < 0)
  d1 : a ∣ p.1 - p.2 * b
  d2 : a ∣ q.1 - q.2 * b
  gc : ∀ d : Int, (d ∣ p.1 ∧ d ∣ q.1) ↔ (d ∣ a ∧ d ∣ b)
  gr : 1 ≤ n → p.2.natAbs ≤ q.2.natAbs
  pw : p.1 * q.1 * 2 ^ n ≤ a * b
theorem EI.start {a b : Int} (h0 : 0 ≤ b) (h1 : b < a) : EI a b 0 (a, 0) (b, 1) where
  s0 := h0
  sr := h1
  sum := by
    show a * ((1 : Int).natAbs : Int) + b * ((0 : Int).natAbs : Int) = a
    simp
  sg := .inl ⟨Int.le_refl 0, (by decide : (0 : Int) < 1)⟩
  d1 := by
    show a ∣ a - 0 * b
    rw [Int.zero_mul, Int.sub_zero]
    exact Int.dvd_refl a
  d2 := by
    show a ∣ b - 1 * b
    rw [Int.one_mul, Int.sub_self]
    exact Int.dvd_zero a
  gc := fun d => Iff.rfl
  gr := fun h => absurd h (by decide)
  pw := by
    show a * b * 2 ^ 0 ≤ a * b
    rw [Int.pow_zero, Int.mul_one]
    exact Int.le_refl _
theorem EI.next {a b : Int} {n : Nat} {p q : Int × Int} (e : EI a b n p q) (hs : 0 < q.1) : EI a b (n + 1) q (eNx p q) := by
  obtain ⟨r, t⟩ := p
  obtain ⟨s, u⟩ := q
  have hs : 0 < s := hs
  have hr : s < r := e.sr
  have hm0 : 0 ≤ r % s := Int.emod_nonneg r (by omega)
  have hm1 : r % s < s := Int.emod_lt_of_pos r hs
  have hmod : r - r / s * s = r % s := by
    have := Int.emod_add_mul_ediv r s
    rw [Int.mul_comm] at this
    omega
  have hq : 1 ≤ r / s := Int.le_ediv_of_mul_le hs (by omega)
  have hsum : r * (u.natAbs : Int) + s * (t.natAbs : Int) = a := e.sum
  have hsg : (t ≤ 0 ∧ 0 < u) ∨ (0 ≤ t ∧ u < 0) := e.sg
  have hpw : r * s * 2 ^ n ≤ a * b := e.pw
  have hd1 : a ∣ r - t * b := e.d1
  have hd2 : a ∣ s - u * b := e.d2
  generalize hk : r / s = k at hmod hq
  have hdiv : r = k * s + r % s := by omega
  -- the new times
  have hku : k * (u.natAbs : Int) = (k * u).natAbs := by
    rw [Int.natAbs_mul]
    have : (k.natAbs : Int) = k := by omega
    rw [Int.natCast_mul, this]
  have hab : ((t - k * u).natAbs : Int) = (t.natAbs : Int) + k * (u.natAbs : Int) := by
    rw [hku]
    rcases hsg with ⟨h1, h2⟩ | ⟨h1, h2⟩
    · have : 0 < k * u := Int.mul_pos (by omega) h2
      omega
    · have : k * u < 0 := Int.mul_neg_of_pos_of_neg (by omega) h2
      omega
  have hkn : (u.natAbs : Int) ≤ k * (u.natAbs : Int) := by
    have := Int.mul_le_mul_of_nonneg_right hq (show (0 : Int) ≤ (u.natAbs : Int) by omega)
    rw [Int.one_mul] at this
    exact this
  have hnx : eNx (r, t) (s, u) = (r % s, t - k * u) := by
    show (r - r / s * s, t - r / s * u) = _
    rw [hk, hmod]
  rw [hnx]
  constructor
  · exact hm0
  · exact hm1
  · show s * ((t - k * u).natAbs : Int) + r % s * (u.natAbs : Int) = a
    rw [hab, Int.mul_add, ← hsum]
    have e1 : r * (u.natAbs : Int) = s * (k * (u.natAbs : Int)) + r % s * (u.natAbs : Int) := by
      have h2 : (k * s + r % s) * (u.natAbs : Int) = s * (k * (u.natAbs : Int)) + r % s * (u.natAbs : Int) := by
        rw [Int.add_mul, Int.mul_comm k s, Int.mul_assoc]
      rw [← h2, ← hdiv]
    rw [e1]
    omega
  · show (u ≤ 0 ∧ 0 < t - k * u) ∨ (0 ≤ u ∧ t - k * u < 0)
    rcases hsg with ⟨h1, h2⟩ | ⟨h1, h2⟩
    · have : 0 < k * u := Int.mul_pos (by omega) h2
      exact .inr ⟨by omega, by omega⟩
    · have : k * u < 0 := Int.mul_neg_of_pos_of_neg (by omega) h2
      exact .inl ⟨by omega, by omega⟩
  · exact hd2
  · show a ∣ r % s - (t - k * u) * b
    have e1 : r % s - (t - k * u) * b = (r - t * b) - k * (s - u * b) := by
      rw [← hmod, Int.sub_mul, Int.mul_sub, Int.mul_assoc]
      omega
    rw [e1]
    exact Int.dvd_sub hd1 (Int.dvd_mul_of_dvd_right hd2)
  · intro d
    refine Iff.trans ⟨fun h => ?_, fun h => ?_⟩ (e.gc d)
    · obtain ⟨h1, h2⟩ := h
      refine ⟨?_, h1⟩
      show d ∣ r
      rw [hdiv]
      exact Int.dvd_add (Int.dvd_mul_of_dvd_right h1) h2
    · obtain ⟨h1, h2⟩ := h
      refine ⟨h2, ?_⟩
      show d ∣ r % s
      rw [← hmod]
      exact Int.dvd_sub h1 (Int.dvd_mul_of_dvd_right h2)
  · intro _
    show u.natAbs ≤ (t - k * u).natAbs
    omega
  · show s * (r % s) * 2 ^ (n + 1) ≤ a * b
    have h1 : r % s * 2 ≤ r := by
      have : s ≤ k * s := by
        have := Int.mul_le_mul_of_nonneg_right hq (show (0 : Int) ≤ s by omega)
        rw [Int.one_mul] at this
        exact this
      omega
    have h2 : s * (r % s) * 2 ^ (n + 1) = (s * 2 ^ n) * (r % s * 2) := by
      rw [Int.pow_succ, Int.mul_assoc, Int.mul_assoc]
      congr 1
      rw [← Int.mul_assoc, Int.mul_comm (r % s) (2 ^ n), Int.mul_assoc]
    have h3 : (s * 2 ^ n) * (r % s * 2) ≤ (s * 2 ^ n) * r := Int.mul_le_mul_of_nonneg_left h1 (Int.mul_nonneg (by omega) (Int.le_of_lt (Int.pow_pos (by decide))))
    have h4 : (s * 2 ^ n) * r = r * s * 2 ^ n := by
      rw [Int.mul_comm, Int.mul_assoc]
    rw [h2]
    omega
def eGo (a b : Int) (k : Nat) : Prop := ∀ j, 1 ≤ j → j + 1 < k → 0 < (eR a b j).1
def eL (a b : Int) (k : Nat) : List (Int × Int) := (List.range k).map (eR a b)
structure eAll (a b : Int) (k : Nat) : Prop where
  two : 2 ≤ k
  go : eGo a b k
  nil : (eR a b (k - 1)).1 = 0
theorem eAll.uniq {a b : Int} {k l : Nat} (x : eAll a b k) (y : eAll a b l) : k = l := by
  have two := x.two
  have two' := y.two
  rcases Nat.lt_trichotomy k l with h | h | h
  · have := y.go (k - 1) (by omega) (by omega)
    rw [x.nil] at this
    exact absurd this (by decide)
  · exact h
  · have := x.go (l - 1) (by omega) (by omega)
    rw [y.nil] at this
    exact absurd this (by decide)
def eMost : Int := 10 ^ 70
def deckKv (g : Addr) (st : Int) : List (Key × V) := [(Sum.inr "deep", .ref g), (Sum.inr "state", .int st)]
structure Ds (H0 H : Hp) (b g : Addr) : Prop where
  sub : Same H0 H
  nb : H0 b = none
  ng : H0 g = none
  ls : ∃ ms : List Int, H g = some (.lst (ms.map V.int)) ∧ ms.length ≤ 63
  dc : ∃ st : Int, H b = some (.dK (deckKv g st))
namespace Ds
variable {H0 H H1 : Hp} {b g p : Addr} {o u : HO}
theorem bg (B : Ds H0 H b g) : b ≠ g := by
  obtain ⟨ms, h1, _⟩ := B.ls
  obtain ⟨st, h2⟩ := B.dc
  exact ne_of h2 h1 (fun z => nomatch z)
theorem pb (B : Ds H0 H b g) (n : H p = none) : p ≠ b := by
  obtain ⟨st, h2⟩ := B.dc
  exact (ne_of_none h2 n).symm
theorem pg (B : Ds H0 H b g) (n : H p = none) : p ≠ g := by
  obtain ⟨ms, h2, _⟩ := B.ls
  exact (ne_of_none h2 n).symm
theorem more (B : Ds H0 H b g) (s : Same H H1) : Ds H0 H1 b g := by
  obtain ⟨ms, h1, h2⟩ := B.ls
  obtain ⟨st, h3⟩ := B.dc
  exact ⟨B.sub.trans s, B.nb, B.ng, ⟨ms, s _ _ h1, h2⟩, ⟨st, s _ _ h3⟩⟩
theorem new (B : Ds H0 H b g) (n : H p = none) : Ds (upd H0 p o) (upd H p o) b g := by
  have B1 := B.more (same_new (o := o) n)
  refine ⟨?_, by rw [upd_ne (B.pb n).symm]; exact B.nb, by rw [upd_ne (B.pg n).symm]; exact B.ng, B1.ls, B1.dc⟩
  intro c x e
  by_cases h : c = p
  · subst h
    rw [upd_same] at e ⊢
    exact e
  · rw [upd_ne h] at e ⊢
    exact B.sub c x e
theorem put (B : Ds H0 H b g) (e : H0 p = some u) : Ds (upd H0 p o) (upd H p o) b g := by
  have pb : p ≠ b := ne_of_none e B.nb
  have pg : p ≠ g := ne_of_none e B.ng
  obtain ⟨ms, h1, h2⟩ := B.ls
  obtain ⟨st, h3⟩ := B.dc
  refine ⟨?_, by rw [upd_ne pb.symm]; exact B.nb, by rw [upd_ne pg.symm]; exact B.ng, ⟨ms, by rw [upd_ne pg.symm]; exact h1, h2⟩, ⟨st, by rw [upd_ne pb.symm]; exact h3⟩⟩
  intro c x h
  by_cases hc : c = p
  · subst hc
    rw [upd_same] at h ⊢
    exact h
  · rw [upd_ne hc] at h ⊢
    exact B.sub c x h
theorem less {H2 : Hp} (B : Ds H0 H b g) (s : Same H2 H0) : Ds H2 H b g := ⟨s.trans B.sub, s.free B.nb, s.free B.ng, B.ls, B.dc⟩
theorem own (B : Ds H0 H b g) (e : H p = some o) (pb : p ≠ b) (pg : p ≠ g) : Ds (upd H0 p o) H b g := by
  refine ⟨?_, by rw [upd_ne pb.symm]; exact B.nb, by rw [upd_ne pg.symm]; exact B.ng, B.ls, B.dc⟩
  intro c x h
  by_cases hc : c = p
  · subst hc
    rw [upd_same] at h
    cases h
    exact e
  · rw [upd_ne hc] at h
    exact B.sub c x h
end Ds
end Sx
namespace K30
open PySem PySem.Spec PyProof.Rows L2 Sx
def sp__law_draw (_ : PySem.W.Frag) : Sp := fun vs H Q _ => ∃ (H0 : Hp) (b g : Addr) (m : Int), vs = [.ref b, .int m] ∧ Ds H0 H b g ∧ Small m ∧ ∀ (r : Int) (H' : Hp), 0 ≤ r → r < m → Ds H0 H' b g → Q (.int r) H'
def sp__law_pick (K : PySem.W.Frag) : Sp := fun vs H Q _ => ∃ (H0 : Hp) (b g a : Addr) (xs : List V), vs = [.ref b, .ref a] ∧ Ds H0 H b g ∧ (SqL K H0 a xs ∨ SqT K H0 a xs) ∧ xs ≠ [] ∧ xs.length ≤ 100000 ∧
  ∀ (i : Nat) (x : V) (H' : Hp), xs[i]? = some x → Ds H0 H' b g → Q x H'
def sp__law_deck (K : PySem.W.Frag) : Sp := fun vs H Q _ => ∃ (a : Addr) (ns : List Int), vs = [.ref a] ∧ SqL K H a (ns.map V.int) ∧ ns.length ≤ 63 ∧ ∀ (b g : Addr) (H' : Hp), Ds H H' b g → Q (.ref b) H'
structure EP (a b : Int) : Prop where
  b0 : 0 ≤ b
  lt : b < a
  most : a ≤ eMost
def sp__law_divisor (_ : PySem.W.Frag) : Sp := fun vs H Q _ => ∃ (x y : Int), vs = [.int x, .int y] ∧ 0 < x ∧ 0 ≤ y ∧ ∀ z : Int, 0 ≤ z → (∀ d : Int, d ∣ z ↔ (d ∣ x ∧ d ∣ y)) → Q (.int z) H
end K30
namespace Sx
open PySem PySem.Spec PyProof.Rows L2
def vatL (g : Addr) (st ct : Int) : List V := [.ref g, .int st, .int ct]
structure Vs (H0 H : Hp) (b g : Addr) : Prop where
  sub : Same H0 H
  nb : H0 b = none
  ng : H0 g = none
  ls : ∃ ms : List Int, H g = some (.lst (ms.map V.int)) ∧ ms.length ≤ 63
  dc : ∃ st ct : Int, H b = some (.lst (vatL g st ct))
theorem vat_ne {g : Addr} {st ct : Int} {ms : List Int} : HO.lst (vatL g st ct) ≠ HO.lst (ms.map V.int) := by
  intro e
  have e := HO.lst.inj e
  cases ms with
  | nil => exact nomatch e
  | cons m ms =>
    have := (List.cons.inj e).1
    exact nomatch this
namespace Vs
variable {H0 H H1 : Hp} {b g p : Addr} {o u : HO}
theorem bg (B : Vs H0 H b g) : b ≠ g := by
  obtain ⟨ms, h1, _⟩ := B.ls
  obtain ⟨st, ct, h2⟩ := B.dc
  rintro rfl
  rw [h2] at h1
  exact vat_ne (Option.some.inj h1)
theorem pb (B : Vs H0 H b g) (n : H p = none) : p ≠ b := by
  obtain ⟨st, ct, h2⟩ := B.dc
  exact (ne_of_none h2 n).symm
theorem pg (B : Vs H0 H b g) (n : H p = none) : p ≠ g := by
  obtain ⟨ms, h2, _⟩ := B.ls
  exact (ne_of_none h2 n).symm
theorem more (B : Vs H0 H b g) (s : Same H H1) : Vs H0 H1 b g := by
  obtain ⟨ms, h1, h2⟩ := B.ls
  obtain ⟨st, ct, h3⟩ := B.dc
  exact ⟨B.sub.trans s, B.nb, B.ng, ⟨ms, s _ _ h1, h2⟩, ⟨st, ct, s _ _ h3⟩⟩
theorem new (B : Vs H0 H b g) (n : H p = none) : Vs (upd H0 p o) (upd H p o) b g := by
  have B1 := B.more (same_new (o := o) n)
  refine ⟨?_, by rw [upd_ne (B.pb n).symm]; exact B.nb, by rw [upd_ne (B.pg n).symm]; exact B.ng, B1.ls, B1.dc⟩
  intro c x e
  by_cases h : c = p
  · subst h
    rw [upd_same] at e ⊢
    exact e
  · rw [upd_ne h] at e ⊢
    exact B.sub c x e
theorem put (B : Vs H0 H b g) (e : H0 p = some u) : Vs (upd H0 p o) (upd H p o) b g := by
  have pb : p ≠ b := ne_of_none e B.nb
  have pg : p ≠ g := ne_of_none e B.ng
  obtain ⟨ms, h1, h2⟩ := B.ls
  obtain ⟨st, ct, h3⟩ := B.dc
  refine ⟨?_, by rw [upd_ne pb.symm]; exact B.nb, by rw [upd_ne pg.symm]; exact B.ng, ⟨ms, by rw [upd_ne pg.symm]; exact h1, h2⟩, ⟨st, ct, by rw [upd_ne pb.symm]; exact h3⟩⟩
  intro c x h
  by_cases hc : c = p
  · subst hc
    rw [upd_same] at h ⊢
    exact h
  · rw [upd_ne hc] at h ⊢
    exact B.sub c x h
theorem less {H2 : Hp} (B : Vs H0 H b g) (s : Same H2 H0) : Vs H2 H b g := ⟨s.trans B.sub, s.free B.nb, s.free B.ng, B.ls, B.dc⟩
theorem own (B : Vs H0 H b g) (e : H p = some o) (pb : p ≠ b) (pg : p ≠ g) : Vs (upd H0 p o) H b g := by
  refine ⟨?_, by rw [upd_ne pb.symm]; exact B.nb, by rw [upd_ne pg.symm]; exact B.ng, B.ls, B.dc⟩
  intro c x h
  by_cases hc : c = p
  · subst hc
    rw [upd_same] at h
    cases h
    exact e
  · rw [upd_ne hc] at h
    exact B.sub c x h
end Vs
end Sx
namespace Vat
open PySem PySem.Spec PyProof.Rows L2 Sx
def sp__law_draw (_ : PySem.W.Frag) : Sp := fun vs H Q _ => ∃ (H0 : Hp) (b g : Addr) (m : Int), vs = [.ref b, .int m] ∧ Vs H0 H b g ∧ Small m ∧ ∀ (r : Int) (H' : Hp), 0 ≤ r → r < m → Vs H0 H' b g → Q (.int r) H'
def sp__law_pick (K : PySem.W.Frag) : Sp := fun vs H Q _ => ∃ (H0 : Hp) (b g a : Addr) (xs : List V), vs = [.ref b, .ref a] ∧ Vs H0 H b g ∧ (SqL K H0 a xs ∨ SqT K H0 a xs) ∧ xs ≠ [] ∧ xs.length ≤ 100000 ∧
  ∀ (i : Nat) (x : V) (H' : Hp), xs[i]? = some x → Vs H0 H' b g → Q x H'
def sp__law_mixed (K : PySem.W.Frag) : Sp := fun vs H Q _ => ∃ (H0 : Hp) (b g a : Addr) (ns : List Int), vs = [.ref b, .ref a] ∧ Vs H0 H b g ∧ (SqL K H0 a (ns.map V.int) ∨ SqT K H0 a (ns.map V.int)) ∧ ns.length ≤ 1000 ∧
  ∀ (ms : List Int) (p : Addr) (H' : Hp), ms.Perm ns → H0 p = none → H' p = some (.lst (ms.map V.int)) → p ≠ b → p ≠ g → Vs H0 H' b g → Q (.ref p) H'
structure Mods (most : Int) (ns : List Int) : Prop where
  one : 1 ≤ ns.length
  ten : ns.length ≤ 10
  mod : ∀ n ∈ ns, 2 ≤ n ∧ n ≤ most
structure Wrd (ns : List Int) (ws : List (Option Int)) : Prop where
  len : ws.length = ns.length
  fit : ∀ i r, ws[i]? = some (some r) → 0 ≤ r ∧ r < ns.getD i 0
theorem Wrd.put {ns : List Int} {ws : List (Option Int)} {k : Nat} {o : Option Int} (w : Wrd ns ws) (h : ∀ r, o = some r → 0 ≤ r ∧ r < ns.getD k 0) : Wrd ns (ws.set k o) := by
  refine ⟨by rw [List.length_set]; exact w.len, fun i r e => ?_⟩
  rw [List.getElem?_set] at e
  split at e
  · rename_i hk
    subst hk
    split at e
    · exact h r (Option.some.inj e)
    · exact nomatch e
  · exact w.fit i r e
theorem ixN_in {n : Nat} {i : Int} (h0 : 0 ≤ i) (h1 : i < n) : ixN n i = some i.toNat := by
  unfold ixN
  rw [if_pos h0, if_pos h1]
end Vat
namespace Lf
open PySem PySem.Spec PyProof.Rows L2 Sx

def gI0 (k : Int → Int → PyData) : G2 := fun x y R => match x, y with
  | .int i, .int j => R (.d (k i j))
  | _, _ => False
def gI (C : Int → Int → Prop) (k : Int → Int → PyData) : G2 := fun x y R => match x, y with
  | .int i, .int j => C i j ∧ R (.d (k i j))
  | _, _ => False
def gU (k : Int → PyData) : G1 := fun x R => match x with
  | .int i => R (.d (k i))
  | _ => False
def isNone : PyData → Bool
  | .none => true
  | _ => false
def gIsN : G2 := fun x y R => match y with
  | .none => R (.d (.bool (isNone x)))
  | _ => False
def gNotN : G2 := fun x y R => match y with
  | .none => R (.d (.bool (!isNone x)))
  | _ => False
def gEq : G2 := fun x y R => x.plain = true ∧ y.plain = true ∧ min x.depth y.depth ≤ 64 ∧ R (.d (.bool (PyData.eqv x y)))
def gNe : G2 := fun x y R => x.plain = true ∧ y.plain = true ∧ min x.depth y.depth ≤ 64 ∧ R (.d (.bool (!PyData.eqv x y)))
def gIn : G2 := fun x y R => match y with
  | .list ys => PyData.plainAll ys = true ∧ x.plain = true ∧ min (PyData.depthAll ys) x.depth ≤ 60 ∧ R (.d (.bool (ys.any fun z => PyData.eqv z x)))
  | .tuple ys => PyData.plainAll ys = true ∧ x.plain = true ∧ min (PyData.depthAll ys) x.depth ≤ 60 ∧ R (.d (.bool (ys.any fun z => PyData.eqv z x)))
  | _ => False
def gNotIn : G2 := fun x y R => match y with
  | .list ys => PyData.plainAll ys = true ∧ x.plain = true ∧ min (PyData.depthAll ys) x.depth ≤ 60 ∧ R (.d (.bool (!ys.any fun z => PyData.eqv z x)))
  | .tuple ys => PyData.plainAll ys = true ∧ x.plain = true ∧ min (PyData.depthAll ys) x.depth ≤ 60 ∧ R (.d (.bool (!ys.any fun z => PyData.eqv z x)))
  | _ => False
def gIx : G2 := fun x y R => match x, y with
  | .tuple ds, .int i => ∃ d, atI ds i = some d ∧ R (.d d)
  | .list ds, .int i => ∃ d, atI ds i = some d ∧ R (.d d)
  | _, _ => False
def gCat : G2 := fun x y R => match x, y with
  | .tuple ds, .tuple es => ds.length + es.length ≤ 4000000 ∧ R (.d (.tuple (ds ++ es)))
  | .list ds, .list es => ds.length + es.length ≤ 4000000 ∧ R (.own (ds ++ es))
  | .int i, .int j => R (.d (.int (i + j)))
  | _, _ => False
def gMul : G2 := fun x y R => match x, y with
  | .int i, .int j => CMulW i j ∧ R (.d (.int (i * j)))
  | .tuple ds, .int k => ds ≠ [] ∧ 0 ≤ k ∧ k ≤ 1000 ∧ ds.length ≤ 1000 ∧ R (.d (.tuple (List.replicate k.toNat ds).flatten))
  | .list ds, .int k => 0 ≤ k ∧ ds.length * k.toNat ≤ 4000000 ∧ k < 2 ^ 63 ∧ R (.own (List.replicate k.toNat ds).flatten)
  | _, _ => False
def gCut : PyData → Option Int → Option Int → (A → Prop) → Prop := fun x lo hi R => match x with
  | .tuple ds => R (.d (.tuple (Sx.cutD ds lo hi)))
  | .list ds => R (.own (Sx.cutD ds lo hi))
  | _ => False
def intD : PyData → Bool
  | .int _ => true
  | .bool _ => true
  | _ => false
def boolD : PyData → Bool
  | .bool _ => true
  | _ => false
def strD : PyData → Bool
  | .str _ => true
  | _ => false
def gP (p : PyData → Bool) : G1 := fun x R => R (.d (.bool (p x)))
def gLen : GB := fun as R => A.one as fun a => a.seq fun ds => R (.d (.int (ds.length : Nat)))
def gTuple : GB := fun as R => A.one as fun a => a.seq fun ds => R (.d (.tuple ds))
def gList : GB := fun as R => A.one as fun a => a.seq fun ds => R (.own ds)
def gInt : GB := fun as R => match as with
  | [.d (.int i)] => R (.d (.int i))
  | [.d (.bool b)] => R (.d (.int (if b then 1 else 0)))
  | _ => False
def gAbs : GB := fun as R => match as with
  | [.d (.int i)] => R (.d (.int (if i < 0 then -i else i)))
  | _ => False
def gRepr : GB := fun as R => match as with
  | [.d x] => Shows x ∧ R (.d (.str x.shown))
  | _ => False
def boolsD : List PyData → Option (List Bool)
  | [] => some []
  | .bool b :: ds => (boolsD ds).map (b :: ·)
  | _ => none
def intsD : List PyData → Option (List Int)
  | [] => some []
  | .int i :: ds => (intsD ds).map (i :: ·)
  | _ => none
def gAll : GB := fun as R => match as with
  | [.d (.list ds)] => ∃ bs, boolsD ds = some bs ∧ R (.d (.bool (bs.all id)))
  | _ => False
def gAny : GB := fun as R => match as with
  | [.d (.list ds)] => ∃ bs, boolsD ds = some bs ∧ R (.d (.bool (bs.any id)))
  | _ => False
def gSum : GB := fun as R => match as with
  | [.d (.list ds)] => ∃ ns, intsD ds = some ns ∧ R (.d (.int ns.sum))
  | _ => False
def gGcd : GB := fun as R => match as with
  | [.d (.int i), .d (.int j)] => R (.d (.int ((Nat.gcd i.natAbs j.natAbs : Nat) : Int)))
  | _ => False
def gSorted : GB := fun as R => match as with
  | [.d (.list ds)] => ∃ ns, intsD ds = some ns ∧ ∀ ns' : List Int, ns'.Perm ns → ns'.Pairwise (· ≤ ·) → R (.own (ns'.map PyData.int))
  | _ => False

section
variable {K : PySem.W.Frag} {B : Bx} {W : Wx} {G0 F0 H : Hp} {θ ρ as bs : List A} {τ xs ys : List (Option V)} {σ : L2.St} {a b : A} {x : Option V} {v w : V}
theorem reads_of {X : Cx} {pins : List (Addr × Obj)} {σ : L2.St} {H : Hp} {s : Shared} (I : Inv X pins σ H s) {d : PyData} {v : V} {u : Value} (h : Dv X.K H v d) (p : d.plain = true) (r : RelV v u) : ∃ as, Reads s.heap u d as := by
  have key : ∀ d v, d.plain = true → Dv X.K H v d → Dp X.K H v d := by
    intro d
    refine PyData.rec (motive_1 := fun d => ∀ v, d.plain = true → Dv X.K H v d → Dp X.K H v d) (motive_2 := fun ds => ∀ vs, PyData.plainAll ds = true → DvAll X.K H vs ds → DpAll X.K H vs ds) (motive_3 := fun _ => True) (motive_4 := fun _ => True) ?_ ?_ ?_ ?_ ?_ ?_ ?_ ?_ ?_ ?_ ?_ ?_ d
    · intro v _ h; cases h; exact .non
    · intro b v _ h; cases h; exact .bl _
    · intro i v _ h; cases h; exact .int _
    · intro x v _ h; cases h; exact .str _
    · intro ds ih v p h
      cases h with
      | lst e ha => exact .lst (.of e) (ih _ p ha)
    · intro ds ih v p h
      cases h with
      | tup e ha => exact .tup e (ih _ p ha)
    · intro kvs _ v p h
      exact nomatch p
    · intro vs _ h; cases h; exact .nil
    · intro d ds h1 h2 vs p h
      have p' : d.plain = true ∧ PyData.plainAll ds = true := by simpa [PyData.plainAll] using p
      cases h with
      | cons r t => exact .cons (h1 _ p'.1 r) (h2 _ p'.2 t)
    · trivial
    · intros; trivial
    · intros; trivial
  exact Dp.reads I d v u (key d v p h) r
def rEqP (K : PySem.W.Frag) : R2 := fun x y H Q => ∃ d e, Dv K H x d ∧ Dv K H y e ∧ d.plain = true ∧ e.plain = true ∧ min d.depth e.depth ≤ 64 ∧ Q (.bl (PyData.eqv d e)) H
def rNeP (K : PySem.W.Frag) : R2 := fun x y H Q => ∃ d e, Dv K H x d ∧ Dv K H y e ∧ d.plain = true ∧ e.plain = true ∧ min d.depth e.depth ≤ 64 ∧ Q (.bl (!PyData.eqv d e)) H
theorem op_eqP {X : Cx} (hu : X.A.units + 64 < cLine) : OpR X (compareOp .Eq) (rEqP X.K) := by
  intro pins s σ H x y v u Q I rx ry h
  obtain ⟨d, e, hd, he, pd, pe, hz, q⟩ := h
  obtain ⟨as, r1⟩ := reads_of I hd pd rx
  obtain ⟨bs, r2⟩ := reads_of I he pe ry
  exact SeqAt.eq_plain r1 r2 pd pe (by omega) ⟨.bl _, H, I, rfl, q⟩
theorem op_neP {X : Cx} (hu : X.A.units + 64 < cLine) : OpR X (compareOp .NotEq) (rNeP X.K) := by
  intro pins s σ H x y v u Q I rx ry h
  obtain ⟨d, e, hd, he, pd, pe, hz, q⟩ := h
  obtain ⟨as, r1⟩ := reads_of I hd pd rx
  obtain ⟨bs, r2⟩ := reads_of I he pe ry
  exact SeqAt.ne_plain r1 r2 pd pe (by omega) ⟨.bl _, H, I, rfl, q⟩
def rInP (K : PySem.W.Frag) (neg : Bool) : R2 := fun x y H Q => ∃ d e ys, Dv K H x d ∧ Dv K H y e ∧ (e = .list ys ∨ e = .tuple ys) ∧ PyData.plainAll ys = true ∧ d.plain = true ∧ min (PyData.depthAll ys) d.depth ≤ 60 ∧ Q (.bl (if neg then !(ys.any fun z => PyData.eqv z d) else ys.any fun z => PyData.eqv z d)) H
theorem op_inP {X : Cx} (hu : X.A.units + 64 < cLine) : OpR X (compareOp .In) (rInP X.K false) := by
  intro pins s σ H x y v u Q I rx ry h
  obtain ⟨d, e, ys, hd, he, hc, pd, pe, hz, q⟩ := h
  obtain ⟨as, r1⟩ := reads_of I hd pe rx
  rcases hc with rfl | rfl
  · obtain ⟨bs, r2⟩ := reads_of I he (by rw [PyData.plain]; exact pd) ry
    exact SeqAt.in_list_data r2 r1 pd pe (by omega) ⟨.bl _, H, I, rfl, q⟩
  · obtain ⟨bs, r2⟩ := reads_of I he (by rw [PyData.plain]; exact pd) ry
    exact SeqAt.in_tuple_data r2 r1 pd pe (by omega) ⟨.bl _, H, I, rfl, q⟩
theorem op_notInP {X : Cx} (hu : X.A.units + 64 < cLine) : OpR X (compareOp .NotIn) (rInP X.K true) := by
  intro pins s σ H x y v u Q I rx ry h
  obtain ⟨d, e, ys, hd, he, hc, pd, pe, hz, q⟩ := h
  obtain ⟨as, r1⟩ := reads_of I hd pe rx
  rcases hc with rfl | rfl
  · obtain ⟨bs, r2⟩ := reads_of I he (by rw [PyData.plain]; exact pd) ry
    exact SeqAt.notIn_list_data r2 r1 pd pe (by omega) ⟨.bl _, H, I, rfl, q⟩
  · obtain ⟨bs, r2⟩ := reads_of I he (by rw [PyData.plain]; exact pd) ry
    exact SeqAt.notIn_tuple_data r2 r1 pd pe (by omega) ⟨.bl _, H, I, rfl, q⟩
theorem St.two {x y : PyData} (S : St B K G0 F0 (.d y :: .d x :: as) (some w :: some v :: xs) H) : Dv K H v x ∧ Dv K H w y := ⟨S.pop.get, S.get⟩
theorem ol_I0 {f : Int → Int → V} {k : Int → Int → PyData} (hk : ∀ i j G, Dv K G (f i j) (k i j)) : OpL K (rI0 f) (gI0 k) := by
  intro B G0 F0 as xs H v w x y R Q S h q
  cases x <;> cases y <;> try exact h.elim
  obtain ⟨h1, h2⟩ := S.two
  cases h1
  cases h2
  exact ⟨_, _, rfl, rfl, q _ H _ h (S.pop.pop.push fun G => hk _ _ G)⟩
theorem ol_I {C : Int → Int → Prop} {f : Int → Int → V} {k : Int → Int → PyData} (hk : ∀ i j G, Dv K G (f i j) (k i j)) : OpL K (rI C f) (gI C k) := by
  intro B G0 F0 as xs H v w x y R Q S h q
  cases x <;> cases y <;> try exact h.elim
  obtain ⟨h1, h2⟩ := S.two
  cases h1
  cases h2
  exact ⟨_, _, rfl, rfl, h.1, q _ H _ h.2 (S.pop.pop.push fun G => hk _ _ G)⟩
theorem ul_U {f : Int → V} {k : Int → PyData} (hk : ∀ i G, Dv K G (f i) (k i)) : UnL K (rU f) (gU k) := by
  intro B G0 F0 as xs H v x R Q S h q
  cases x <;> try exact h.elim
  have h1 := S.get
  cases h1
  exact ⟨_, rfl, q _ H _ h (S.pop.push fun G => hk _ G)⟩
theorem dv_non {G : Hp} {v : V} {x : PyData} (h : Dv K G v x) : decide (v = .non) = isNone x := by cases h <;> rfl
theorem ol_isN : OpL K (fun x y H Q => y = .non ∧ Q (.bl (decide (x = .non))) H) gIsN := by
  intro B G0 F0 as xs H v w x y R Q S h q
  cases y <;> try exact h.elim
  obtain ⟨h1, h2⟩ := S.two
  cases h2
  rw [dv_non h1]
  exact ⟨rfl, q _ H _ h (S.pop.pop.push fun G => .bl _)⟩
theorem ol_notN : OpL K (fun x y H Q => y = .non ∧ Q (.bl (!decide (x = .non))) H) gNotN := by
  intro B G0 F0 as xs H v w x y R Q S h q
  cases y <;> try exact h.elim
  obtain ⟨h1, h2⟩ := S.two
  cases h2
  rw [dv_non h1]
  exact ⟨rfl, q _ H _ h (S.pop.pop.push fun G => .bl _)⟩
theorem ol_eq : OpL K (rEqP K) gEq := fun B G0 F0 as xs H v w x y R Q S h q => ⟨x, y, S.two.1, S.two.2, h.1, h.2.1, h.2.2.1, q _ H _ h.2.2.2 (S.pop.pop.push fun G => .bl _)⟩
theorem ol_ne : OpL K (rNeP K) gNe := fun B G0 F0 as xs H v w x y R Q S h q => ⟨x, y, S.two.1, S.two.2, h.1, h.2.1, h.2.2.1, q _ H _ h.2.2.2 (S.pop.pop.push fun G => .bl _)⟩
theorem ol_in : OpL K (rInP K false) gIn := by
  intro B G0 F0 as xs H v w x y R Q S h q
  cases y <;> try exact h.elim
  · exact ⟨x, _, _, S.two.1, S.two.2, .inl rfl, h.1, h.2.1, h.2.2.1, q _ H _ h.2.2.2 (S.pop.pop.push fun G => .bl _)⟩
  · exact ⟨x, _, _, S.two.1, S.two.2, .inr rfl, h.1, h.2.1, h.2.2.1, q _ H _ h.2.2.2 (S.pop.pop.push fun G => .bl _)⟩
theorem ol_notIn : OpL K (rInP K true) gNotIn := by
  intro B G0 F0 as xs H v w x y R Q S h q
  cases y <;> try exact h.elim
  · exact ⟨x, _, _, S.two.1, S.two.2, .inl rfl, h.1, h.2.1, h.2.2.1, q _ H _ h.2.2.2 (S.pop.pop.push fun G => .bl _)⟩
  · exact ⟨x, _, _, S.two.1, S.two.2, .inr rfl, h.1, h.2.1, h.2.2.1, q _ H _ h.2.2.2 (S.pop.pop.push fun G => .bl _)⟩
theorem atI_dv {G : Hp} {ws : List V} {ds : List PyData} {i : Int} {d : PyData} (h : DvAll K G ws ds) (e : atI ds i = some d) : ∃ u, atI ws i = some u ∧ Dv K G u d := by
  unfold atI at e ⊢
  rw [dva_len h]
  cases e1 : ixN ds.length i with
  | none =>
    rw [e1] at e
    exact nomatch e
  | some j =>
    rw [e1] at e
    exact dva_at h e
structure Opn (B : Bx) (K : PySem.W.Frag) (G0 F0 : Hp) (as : List A) (xs : List (Option V)) (H G : Hp) : Prop where
  sg : Same G H
  pu : ∀ u d, Dv K G u d → St B K G0 F0 (.d d :: as) (some u :: xs) H
  nt : ∀ p us ds, H p = none → DvAll K G us ds → St B K G0 F0 (.d (.tuple ds) :: as) (some (.ref p) :: xs) (upd H p (.tup us))
  nl : ∀ p us ds, H p = none → DvAll K G us ds → St B K G0 F0 (.own ds :: as) (some (.ref p) :: xs) (upd H p (.lst us))
theorem opn {G F : Hp} (k : Kn B G0 F0 G F H) (s : Sl K G F0 F as xs) : Opn B K G0 F0 as xs H G := by
  have S : St B K G0 F0 as xs H := ⟨G, F, k, s⟩
  refine ⟨k.gh, fun u d h => ⟨G, F, k, s.push ⟨_, rfl, h⟩ fun z => nomatch z⟩, fun p us ds np h => ?_, fun p us ds np h => ?_⟩
  · have nF := k.sub.free np
    have nG := k.s.free nF
    have sg : Same G (upd G p (.tup us)) := same_new nG
    refine ⟨_, _, k.newG np (.tup us), Sl.push (s.grow sg fun q u e1 e2 e3 => ?_) ⟨_, rfl, .tup (.of upd_same) (dva_same sg _ _ h)⟩ fun z => nomatch z⟩
    have hq := ne_of_none e1 nF
    exact ⟨upd_ne hq, by rw [upd_ne hq]; exact e2⟩
  · have nF := k.sub.free np
    have nG := k.s.free nF
    refine ⟨_, _, k.newF np (.lst us), Sl.push (s.grow (Same.refl _) fun q u e1 e2 e3 => ?_) ⟨p, us, rfl, upd_same, nG, k.old nF, h⟩ fun _ q e j c e2 oc e3 => ?_⟩
    · exact ⟨upd_ne (ne_of_none e1 nF), e2⟩
    · cases e
      obtain ⟨x, e4, ok⟩ := s.ok j _ e2
      obtain ⟨q, u, e5, e6, _⟩ := ok.at oc
      rw [e3] at e4
      cases e4
      cases e5
      rw [nF] at e6
      cases e6
theorem St.open2 {x y : PyData} (S : St B K G0 F0 (.d y :: .d x :: as) (some w :: some v :: xs) H) : ∃ G, Dv K G v x ∧ Dv K G w y ∧ Opn B K G0 F0 as xs H G := by
  obtain ⟨G, F, k, s⟩ := S.ex
  obtain ⟨z, ez, v', e3, hd⟩ := s.ok 1 _ rfl
  cases ez
  cases e3
  obtain ⟨z, ez, w', e3, hd2⟩ := s.ok 0 _ rfl
  cases ez
  cases e3
  exact ⟨G, hd, hd2, opn k s.pop.pop⟩
theorem St.open1 {x : PyData} (S : St B K G0 F0 (.d x :: as) (some v :: xs) H) : ∃ G, Dv K G v x ∧ Opn B K G0 F0 as xs H G := by
  obtain ⟨G, F, k, s⟩ := S.ex
  obtain ⟨z, ez, v', e3, hd⟩ := s.ok 0 _ rfl
  cases ez
  cases e3
  exact ⟨G, hd, opn k s.pop⟩
theorem ol_ix : OpL K (rIx K) gIx := by
  intro B G0 F0 as xs H v w x y R Q S h q
  obtain ⟨G, h1, h2, O⟩ := S.open2
  have sg := O.sg
  have pu := O.pu
  cases x <;> cases y <;> try exact h.elim
  · obtain ⟨d, e, r⟩ := h
    cases h2
    obtain ⟨p, ws, rfl, e1, ha⟩ := lst_in h1
    obtain ⟨u, e2, hu⟩ := atI_dv ha e
    exact .inl ⟨p, ws, _, u, rfl, rfl, .of (sg _ _ e1), e2, q _ H _ r (pu _ _ hu)⟩
  · obtain ⟨d, e, r⟩ := h
    cases h2
    obtain ⟨p, ws, rfl, e1, ha⟩ := tup_in h1
    obtain ⟨u, e2, hu⟩ := atI_dv ha e
    exact .inr (.inl ⟨p, ws, _, u, rfl, rfl, Sx.Same.tup sg e1, e2, q _ H _ r (pu _ _ hu)⟩)
theorem szL {n : Nat} (h : n ≤ 4000000) : n ≤ sizeLine := Nat.le_trans h (by decide)
def rPlus (K : PySem.W.Frag) : R2 := fun x y H Q => rCatA K x y H Q ∨ rCat x y H Q ∨ rI0 (fun i j => .int (i + j)) x y H Q
theorem op_plus {X : Cx} : OpR X (binaryOp .Add) (rPlus X.K) := L2.OpR.or op_catA (L2.OpR.or op_cat op_add)
theorem ol_plus : OpL K (rPlus K) gCat := by
  intro B G0 F0 as xs H v w x y R Q S h q
  obtain ⟨G, h1, h2, O⟩ := S.open2
  have sg := O.sg
  have pu := O.pu
  cases x <;> cases y <;> try exact h.elim
  · cases h1
    cases h2
    exact .inr (.inr ⟨_, _, rfl, rfl, q _ H _ h (pu _ _ (.int _))⟩)
  · obtain ⟨hz, r⟩ := h
    obtain ⟨p, ws, rfl, e1, ha⟩ := lst_in h1
    obtain ⟨p2, ws2, rfl, e2, ha2⟩ := lst_in h2
    have l1 := dva_len ha
    have l2 := dva_len ha2
    exact .inr (.inl ⟨p, p2, ws, ws2, rfl, rfl, sg _ _ e1, sg _ _ e2, szL (by omega), fun n nn => q _ _ _ r (O.nl _ _ _ nn (dva_app ha ha2))⟩)
  · obtain ⟨hz, r⟩ := h
    obtain ⟨p, ws, rfl, e1, ha⟩ := tup_in h1
    obtain ⟨p2, ws2, rfl, e2, ha2⟩ := tup_in h2
    have l1 := dva_len ha
    have l2 := dva_len ha2
    have hc := dva_app ha ha2
    refine .inl ⟨p, p2, ws, ws2, rfl, rfl, Sx.Same.tup sg e1, Sx.Same.tup sg e2, szL (by omega), ?_, ?_, ?_⟩
    · rintro rfl
      exact q _ H _ r (pu _ _ (.tup e2 hc))
    · rintro _ rfl
      rw [List.append_nil] at hc
      exact q _ H _ r (pu _ _ (.tup e1 hc))
    · intro _ _ n nn
      exact q _ _ _ r (O.nt _ _ _ nn hc)
def rTimes (K : PySem.W.Frag) : R2 := fun x y H Q => rI CMulW (fun i j => .int (i * j)) x y H Q ∨ rRepZ K x y H Q ∨ rRep x y H Q
theorem op_times {X : Cx} : OpR X (binaryOp .Mult) (rTimes X.K) := L2.OpR.or op_mulW (L2.OpR.or op_repZ op_rep)
theorem ol_times : OpL K (rTimes K) gMul := by
  intro B G0 F0 as xs H v w x y R Q S h q
  obtain ⟨G, h1, h2, O⟩ := S.open2
  cases x <;> cases y <;> try exact h.elim
  · cases h1
    cases h2
    exact .inl ⟨_, _, rfl, rfl, h.1, q _ H _ h.2 (O.pu _ _ (.int _))⟩
  · rename_i ds k
    obtain ⟨k0, kz, k3, r⟩ := h
    cases h2
    obtain ⟨p, ws, rfl, e1, ha⟩ := lst_in h1
    have l1 := dva_len ha
    exact .inr (.inr ⟨p, _, ws, rfl, rfl, O.sg _ _ e1, by omega, k3, by rw [l1]; exact szL kz, fun n nn => q _ _ _ r (O.nl _ _ _ nn (dva_rep ha _))⟩)
  · rename_i ds k
    obtain ⟨k0, k1, k2, k3, r⟩ := h
    cases h2
    obtain ⟨p, ws, rfl, e1, ha⟩ := tup_in h1
    have l1 := dva_len ha
    have hne : ws ≠ [] := fun e => k0 (List.eq_nil_of_length_eq_zero (by rw [← l1, e] <;> rfl))
    refine .inr (.inl ?_)
    have r2 := dva_rep ha k.toNat
    by_cases z2 : 2 ≤ k
    · exact .inl (.inl ⟨p, k, ws, rfl, rfl, Sx.Same.tup O.sg e1, hne, z2, k2, by omega, fun n nn => q _ _ _ r (O.nt _ _ _ nn r2)⟩)
    · by_cases z1 : k = 1
      · subst z1
        refine .inl (.inr ⟨p, ws, rfl, rfl, Sx.Same.tup O.sg e1, q _ H _ r (O.pu _ _ (.tup e1 ?_))⟩)
        have e3 : (List.replicate (Int.toNat 1) ws).flatten = ws := by simp
        rw [e3] at r2
        exact r2
      · obtain rfl : k = 0 := by omega
        exact .inr ⟨p, ws, rfl, rfl, Sx.Same.tup O.sg e1, hne, fun n nn => q _ _ _ r (O.nt _ _ _ nn r2)⟩
theorem sl_or {X : Cx} {r r' : V → Option Int → Option Int → Hp → VK → Prop} (h : L2.SlR X r) (h' : L2.SlR X r') : L2.SlR X fun x lo hi H Q => r x lo hi H Q ∨ r' x lo hi H Q := fun pins s σ H x v vl vu lo hi sl Q I r1 s1 p1 p2 q => q.elim (h pins s σ H x v vl vu lo hi sl Q I r1 s1 p1 p2) (h' pins s σ H x v vl vu lo hi sl Q I r1 s1 p1 p2)
def rCut (K : PySem.W.Frag) : V → Option Int → Option Int → Hp → VK → Prop := fun x lo hi H Q => rSlA K x lo hi H Q ∨ rSlL K x lo hi H Q
theorem sl_cut {X : Cx} : L2.SlR X (rCut X.K) := sl_or sl_tupA sl_list
theorem dva_cut {G : Hp} {vs : List V} {ds : List PyData} (h : DvAll K G vs ds) (lo hi : Option Int) : DvAll K G (cutV vs lo hi) (Sx.cutD ds lo hi) := by
  unfold cutV Sx.cutD
  rw [dva_len h]
  exact dva_take _ (dva_drop _ h)
theorem sll_cut : SlL K (rCut K) gCut := by
  intro B G0 F0 as xs H v x lo hi R Q S h q
  obtain ⟨G, h1, O⟩ := S.open1
  cases x <;> try exact h.elim
  · obtain ⟨p, ws, rfl, e1, ha⟩ := lst_in h1
    exact .inr ⟨p, ws, rfl, .of (O.sg _ _ e1), fun n nn => q _ _ _ h (O.nl _ _ _ nn (dva_cut ha lo hi))⟩
  · obtain ⟨p, ws, rfl, e1, ha⟩ := tup_in h1
    have hc := dva_cut ha lo hi
    refine .inl ⟨p, ws, rfl, Sx.Same.tup O.sg e1, fun hw => q _ H _ h (O.pu _ _ ?_), fun _ n nn => q _ _ _ h (O.nt _ _ _ nn hc)⟩
    have e : cutV ws lo hi = ws := by
      unfold cutV
      rw [hw.1, hw.2, List.drop_zero, Nat.sub_zero, List.take_length]
    rw [e] at hc
    exact .tup e1 hc
theorem St.opens {cs : List PyData} {vs : List V} (l : cs.length = vs.length) (S : St B K G0 F0 (cs.map A.d ++ as) (vs.map some ++ xs) H) : ∃ G, DvAll K G vs cs ∧ Opn B K G0 F0 as xs H G := by
  obtain ⟨G, F, k, s⟩ := S.ex
  have hd := St.dts l s
  refine ⟨G, hd, opn k ?_⟩
  clear hd S
  induction cs generalizing vs with
  | nil =>
    cases vs with
    | nil => exact s
    | cons _ _ => exact nomatch l
  | cons c cs ih =>
    cases vs with
    | nil => exact nomatch l
    | cons v vs => exact ih (Nat.succ.inj l) s.pop
theorem cb_seq {a : A} {vs : List V} (hl : [a].length = vs.length) (S : St B K G0 F0 ([a] ++ as) (vs.map some ++ xs) H) {k : List PyData → Prop} (h : a.seq k) : ∃ ds, k ds ∧ ∃ v, vs = [v] ∧ ((St B K G0 F0 (.d (.tuple ds) :: as) (some v :: xs) H) ∨ St B K G0 F0 (.d (.list ds) :: as) (some v :: xs) H) := by
  match vs, hl with
  | [v], _ =>
    obtain ⟨ds, k1, S1⟩ := A.is_seq h S
    exact ⟨ds, k1, v, rfl, S1⟩
theorem one_of {k : A → Prop} (h : A.one as k) : ∃ a, as = [a] ∧ k a := by
  match as, h with
  | [a], h => exact ⟨a, rfl, h⟩
theorem cl_len : CbL K (Sx.rLenS K) gLen := by
  intro B G0 F0 cs as vs xs H R Q l n S h q
  obtain ⟨a, rfl, h⟩ := one_of h
  obtain ⟨ds, k, v, rfl, S1 | S1⟩ := cb_seq l S h
  · obtain ⟨G, h1, O⟩ := S1.open1
    obtain ⟨p, ws, rfl, e1, ha⟩ := tup_in h1
    exact ⟨p, ws, rfl, .inr (Sx.Same.tup O.sg e1), by rw [dva_len ha]; exact q _ H _ k (O.pu _ _ (.int _))⟩
  · obtain ⟨G, h1, O⟩ := S1.open1
    obtain ⟨p, ws, rfl, e1, ha⟩ := lst_in h1
    exact ⟨p, ws, rfl, .inl (.of (O.sg _ _ e1)), by rw [dva_len ha]; exact q _ H _ k (O.pu _ _ (.int _))⟩
theorem cl_tuple : CbL K (rTupS K) gTuple := by
  intro B G0 F0 cs as vs xs H R Q l n S h q
  obtain ⟨a, rfl, h⟩ := one_of h
  obtain ⟨ds, k, v, rfl, S1 | S1⟩ := cb_seq l S h
  · obtain ⟨G, h1, O⟩ := S1.open1
    obtain ⟨p, ws, rfl, e1, ha⟩ := tup_in h1
    exact ⟨p, ws, rfl, .inr ⟨Sx.Same.tup O.sg e1, q _ H _ k (O.pu _ _ h1)⟩⟩
  · obtain ⟨G, h1, O⟩ := S1.open1
    obtain ⟨p, ws, rfl, e1, ha⟩ := lst_in h1
    exact ⟨p, ws, rfl, .inl ⟨.of (O.sg _ _ e1), fun m nm => q _ _ _ k (O.nt _ _ _ nm ha)⟩⟩
theorem cl_list : CbL K (Sx.rListS K) gList := by
  intro B G0 F0 cs as vs xs H R Q l n S h q
  obtain ⟨a, rfl, h⟩ := one_of h
  obtain ⟨ds, k, v, rfl, S1 | S1⟩ := cb_seq l S h
  · obtain ⟨G, h1, O⟩ := S1.open1
    obtain ⟨p, ws, rfl, e1, ha⟩ := tup_in h1
    exact ⟨p, ws, rfl, .inr (Sx.Same.tup O.sg e1), fun m nm => q _ _ _ k (O.nl _ _ _ nm ha)⟩
  · obtain ⟨G, h1, O⟩ := S1.open1
    obtain ⟨p, ws, rfl, e1, ha⟩ := lst_in h1
    exact ⟨p, ws, rfl, .inl (.of (O.sg _ _ e1)), fun m nm => q _ _ _ k (O.nl _ _ _ nm ha)⟩
theorem cl_repr : CbL K (rShowD K) gRepr := by
  intro B G0 F0 cs as vs xs H R Q l n S h q
  match cs, vs, l, S, h with
  | [.d x], [v], _, S, h =>
    obtain ⟨G, h1, O⟩ := St.open1 S
    exact ⟨v, x, rfl, dv_dt _ _ (dv_same O.sg _ _ h1), h.1, q _ H _ h.2 (O.pu _ _ (.str _))⟩
def rInt1 : List V → Hp → VK → Prop := fun xs H Q => (∃ i, xs = [.int i] ∧ Q (.int i) H) ∨ ∃ k, xs = [.bl k] ∧ Q (.int (if k then 1 else 0)) H
theorem cl_int : CbL K rInt1 gInt := by
  intro B G0 F0 cs as vs xs H R Q l n S h q
  match cs, vs, l, S, h with
  | [.d (.int i)], [v], _, S, h =>
    obtain ⟨G, h1, O⟩ := St.open1 S
    cases h1
    exact .inl ⟨i, rfl, q _ H _ h (O.pu _ _ (.int _))⟩
  | [.d (.bool b)], [v], _, S, h =>
    obtain ⟨G, h1, O⟩ := St.open1 S
    cases h1
    exact .inr ⟨b, rfl, q _ H _ h (O.pu _ _ (.int _))⟩
theorem dva_ints {G : Hp} : ∀ {ws : List V} {ds : List PyData} {bs : List Int}, DvAll K G ws ds → intsD ds = some bs → ws = bs.map V.int
  | _, [], bs, h, e => by
    cases h
    cases e
    rfl
  | _, .int b :: ds, bs, h, e => by
    cases h with
    | cons r t =>
      cases r
      obtain ⟨cs, e1, rfl⟩ := Option.map_eq_some_iff.mp (show (intsD ds).map (b :: ·) = some bs from e)
      rw [dva_ints t e1] <;> rfl
  | _, .none :: _, _, _, e => nomatch e
  | _, .bool _ :: _, _, _, e => nomatch e
  | _, .str _ :: _, _, _, e => nomatch e
  | _, .list _ :: _, _, _, e => nomatch e
  | _, .tuple _ :: _, _, _, e => nomatch e
  | _, .dict _ :: _, _, _, e => nomatch e
theorem dva_of_ints {G : Hp} : ∀ ns : List Int, DvAll K G (ns.map V.int) (ns.map PyData.int)
  | [] => .nil
  | _ :: ns => .cons (.int _) (dva_of_ints ns)
theorem cl_sorted : CbL K (rSortedI K) gSorted := by
  intro B G0 F0 cs as vs xs H R Q l n S h q
  match cs, vs, l, S, h with
  | [.d (.list ds)], [v], _, S, ⟨bs, e, r⟩ =>
    obtain ⟨G, h1, O⟩ := St.open1 S
    obtain ⟨p, ws, rfl, e1, ha⟩ := lst_in h1
    have := dva_ints ha e
    subst this
    exact ⟨p, bs, rfl, .of (O.sg _ _ e1), fun ns' m h1 h2 nm => q _ _ _ (r ns' h1 h2) (O.nl _ _ _ nm (dva_of_ints ns'))⟩
theorem cl_gcd : CbL K rGcd gGcd := by
  intro B G0 F0 cs as vs xs H R Q l n S h q
  match cs, vs, l, S, h with
  | [.d (.int i), .d (.int j)], [v, w], _, S, h =>
    obtain ⟨G, h1, O⟩ := St.opens (cs := [.int i, .int j]) (vs := [v, w]) rfl S
    cases h1 with
    | cons r t =>
      cases r
      cases t with
      | cons r t =>
        cases r
        exact ⟨i, j, rfl, q _ H _ h (O.pu _ _ (.int _))⟩
theorem le_isi {ta : TE} {fa : AEx} {n : String} {p : PyData → Bool} (hk : ∀ d, kitB (clsOf d) n = some (p d)) (la : LE B K W ta fa) : LE B K W (tCB (rIsi K) (tCons ta (tCons (tC (.ty n)) tNil))) (aUn (gP p) fa) := by
  intro G0 F0 θ τ ρ σ H R Z Q hl S h q w
  refine la G0 F0 θ τ ρ σ H _ Z _ hl S h (fun v H1 x ρ1 h1 S1 => ?_) w
  obtain ⟨d, k, S2⟩ := S1.on h1
  exact ⟨v, .ty n, _, _, p d, rfl, .ty n, tyx_of (dv_dt _ _ S2.get), kit_ty (hk d), q _ H1 _ ρ1 k (S2.pop.push fun _ => .bl _)⟩
theorem hk_int (d : PyData) : kitB (clsOf d) "int" = some (intD d) := by rw [kit_int]; cases d <;> rfl
end
end Lf
namespace Lf
open PySem PySem.Spec PyProof.Rows L2 Sx

def A.ow : A → (List PyData → Prop) → Prop
  | .own ds, k => k ds
  | _, _ => False
def aApp (i : Nat) (fa : AEx) : AEx := fun ρ R Z => (sl ρ i).isL = true ∧ fa ρ (fun a ρ1 => a.on fun y => (sl ρ1 i).ow fun ds => ds.length < 4000000 ∧ R (.d .none) (ρ1.set i (.own (ds ++ [y])))) Z
def aPopAt (i : Nat) (fa : AEx) : AEx := fun ρ R Z => (sl ρ i).isL = true ∧ fa ρ (fun a ρ1 => a.it fun k => (sl ρ1 i).ow fun ds => 0 ≤ k ∧ k < (ds.length : Int) ∧ k < 2 ^ 63 ∧ R (.d (ds.getD k.toNat .none)) (ρ1.set i (.own (ds.eraseIdx k.toNat)))) Z
def aPop (i : Nat) : AEx := fun ρ R _ => (sl ρ i).ow fun ds => ds ≠ [] ∧ R (.d (ds.getD (ds.length - 1) .none)) (ρ.set i (.own ds.dropLast))
def aLenV (i : Nat) : AEx := fun ρ R _ => (sl ρ i).ow fun ds => R (.d (.int (ds.length : Nat))) ρ
def aIxV (i : Nat) (fk : AEx) : AEx := fun ρ R Z => (sl ρ i).isL = true ∧ fk ρ (fun k ρ1 => k.it fun j => (sl ρ1 i).ow fun ds => ∃ d, atI ds j = some d ∧ R (.d d) ρ1) Z
def aEqNilV (neg : Bool) (i : Nat) : AEx := fun ρ R _ => (sl ρ i).ow fun ds => PyData.plainAll ds = true ∧ R (.d (.bool (if neg then !ds.isEmpty else ds.isEmpty))) ρ
def aTupV (i : Nat) : AEx := fun ρ R _ => (sl ρ i).ow fun ds => R (.d (.tuple ds)) ρ
def gSetV (i : Nat) (fk : AEx) : AGx := fun a ρ R Z => (sl ρ i).isL = true ∧ fk ρ (fun k ρ1 => k.it fun j => a.on fun y => (sl ρ1 i).ow fun ds => ∃ n, ixN ds.length j = some n ∧ R (ρ1.set i (.own (ds.set n y)))) Z

section
variable {K : PySem.W.Frag} {B : Bx} {W : Wx} {G0 F0 H : Hp} {θ ρ as bs : List A} {τ xs ys : List (Option V)} {σ : L2.St} {a b : A} {x : Option V} {v w : V} {ta : TE} {fa : AEx}
theorem A.is_ow {k : List PyData → Prop} (h : a.ow k) : ∃ ds, a = .own ds ∧ k ds := by
  cases a with
  | own ds => exact ⟨ds, rfl, h⟩
  | un => exact h.elim
  | raw _ => exact h.elim
  | d _ => exact h.elim
  | sp _ => exact h.elim
theorem A.own_is (h : a.isL = true) : ∃ ds, a = .own ds := by
  cases a with
  | own ds => exact ⟨ds, rfl⟩
  | un => exact nomatch h
  | raw _ => exact nomatch h
  | d _ => exact nomatch h
  | sp _ => exact nomatch h
theorem sl_own {i : Nat} {ds : List PyData} (e : sl ρ i = .own ds) : ρ[i]? = some (.own ds) := by
  have := sl_get (l := ρ) (i := i) (by rw [e]; exact fun z => nomatch z)
  rw [e] at this
  exact this
theorem St.own {i : Nat} {ds : List PyData} (hl : θ.length = τ.length) (S : St B K G0 F0 (θ ++ ρ) (τ ++ σ) H) (e : ρ[i]? = some (.own ds)) : ∃ p ws, σ[i]? = some (some (.ref p)) ∧ H p = some (.lst ws) ∧ ws.length = ds.length ∧ (∃ G, DvAll K G ws ds ∧ Same G H ∧ (∀ u d, Dv K G u d → St B K G0 F0 (.d d :: (θ ++ ρ)) (some u :: (τ ++ σ)) H) ∧
      ∀ n us es, H n = none → DvAll K G us es → St B K G0 F0 (.d (.tuple es) :: (θ ++ ρ)) (some (.ref n) :: (τ ++ σ)) (upd H n (.tup us))) ∧
    ∀ us es, (∀ G F, Same G F → Same F H → Sl K G F0 F (.own ds :: (θ ++ ρ.set i .un)) (some (.ref p) :: (τ ++ σ)) → DvAll K G ws ds → DvAll K G us es) → St B K G0 F0 (θ ++ ρ.set i (.own es)) (τ ++ σ) (upd H p (.lst us)) := by
  obtain ⟨x, hx, S1⟩ := S.takeOwn hl e
  have alt := fun es => S1.alter (es := es)
  obtain ⟨p, ws, rfl, eH, lw, _, _⟩ := alt []
  obtain ⟨G, F, k, s⟩ := S.ex
  obtain ⟨x', e1, p', ws', e2, e3, e4, e5, e6⟩ := s.ok (θ.length + i) _ (by rw [app_at]; exact e)
  rw [hl, app_at, hx] at e1
  cases e1
  cases e2
  have := k.sub _ _ e3
  rw [eH] at this
  cases this
  refine ⟨p, ws, hx, eH, lw, ⟨G, e6, k.gh, (opn k s).pu, (opn k s).nt⟩, fun us es hus => ?_⟩
  obtain ⟨p', ws', e7, e8, _, _, al⟩ := alt es
  cases e7
  rw [eH] at e8
  cases e8
  have S2 := (al us hus).set (i := i) hl
  rw [List.set_set] at S2
  have e9 : σ.set i (some (.ref p)) = σ := by
    obtain ⟨hi, e⟩ := List.getElem?_eq_some_iff.mp hx
    rw [← e, List.set_getElem_self]
  rw [e9] at S2
  exact S2
theorem le_app {i : Nat} (la : LE B K W ta fa) : LE B K W (tBM K "list" rAppend (tVar i) (tCons ta tNil)) (aApp i fa) := by
  intro G0 F0 θ τ ρ σ H R Z Q hl S h q w
  obtain ⟨h0, h⟩ := h
  obtain ⟨ds0, e0⟩ := A.own_is h0
  obtain ⟨p, ws, hx, eH, _⟩ := S.own hl (sl_own e0)
  refine ⟨.ref p, hx, .inl ⟨rfl, _, .of eH⟩, ?_⟩
  refine la G0 F0 θ τ ρ σ H _ Z _ hl S h (fun v H1 x ρ1 h1 S1 => ?_) w
  obtain ⟨d, k, S2⟩ := S1.on h1
  obtain ⟨ds, e1, hz, r⟩ := A.is_ow k
  obtain ⟨p', ws', hx', eH', lw, _, al⟩ := St.own (θ := .d d :: θ) (τ := some v :: τ) (congrArg (· + 1) hl) S2 (sl_own e1)
  rw [hx] at hx'
  cases hx'
  refine ⟨p, ws', v, rfl, rfl, eH', big_size (by omega), q .non _ _ _ r ?_⟩
  have S3 := al (ws' ++ [v]) (ds ++ [d]) fun G F s1 s2 s3 hd => by
    obtain ⟨z, ez, u, e3, hd2⟩ := s3.ok 1 _ rfl
    cases ez
    cases e3
    exact dva_app hd (.cons hd2 .nil)
  exact (St.pop S3).push fun _ => .non
theorem seqIx_nat {k : Int} {n : Nat} (h0 : 0 ≤ k) (h1 : k < (n : Int)) : seqIndex? k n = some k.toNat := PySem.StrLaws.seqIndex_nonneg h0 h1
theorem le_popAt {i : Nat} (la : LE B K W ta fa) : LE B K W (tBM K "list" rPopAt (tVar i) (tCons ta tNil)) (aPopAt i fa) := by
  intro G0 F0 θ τ ρ σ H R Z Q hl S h q w
  obtain ⟨h0, h⟩ := h
  obtain ⟨ds0, e0⟩ := A.own_is h0
  obtain ⟨p, ws, hx, eH, _⟩ := S.own hl (sl_own e0)
  refine ⟨.ref p, hx, .inl ⟨rfl, _, .of eH⟩, ?_⟩
  refine la G0 F0 θ τ ρ σ H _ Z _ hl S h (fun v H1 x ρ1 h1 S1 => ?_) w
  obtain ⟨j, rfl, k⟩ := A.is_it h1
  obtain ⟨ds, e1, j0, j1, j2, r⟩ := A.is_ow k
  have := S1.get
  cases this
  obtain ⟨p', ws', hx', eH', lw, ⟨G, hd, sg, pu, _⟩, al⟩ := St.own hl S1.pop (sl_own e1)
  rw [hx] at hx'
  cases hx'
  have hj : j.toNat < ws'.length := by omega
  obtain ⟨_, hy⟩ := dva_val hd (List.getElem?_eq_getElem hj)
  refine ⟨p, ws', j, j.toNat, ws'[j.toNat], rfl, rfl, eH', by omega, j2, seqIx_nat j0 (by omega), List.getElem?_eq_getElem hj, q _ _ _ _ r ?_⟩
  have S2 := pu _ _ hy
  obtain ⟨p', ws2, hx', eH2, lw, _, al⟩ := St.own (θ := .d (ds.getD j.toNat .none) :: θ) (τ := some ws'[j.toNat] :: τ) (congrArg (· + 1) hl) S2 (sl_own e1)
  rw [hx] at hx'
  cases hx'
  rw [eH'] at eH2
  cases eH2
  exact al _ _ fun G F s1 s2 s3 hd => dva_erase _ hd
theorem le_lenV {i : Nat} : LE B K W (tCB (Sx.rLenS K) (tCons (tVar i) tNil)) (aLenV i) := by
  intro G0 F0 θ τ ρ σ H R Z Q hl S h q w
  obtain ⟨ds, e0, r⟩ := A.is_ow h
  obtain ⟨p, ws, hx, eH, lw, ⟨G, hd, sg, pu, _⟩, _⟩ := S.own hl (sl_own e0)
  exact ⟨.ref p, hx, p, ws, rfl, .inl (.of eH), by rw [lw]; exact q _ _ _ _ r (pu _ _ (.int _))⟩
theorem le_ixV {i : Nat} (la : LE B K W ta fa) : LE B K W (tOp (rIx K) (tVar i) ta) (aIxV i fa) := by
  intro G0 F0 θ τ ρ σ H R Z Q hl S h q w
  obtain ⟨h0, h⟩ := h
  obtain ⟨ds0, e0⟩ := A.own_is h0
  obtain ⟨p, ws, hx, eH, _⟩ := S.own hl (sl_own e0)
  refine ⟨.ref p, hx, ?_⟩
  refine la G0 F0 θ τ ρ σ H _ Z _ hl S h (fun v H1 x ρ1 h1 S1 => ?_) w
  obtain ⟨j, rfl, k⟩ := A.is_it h1
  obtain ⟨ds, e1, d, e2, r⟩ := A.is_ow k
  have := S1.get
  cases this
  obtain ⟨p', ws', hx', eH', lw, ⟨G, hd, sg, pu, _⟩, al⟩ := St.own hl S1.pop (sl_own e1)
  rw [hx] at hx'
  cases hx'
  obtain ⟨u, e3, hu⟩ := atI_dv hd e2
  exact .inl ⟨p, ws', _, u, rfl, rfl, .of eH', e3, q _ _ _ _ r (pu _ _ hu)⟩
theorem eqv_nil (ds : List PyData) : PyData.eqv (.list ds) (.list []) = ds.isEmpty := by
  cases ds <;> simp [PyData.eqv, PyData.eqvAll]
theorem le_neNilV {i : Nat} : LE B K W (tOp (rNeP K) (tVar i) (tLst tNil)) (aEqNilV true i) := by
  intro G0 F0 θ τ ρ σ H R Z Q hl S h q w
  obtain ⟨ds, e0, hp, r⟩ := A.is_ow h
  obtain ⟨p, ws, hx, eH, lw, ⟨G, hd, sg, pu, _⟩, _⟩ := S.own hl (sl_own e0)
  refine ⟨.ref p, hx, Nat.zero_le _, fun n nn => ?_⟩
  have s1 : Same H (upd H n (.lst [])) := same_new nn
  have e2 := s1 _ _ eH
  refine ⟨.list ds, .list [], .lst e2 (dva_same (sg.trans s1) _ _ hd), .lst upd_same .nil, by rw [PyData.plain]; exact hp, rfl, ?_, ?_⟩
  · exact Nat.le_trans (Nat.min_le_right _ _) (by decide)
  · rw [eqv_nil]
    exact q _ _ _ _ r ((pu (.bl (!ds.isEmpty)) (.bool _) (.bl _)).more s1)
theorem lg_setV {i : Nat} (la : LE B K W ta fa) : LG B K W (gSub (tVar i) ta rSetL) (gSetV i fa) := by
  intro G0 F0 θ τ ρ σ H a v R Z Q hl S h q w
  obtain ⟨h0, h⟩ := h
  obtain ⟨ds0, e0⟩ := A.own_is h0
  obtain ⟨p, ws, hx, eH, _⟩ := St.own (θ := a :: θ) (τ := some v :: τ) (congrArg (· + 1) hl) S (sl_own e0)
  refine ⟨.ref p, hx, ?_⟩
  refine la G0 F0 (a :: θ) (some v :: τ) ρ σ H _ Z _ (congrArg (· + 1) hl) S h (fun u H1 x ρ1 h1 S1 => ?_) w.push
  obtain ⟨j, e2, k⟩ := A.is_it h1
  subst e2
  have := S1.get
  cases this
  obtain ⟨y, k2, S2⟩ := S1.pop.on k
  obtain ⟨ds, e1, n, hn, r⟩ := A.is_ow k2
  obtain ⟨p', ws', hx', eH', lw, _, al⟩ := St.own (θ := .d y :: θ) (τ := some v :: τ) (congrArg (· + 1) hl) S2 (sl_own e1)
  rw [hx] at hx'
  cases hx'
  refine ⟨p, ws', j, n, rfl, rfl, eH', by rw [lw]; exact hn, q _ _ _ r (St.pop (al _ _ fun G F s1 s2 s3 hd => ?_))⟩
  obtain ⟨z, ez, u, e3, hd2⟩ := s3.ok 1 _ rfl
  cases ez
  cases e3
  exact dva_set hd2 _ hd
end

theorem fn_mono {P : Program} {w : World} {K : PySem.W.Frag} {mg : Str → Option Value} {base : Heap} {CX : CXT} {k : Nat} {f : Addr} {fd : FuncData} {ps : List Str} {sp sp' : Sp} (F : FnOk P w K mg base CX k f fd ps sp) (h : ∀ vs H Q E, sp' vs H Q E → sp vs H Q E) : FnOk P w K mg base CX k f fd ps sp' :=
  ⟨fun vs H Q E z => F.len vs H Q E (h vs H Q E z), fun A out s H as us vs Q E hr e0 hb r z => F.run A out s H as us vs Q E hr e0 hb r (h vs H Q E z)⟩

def boxD (b g : Addr) : Bx := ⟨fun F H => Ds F H b g, Ds.sub, Ds.more, fun o h e _ => Ds.new h e, fun o h e _ _ => Ds.put h e, Ds.less, fun _ => .none⟩
def deckOf (box : Addr → Addr → Bx) : V → Bx → Prop := fun dk B => ∃ b g, dk = .ref b ∧ ∀ F H, B.P F H → ∃ F1, (box b g).P F1 H ∧ ∀ H', (box b g).P F1 H' → B.P F H'
def cDraw : V → Ct := fun dk as R _ => match as with
  | [.raw v, .d (.int m)] => v = dk ∧ Small m ∧ ∀ r : Int, 0 ≤ r → r < m → R (.d (.int r))
  | _ => False
theorem draw_of {K : PySem.W.Frag} {Pb : Hp → Hp → Addr → Addr → Prop} {box : Addr → Addr → Bx} (hb : ∀ b g F H, (box b g).P F H ↔ Pb F H b g) {vs : List V} {H : Hp} {Q : VK} {E : XK} (h : SpL K (deckOf box) cDraw vs H Q E) :
    ∃ (H0 : Hp) (b g : Addr) (m : Int), vs = [.ref b, .int m] ∧ Pb H0 H b g ∧ Small m ∧ ∀ (r : Int) (H' : Hp), 0 ≤ r → r < m → Pb H0 H' b g → Q (.int r) H' := by
  obtain ⟨dk, B, G0, F0, as, bs, xs, R, Z, ⟨b, g, rfl, hB⟩, l, n, S, hc, hR, hZ⟩ := h
  match as, vs, l, S, hc with
  | [.raw v, .d (.int m)], [u, w], _, S, hc =>
    obtain ⟨rfl, hm, hr⟩ := hc
    obtain ⟨G, F, k, s⟩ := S.ex
    obtain ⟨x, e, h0⟩ := s.ok 0 _ rfl
    cases e
    cases h0
    obtain ⟨x, e, w', e2, hd⟩ := s.ok 1 _ rfl
    cases e
    cases e2
    cases hd
    obtain ⟨F1, hF, back⟩ := hB F H k.B
    exact ⟨F1, b, g, m, rfl, (hb b g F1 H).mp hF, hm, fun r H' r0 r1 hP => hR _ _ H' (hr r r0 r1) ⟨G, F, ⟨back H' ((hb b g F1 H').mpr hP), k.sG, k.sF, k.s, k.ap, k.fm⟩, s.pop.pop.push ⟨_, rfl, .int _⟩ fun z => nomatch z⟩⟩
end Lf
namespace Sx
open PySem PySem.Spec PyProof.Rows L2
def isStr (d : PyData) (t : Str) : Bool := match d with
  | .str u => u == t
  | _ => false
end Sx
namespace Lf
open PySem PySem.Spec PyProof.Rows L2 Sx

def aDnew : AEx := fun ρ R _ => R (.d (.dict [])) ρ
def gEqS : G2 := fun x y R => match y with
  | .str t => R (.d (.bool (isStr x t)))
  | _ => False
def gMax2 : GB := fun as R => match as with
  | [.d (.int i), .d (.int j)] => R (.d (.int (if j > i then j else i)))
  | _ => False
def gMin2 : GB := fun as R => match as with
  | [.d (.int i), .d (.int j)] => R (.d (.int (if j < i then j else i)))
  | _ => False
def aListRg (fa : AEx) : AEx := fun ρ R Z => fa ρ (fun a ρ1 => a.it fun n => -(2 ^ 62) ≤ n ∧ n ≤ 2 ^ 24 ∧ R (.own (rangeD 0 n.toNat)) ρ1) Z
section
variable {K : PySem.W.Frag} {B : Bx} {W : Wx} {G0 F0 H : Hp} {θ ρ as bs : List A} {τ xs ys : List (Option V)} {σ : L2.St} {a b : A} {x : Option V} {v w : V} {ta : TE} {fa : AEx}
def rMax2 : List V → Hp → VK → Prop := fun xs H Q => ∃ i j : Int, xs = [.int i, .int j] ∧ Q (.int (if j > i then j else i)) H
def rMin2 : List V → Hp → VK → Prop := fun xs H Q => ∃ i j : Int, xs = [.int i, .int j] ∧ Q (.int (if j < i then j else i)) H
theorem cl_max2 : CbL K rMax2 gMax2 := by
  intro B G0 F0 cs as vs xs H R Q l n S h q
  match cs, vs, l, S, h with
  | [.d (.int i), .d (.int j)], [v, w], _, S, h =>
    obtain ⟨G, h1, O⟩ := St.opens (cs := [.int i, .int j]) (vs := [v, w]) rfl S
    cases h1 with
    | cons r t =>
      cases r
      cases t with
      | cons r t =>
        cases r
        exact ⟨i, j, rfl, q _ H _ h (O.pu _ _ (.int _))⟩
theorem cl_min2 : CbL K rMin2 gMin2 := by
  intro B G0 F0 cs as vs xs H R Q l n S h q
  match cs, vs, l, S, h with
  | [.d (.int i), .d (.int j)], [v, w], _, S, h =>
    obtain ⟨G, h1, O⟩ := St.opens (cs := [.int i, .int j]) (vs := [v, w]) rfl S
    cases h1 with
    | cons r t =>
      cases r
      cases t with
      | cons r t =>
        cases r
        exact ⟨i, j, rfl, q _ H _ h (O.pu _ _ (.int _))⟩
theorem dva_range {G : Hp} (lo : Int) (n : Nat) : DvAll K G ((List.range n).map fun i => V.int (lo + (i : Nat))) (rangeD lo n) := by
  unfold rangeD
  generalize List.range n = l
  induction l with
  | nil => exact .nil
  | cons i l ih => exact .cons (.int _) ih
theorem le_listRg (la : LE B K W ta fa) : LE B K W (tLstRg (tRg1 ta)) (aListRg fa) := by
  intro G0 F0 θ τ ρ σ H R Z Q hl S h q w
  refine la G0 F0 θ τ ρ σ H _ Z _ hl S h (fun v H1 x ρ1 h1 S1 => ?_) w
  obtain ⟨n, rfl, k1, k2, k⟩ := A.is_it h1
  have := S1.get
  cases this
  refine ⟨n, rfl, ⟨by omega, by omega, k1, by omega, by omega⟩, fun p np => ?_⟩
  obtain ⟨G, h1, O⟩ := St.open1 S1
  have := O.nl p _ _ np (dva_range (K := K) (G := G) 0 n.toNat)
  refine q _ _ _ _ k ?_
  have e : rgV 0 n = (List.range n.toNat).map fun i => V.int (0 + (i : Nat)) := by
    unfold rgV
    rw [Int.sub_zero]
  rw [e]
  exact this
def Cl (g : AGx) : Prop := ∀ a ρ k Z, g a ρ k Z → ∃ ρ', k ρ'
def Cls (gs : List A → List A → (List A → Prop) → Zo → Prop) : Prop := ∀ as ρ k Z, gs as ρ k Z → ∃ ρ', k ρ'
theorem cl_gN {i : Nat} : Cl (gN i) := fun a ρ k Z h => ⟨_, h⟩
theorem cls_nil : Cls gNil := fun as ρ k Z h => by
  cases as with
  | nil => exact ⟨_, h⟩
  | cons _ _ => exact h.elim
theorem cls_cons {g : AGx} {gs : List A → List A → (List A → Prop) → Zo → Prop} (h1 : Cl g) (h2 : Cls gs) : Cls (gCons g gs) := fun as ρ k Z h => by
  cases as with
  | nil => exact h.elim
  | cons a as =>
    obtain ⟨ρ1, h⟩ := h1 _ _ _ _ h
    exact h2 _ _ _ _ h
theorem cl_gT {gs : List A → List A → (List A → Prop) → Zo → Prop} (h2 : Cls gs) : Cl (gT gs) := fun a ρ k Z h => by
  cases a with
  | d y =>
    cases y with
    | tuple ds => exact h2 _ _ _ _ h
    | none => exact h.elim
    | bool _ => exact h.elim
    | int _ => exact h.elim
    | str _ => exact h.elim
    | list _ => exact h.elim
    | dict _ => exact h.elim
  | un => exact h.elim
  | raw _ => exact h.elim
  | own _ => exact h.elim
  | sp _ => exact h.elim
theorem gCT_len {n : Nat} {g : AGx} {gs : List A → List A → (List A → Prop) → Zo → Prop} (hc : Cl g) (h : ∀ as ρ R Z, gs as ρ R Z → as.length = n) : ∀ as ρ R Z, gCons g gs as ρ R Z → as.length = n + 1 := fun as ρ R Z z => by
  cases as with
  | nil => exact z.elim
  | cons a as =>
    obtain ⟨ρ1, z⟩ := hc _ _ _ _ z
    exact congrArg (· + 1) (h as _ _ _ z)
end
end Lf
namespace Lf
open PySem PySem.Spec PyProof.Rows L2 Sx
theorem comp_opt {ds : List PyData} {g : AGx} {ft : ATx} {fe : AEx} {vs : List Nat} {ρ : List A} {R : Po} (P : Nat → Option PyData → Prop) (hz : ds.length ≤ 4000000)
    (step : ∀ i, i < ds.length → ∀ J : Option PyData → List A → Prop, (∀ o, P i o → J o ρ) → g (.d (ds.getD i .none)) ρ (fun ρ2 => ft ρ2 (fun b ρ3 => if b = true then fe ρ3 (fun a ρ4 => a.on fun y => J (some y) (wipeA ρ4 vs)) (fun _ _ => False) else J none (wipeA ρ3 vs)) fun _ _ => False) fun _ _ => False)
    (last : ∀ os : List (Option PyData), os.length = ds.length → (∀ i, i < ds.length → P i (os.getD i none)) → R (.own (os.filterMap id)) (wipeA ρ vs)) : compRun ds g ft fe vs ρ R := by
  refine ⟨fun i acc ρ' => ρ' = ρ ∧ ∃ os : List (Option PyData), os.length = i ∧ acc = os.filterMap id ∧ ∀ j, j < i → P j (os.getD j none), ⟨rfl, [], rfl, rfl, fun j z => absurd z (Nat.not_lt_zero _)⟩, ?_, ?_⟩
  · rintro i acc ρ' hi ⟨rfl, os, hl, rfl, hp⟩
    have hn : (os.filterMap id).length < 4000000 := by
      have := List.length_filterMap_le id os
      omega
    have key := step i hi (fun o ρ'' => match o with
      | some y => (os.filterMap id).length < 4000000 ∧ (ρ'' = ρ' ∧ ∃ os' : List (Option PyData), os'.length = i + 1 ∧ os.filterMap id ++ [y] = os'.filterMap id ∧ ∀ j, j < i + 1 → P j (os'.getD j none))
      | none => ρ'' = ρ' ∧ ∃ os' : List (Option PyData), os'.length = i + 1 ∧ os.filterMap id = os'.filterMap id ∧ ∀ j, j < i + 1 → P j (os'.getD j none)) (fun o ho => ?_)
    · exact key
    · have hq : ∀ j, j < i + 1 → P j ((os ++ [o]).getD j none) := by
        intro j hj
        by_cases h : j < i
        · rw [List.getD_eq_getElem?_getD, List.getElem?_append_left (by omega), ← List.getD_eq_getElem?_getD]
          exact hp j h
        · obtain rfl : j = i := by omega
          rw [List.getD_eq_getElem?_getD, List.getElem?_append_right (by omega), hl, Nat.sub_self]
          exact ho
      cases o with
      | some y => exact ⟨hn, rfl, os ++ [some y], by rw [List.length_append, hl] <;> rfl, by rw [List.filterMap_append] <;> rfl, hq⟩
      | none => exact ⟨rfl, os ++ [none], by rw [List.length_append, hl] <;> rfl, by rw [List.filterMap_append]; exact (List.append_nil _).symm, hq⟩
  · rintro acc ρ' ⟨rfl, os, hl, rfl, hp⟩
    exact last os hl hp
theorem comp_det {ds : List PyData} {g : AGx} {ft : ATx} {fe : AEx} {vs : List Nat} {ρ : List A} {R : Po} (f : PyData → Option PyData) (hz : ds.length ≤ 4000000)
    (step : ∀ d, d ∈ ds → ∀ J : Option PyData → List A → Prop, J (f d) ρ → g (.d d) ρ (fun ρ2 => ft ρ2 (fun b ρ3 => if b = true then fe ρ3 (fun a ρ4 => a.on fun y => J (some y) (wipeA ρ4 vs)) (fun _ _ => False) else J none (wipeA ρ3 vs)) fun _ _ => False) fun _ _ => False)
    (last : R (.own (ds.filterMap f)) (wipeA ρ vs)) : compRun ds g ft fe vs ρ R := by
  refine comp_opt (fun i o => o = f (ds.getD i .none)) hz (fun i hi J h => step _ (List.mem_of_getElem? (getD_some _ hi)) J (h _ rfl)) fun os hl hp => ?_
  have e : os = ds.map f := by
    refine List.ext_getElem? fun i => ?_
    by_cases h : i < ds.length
    · rw [getD_some none (by omega), hp i h, List.getElem?_map, getD_some PyData.none h] <;> rfl
    · rw [List.getElem?_eq_none (by omega), List.getElem?_eq_none (by rw [List.length_map]; omega)]
  rw [e, List.filterMap_map]
  exact last
theorem comp_map {ds : List PyData} {g : AGx} {fe : AEx} {vs : List Nat} {ρ : List A} {R : Po} (f : PyData → PyData) (hz : ds.length ≤ 4000000)
    (step : ∀ d, d ∈ ds → ∀ J : PyData → List A → Prop, J (f d) ρ → g (.d d) ρ (fun ρ2 => fe ρ2 (fun a ρ4 => a.on fun y => J y (wipeA ρ4 vs)) (fun _ _ => False)) fun _ _ => False)
    (last : R (.own (ds.map f)) (wipeA ρ vs)) : compRun ds g aYes fe vs ρ R := by
  refine comp_det (fun d => some (f d)) hz (fun d hd J h => ?_) ?_
  · simp only [aYes, if_true]
    exact step d hd (fun y ρ' => J (some y) ρ') h
  · rw [show (fun d => some (f d)) = some ∘ f from rfl, List.filterMap_eq_map]
    exact last
theorem comp_each {ds : List PyData} {g : AGx} {fe : AEx} {vs : List Nat} {ρ : List A} {R : Po} (P : PyData → PyData → Prop) (hz : ds.length ≤ 4000000)
    (step : ∀ d, d ∈ ds → ∀ J : PyData → List A → Prop, (∀ y, P d y → J y ρ) → g (.d d) ρ (fun ρ2 => fe ρ2 (fun a ρ4 => a.on fun y => J y (wipeA ρ4 vs)) (fun _ _ => False)) fun _ _ => False)
    (last : ∀ ys : List PyData, ys.length = ds.length → (∀ i, i < ds.length → P (ds.getD i .none) (ys.getD i .none)) → R (.own ys) (wipeA ρ vs)) : compRun ds g aYes fe vs ρ R := by
  refine comp_opt (fun i o => ∃ y, o = some y ∧ P (ds.getD i .none) y) hz (fun i hi J h => ?_) fun os hl hp => ?_
  · simp only [aYes, if_true]
    exact step _ (List.mem_of_getElem? (getD_some _ hi)) (fun y ρ' => J (some y) ρ') fun y hy => h _ ⟨y, rfl, hy⟩
  · have e : os = (os.map fun o => o.getD .none).map some := by
      refine List.ext_getElem? fun i => ?_
      by_cases h : i < ds.length
      · obtain ⟨y, e, _⟩ := hp i h
        rw [List.getElem?_map, List.getElem?_map, getD_some none (by omega), e] <;> rfl
      · rw [List.getElem?_eq_none (by omega), List.getElem?_eq_none (by simp; omega)]
    have key := last (os.map fun o => o.getD .none) (by rw [List.length_map, hl]) fun i hi => by
      obtain ⟨y, e1, h⟩ := hp i hi
      have e2 : (os.map fun o => o.getD .none).getD i .none = y := by
        rw [List.getD_eq_getElem?_getD, List.getElem?_map, getD_some none (by omega), e1] <;> rfl
      rw [e2]
      exact h
    rw [e, List.filterMap_map, show (id ∘ some : PyData → Option PyData) = some from rfl]
    rw [List.filterMap_some]
    exact key
theorem sl_start {K : PySem.W.Frag} {G F0 F : Hp} {v : V} {x : Option V} (n : Nat) : Sl K G F0 F (.un :: .raw v :: unA n) (x :: some v :: List.replicate n none) := by
  have h : Sl K G F0 F (unA n) (List.replicate n none) := by
    induction n with
    | zero => exact Sl.nil
    | succ n ih => exact Sl.push (a := .un) (x := none) ih trivial fun z => nomatch z
  exact Sl.push (a := .un) (Sl.push (a := .raw v) h rfl fun z => nomatch z) trivial fun z => nomatch z
theorem law_go {B : Bx} {K : PySem.W.Frag} {F H : Hp} {t : TS} {f : ASx} {n : Nat} {v : V} {x : Option V} {Q : VK} (b : B.P F H) (l : LS B K Wno t f) (h : f (ends0 fun a => a = .d (.bool true)) (fun _ => False) (.un :: .raw v :: unA n)) (q : ∀ H', Q (.bl true) H') :
    t { nx := fun _ H1 => Q .non H1, rt := Q } (x :: some v :: List.replicate n none) H := by
  refine l F F [] [] _ _ H _ _ _ rfl ⟨F, F, Kn.start b (Same.refl _) (fun D u h1 h2 => by rw [h1] at h2; cases h2), sl_start n⟩ h ⟨fun ρ' σ' H' r S' => r.elim, fun v a H' r S' => ?_, fun ρ' σ' H' r S' => r.elim, fun ρ' σ' H' r S' => r.elim, fun e ρ' σ' H' cv dd z _ => z.elim⟩
  have r : a = .d (.bool true) := r
  subst r
  have := S'.get
  cases this
  exact q H'
theorem okAll_all {n k : Nat} : ∀ {ds : List PyData}, (∀ d ∈ ds, Ok n k d) → OkAll (ds.length * n) k ds
  | [], _ => ⟨rfl, Nat.zero_le _, Nat.zero_le _⟩
  | d :: ds, h => (OkAll.cons (h d List.mem_cons_self) (okAll_all fun x hx => h x (List.mem_cons_of_mem _ hx))).ge (by rw [List.length_cons, Nat.add_mul]; omega) (Nat.le_refl _)
theorem mem_at {ds : List PyData} {P : PyData → Prop} (h : ∀ i, i < ds.length → P (ds.getD i .none)) : ∀ d ∈ ds, P d := by
  intro d hd
  obtain ⟨i, hi, e⟩ := List.mem_iff_getElem.mp hd
  have := h i hi
  rw [List.getD_eq_getElem?_getD, List.getElem?_eq_getElem hi, e] at this
  exact this
theorem erase_perm {α : Type} : ∀ (l : List α) (i : Nat) (h : i < l.length), (l[i] :: l.eraseIdx i).Perm l
  | [], i, h => absurd h (Nat.not_lt_zero _)
  | x :: l, 0, h => List.Perm.refl _
  | x :: l, i + 1, h => (List.Perm.swap x (l[i]'(Nat.lt_of_succ_lt_succ h)) (l.eraseIdx i)).trans ((erase_perm l i (Nat.lt_of_succ_lt_succ h)).cons x)
theorem plain_erase {ds : List PyData} (h : PyData.plainAll ds = true) (i : Nat) : PyData.plainAll (ds.eraseIdx i) = true := by
  induction ds generalizing i with
  | nil => exact h
  | cons d ds ih =>
    have h' : d.plain = true ∧ PyData.plainAll ds = true := by simpa [PyData.plainAll] using h
    cases i with
    | zero => exact h'.2
    | succ i =>
      show PyData.plainAll (d :: ds.eraseIdx i) = true
      simp [PyData.plainAll, h'.1, ih h'.2]
theorem plain_ints {ds : List PyData} (h : ∀ d ∈ ds, ∃ i : Int, d = .int i) : PyData.plainAll ds = true := by
  induction ds with
  | nil => rfl
  | cons d ds ih =>
    obtain ⟨i, rfl⟩ := h d List.mem_cons_self
    simp [PyData.plainAll, PyData.plain, ih fun x hx => h x (List.mem_cons_of_mem _ hx)]
theorem ints_of {P : Int → Prop} {ds : List PyData} (h : ∀ d ∈ ds, ∃ i : Int, d = .int i ∧ P i) : ∃ ns : List Int, ds = ns.map PyData.int ∧ ∀ n ∈ ns, P n := by
  induction ds with
  | nil => exact ⟨[], rfl, fun _ z => nomatch z⟩
  | cons d ds ih =>
    obtain ⟨i, rfl, hi⟩ := h d List.mem_cons_self
    obtain ⟨ns, rfl, hn⟩ := ih fun x hx => h x (List.mem_cons_of_mem _ hx)
    exact ⟨i :: ns, rfl, fun n hn' => by
      rcases List.mem_cons.mp hn' with h | h
      · rw [h]; exact hi
      · exact hn n h⟩
def cPick : V → Ct := fun dk as R _ => match as with
  | [.raw v, a] => v = dk ∧ a.seq fun xs => xs ≠ [] ∧ xs.length ≤ 100000 ∧ ∀ x ∈ xs, R (.d x)
  | _ => False
theorem len_pick (dk : V) (as : List A) (R : A → Prop) (Z : Ex → Prop) (h : cPick dk as R Z) : as.length = 2 := by
  unfold cPick at h
  split at h
  · rfl
  · exact h.elim
theorem atI_ok {α : Type} {xs : List α} {i : Int} (h0 : 0 ≤ i) (h1 : i < (xs.length : Int)) : ∃ x, atI xs i = some x ∧ x ∈ xs := by
  have hj : i.toNat < xs.length := by omega
  refine ⟨xs[i.toNat], ?_, List.getElem_mem hj⟩
  have e := atI_nat (List.getElem?_eq_getElem hj)
  have : ((i.toNat : Nat) : Int) = i := by omega
  rw [this] at e
  exact e
theorem pick_run {dk v : V} {as : List A} {R : A → Prop} {N : List A → Prop} {Z : Ex → Prop} (h : cPick dk as R Z) : aRet (aOp gIx (aVar 1) (aCall0 (cDraw dk) (aCons (aVar 0) (aCons (aCB gLen (aCons (aVar 1) aNil)) aNil)))) (ends0 R) N as := by
  unfold cPick at h
  split at h
  · rename_i u a
    obtain ⟨rfl, h⟩ := h
    have key : ∀ xs : List PyData, xs ≠ [] → xs.length ≤ 100000 → Small (xs.length : Nat) := fun xs h1 h2 => small_of (by have := List.length_pos_iff.mpr h1; omega) (by omega)
    cases a with
    | d y =>
      cases y with
      | tuple ds =>
        obtain ⟨h1, h2, h3⟩ := h
        refine ⟨rfl, key _ h1 h2, fun r r0 r1 => ?_⟩
        obtain ⟨x, e, hx⟩ := atI_ok r0 r1
        exact ⟨x, e, h3 x hx⟩
      | list ds =>
        obtain ⟨h1, h2, h3⟩ := h
        refine ⟨rfl, key _ h1 h2, fun r r0 r1 => ?_⟩
        obtain ⟨x, e, hx⟩ := atI_ok r0 r1
        exact ⟨x, e, h3 x hx⟩
      | none => exact h.elim
      | bool _ => exact h.elim
      | int _ => exact h.elim
      | str _ => exact h.elim
      | dict _ => exact h.elim
    | un => exact h.elim
    | raw _ => exact h.elim
    | own ds =>
      obtain ⟨h1, h2, h3⟩ := h
      refine ⟨rfl, key _ h1 h2, fun r r0 r1 => ?_⟩
      obtain ⟨x, e, hx⟩ := atI_ok r0 r1
      exact ⟨x, e, h3 x hx⟩
    | sp _ => exact h.elim
  · exact h.elim
section
theorem aVar_e (i : Nat) (ρ : List A) (R : Po) (Z' : Zo) : aVar i ρ R Z' = ((sl ρ i).look i ρ R) := propext ⟨fun h => h, fun h => h⟩
theorem aC_e (y : PyData) (ρ : List A) (R : Po) (Z' : Zo) : aC y ρ R Z' = (R (.d y) ρ) := propext ⟨fun h => h, fun h => h⟩
theorem aRaw_e (v : V) (ρ : List A) (R : Po) (Z' : Zo) : aRaw v ρ R Z' = (R (.raw v) ρ) := propext ⟨fun h => h, fun h => h⟩
theorem aOp_e (g : G2) (fa fb : AEx) (ρ : List A) (R : Po) (Z : Zo) : aOp g fa fb ρ R Z = (fa ρ (fun x ρ1 => fb ρ1 (fun y ρ2 => x.on fun dx => y.on fun dy => g dx dy fun a => R a ρ2) Z) Z) := propext ⟨fun h => h, fun h => h⟩
theorem aUn_e (g : G1) (fa : AEx) (ρ : List A) (R : Po) (Z : Zo) : aUn g fa ρ R Z = (fa ρ (fun x ρ1 => x.on fun dx => g dx fun a => R a ρ1) Z) := propext ⟨fun h => h, fun h => h⟩
theorem aNot_e (fa : AEx) (ρ : List A) (R : Po) (Z : Zo) : aNot fa ρ R Z = (fa ρ (fun x ρ1 => x.bl fun b => R (.d (.bool (!b))) ρ1) Z) := propext ⟨fun h => h, fun h => h⟩
theorem aAnd_e (fa fb : AEx) (ρ : List A) (R : Po) (Z : Zo) : aAnd fa fb ρ R Z = (fa ρ (fun x ρ1 => x.bl fun b => if b = true then fb ρ1 R Z else R (.d (.bool false)) ρ1) Z) := propext ⟨fun h => h, fun h => h⟩
theorem aOr_e (fa fb : AEx) (ρ : List A) (R : Po) (Z : Zo) : aOr fa fb ρ R Z = (fa ρ (fun x ρ1 => x.bl fun b => if b = true then R (.d (.bool true)) ρ1 else fb ρ1 R Z) Z) := propext ⟨fun h => h, fun h => h⟩
theorem aChain_e (g g' : G2) (fa fb fc : AEx) (ρ : List A) (R : Po) (Z : Zo) : aChain g g' fa fb fc ρ R Z = (fa ρ (fun x ρ1 => fb ρ1 (fun y ρ2 => x.on fun dx => y.on fun dy => g dx dy fun a => a.bl fun b => if b = true then fc ρ2 (fun z ρ3 => z.on fun dz => g' dy dz fun a => R a ρ3) Z else R (.d (.bool false)) ρ2) Z) Z) := propext ⟨fun h => h, fun h => h⟩
theorem aTern_e (ft : ATx) (fa fb : AEx) (ρ : List A) (R : Po) (Z : Zo) : aTern ft fa fb ρ R Z = (ft ρ (fun b ρ1 => if b = true then fa ρ1 R Z else fb ρ1 R Z) Z) := propext ⟨fun h => h, fun h => h⟩
theorem aNil_e (ρ : List A) (R : List A → List A → Prop) (Z' : Zo) : aNil  ρ R Z' = (R [] ρ) := propext ⟨fun h => h, fun h => h⟩
theorem aCons_e (fa : AEx) (fr : AAx) (ρ : List A) (R : List A → List A → Prop) (Z : Zo) : aCons fa fr ρ R Z = (fa ρ (fun a ρ1 => fr ρ1 (fun as ρ2 => R (a :: as) ρ2) Z) Z) := propext ⟨fun h => h, fun h => h⟩
theorem aTup_e (fa : AAx) (ρ : List A) (R : Po) (Z : Zo) : aTup fa ρ R Z = (fa ρ (fun as ρ1 => A.ons as fun ds => R (.d (.tuple ds)) ρ1) Z) := propext ⟨fun h => h, fun h => h⟩
theorem aLst_e (fa : AAx) (ρ : List A) (R : Po) (Z : Zo) : aLst fa ρ R Z = (fa ρ (fun as ρ1 => A.ons as fun ds => R (.own ds) ρ1) Z) := propext ⟨fun h => h, fun h => h⟩
theorem aB_e (fa : AEx) (ρ : List A) (R : Bool → List A → Prop) (Z : Zo) : aB fa ρ R Z = (fa ρ (fun x ρ1 => x.bl fun b => R b ρ1) Z) := propext ⟨fun h => h, fun h => h⟩
theorem tAndA_e (fa fb : ATx) (ρ : List A) (R : Bool → List A → Prop) (Z : Zo) : tAndA fa fb ρ R Z = (fa ρ (fun b ρ1 => if b = true then fb ρ1 R Z else R false ρ1) Z) := propext ⟨fun h => h, fun h => h⟩
theorem tOrA_e (fa fb : ATx) (ρ : List A) (R : Bool → List A → Prop) (Z : Zo) : tOrA fa fb ρ R Z = (fa ρ (fun b ρ1 => if b = true then R true ρ1 else fb ρ1 R Z) Z) := propext ⟨fun h => h, fun h => h⟩
theorem tNotA_e (fa : ATx) (ρ : List A) (R : Bool → List A → Prop) (Z : Zo) : tNotA fa ρ R Z = (fa ρ (fun b ρ1 => R (!b) ρ1) Z) := propext ⟨fun h => h, fun h => h⟩
theorem aCB_e (g : GB) (fa : AAx) (ρ : List A) (R : Po) (Z : Zo) : aCB g fa ρ R Z = (fa ρ (fun as ρ1 => g (as.map A.fz) fun a => R a ρ1) Z) := propext ⟨fun h => h, fun h => h⟩
theorem aCall_e (c : Ct) (fa : AAx) (ρ : List A) (R : Po) (Z : Zo) : aCall c fa ρ R Z = (fa ρ (fun as ρ1 => c (as.map A.fz) (fun a => R a ρ1) fun e => Z e ρ1) Z) := propext ⟨fun h => h, fun h => h⟩
theorem aCallK_e (c : Ct) (gA : List A → List A → List A) (fa fk : AAx) (ρ : List A) (R : Po) (Z : Zo) : aCallK c gA fa fk ρ R Z = (fa ρ (fun as ρ1 => fk ρ1 (fun zs ρ2 => c (gA (as.map A.fz) (zs.map A.fz)) (fun a => R a ρ2) fun e => Z e ρ2) Z) Z) := propext ⟨fun h => h, fun h => h⟩
theorem aSl_e (g : PyData → Option Int → Option Int → (A → Prop) → Prop) (fe : AEx) (fl fh : AOx) (ρ : List A) (R : Po) (Z : Zo) : aSl g fe fl fh ρ R Z = (fe ρ (fun x ρ1 => fl ρ1 (fun l ρ2 => fh ρ2 (fun h ρ3 => x.on fun dx => g dx l h fun a => R a ρ3) Z) Z) Z) := propext ⟨fun h => h, fun h => h⟩
theorem aNoP_e (ρ : List A) (R : Option Int → List A → Prop) (Z' : Zo) : aNoP  ρ R Z' = (R none ρ) := propext ⟨fun h => h, fun h => h⟩
theorem aCall0_e (c : Ct) (fa : AAx) (ρ : List A) (R : Po) (Z : Zo) : aCall0 c fa ρ R Z = (fa ρ (fun as ρ1 => c (as.map A.fz) (fun a => R a ρ1) fun _ => False) Z) := propext ⟨fun h => h, fun h => h⟩
theorem gN_e (i : Nat) (a : A) (ρ : List A) (R : List A → Prop) (Z' : Zo) : gN i a ρ R Z' = (R (ρ.set i a)) := propext ⟨fun h => h, fun h => h⟩
theorem aNext_e (E' : AE) (N : List A → Prop) (ρ : List A) : aNext  E' N ρ = (N ρ) := propext ⟨fun h => h, fun h => h⟩
theorem aSeq_e (f g : ASx) (E : AE) (N : List A → Prop) (ρ : List A) : aSeq f g E N ρ = (f E (fun ρ' => g E N ρ') ρ) := propext ⟨fun h => h, fun h => h⟩
theorem aBrk_e (E : AE) (N' : List A → Prop) (ρ : List A) : aBrk  E N' ρ = (E.bk ρ) := propext ⟨fun h => h, fun h => h⟩
theorem aCnt_e (E : AE) (N' : List A → Prop) (ρ : List A) : aCnt  E N' ρ = (E.ct ρ) := propext ⟨fun h => h, fun h => h⟩
theorem aDrop_e (fe : AEx) (E : AE) (N : List A → Prop) (ρ : List A) : aDrop fe E N ρ = (fe ρ (fun _ ρ1 => N ρ1) E.ex) := propext ⟨fun h => h, fun h => h⟩
theorem aRet_e (fe : AEx) (E : AE) (N' : List A → Prop) (ρ : List A) : aRet fe E N' ρ = (fe ρ (fun a _ => E.rt a) E.ex) := propext ⟨fun h => h, fun h => h⟩
theorem aRetN_e (E : AE) (N' : List A → Prop) (ρ' : List A) : aRetN  E N' ρ' = (E.rt (.d .none)) := propext ⟨fun h => h, fun h => h⟩
theorem aIfS_e (ft : ATx) (f g : ASx) (E : AE) (N : List A → Prop) (ρ : List A) : aIfS ft f g E N ρ = (ft ρ (fun b ρ1 => if b = true then f E N ρ1 else g E N ρ1) E.ex) := propext ⟨fun h => h, fun h => h⟩
theorem aAsg_e (fe : AEx) (g : AGx) (E : AE) (N : List A → Prop) (ρ : List A) : aAsg fe g E N ρ = (fe ρ (fun a ρ1 => g a ρ1 N E.ex) E.ex) := propext ⟨fun h => h, fun h => h⟩
theorem aAug_e (i : Nat) (k : Int → Int → Int) (fe : AEx) (E : AE) (N : List A → Prop) (ρ : List A) : aAug i k fe E N ρ = ((sl ρ i).it fun m => fe ρ (fun a ρ1 => a.it fun n => N (ρ1.set i (.d (.int (k m n))))) E.ex) := propext ⟨fun h => h, fun h => h⟩
theorem aPar_e (i j : Nat) (fa : AAx) (E : AE) (N : List A → Prop) (ρ : List A) : aPar i j fa E N ρ = (fa ρ (fun as ρ1 => A.two as fun a b => N ((ρ1.set i a).set j b)) E.ex) := propext ⟨fun h => h, fun h => h⟩
theorem aFor_e (fi : AIx) (g : AGx) (fb : ASx) (E : AE) (N : List A → Prop) (ρ : List A) : aFor fi g fb E N ρ = (fi ρ (fun ds ρ1 => forRun ds g fb E N ρ1) E.ex) := propext ⟨fun h => h, fun h => h⟩
theorem aWhile_e (ft : ATx) (fb : ASx) (E : AE) (N : List A → Prop) (ρ : List A) : aWhile ft fb E N ρ = (whileRun ft fb E N ρ) := propext ⟨fun h => h, fun h => h⟩
theorem aYes_e (ρ : List A) (R : Bool → List A → Prop) (Z' : Zo) : aYes  ρ R Z' = (R true ρ) := propext ⟨fun h => h, fun h => h⟩
theorem aIter_e (fe : AEx) (ρ : List A) (R : List PyData → List A → Prop) (Z : Zo) : aIter fe ρ R Z = (fe ρ (fun a ρ1 => a.seq fun ds => R ds ρ1) Z) := propext ⟨fun h => h, fun h => h⟩
theorem aEnum_e (fe : AAx) (ρ : List A) (R : List PyData → List A → Prop) (Z : Zo) : aEnum fe ρ R Z = (fe ρ (fun as ρ1 => A.one as fun a => a.seq fun ds => R (enumD ds) ρ1) Z) := propext ⟨fun h => h, fun h => h⟩
theorem aRange1_e (fe : AAx) (ρ : List A) (R : List PyData → List A → Prop) (Z : Zo) : aRange1 fe ρ R Z = (fe ρ (fun as ρ1 => A.one as fun a => a.it fun j => -(2 ^ 62) ≤ j ∧ j < 2 ^ 62 ∧ R (rangeD 0 j.toNat) ρ1) Z) := propext ⟨fun h => h, fun h => h⟩
theorem aRange2_e (fe : AAx) (ρ : List A) (R : List PyData → List A → Prop) (Z : Zo) : aRange2 fe ρ R Z = (fe ρ (fun as ρ1 => A.two as fun a b => a.it fun i => b.it fun j => (-(2 ^ 62) ≤ i ∧ i < 2 ^ 62 ∧ -(2 ^ 62) ≤ j ∧ j < 2 ^ 62) ∧ R (rangeD i (j - i).toNat) ρ1) Z) := propext ⟨fun h => h, fun h => h⟩
theorem aZip_e (fe : AAx) (ρ : List A) (R : List PyData → List A → Prop) (Z : Zo) : aZip fe ρ R Z = (fe ρ (fun as ρ1 => A.two as fun a b => A.same2 a.fz b.fz fun xs ys => R (zipD xs ys) ρ1) Z) := propext ⟨fun h => h, fun h => h⟩
theorem aZipTL_e (fe : AAx) (ρ : List A) (R : List PyData → List A → Prop) (Z : Zo) : aZipTL fe ρ R Z = (fe ρ (fun as ρ1 => A.two as fun a b => a.fz.tup fun xs => b.fz.lst fun ys => xs.length = ys.length ∧ R (zipD xs ys) ρ1) Z) := propext ⟨fun h => h, fun h => h⟩
theorem aApp_e (i : Nat) (fa : AEx) (ρ : List A) (R : Po) (Z : Zo) : aApp i fa ρ R Z = ((sl ρ i).isL = true ∧ fa ρ (fun a ρ1 => a.on fun y => (sl ρ1 i).ow fun ds => ds.length < 4000000 ∧ R (.d .none) (ρ1.set i (.own (ds ++ [y])))) Z) := propext ⟨fun h => h, fun h => h⟩
theorem aPopAt_e (i : Nat) (fa : AEx) (ρ : List A) (R : Po) (Z : Zo) : aPopAt i fa ρ R Z = ((sl ρ i).isL = true ∧ fa ρ (fun a ρ1 => a.it fun k => (sl ρ1 i).ow fun ds => 0 ≤ k ∧ k < (ds.length : Int) ∧ k < 2 ^ 63 ∧ R (.d (ds.getD k.toNat .none)) (ρ1.set i (.own (ds.eraseIdx k.toNat)))) Z) := propext ⟨fun h => h, fun h => h⟩
theorem aPop_e (i : Nat) (ρ : List A) (R : Po) (Z' : Zo) : aPop i ρ R Z' = ((sl ρ i).ow fun ds => ds ≠ [] ∧ R (.d (ds.getD (ds.length - 1) .none)) (ρ.set i (.own ds.dropLast))) := propext ⟨fun h => h, fun h => h⟩
theorem aLenV_e (i : Nat) (ρ : List A) (R : Po) (Z' : Zo) : aLenV i ρ R Z' = ((sl ρ i).ow fun ds => R (.d (.int (ds.length : Nat))) ρ) := propext ⟨fun h => h, fun h => h⟩
theorem aIxV_e (i : Nat) (fk : AEx) (ρ : List A) (R : Po) (Z : Zo) : aIxV i fk ρ R Z = ((sl ρ i).isL = true ∧ fk ρ (fun k ρ1 => k.it fun j => (sl ρ1 i).ow fun ds => ∃ d, atI ds j = some d ∧ R (.d d) ρ1) Z) := propext ⟨fun h => h, fun h => h⟩
theorem aEqNilV_e (neg : Bool) (i : Nat) (ρ : List A) (R : Po) (Z' : Zo) : aEqNilV neg i ρ R Z' = ((sl ρ i).ow fun ds => PyData.plainAll ds = true ∧ R (.d (.bool (if neg then !ds.isEmpty else ds.isEmpty))) ρ) := propext ⟨fun h => h, fun h => h⟩
theorem aTupV_e (i : Nat) (ρ : List A) (R : Po) (Z' : Zo) : aTupV i ρ R Z' = ((sl ρ i).ow fun ds => R (.d (.tuple ds)) ρ) := propext ⟨fun h => h, fun h => h⟩
theorem aDnew_e (ρ : List A) (R : Po) (Z' : Zo) : aDnew  ρ R Z' = (R (.d (.dict [])) ρ) := propext ⟨fun h => h, fun h => h⟩
theorem aListRg_e (fa : AEx) (ρ : List A) (R : Po) (Z : Zo) : aListRg fa ρ R Z = (fa ρ (fun a ρ1 => a.it fun n => -(2 ^ 62) ≤ n ∧ n ≤ 2 ^ 24 ∧ R (.own (rangeD 0 n.toNat)) ρ1) Z) := propext ⟨fun h => h, fun h => h⟩
theorem aComp_e (fi : AIx) (g : AGx) (ft : ATx) (fe : AEx) (vs : List Nat) (ρ : List A) (R : Po) (Z : Zo) : aComp fi g ft fe vs ρ R Z = (fi ρ (fun ds ρ1 => compRun ds g ft fe vs (wipeA ρ1 vs) R) Z) := propext ⟨fun h => h, fun h => h⟩
theorem aZip3T_e (fe : AAx) (ρ : List A) (R : List PyData → List A → Prop) (Z : Zo) : aZip3T fe ρ R Z = (fe ρ (fun as ρ1 => A.three as fun a b c => a.fz.tup fun xs => b.fz.tup fun ys => c.fz.tup fun zs => xs.length = ys.length ∧ xs.length = zs.length ∧ R (zip3D xs ys zs) ρ1) Z) := propext ⟨fun h => h, fun h => h⟩
theorem aCallK0_e (c : Ct) (gA : List A → List A → List A) (fa fk : AAx) (ρ : List A) (R : Po) (Z : Zo) : aCallK0 c gA fa fk ρ R Z = (fa ρ (fun as ρ1 => fk ρ1 (fun zs ρ2 => c (gA (as.map A.fz) (zs.map A.fz)) (fun a => R a ρ2) fun _ => False) Z) Z) := propext ⟨fun h => h, fun h => h⟩
theorem gSetV_e (i : Nat) (fk : AEx) (a : A) (ρ : List A) (R : List A → Prop) (Z : Zo) : gSetV i fk a ρ R Z = ((sl ρ i).isL = true ∧ fk ρ (fun k ρ1 => k.it fun j => a.on fun y => (sl ρ1 i).ow fun ds => ∃ n, ixN ds.length j = some n ∧ R (ρ1.set i (.own (ds.set n y)))) Z) := propext ⟨fun h => h, fun h => h⟩
end
section
variable {k : PyData → Prop} {kb : Bool → Prop} {ki : Int → Prop} {kl : List PyData → Prop} {kll : List PyData → List PyData → Prop} {ka : A → Prop} {x y : PyData} {v : V} {ds es : List PyData} {b c : Bool} {i j : Int} {a : A} {as : List A} {R : A → Prop} {Rp : Po} {ρ : List A} {n : Nat} {t : Str} {lo hi : Option Int}
theorem on_d : (A.d x).on k = k x := propext ⟨fun h => h, fun h => h⟩
theorem on_own : (A.own ds).on k = k (.list ds) := propext ⟨fun h => h, fun h => h⟩
theorem bl_b : (A.d (.bool b)).bl kb = kb b := propext ⟨fun h => h, fun h => h⟩
theorem it_i : (A.d (.int i)).it ki = ki i := propext ⟨fun h => h, fun h => h⟩
theorem ow_o : (A.own ds).ow kl = kl ds := propext ⟨fun h => h, fun h => h⟩
theorem isOwn_o : (A.own ds).isL = true := rfl
theorem seq_t : (A.d (.tuple ds)).seq kl = kl ds := propext ⟨fun h => h, fun h => h⟩
theorem seq_l : (A.d (.list ds)).seq kl = kl ds := propext ⟨fun h => h, fun h => h⟩
theorem seq_o : (A.own ds).seq kl = kl ds := propext ⟨fun h => h, fun h => h⟩
theorem lst_l : (A.d (.list ds)).lst kl = kl ds := propext ⟨fun h => h, fun h => h⟩
theorem lst_o : (A.own ds).lst kl = kl ds := propext ⟨fun h => h, fun h => h⟩
theorem tup_t : (A.d (.tuple ds)).tup kl = kl ds := propext ⟨fun h => h, fun h => h⟩
theorem same_t : A.same2 (.d (.tuple ds)) (.d (.tuple es)) kll = kll ds es := propext ⟨fun h => h, fun h => h⟩
theorem same_l : A.same2 (.d (.list ds)) (.d (.list es)) kll = kll ds es := propext ⟨fun h => h, fun h => h⟩
theorem one_1 : A.one [a] ka = ka a := propext ⟨fun h => h, fun h => h⟩
theorem fz_d : (A.d x).fz = .d x := rfl
theorem fz_r : (A.raw v).fz = .raw v := rfl
theorem fz_o : (A.own ds).fz = .d (.list ds) := rfl
theorem look_d : (A.d x).look n ρ Rp = Rp (.d x) ρ := propext ⟨fun h => h, fun h => h⟩
theorem look_r : (A.raw v).look n ρ Rp = Rp (.raw v) ρ := propext ⟨fun h => h, fun h => h⟩
theorem look_o : (A.own ds).look n ρ Rp = Rp (.d (.list ds)) (ρ.set n (.d (.list ds))) := propext ⟨fun h => h, fun h => h⟩
theorem unA_0 : unA 0 = [] := rfl
theorem unA_s : unA (n + 1) = .un :: unA n := rfl
theorem sl_0 : sl (a :: as) 0 = a := rfl
theorem sl_s : sl (a :: as) (n + 1) = sl as n := rfl
theorem ons_n : A.ons [] kl = kl [] := propext ⟨fun h => h, fun h => h⟩
theorem ons_c : A.ons (a :: as) kl = a.on fun d => A.ons as fun ds => kl (d :: ds) := propext ⟨fun h => h, fun h => h⟩
theorem gI0_i {f : Int → Int → PyData} : gI0 f (.int i) (.int j) R = R (.d (f i j)) := propext ⟨fun h => h, fun h => h⟩
theorem gI_i {f : Int → Int → PyData} {C : Int → Int → Prop} : gI C f (.int i) (.int j) R = (C i j ∧ R (.d (f i j))) := propext ⟨fun h => h, fun h => h⟩
theorem gU_i {f : Int → PyData} : gU f (.int i) R = R (.d (f i)) := propext ⟨fun h => h, fun h => h⟩
theorem gIsN_n : gIsN x .none R = R (.d (.bool (isNone x))) := propext ⟨fun h => h, fun h => h⟩
theorem gNotN_n : gNotN x .none R = R (.d (.bool (!isNone x))) := propext ⟨fun h => h, fun h => h⟩
theorem isNone_n : isNone .none = true := rfl
theorem isNone_i : isNone (.int i) = false := rfl
theorem isNone_b : isNone (.bool b) = false := rfl
theorem isNone_s : isNone (.str t) = false := rfl
theorem isNone_t : isNone (.tuple ds) = false := rfl
theorem isNone_l : isNone (.list ds) = false := rfl
theorem gEq_i : gEq (.int i) (.int j) R = R (.d (.bool (i == j))) := by
  unfold gEq
  simp [PyData.plain, PyData.depth, PyData.eqv]
theorem gNe_i : gNe (.int i) (.int j) R = R (.d (.bool (!(i == j)))) := by
  unfold gNe
  simp [PyData.plain, PyData.depth, PyData.eqv]
theorem gEq_s {u : Str} : gEq (.str t) (.str u) R = R (.d (.bool (t == u))) := by
  unfold gEq
  simp [PyData.plain, PyData.depth, PyData.eqv]
theorem gNe_s {u : Str} : gNe (.str t) (.str u) R = R (.d (.bool (!(t == u)))) := by
  unfold gNe
  simp [PyData.plain, PyData.depth, PyData.eqv]
theorem gIn_l : gIn x (.list ds) R = (PyData.plainAll ds = true ∧ x.plain = true ∧ min (PyData.depthAll ds) x.depth ≤ 60 ∧ R (.d (.bool (ds.any fun z => PyData.eqv z x)))) := propext ⟨fun h => h, fun h => h⟩
theorem gIn_t : gIn x (.tuple ds) R = (PyData.plainAll ds = true ∧ x.plain = true ∧ min (PyData.depthAll ds) x.depth ≤ 60 ∧ R (.d (.bool (ds.any fun z => PyData.eqv z x)))) := propext ⟨fun h => h, fun h => h⟩
theorem gNotIn_l : gNotIn x (.list ds) R = (PyData.plainAll ds = true ∧ x.plain = true ∧ min (PyData.depthAll ds) x.depth ≤ 60 ∧ R (.d (.bool (!ds.any fun z => PyData.eqv z x)))) := propext ⟨fun h => h, fun h => h⟩
theorem gNotIn_t : gNotIn x (.tuple ds) R = (PyData.plainAll ds = true ∧ x.plain = true ∧ min (PyData.depthAll ds) x.depth ≤ 60 ∧ R (.d (.bool (!ds.any fun z => PyData.eqv z x)))) := propext ⟨fun h => h, fun h => h⟩
theorem gIx_t : gIx (.tuple ds) (.int i) R = ∃ d, atI ds i = some d ∧ R (.d d) := propext ⟨fun h => h, fun h => h⟩
theorem gIx_l : gIx (.list ds) (.int i) R = ∃ d, atI ds i = some d ∧ R (.d d) := propext ⟨fun h => h, fun h => h⟩
theorem gCat_i : gCat (.int i) (.int j) R = R (.d (.int (i + j))) := propext ⟨fun h => h, fun h => h⟩
theorem gCat_t : gCat (.tuple ds) (.tuple es) R = (ds.length + es.length ≤ 4000000 ∧ R (.d (.tuple (ds ++ es)))) := propext ⟨fun h => h, fun h => h⟩
theorem gCat_l : gCat (.list ds) (.list es) R = (ds.length + es.length ≤ 4000000 ∧ R (.own (ds ++ es))) := propext ⟨fun h => h, fun h => h⟩
theorem gMul_i : gMul (.int i) (.int j) R = (CMulW i j ∧ R (.d (.int (i * j)))) := propext ⟨fun h => h, fun h => h⟩
theorem gMul_t : gMul (.tuple ds) (.int i) R = (ds ≠ [] ∧ 0 ≤ i ∧ i ≤ 1000 ∧ ds.length ≤ 1000 ∧ R (.d (.tuple (List.replicate i.toNat ds).flatten))) := propext ⟨fun h => h, fun h => h⟩
theorem gMul_l : gMul (.list ds) (.int i) R = (0 ≤ i ∧ ds.length * i.toNat ≤ 4000000 ∧ i < 2 ^ 63 ∧ R (.own (List.replicate i.toNat ds).flatten)) := propext ⟨fun h => h, fun h => h⟩
theorem gCut_t : gCut (.tuple ds) lo hi R = R (.d (.tuple (Sx.cutD ds lo hi))) := propext ⟨fun h => h, fun h => h⟩
theorem gCut_l : gCut (.list ds) lo hi R = R (.own (Sx.cutD ds lo hi)) := propext ⟨fun h => h, fun h => h⟩
theorem gP_x {p : PyData → Bool} : gP p x R = R (.d (.bool (p x))) := propext ⟨fun h => h, fun h => h⟩
theorem intD_n : Lf.intD .none = false := rfl
theorem intD_b : Lf.intD (.bool b) = true := rfl
theorem intD_i : Lf.intD (.int i) = true := rfl
theorem intD_s : Lf.intD (.str t) = false := rfl
theorem intD_l : Lf.intD (.list ds) = false := rfl
theorem intD_t : Lf.intD (.tuple ds) = false := rfl
theorem intD_d {m : List (PyData × PyData)} : Lf.intD (.dict m) = false := rfl
theorem boolD_n : boolD .none = false := rfl
theorem boolD_b : boolD (.bool b) = true := rfl
theorem boolD_i : boolD (.int i) = false := rfl
theorem boolD_s : boolD (.str t) = false := rfl
theorem boolD_l : boolD (.list ds) = false := rfl
theorem boolD_t : boolD (.tuple ds) = false := rfl
theorem boolD_d {m : List (PyData × PyData)} : boolD (.dict m) = false := rfl
theorem strD_n : strD .none = false := rfl
theorem strD_b : strD (.bool b) = false := rfl
theorem strD_i : strD (.int i) = false := rfl
theorem strD_s : strD (.str t) = true := rfl
theorem strD_l : strD (.list ds) = false := rfl
theorem strD_t : strD (.tuple ds) = false := rfl
theorem strD_d {m : List (PyData × PyData)} : strD (.dict m) = false := rfl
theorem tupD_n : tupD .none = false := rfl
theorem tupD_b : tupD (.bool b) = false := rfl
theorem tupD_i : tupD (.int i) = false := rfl
theorem tupD_s : tupD (.str t) = false := rfl
theorem tupD_l : tupD (.list ds) = false := rfl
theorem tupD_t : tupD (.tuple ds) = true := rfl
theorem tupD_d {m : List (PyData × PyData)} : tupD (.dict m) = false := rfl
theorem wholeD_n : wholeD .none = false := rfl
theorem wholeD_b : wholeD (.bool b) = false := rfl
theorem wholeD_i : wholeD (.int i) = true := rfl
theorem wholeD_s : wholeD (.str t) = false := rfl
theorem wholeD_l : wholeD (.list ds) = false := rfl
theorem wholeD_t : wholeD (.tuple ds) = false := rfl
theorem wholeD_d {m : List (PyData × PyData)} : wholeD (.dict m) = false := rfl
theorem gLen_1 : gLen [a] R = a.seq fun ds => R (.d (.int (ds.length : Nat))) := propext ⟨fun h => h, fun h => h⟩
theorem gTuple_1 : gTuple [a] R = a.seq fun ds => R (.d (.tuple ds)) := propext ⟨fun h => h, fun h => h⟩
theorem gList_1 : gList [a] R = a.seq fun ds => R (.own ds) := propext ⟨fun h => h, fun h => h⟩
theorem gInt_i : gInt [.d (.int i)] R = R (.d (.int i)) := propext ⟨fun h => h, fun h => h⟩
theorem gInt_b : gInt [.d (.bool b)] R = R (.d (.int (if b then 1 else 0))) := propext ⟨fun h => h, fun h => h⟩
theorem gAbs_i : gAbs [.d (.int i)] R = R (.d (.int (if i < 0 then -i else i))) := propext ⟨fun h => h, fun h => h⟩
theorem gRepr_x : gRepr [.d x] R = (Shows x ∧ R (.d (.str x.shown))) := propext ⟨fun h => h, fun h => h⟩
theorem gAll_l : gAll [.d (.list ds)] R = ∃ bs, boolsD ds = some bs ∧ R (.d (.bool (bs.all id))) := propext ⟨fun h => h, fun h => h⟩
theorem gAny_l : gAny [.d (.list ds)] R = ∃ bs, boolsD ds = some bs ∧ R (.d (.bool (bs.any id))) := propext ⟨fun h => h, fun h => h⟩
theorem gSum_l : gSum [.d (.list ds)] R = ∃ ns, intsD ds = some ns ∧ R (.d (.int ns.sum)) := propext ⟨fun h => h, fun h => h⟩
theorem gGcd_i : gGcd [.d (.int i), .d (.int j)] R = R (.d (.int ((Nat.gcd i.natAbs j.natAbs : Nat) : Int))) := propext ⟨fun h => h, fun h => h⟩
theorem gSorted_l : gSorted [.d (.list ds)] R = ∃ ns, intsD ds = some ns ∧ ∀ ns' : List Int, ns'.Perm ns → ns'.Pairwise (· ≤ ·) → R (.own (ns'.map PyData.int)) := propext ⟨fun h => h, fun h => h⟩
theorem cDraw_1 {dk : V} {m : Int} {Zx : Ex → Prop} : cDraw dk [.raw v, .d (.int m)] R Zx = (v = dk ∧ Small m ∧ ∀ r : Int, 0 ≤ r → r < m → R (.d (.int r))) := propext ⟨fun h => h, fun h => h⟩
theorem two_1 {k : A → A → Prop} {b : A} : A.two [a, b] k = k a b := propext ⟨fun h => h, fun h => h⟩
theorem three_1 {k : A → A → A → Prop} {b c : A} : A.three [a, b, c] k = k a b c := propext ⟨fun h => h, fun h => h⟩
theorem cPick_1 {dk : V} {Zx : Ex → Prop} : cPick dk [.raw v, a] R Zx = (v = dk ∧ a.seq fun xs => xs ≠ [] ∧ xs.length ≤ 100000 ∧ ∀ x ∈ xs, R (.d x)) := propext ⟨fun h => h, fun h => h⟩
theorem gMax2_i : gMax2 [.d (.int i), .d (.int j)] R = R (.d (.int (if j > i then j else i))) := propext ⟨fun h => h, fun h => h⟩
theorem gMin2_i : gMin2 [.d (.int i), .d (.int j)] R = R (.d (.int (if j < i then j else i))) := propext ⟨fun h => h, fun h => h⟩
theorem gEqS_s : gEqS x (.str t) R = R (.d (.bool (isStr x t))) := propext ⟨fun h => h, fun h => h⟩
theorem isStr_s {u : Str} : isStr (.str t) u = (t == u) := rfl
theorem gNil_n {Rl : List A → Prop} {Z : Zo} : Lf.gNil [] ρ Rl Z = Rl ρ := propext ⟨fun h => h, fun h => h⟩
theorem gCons_c {g : AGx} {gs : List A → List A → (List A → Prop) → Zo → Prop} {Rl : List A → Prop} {Z : Zo} : Lf.gCons g gs (a :: as) ρ Rl Z = g a ρ (fun ρ' => gs as ρ' Rl Z) Z := propext ⟨fun h => h, fun h => h⟩
theorem gT_t {gs : List A → List A → (List A → Prop) → Zo → Prop} {Rl : List A → Prop} {Z : Zo} : gT gs (.d (.tuple ds)) ρ Rl Z = gs (ds.map A.d) ρ Rl Z := propext ⟨fun h => h, fun h => h⟩
theorem gL_o {gs : List A → List A → (List A → Prop) → Zo → Prop} {Rl : List A → Prop} {Z : Zo} : gL gs (.own ds) ρ Rl Z = gs (ds.map A.d) ρ Rl Z := propext ⟨fun h => h, fun h => h⟩
theorem gL_l {gs : List A → List A → (List A → Prop) → Zo → Prop} {Rl : List A → Prop} {Z : Zo} : gL gs (.d (.list ds)) ρ Rl Z = gs (ds.map A.d) ρ Rl Z := propext ⟨fun h => h, fun h => h⟩
theorem at1_0 : atI [x] 0 = some x := atI_nat (j := 0) rfl
theorem at2_0 : atI [x, y] 0 = some x := atI_nat (j := 0) rfl
theorem at2_1 : atI [x, y] 1 = some y := atI_nat (j := 1) rfl
theorem at3_0 {z : PyData} : atI [x, y, z] 0 = some x := atI_nat (j := 0) rfl
theorem at3_1 {z : PyData} : atI [x, y, z] 1 = some y := atI_nat (j := 1) rfl
theorem at3_2 {z : PyData} : atI [x, y, z] 2 = some z := atI_nat (j := 2) rfl
theorem cpow_e {C : Prop} : (CPow i j ∧ C) = ((0 ≤ j ∧ j ≤ 1000000 ∧ i.natAbs < 2 ^ 64) ∧ C) := propext ⟨fun h => h, fun h => h⟩
theorem cast_lit {m : Nat} : ((no_index (OfNat.ofNat m) : Nat) : Int) = (OfNat.ofNat m : Int) := rfl
theorem abs_lit {m : Nat} : (no_index (OfNat.ofNat m) : Int).natAbs = OfNat.ofNat m := rfl
theorem aPart_e {fe : AEx} {Ro : Option Int → List A → Prop} {Z : Zo} : aPart fe ρ Ro Z = fe ρ (fun x ρ1 => x.it fun i => Ro (some i) ρ1) Z := by
  unfold aPart
  congr 1
  funext x ρ1
  cases x with
  | d y => cases y <;> rfl
  | un => rfl
  | raw _ => rfl
  | own _ => rfl
  | sp _ => rfl
end
end Lf
namespace Lf
open PySem PySem.Spec PyProof.Rows L2 Sx

def rMinS (K : PySem.W.Frag) : List V → Hp → VK → Prop := fun vs H Q => rMin K vs H Q ∨ rMinT K vs H Q
theorem cr_minS {X : Cx} (hc : X.calm = true) (hu : X.A.units + 64 < cLine) : CallR X (.builtin "min") (rMinS X.K) := by
  intro pins s σ H vs us Q I r h
  exact h.elim (fun h => cr_min hc pins s σ H vs us Q I r h) (fun h => cr_minT hc hu pins s σ H vs us Q I r h)
theorem foldl_min : ∀ (ns : List Int) (n : Int), ns.foldl min n ∈ n :: ns ∧ ∀ y ∈ n :: ns, ns.foldl min n ≤ y
  | [], n => ⟨List.mem_cons_self, fun y h => by
      rcases List.mem_cons.mp h with rfl | h
      · exact Int.le_refl _
      · exact nomatch h⟩
  | m :: ns, n => by
    obtain ⟨h1, h2⟩ := foldl_min ns (min n m)
    have b : min n m ≤ n ∧ min n m ≤ m := ⟨Int.min_le_left _ _, Int.min_le_right _ _⟩
    have b0 := h2 _ List.mem_cons_self
    refine ⟨?_, fun y h => ?_⟩
    · show List.foldl min (min n m) ns ∈ _
      rcases List.mem_cons.mp h1 with e | e
      · rw [e]
        rcases Int.le_total n m with h | h
        · rw [Int.min_eq_left h]
          simp
        · rw [Int.min_eq_right h]
          simp
      · exact List.mem_cons_of_mem _ (List.mem_cons_of_mem _ e)
    · show List.foldl min (min n m) ns ≤ y
      rcases List.mem_cons.mp h with rfl | h
      · omega
      rcases List.mem_cons.mp h with rfl | h
      · omega
      · exact h2 y (List.mem_cons_of_mem _ h)
def MaxR (R : A → Prop) (ds : List PyData) : Prop := ∃ ns, intsD ds = some ns ∧ 0 < ns.length ∧ ∀ m ∈ ns, (∀ y ∈ ns, y ≤ m) → R (.d (.int m))
def MinR (R : A → Prop) (ds : List PyData) : Prop := ∃ ns, intsD ds = some ns ∧ 0 < ns.length ∧ ∀ m ∈ ns, (∀ y ∈ ns, m ≤ y) → R (.d (.int m))
def gMax1 : GB := fun as R => match as with
  | [.d (.list ds)] => MaxR R ds
  | [.d (.tuple ds)] => MaxR R ds
  | _ => False
def gMin1 : GB := fun as R => match as with
  | [.d (.list ds)] => MinR R ds
  | [.d (.tuple ds)] => MinR R ds
  | _ => False
section
variable {K : PySem.W.Frag}
theorem cl_min1 : CbL K (rMinS K) gMin1 := by
  intro B G0 F0 cs as vs xs H R Q l n S h q
  match cs, vs, l, S, h with
  | [.d (.list ds)], [v], _, S, ⟨bs, e, hp, r⟩ =>
    obtain ⟨G, h1, O⟩ := St.open1 S
    obtain ⟨p, ws, rfl, e1, ha⟩ := lst_in h1
    have := dva_ints ha e
    subst this
    exact .inl ⟨p, bs, rfl, .of (O.sg _ _ e1), hp, fun m hm hle => q _ H _ (r m hm hle) (O.pu _ _ (.int _))⟩
  | [.d (.tuple ds)], [v], _, S, ⟨bs, e, hp, r⟩ =>
    obtain ⟨G, h1, O⟩ := St.open1 S
    obtain ⟨p, ws, rfl, e1, ha⟩ := tup_in h1
    have := dva_ints ha e
    subst this
    match bs, hp, r, e1 with
    | m :: ns, _, r, e1 =>
      obtain ⟨u1, u2⟩ := foldl_min ns m
      exact .inr ⟨p, m, ns, rfl, Sx.Same.tup O.sg e1, q _ H _ (r _ u1 u2) (O.pu _ _ (.int _))⟩

def strsD : List PyData → Option (List Str)
  | [] => some []
  | .str t :: ds => (strsD ds).map (t :: ·)
  | _ :: _ => none
def gInS : G2 := fun x y R => match y with
  | .tuple ds => ∃ ts, strsD ds = some ts ∧ R (.d (.bool (ts.any fun t => isStr x t)))
  | _ => False
def gEqNil : G2 := fun x y R => match x, y with
  | .tuple ds, .tuple [] => R (.d (.bool ds.isEmpty))
  | _, _ => False
end
section
variable {x : PyData} {ds : List PyData} {R : A → Prop}
theorem gMax1_l : gMax1 [.d (.list ds)] R = MaxR R ds := propext ⟨fun h => h, fun h => h⟩
theorem gMax1_t : gMax1 [.d (.tuple ds)] R = MaxR R ds := propext ⟨fun h => h, fun h => h⟩
theorem gMin1_l : gMin1 [.d (.list ds)] R = MinR R ds := propext ⟨fun h => h, fun h => h⟩
theorem gMin1_t : gMin1 [.d (.tuple ds)] R = MinR R ds := propext ⟨fun h => h, fun h => h⟩
theorem gInS_t : gInS x (.tuple ds) R = ∃ ts, strsD ds = some ts ∧ R (.d (.bool (ts.any fun t => isStr x t))) := propext ⟨fun h => h, fun h => h⟩
theorem gEqNil_t : gEqNil (.tuple ds) (.tuple []) R = R (.d (.bool ds.isEmpty)) := propext ⟨fun h => h, fun h => h⟩
end
mutual
def noL : PyData → Bool
  | .none => true
  | .bool _ => true
  | .int _ => true
  | .str _ => true
  | .list _ => false
  | .tuple ds => noLAll ds
  | .dict _ => false
def noLAll : List PyData → Bool
  | [] => true
  | d :: ds => noL d && noLAll ds
end
def A.dat (a : A) (k : A → Prop) : Prop := match a with
  | .d x => k (.d x)
  | .raw v => k (.raw v)
  | _ => False
def A.nl (a : A) (k : A → Prop) : Prop := match a with
  | .d x => noL x = true ∧ k (.d x)
  | _ => False
def argsV (ρ : List A) (i : Nat) : List Nat → (List A → Prop) → Prop
  | [], k => k []
  | j :: js, k => if (j == i) = true then argsV ρ i js fun as => k ((sl ρ i).fz :: as) else (sl ρ j).dat fun a => argsV ρ i js fun as => k (a :: as)
def aLend (c : Ct) (i : Nat) (js : List Nat) : AEx := fun ρ R _ => (sl ρ i).isL = true ∧ argsV ρ i js fun as => c as (fun a => a.nl fun b => R b ρ) fun _ => False
section
variable {k : List A → Prop} {ka : A → Prop} {i j : Nat} {js : List Nat} {ρ : List A} {x : PyData} {v : V} {c : Ct} {R : Po} {Z : Zo}
theorem aLend_e : aLend c i js ρ R Z = ((sl ρ i).isL = true ∧ argsV ρ i js fun as => c as (fun a => a.nl fun b => R b ρ) fun _ => False) := propext ⟨fun h => h, fun h => h⟩
theorem argsV_n : argsV ρ i [] k = k [] := propext ⟨fun h => h, fun h => h⟩
theorem argsV_c : argsV ρ i (j :: js) k = (if (j == i) = true then argsV ρ i js fun as => k ((sl ρ i).fz :: as) else (sl ρ j).dat fun a => argsV ρ i js fun as => k (a :: as)) := propext ⟨fun h => h, fun h => h⟩
theorem dat_d : (A.d x).dat ka = ka (.d x) := propext ⟨fun h => h, fun h => h⟩
theorem dat_r : (A.raw v).dat ka = ka (.raw v) := propext ⟨fun h => h, fun h => h⟩
theorem nl_d : (A.d x).nl ka = (noL x = true ∧ ka (.d x)) := propext ⟨fun h => h, fun h => h⟩
end
end Lf
set_option maxHeartbeats 4000000
namespace TpS
open PySem PySem.Spec PyProof.Rows L2 PySem.W
section
variable {prog : Program} {w : World} {A : Around} {E : Value → Shared → Prop} {s : Shared}
theorem lex_any {b fin : Bool} {Q : Bool → Shared → Prop} {xs ys : List Value} {ns ms : List Int} (i : Nat) (hx : IntsAre xs ns) (hy : IntsAre ys ms) (hf : fin = decide (ns.length < ms.length))
    (h : Q (HT.lexLt ns ms) s) : PySem.W.KatLex prog w A b fin Q (xs.zip ys) i s := by
  induction hx generalizing ys ms i with
  | nil =>
    cases hy with
    | nil =>
      rw [HT.lexLt_nil_nil] at h
      rw [hf]
      exact PySem.W.kat_nil h
    | cons q u hy =>
      rw [HT.lexLt_nil_cons] at h
      rw [hf]
      refine PySem.W.kat_nil ?_
      rw [decide_eq_true (by simp)]
      exact h
  | @cons p t xs ns hx ih =>
    cases hy with
    | nil =>
      rw [HT.lexLt_cons_nil] at h
      rw [hf]
      refine PySem.W.kat_nil ?_
      rw [decide_eq_false (by simp)]
      exact h
    | @cons q u ys ms hy =>
      rw [HT.lexLt_cons] at h
      show PySem.W.KatLex prog w A b fin Q ((Value.int p t, Value.int q u) :: xs.zip ys) i s
      refine PySem.W.kat_cons (wpAny_eqBool_int ?_)
      by_cases e : p = q
      · subst e
        rw [if_pos rfl] at h
        rw [beq_self_eq_true]
        refine PySem.W.kat_yes (ih (i + 1) hy ?_ h)
        rw [hf]
        simp
      · rw [if_neg e] at h
        rw [show (p == q) = false from beq_eq_false_iff_ne.mpr e]
        exact PySem.W.kat_no (TS.oneLt_ints _ h)
def TI (h : Heap) (v : Value) (ns : List Int) : Prop := ∃ a xs, v = .ref a ∧ IsTup h a xs ∧ IntsAre xs.toList ns
theorem TI.keep {h h' : Heap} {v : Value} {ns : List Int} (x : TI h v ns) (k : ∀ b o, v = .ref b → h.get? b = some o → h'.get? b = some o) : TI h' v ns := by
  obtain ⟨a, xs, e, ⟨o, ho, r⟩, i⟩ := x
  exact ⟨a, xs, e, ⟨o, k a o e ho, r⟩, i⟩
theorem firsts {k : Value → List Int} : ∀ (vs : List Value), (∀ v ∈ vs, TI s.heap v (k v)) → ∃ fs : List (Option Value),
    (∀ (M : Model) (A : Around) (E : Value → Shared → Prop) (Q : List (Option Value) → Shared → Prop), Q fs s → wpAny M A (vs.mapM firstOfTuple') Q E s) ∧ fs.map (·.isSome) = vs.map (fun v => !(k v).isEmpty) ∧ ∀ f, some f ∈ fs → ∃ n t, f = Value.int n t
  | [], _ => ⟨[], fun M A E Q h => by rw [List.mapM_nil]; exact wpAny_pure h, rfl, fun f h => nomatch h⟩
  | v :: vs, hv => by
    obtain ⟨fs, f1, f2, f3⟩ := firsts vs fun u hu => hv u (List.mem_cons_of_mem _ hu)
    obtain ⟨a, xs, e, ⟨o, ho, hc, n, hd⟩, hi⟩ := hv v List.mem_cons_self
    refine ⟨xs[0]? :: fs, fun M A E Q h => ?_, ?_, fun f hf => ?_⟩
    · rw [List.mapM_cons]
      refine wpAny_bind ?_
      rw [kas_first_eq, e]
      refine wpAny_bind (Looks.here (show Looks M s.heap (typeOf (.ref a)) o.cls from (Looks.ld ho).andThen .now) ?_)
      rw [hc, if_neg (by first | decide | simp)]
      refine wpAny_bind (listItems_at ho hd (wpAny_pure ?_))
      exact wpAny_bind (f1 M A E (fun bs s' => wpAny M A (pure (xs[0]? :: bs)) Q E s') (wpAny_pure h))
    · rw [List.map_cons, List.map_cons, f2]
      congr 1
      rw [← Array.getElem?_toList]
      generalize xs.toList = ys at hi
      generalize k v = ns at hi
      cases hi <;> rfl
    · rcases List.mem_cons.mp hf with h | h
      · rw [← Array.getElem?_toList] at h
        generalize xs.toList = ys at hi h
        generalize k v = ns at hi
        cases hi with
        | nil => simp at h
        | cons m t hi => exact ⟨m, t, by simpa using h⟩
      · exact f3 f h
theorem kind {k : Value → List Int} {vs : List Value} (h2 : 2 ≤ vs.length) (hv : ∀ v ∈ vs, TI s.heap v (k v)) : ∃ κ, (∃ b, κ = tuples' b) ∧ (∀ (M : Model) (A : Around) (E : Value → Shared → Prop) (Q : SortKind → Shared → Prop), Q κ s → wpAny M A (keyKind' vs.toArray) Q E s) ∨
    (κ = general' ∨ κ = oneType') ∧ (∀ (M : Model) (A : Around) (E : Value → Shared → Prop) (Q : SortKind → Shared → Prop), Q κ s → wpAny M A (keyKind' vs.toArray) Q E s) := by
  obtain ⟨fs, f1, f2, f3⟩ := firsts vs hv
  have hl : fs.length = vs.length := by
    have := congrArg List.length f2
    simpa using this
  by_cases ha : ∀ f ∈ fs, f.isSome = true
  · -- all of them have a first item
    have hfm : ∃ f1 fr, fs.filterMap id = f1 :: fr ∧ ∀ f ∈ f1 :: fr, ∃ n t, f = Value.int n t := by
      match fs, hl, ha, f3 with
      | [], hl, _, _ => exact absurd hl (by simp; omega)
      | some f :: fs, _, _, f3 =>
        refine ⟨f, fs.filterMap id, rfl, fun g hg => ?_⟩
        rcases List.mem_cons.mp hg with rfl | hg
        · exact f3 _ List.mem_cons_self
        · obtain ⟨o, ho, e⟩ := List.mem_filterMap.mp hg
          have e : o = some g := e
          subst e
          exact f3 g (List.mem_cons_of_mem _ ho)
      | none :: fs, _, ha, _ => exact absurd (ha none List.mem_cons_self) (by decide)
    obtain ⟨g, gr, hg, hi⟩ := hfm
    refine ⟨tuples' (Value.type "int" != Value.type "tuple"), .inl ⟨⟨_, rfl⟩, fun M A E Q h => ?_⟩⟩
    rw [kat_kind_eq, List.mapM_toArray, map_eq_pure_bind]
    refine wpAny_bind (wpAny_bind (f1 M A E _ (wpAny_pure ?_)))
    have hall : (fs.toArray.all fun x => x.isSome) = true := by
      rw [List.all_toArray, List.all_eq_true]
      exact ha
    rw [if_pos hall]
    refine wpAny_bind (wpAny_rule ?_)
    have e2 : fs.toArray.filterMap id = (g :: gr).toArray := by
      rw [List.filterMap_toArray, hg]
    rw [e2, oneTypeOnly'_eq, List.mapM_toArray, map_eq_pure_bind]
    refine wpAny_bind (wpAny_bind (wpAny_bind (kas_mapM (r := Value.type "int") _ (fun v hv Q' hq => ?_) (wpAny_pure ?_))))
    · obtain ⟨n, t, rfl⟩ := hi v hv
      exact (show Looks M s.heap (typeOf (Value.int n t)) (Value.type "int") from PySem.W.Looks.of_pure rfl).here hq
    · have hall2 : ((List.map (fun _ => Value.type "int") (g :: gr)).toArray.all fun x => x == Value.type "int") = true := by
        simp only [List.all_toArray, List.all_map, List.all_eq_true]
        intro _ _
        rfl
      have h0 : (List.map (fun _ => Value.type "int") (g :: gr)).toArray[0]? = some (Value.type "int") := by simp
      rw [h0]
      simp only [hall2, if_true]
      exact wpAny_pure (wpAny_pure h)
  · have hn : ¬ (fs.toArray.all fun x => x.isSome) = true := by
      rw [List.all_toArray, List.all_eq_true]
      exact ha
    cases hf : (fs.toArray[0]?.bind id).isSome with
    | true =>
      refine ⟨general', .inr ⟨.inl rfl, fun M A E Q h => ?_⟩⟩
      rw [kat_kind_eq, List.mapM_toArray, map_eq_pure_bind]
      refine wpAny_bind (wpAny_bind (f1 M A E _ (wpAny_pure ?_)))
      rw [if_neg hn, if_pos hf]
      exact wpAny_pure h
    | false =>
      refine ⟨oneType', .inr ⟨.inr rfl, fun M A E Q h => ?_⟩⟩
      rw [kat_kind_eq, List.mapM_toArray, map_eq_pure_bind]
      refine wpAny_bind (wpAny_bind (f1 M A E _ (wpAny_pure ?_)))
      rw [if_neg hn, if_neg (by rw [hf]; decide), oneTypeOnly'_eq, List.mapM_toArray, map_eq_pure_bind]
      refine wpAny_bind (wpAny_bind (wpAny_bind (kas_mapM (r := Value.type "tuple") _ (fun v hv' Q' hq => ?_) (wpAny_pure ?_))))
      · obtain ⟨a, xs, rfl, ⟨o, ho, hc, n, hd⟩, hi⟩ := hv v hv'
        exact Looks.here (show Looks M s.heap (typeOf (.ref a)) (Value.type "tuple") from hc ▸ (Looks.ld ho).andThen .now) hq
      · match vs, h2 with
        | v1 :: v2 :: rest, _ =>
          have hall2 : ((List.map (fun _ => Value.type "tuple") (v1 :: v2 :: rest)).toArray.all fun x => x == Value.type "tuple") = true := by
            simp only [List.all_toArray, List.all_map, List.all_eq_true]
            intro _ _
            rfl
          have h0 : (List.map (fun _ => Value.type "tuple") (v1 :: v2 :: rest)).toArray[0]? = some (Value.type "tuple") := by simp
          rw [h0]
          simp only [hall2, if_true]
          exact wpAny_pure (wpAny_pure h)
theorem keyLt'_general (x y : Value) : keyLt' general' x y = oneLt' false x y := rfl
theorem call_ltT {v u : Value} {ns ms : List Int} {Q : Value → Shared → Prop} (hv : TI s.heap v ns) (hw : TI s.heap u ms) (h : Q (.bool (HT.lexLt ns ms)) s) : wpAny (model prog w) A (call (.builtin "tuple.__lt__") [v, u]) Q E s := by
  obtain ⟨a, xs, rfl, ⟨⟨cls, dd, data, sl⟩, ho, hc, n, hd⟩, hi⟩ := hv
  obtain ⟨b, ys, rfl, ⟨⟨cls2, dd2, data2, sl2⟩, ho2, hc2, n2, hd2⟩, hj⟩ := hw
  simp only at hc hd hc2 hd2
  subst hc hd hc2 hd2
  have tt : isSubtype (.type "tuple") (.type "tuple") = pure true := by
    rw [isSubtype_type]
    kernel_rfl
  have iu : ∀ M : Model, Looks M s.heap (isInstance (.ref b) (.type "tuple")) true := fun M => (show Looks M s.heap (typeOf (.ref b)) (Value.type "tuple") from (Looks.ld ho2).andThen .now).andThen (Looks.of_pure tt)
  have iv : Looks (model prog w) s.heap (isInstance (.ref a) (.type "tuple")) true := (show Looks (model prog w) s.heap (typeOf (.ref a)) (Value.type "tuple") from (Looks.ld ho).andThen .now).andThen (Looks.of_pure tt)
  refine wpAny_call (codeAny_call_builtin PySem.F.slot_tuple_lt.plain PySem.F.entry_tuple_lt (@PySem.W.check_slot (model prog w) _ _ _ "tuple.__lt__" "tuple" "__lt__" (.ref a) [.ref b] [] _ (by decide +kernel) (by decide +kernel) iv (PySem.F.args_tuple_lt_2 _ _) ?_))
  refine wpAny_mono (NtL.nt_lt_ints a b (.type "tuple") (.type "tuple") xs ys n n2 dd dd2 sl sl2 ns ms hi hj prog w _ (wants Q E) s ⟨ho, ho2, iu, h⟩) (fun fin s' q => ?_) fun _ _ z => z
  cases fin with
  | done f => exact q
  | again c => exact q
theorem lt_one {v u : Value} {ns ms : List Int} {Q : Bool → Shared → Prop} (hu : A.units < cLine) (hv : TI s.heap v ns) (hw : TI s.heap u ms) (h : Q (HT.lexLt ns ms) s) : wpAny (model prog w) A (keyLt' oneType' v u) Q E s := by
  rw [keyLt'_oneType, oneLt'_eq]
  simp only [if_true]
  refine wpAny_bind (wpAny_cRoomFor hu ?_)
  obtain ⟨a, xs, rfl, ⟨⟨cls, dd, data, sl⟩, ho, hc, n, hd⟩, hi⟩ := id hv
  refine wpAny_bind (wpAny_callSpecialIfBound?_slot ⟨_, ho, hc⟩ PySem.F.slot_tuple_lt (call_ltT hv hw ?_))
  exact wpAny_truthy_bool h
theorem lexAt_lt : ∀ (ns ms : List Int) (f g : Nat → Int) (i : Nat), (∀ j, j < ns.length → f (i + j) = ns.getD j 0) → (∀ j, j < ms.length → g (i + j) = ms.getD j 0) →
    Ob.lexAt (fun j => decide (f j = g j)) (fun j => decide (f j < g j)) (decide (ns.length < ms.length)) i (min ns.length ms.length) = HT.lexLt ns ms
  | [], [], f, g, i, h1, h2 => rfl
  | [], _ :: _, f, g, i, h1, h2 => by
    rw [HT.lexLt_nil_cons, List.length_nil, Nat.zero_min, Ob.lexAt_zero]
    exact decide_eq_true (by simp)
  | _ :: _, [], f, g, i, h1, h2 => by
    rw [HT.lexLt_cons_nil, List.length_nil, Nat.min_zero, Ob.lexAt_zero]
    exact decide_eq_false (by simp)
  | n :: ns, m :: ms, f, g, i, h1, h2 => by
    have e1 : f i = n := h1 0 (by simp)
    have e2 : g i = m := h2 0 (by simp)
    have ih := lexAt_lt ns ms f g (i + 1) (fun j hj => by have := h1 (j + 1) (by simpa using hj); rw [show i + 1 + j = i + (j + 1) by omega]; simpa using this) (fun j hj => by have := h2 (j + 1) (by simpa using hj); rw [show i + 1 + j = i + (j + 1) by omega]; simpa using this)
    rw [HT.lexLt_cons, List.length_cons, List.length_cons, show min (ns.length + 1) (ms.length + 1) = min ns.length ms.length + 1 by omega, Ob.lexAt_succ, e1, e2]
    have e3 : decide (ns.length + 1 < ms.length + 1) = decide (ns.length < ms.length) := decide_eq_decide.mpr (by omega)
    rw [e3, ih]
    by_cases h : n = m
    · rw [if_pos (decide_eq_true h), if_pos h]
    · rw [if_neg (by rw [decide_eq_false h]; decide), if_neg h]
theorem lt_gen {v u : Value} {ns ms : List Int} {Q : Bool → Shared → Prop} (hu : A.units < cLine) (hv : TI s.heap v ns) (hw : TI s.heap u ms) (h : Q (HT.lexLt ns ms) s) : wpAny (model prog w) A (keyLt' general' v u) Q E s := by
  rw [keyLt'_general]
  obtain ⟨a, xs, rfl, p1, i1⟩ := hv
  obtain ⟨b, ys, rfl, p2, i2⟩ := hw
  refine kat_one _ _ ?_
  have z1 : xs.size = ns.length := by rw [← i1.length]; simp
  have z2 : ys.size = ms.length := by rw [← i2.length]; simp
  have at1 : ∀ j (h1 : j < xs.size), ∃ t, xs[j] = .int (ns.getD j 0) t := fun j h1 => PyProof.Rows.IntsAre.int_at i1 _ _ (by simp [h1])
  have at2 : ∀ j (h1 : j < ys.size), ∃ t, ys[j] = .int (ms.getD j 0) t := fun j h1 => PyProof.Rows.IntsAre.int_at i2 _ _ (by simp [h1])
  have R := Ob.RcOp.tuples_lt (A := A) (s := s) (e := fun j => decide (ns.getD j 0 = ms.getD j 0)) (r := fun j => decide (ns.getD j 0 < ms.getD j 0)) (show s.heap.IsTuple a xs from p1) (show s.heap.IsTuple b ys from p2) hu (fun j h1 h2 => by
    obtain ⟨t, et⟩ := at1 j h1
    obtain ⟨t', et'⟩ := at2 j h2
    rw [et, et']
    have z : (ns.getD j 0 == ms.getD j 0) = decide (ns.getD j 0 = ms.getD j 0) := by
      by_cases q : ns.getD j 0 = ms.getD j 0
      · rw [decide_eq_true q]; exact beq_iff_eq.mpr q
      · rw [decide_eq_false q]; exact beq_eq_false_iff_ne.mpr q
    rw [← z]
    exact SeqAt.EqAt.int_int _ _ _ _) (fun j h1 h2 _ => by
    obtain ⟨t, et⟩ := at1 j h1
    obtain ⟨t', et'⟩ := at2 j h2
    rw [et, et']
    exact Ob.RcOp.lt_int _ _ _ _)
  rw [z1, z2, lexAt_lt ns ms (fun j => ns.getD j 0) (fun j => ms.getD j 0) 0 (fun j _ => by rw [Nat.zero_add]) (fun j _ => by rw [Nat.zero_add])] at R
  exact R prog w E _ h
theorem sortable {a : Addr} {vs : List Value} {k : Value → List Int} (h2 : 2 ≤ vs.length) (hu : A.units < cLine) (hv : ∀ v ∈ vs, TI s.heap v (k v)) (ha : ∀ v ∈ vs, v ≠ .ref a) : SrtO.SortableO prog w A s a vs fun v u => HT.lexLt (k v) (k u) := by
  intro h' keep
  have hv' : ∀ v ∈ vs, TI h' v (k v) := fun v hm => (hv v hm).keep fun b o e g => keep b o (fun z => ha v hm (by rw [e, z])) g
  obtain ⟨κ, hk⟩ := kind (s := { s with heap := h' }) h2 hv'
  rcases hk with ⟨⟨b, rfl⟩, kk⟩ | ⟨hκ, kk⟩
  · refine ⟨tuples' b, fun Q E hq => kk _ _ _ _ hq, ?_⟩
    intro p q hp hq
    obtain ⟨a, xs, e1, ⟨o, ho, hc, n, hd⟩, hi⟩ := hv' p.1 hp
    obtain ⟨a', ys, e2, ⟨o', ho', hc', n', hd'⟩, hi'⟩ := hv' q.1 hq
    rw [e1, e2]
    refine PySem.W.kat_lt (s := { s with heap := h' }) ho hd ho' hd' ?_
    refine lex_any (s := { s with heap := h' }) 0 hi hi' ?_ ⟨rfl, rfl⟩
    have l1 := hi.length
    have l2 := hi'.length
    rw [Array.length_toList] at l1 l2
    rw [l1, l2, e1, e2]
  · rcases hκ with rfl | rfl
    · refine ⟨_, fun Q E hq => kk _ _ _ _ hq, ?_⟩
      intro p q hp hq
      exact lt_gen (s := { s with heap := h' }) (Q := fun r s' => s' = { s with heap := h' } ∧ r = HT.lexLt (k p.1) (k q.1)) hu (hv' p.1 hp) (hv' q.1 hq) ⟨rfl, rfl⟩
    · refine ⟨_, fun Q E hq => kk _ _ _ _ hq, ?_⟩
      intro p q hp hq
      exact lt_one (s := { s with heap := h' }) (Q := fun r s' => s' = { s with heap := h' } ∧ r = HT.lexLt (k p.1) (k q.1)) hu (hv' p.1 hp) (hv' q.1 hq) ⟨rfl, rfl⟩
end
def rSortedT (K : PySem.W.Frag) : List V → Hp → VK → Prop := fun vs H Q => ∃ (a : Addr) (ps : List (Addr × List Int)), vs = [V.ref a] ∧ SqL K H a (ps.map fun p => V.ref p.1) ∧ (∀ p ∈ ps, SqT K H p.1 (p.2.map V.int)) ∧
  ∀ (qs : List (Addr × List Int)) (p : Addr), qs.Perm ps → qs.Pairwise (fun x y => HT.lexLt y.2 x.2 = false) → H p = none → Q (.ref p) (upd H p (.lst (qs.map fun p => V.ref p.1)))
theorem vals_refs : ∀ {ps : List (Addr × List Int)} {us : List Value}, Vals (ps.map fun p => V.ref p.1) us → us = ps.map fun p => Value.ref p.1
  | [], _, r => by cases r; rfl
  | p :: ps, _, r => by
    cases r with
    | cons a r =>
      have a : _ = _ := a
      rw [vals_refs r]
      subst a
      rfl
theorem refs_vals : ∀ (ps : List (Addr × List Int)), Vals (ps.map fun p => V.ref p.1) (ps.map fun p => Value.ref p.1)
  | [] => .nil
  | _ :: ps => .cons rfl (refs_vals ps)
theorem cr_sortedT {X : Cx} (hu : X.A.units + 64 < cLine) : CallR X (.builtin "sorted") (rSortedT X.K) := by
  intro pins s σ H vs us Q I r h
  obtain ⟨a, ps, rfl, hs, hx, q⟩ := h
  obtain ⟨its, rv, hl, hz⟩ := I.list hs
  obtain ⟨u, rfl, ru⟩ := vals1 r
  obtain rfl : u = Value.ref a := ru
  have hits := vals_refs rv
  have hti : ∀ p ∈ ps, TI s.heap (.ref p.1) p.2 := fun p hp => by
    obtain ⟨its2, r2, p2, _⟩ := I.tuple (hx p hp)
    exact ⟨p.1, its2.toArray, rfl, p2, by simpa using Vals.ints r2⟩
  have hk : ∀ p ∈ ps, TS.intsOf s.heap (.ref p.1) = p.2 := fun p hp => by
    obtain ⟨a, xs, e, h1, h2⟩ := hti p hp
    exact TS.TupInts.ints ⟨a, xs, e, h1, h2⟩
  have hti' : ∀ v ∈ its, TI s.heap v (TS.intsOf s.heap v) := fun v hv => by
    rw [hits] at hv
    obtain ⟨p, hp, rfl⟩ := List.mem_map.mp hv
    rw [hk p hp]
    exact hti p hp
  refine SrtO.sorted_ord (ltv := fun v u => HT.lexLt (TS.intsOf s.heap v) (TS.intsOf s.heap u)) (NtL.swo_lexL fun v => TS.intsOf s.heap v) hl.isList (by rw [← rv.length]; exact hz) (fun h2 h₁ a' hg keep => ?_) fun out h1 h2 => ?_
  · refine sortable (s := { s with heap := h₁ }) (k := fun v => TS.intsOf s.heap v) h2 ?_ (fun v hv => (hti' v hv).keep fun b o _ g => (keep b o g).2) (fun v hv z => ?_)
    · have : X.A.in1.in1.units = X.A.units + 1 + 1 := rfl
      omega
    · obtain ⟨b, ys, e, ⟨o, ho, _⟩, _⟩ := hti' v hv
      rw [e] at z
      cases z
      exact (keep _ o ho).1 rfl
  · obtain ⟨ep, he'⟩ := PyProof.Rows.sortedAll_at s.heap its out.toArray
    -- the pairs of what comes out
    have hadr : ∀ u ∈ out, ∃ p ∈ ps, u = Value.ref p.1 := fun u hu => by
      have := h2.perm.mem_iff.mp hu
      rw [hits] at this
      obtain ⟨p, hp, e⟩ := List.mem_map.mp this
      exact ⟨p, hp, e.symm⟩
    let ad : Value → Addr × List Int := fun u => match u with | .ref a => (a, TS.intsOf s.heap (.ref a)) | _ => (0, [])
    have e1 : its.map ad = ps := by
      rw [hits, List.map_map]
      conv => rhs; rw [← List.map_id ps]
      refine List.map_congr_left fun p hp => ?_
      show (p.1, TS.intsOf s.heap (.ref p.1)) = p
      rw [hk p hp]
    have hp : (out.map ad).Perm ps := by
      have := h2.perm.map ad
      rw [e1] at this
      exact this
    have e2 : (out.map ad).map (fun p => Value.ref p.1) = out := by
      rw [List.map_map]
      conv => rhs; rw [← List.map_id out]
      refine List.map_congr_left fun u hu => ?_
      obtain ⟨p, _, rfl⟩ := hadr u hu
      rfl
    have hlen : ((out.map ad).map fun p => V.ref p.1).length ≤ sizeLine := by
      rw [List.length_map, hp.length_eq]
      rw [List.length_map] at hz
      exact hz
    have hv := refs_vals (out.map ad)
    rw [e2] at hv
    have hpw : (out.map ad).Pairwise (fun x y => HT.lexLt y.2 x.2 = false) := by
      refine List.pairwise_map.mpr (h1.imp_of_mem fun {u v} hu hv h => ?_)
      obtain ⟨p, _, rfl⟩ := hadr u hu
      obtain ⟨p', _, rfl⟩ := hadr v hv
      exact h
    exact ⟨.ref _, upd H (s.heap.objs.size + 1) (.lst ((out.map ad).map fun p => V.ref p.1)), I.laid (t' := s.toks) (fun _ _ => PyProof.Rows.sortedAll_old) (Nat.le_succ _) ⟨hlen, out, ep, hv, he'⟩, rfl, q _ _ hp hpw (I.hok.fresh (Nat.le_succ _))⟩
end TpS
namespace Lf
open PySem PySem.Spec PyProof.Rows L2 Sx
def tI (ns : List Int) : PyData := .tuple (ns.map PyData.int)
def lexLe (ns ms : List Int) : Bool := !HT.lexLt ms ns
def gSortedT : GB := fun as R => match as with
  | [.d (.list ds)] => ∃ nss : List (List Int), ds = nss.map tI ∧ ∀ mss : List (List Int), mss.Perm nss → mss.Pairwise (fun x y => HT.lexLt y x = false) → R (.own (mss.map tI))
  | _ => False
def gLeT : G2 := fun x y R => match x, y with
  | .tuple ds, .tuple es => ∃ ns ms, intsD ds = some ns ∧ intsD es = some ms ∧ R (.d (.bool (lexLe ns ms)))
  | _, _ => False
def aInV (neg : Bool) (i : Nat) (fa : AEx) : AEx := fun ρ R Z => fa ρ (fun a ρ1 => a.on fun y => (sl ρ1 i).ow fun ds => PyData.plainAll ds = true ∧ y.plain = true ∧ min (PyData.depthAll ds) y.depth ≤ 60 ∧ R (.d (.bool (if neg then !ds.any fun z => PyData.eqv z y else ds.any fun z => PyData.eqv z y))) ρ1) Z
def aTupRg (fa : AEx) : AEx := fun ρ R Z => fa ρ (fun a ρ1 => a.it fun n => -(2 ^ 62) ≤ n ∧ n ≤ 2 ^ 24 ∧ R (.d (.tuple (rangeD 0 n.toNat))) ρ1) Z
def gRev : G1 := fun x R => match x with
  | .tuple ds => R (.d (.tuple ds.reverse))
  | _ => False
def gStr : GB := fun as R => match as with
  | [.d (.int i)] => i.natAbs.log2 < 1920 ∧ R (.d (.str (toString i)))
  | _ => False
section
variable {B : Bx} {K : PySem.W.Frag} {W : Wx} {G0 F0 H : Hp} {θ ρ as bs : List A} {τ xs ys : List (Option V)} {σ : L2.St} {a b : A} {x : Option V} {v w : V}
variable {ta tb tc : TE} {fa fb fc : AEx}
theorem tI_in {G : Hp} : ∀ {ws : List V} {nss : List (List Int)}, DvAll K G ws (nss.map tI) → ∃ ps : List (Addr × List Int), ws = ps.map (fun p => V.ref p.1) ∧ ps.map (·.2) = nss ∧ ∀ p ∈ ps, SqT K G p.1 (p.2.map V.int)
  | ws, [], h => by
    cases h
    exact ⟨[], rfl, rfl, fun p hp => nomatch hp⟩
  | ws, ns :: nss, h => by
    cases h with
    | cons h1 h2 =>
      obtain ⟨a, xs, rfl, e, ha⟩ := tup_in h1
      obtain ⟨ps, rfl, e2, hp⟩ := tI_in h2
      have := dva_ints ha (show intsD (ns.map PyData.int) = some ns from by
        clear e h1 ha h2 e2
        induction ns with
        | nil => rfl
        | cons n ns ih =>
          show (intsD (ns.map PyData.int)).map (n :: ·) = _
          rw [ih] <;> rfl)
      subst this
      refine ⟨(a, ns) :: ps, rfl, by rw [List.map_cons, e2], fun p hp' => ?_⟩
      rcases List.mem_cons.mp hp' with rfl | hp'
      · exact e
      · exact hp p hp'
theorem tI_out {G : Hp} : ∀ (qs : List (Addr × List Int)), (∀ p ∈ qs, SqT K G p.1 (p.2.map V.int)) → DvAll K G (qs.map fun p => V.ref p.1) ((qs.map (·.2)).map tI)
  | [], _ => .nil
  | q :: qs, h => .cons (.tup (h q List.mem_cons_self) (dva_of_ints _)) (tI_out qs fun p hp => h p (List.mem_cons_of_mem _ hp))
theorem cl_sortedT : CbL K (TpS.rSortedT K) gSortedT := by
  intro B G0 F0 cs as vs xs H R Q l n S h q
  match cs, vs, l, S, h with
  | [.d (.list ds)], [v], _, S, ⟨nss, e, r⟩ =>
    obtain ⟨G, h1, O⟩ := St.open1 S
    obtain ⟨p, ws, rfl, e1, ha⟩ := lst_in h1
    rw [e] at ha
    obtain ⟨ps, rfl, e2, hp⟩ := tI_in ha
    refine ⟨p, ps, rfl, .of (O.sg _ _ e1), fun p hp' => Sx.Same.tup O.sg (hp p hp'), fun qs m h1 h2 nm => ?_⟩
    have hperm : (qs.map (·.2)).Perm nss := by
      rw [← e2]
      exact h1.map _
    exact q _ _ _ (r (qs.map (·.2)) hperm (List.pairwise_map.mpr h2)) (O.nl _ _ _ nm (tI_out qs fun p hp' => hp p (h1.mem_iff.mp hp')))
theorem le_inV {neg : Bool} {i : Nat} (la : LE B K W ta fa) : LE B K W (tOp (rInP K neg) ta (tVar i)) (aInV neg i fa) := by
  intro G0 F0 θ τ ρ σ H R Z Q hl S h q w
  refine la G0 F0 θ τ ρ σ H _ Z _ hl S h (fun v H1 x ρ1 h1 S1 => ?_) w
  obtain ⟨y, k1, S2⟩ := S1.on h1
  obtain ⟨ds, e1, p1, p2, p3, r⟩ := A.is_ow k1
  obtain ⟨p, ws, hx, eH, lw, ⟨G, hd, sg, _, _⟩, _⟩ := St.own (θ := .d y :: θ) (τ := some v :: τ) (congrArg (· + 1) hl) S2 (sl_own e1)
  exact ⟨.ref p, hx, y, .list ds, ds, S2.get, .lst eH (dva_same sg _ _ hd), .inl rfl, p1, p2, p3, q _ _ _ _ r (S2.pop.push fun G => .bl _)⟩
theorem rev_getD {ds : List PyData} {i : Nat} (h : i < ds.length) : ds.reverse.getD i .none = ds.getD (ds.length - 1 - i) .none := by
  rw [List.getD_eq_getElem?_getD, List.getD_eq_getElem?_getD, List.getElem?_reverse h]
theorem ito_revT {ds : List PyData} {p : Addr} : ItOk B K G0 F0 [.d (.tuple ds)] [some (.ref p)] (RT.ItvT K p ds.length) ds.reverse := by
  intro as xs H i S
  obtain ⟨G, F, k, s⟩ := S.ex
  obtain ⟨x, e, v', e2, hd⟩ := s.ok 0 _ rfl
  cases e
  cases e2
  obtain ⟨q, ws, e, hq, ha⟩ := tup_in hd
  cases e
  have hH := Sx.Same.tup k.gh hq
  have hl := dva_len ha
  rw [List.length_reverse]
  refine ⟨fun hi => ⟨⟨hi, ws, _, hH, List.getElem?_eq_getElem (by omega)⟩, ?_⟩, fun hi => hi⟩
  rintro x H' ⟨rfl, hx⟩
  obtain ⟨_, hx2⟩ := dva_val ha (hx ws hH)
  rw [rev_getD hi]
  exact ⟨G, F, k, s.push ⟨_, rfl, hx2⟩ fun z => nomatch z⟩
theorem ito_revL {ds : List PyData} {p : Addr} : ItOk B K G0 F0 [.d (.list ds)] [some (.ref p)] (Itv K p ds.length) ds.reverse := by
  intro as xs H i S
  obtain ⟨G, F, k, s⟩ := S.ex
  obtain ⟨x, e, v', e2, hd⟩ := s.ok 0 _ rfl
  cases e
  cases e2
  obtain ⟨q, ws, e, hq, ha⟩ := lst_in hd
  cases e
  have hH : SqL K H p ws := .of (k.gh _ _ hq)
  have hl := dva_len ha
  rw [List.length_reverse]
  refine ⟨fun hi => ⟨⟨hi, ws, _, hH, List.getElem?_eq_getElem (by omega)⟩, ?_⟩, fun hi => hi⟩
  rintro x H' ⟨rfl, hx⟩
  obtain ⟨_, hx2⟩ := dva_val ha (hx ws hH)
  rw [rev_getD hi]
  exact ⟨G, F, k, s.push ⟨_, rfl, hx2⟩ fun z => nomatch z⟩
def aRevI (fe : AEx) : AIx := fun ρ R Z => fe ρ (fun a ρ1 => a.seq fun ds => R ds.reverse ρ1) Z
theorem li_rev {wi : TE} {fi : AEx} (la : LE B K W wi fi) : LI B K W (RT.iRevA K wi) (aRevI fi) := by
  intro G0 F0 θ τ ρ σ H R Z Q hl S h q w
  refine la G0 F0 θ τ ρ σ H _ Z _ hl S h (fun v H1 x ρ1 h1 S1 => ?_) w
  obtain ⟨ds, k, S2 | S2⟩ := A.is_seq h1 S1
  · obtain ⟨p, ws, e, hs, hl⟩ := S2.headT
    cases e
    refine ⟨p, ws, rfl, .inr ⟨hs, ?_⟩⟩
    rw [hl]
    exact q _ H1 [_] [_] ds.reverse ρ1 k rfl S2 ito_revT
  · obtain ⟨p, ws, e, hs, hl⟩ := S2.headL
    cases e
    refine ⟨p, ws, rfl, .inl ⟨.of hs, ?_⟩⟩
    rw [hl]
    exact q _ H1 [_] [_] ds.reverse ρ1 k rfl S2 ito_revL
def downD (hi : Int) (n : Nat) : List PyData := (List.range n).map fun i => .int (hi - (i : Nat))
theorem downD_len (hi : Int) (n : Nat) : (downD hi n).length = n := by simp [downD]
theorem downD_at {hi : Int} {n i : Nat} (h : i < n) : (downD hi n).getD i .none = .int (hi - (i : Nat)) := by
  unfold downD
  rw [List.getD_eq_getElem?_getD, List.getElem?_map, List.getElem?_range h] <;> rfl
theorem ito_down {hi : Int} {n : Nat} : ItOk B K G0 F0 [] [] (Itc hi (-1) n) (downD hi n) := by
  intro as xs H i S
  rw [downD_len]
  refine ⟨fun hi => ⟨hi, ?_⟩, fun hi => hi⟩
  rintro x H' ⟨rfl, rfl⟩
  rw [downD_at hi]
  have e : ∀ j : Int, j + (i : Nat) * (-1 : Int) = j - (i : Nat) := fun j => by omega
  rw [e]
  exact S.push fun _ => .int _
def aDown (fe : AAx) : AIx := fun ρ R Z => fe ρ (fun as ρ1 => A.three as fun a b c => a.it fun i => b.it fun j => c.it fun k => k = -1 ∧ (-(2 ^ 62) ≤ i ∧ i < 2 ^ 62 ∧ -(2 ^ 62) ≤ j ∧ j < 2 ^ 62) ∧ R (downD i (i - j).toNat) ρ1) Z
theorem li_down {tr : TA} {fr : AAx} (la : LAn 3 B K W tr fr) : LI B K W (iRng3 tr) (aDown fr) := by
  intro G0 F0 θ τ ρ σ H R Z Q hl S h q w
  refine la G0 F0 θ τ ρ σ H _ Z _ hl S h (fun vs H1 as ρ1 h1 l1 l2 S1 => ?_) w
  match as, vs, l1, l2, h1, S1 with
  | [a, b, c], [u, v, w], _, _, h1, S1 =>
    obtain ⟨i, rfl, h2⟩ := A.is_it h1
    obtain ⟨j, rfl, h3⟩ := A.is_it h2
    obtain ⟨k, rfl, hk, ⟨b1, b2, b3, b4⟩, h4⟩ := A.is_it h3
    subst hk
    have e1 := S1.get
    have e2 := S1.pop.get
    have e3 := S1.pop.pop.get
    cases e1
    cases e2
    cases e3
    exact ⟨i, j, -1, (i - j).toNat, rfl, RgC.neg b1 b2 b3 b4, q _ H1 [] [] _ ρ1 h4 rfl S1.pop.pop.pop ito_down⟩
variable {R : A → Prop} {ds es : List PyData} {Z : Zo} {Ro : Po} {RI : List PyData → List A → Prop} {neg : Bool} {i : Nat}
theorem gSortedT_l : gSortedT [.d (.list ds)] R = ∃ nss : List (List Int), ds = nss.map tI ∧ ∀ mss : List (List Int), mss.Perm nss → mss.Pairwise (fun x y => HT.lexLt y x = false) → R (.own (mss.map tI)) := propext ⟨fun h => h, fun h => h⟩
theorem gLeT_t : gLeT (.tuple ds) (.tuple es) R = ∃ ns ms, intsD ds = some ns ∧ intsD es = some ms ∧ R (.d (.bool (lexLe ns ms))) := propext ⟨fun h => h, fun h => h⟩
theorem aInV_e : aInV neg i fa ρ Ro Z = fa ρ (fun a ρ1 => a.on fun y => (sl ρ1 i).ow fun ds => PyData.plainAll ds = true ∧ y.plain = true ∧ min (PyData.depthAll ds) y.depth ≤ 60 ∧ Ro (.d (.bool (if neg then !ds.any fun z => PyData.eqv z y else ds.any fun z => PyData.eqv z y))) ρ1) Z := propext ⟨fun h => h, fun h => h⟩
theorem aTupRg_e : aTupRg fa ρ Ro Z = fa ρ (fun a ρ1 => a.it fun n => -(2 ^ 62) ≤ n ∧ n ≤ 2 ^ 24 ∧ Ro (.d (.tuple (rangeD 0 n.toNat))) ρ1) Z := propext ⟨fun h => h, fun h => h⟩
theorem gRev_t : gRev (.tuple ds) R = R (.d (.tuple ds.reverse)) := propext ⟨fun h => h, fun h => h⟩
theorem gStr_i {j : Int} : gStr [.d (.int j)] R = (j.natAbs.log2 < 1920 ∧ R (.d (.str (toString j)))) := propext ⟨fun h => h, fun h => h⟩
theorem aRevI_e : aRevI fa ρ RI Z = fa ρ (fun a ρ1 => a.seq fun ds => RI ds.reverse ρ1) Z := propext ⟨fun h => h, fun h => h⟩
theorem aDown_e {fr : AAx} : aDown fr ρ RI Z = fr ρ (fun as ρ1 => A.three as fun a b c => a.it fun i => b.it fun j => c.it fun k => k = -1 ∧ (-(2 ^ 62) ≤ i ∧ i < 2 ^ 62 ∧ -(2 ^ 62) ≤ j ∧ j < 2 ^ 62) ∧ RI (downD i (i - j).toNat) ρ1) Z := propext ⟨fun h => h, fun h => h⟩
end
end Lf
namespace Lf
open PySem PySem.Spec PyProof.Rows L2 Sx
def aCompV (i : Nat) (g : AGx) (ft : ATx) (fe : AEx) (vs : List Nat) : AEx := fun ρ R _ => (sl ρ i).ow fun ds => compRun ds g ft fe vs (wipeA (ρ.set i .un) vs) fun a ρ' => R a (ρ'.set i (.own ds))
section
variable {B : Bx} {K : PySem.W.Frag} {W : Wx} {G0 F0 H : Hp} {θ ρ as bs : List A} {τ xs ys : List (Option V)} {σ : L2.St} {a b : A} {x : Option V} {v w : V}
variable {tg : TG} {fg : AGx} {tt : TT} {ft : ATx} {te : TE} {fe : AEx}
theorem aCompV_e {i : Nat} {vs : List Nat} {Ro : Po} {Z : Zo} : aCompV i fg ft fe vs ρ Ro Z = (sl ρ i).ow fun ds => compRun ds fg ft fe vs (wipeA (ρ.set i .un) vs) fun a ρ' => Ro a (ρ'.set i (.own ds)) := propext ⟨fun h => h, fun h => h⟩
theorem eqv_nilT (ds : List PyData) : PyData.eqv (.tuple ds) (.tuple []) = ds.isEmpty := by
  cases ds <;> simp [PyData.eqv, PyData.eqvAll]
theorem gEq_nl {ds : List PyData} {R : A → Prop} : gEq (.list ds) (.list []) R = (PyData.plainAll ds = true ∧ R (.d (.bool ds.isEmpty))) := by
  unfold gEq
  rw [eqv_nil]
  exact propext ⟨fun ⟨a, _, _, d⟩ => ⟨a, d⟩, fun ⟨a, d⟩ => ⟨a, rfl, Nat.le_trans (Nat.min_le_right _ _) (by decide), d⟩⟩
theorem gNe_nl {ds : List PyData} {R : A → Prop} : gNe (.list ds) (.list []) R = (PyData.plainAll ds = true ∧ R (.d (.bool (!ds.isEmpty)))) := by
  unfold gNe
  rw [eqv_nil]
  exact propext ⟨fun ⟨a, _, _, d⟩ => ⟨a, d⟩, fun ⟨a, d⟩ => ⟨a, rfl, Nat.le_trans (Nat.min_le_right _ _) (by decide), d⟩⟩
theorem gEq_nt {ds : List PyData} {R : A → Prop} : gEq (.tuple ds) (.tuple []) R = (PyData.plainAll ds = true ∧ R (.d (.bool ds.isEmpty))) := by
  unfold gEq
  rw [eqv_nilT]
  exact propext ⟨fun ⟨a, _, _, d⟩ => ⟨a, d⟩, fun ⟨a, d⟩ => ⟨a, rfl, Nat.le_trans (Nat.min_le_right _ _) (by decide), d⟩⟩
theorem gNe_nt {ds : List PyData} {R : A → Prop} : gNe (.tuple ds) (.tuple []) R = (PyData.plainAll ds = true ∧ R (.d (.bool (!ds.isEmpty)))) := by
  unfold gNe
  rw [eqv_nilT]
  exact propext ⟨fun ⟨a, _, _, d⟩ => ⟨a, d⟩, fun ⟨a, d⟩ => ⟨a, rfl, Nat.le_trans (Nat.min_le_right _ _) (by decide), d⟩⟩
theorem lookup_rel {env : Env} : ∀ {names : List (Str × NameKind)} {x : Str}, names.lookup x = some .cell ∨ names.lookup x = some .free →
    (names.map fun (n, k) => if (k == NameKind.free && env.scope.kind == .function && env.kindOf n == some .cell) then (n, NameKind.cell) else (n, k)).lookup x = some .cell ∨ (names.map fun (n, k) => if (k == NameKind.free && env.scope.kind == .function && env.kindOf n == some .cell) then (n, NameKind.cell) else (n, k)).lookup x = some .free
  | [], _, h => by simp at h
  | (n, k) :: r, x, h => by
    have ih := @lookup_rel env r x
    show List.lookup x ((if (k == NameKind.free && env.scope.kind == .function && env.kindOf n == some .cell) = true then (n, NameKind.cell) else (n, k)) :: _) = _ ∨ List.lookup x ((if (k == NameKind.free && env.scope.kind == .function && env.kindOf n == some .cell) = true then (n, NameKind.cell) else (n, k)) :: _) = _
    cases hx : x == n with
    | true =>
      simp only [List.lookup_cons, hx] at h
      by_cases hc : (k == NameKind.free && env.scope.kind == .function && env.kindOf n == some .cell) = true
      · rw [if_pos hc]
        simp only [List.lookup_cons, hx]
        exact .inl (by first | rfl | trivial)
      · rw [if_neg hc]
        simp only [List.lookup_cons, hx]
        exact h
    | false =>
      simp only [List.lookup_cons, hx] at h
      by_cases hc : (k == NameKind.free && env.scope.kind == .function && env.kindOf n == some .cell) = true
      · rw [if_pos hc]; simp only [List.lookup_cons, hx]; exact ih h
      · rw [if_neg hc]; simp only [List.lookup_cons, hx]; exact ih h
theorem blkOk_in {X : Cx} {s : Shared} {H : Hp} {scope' scope : Scope} {cl : List (Str × Addr)} {C : Addr} {fp : List Addr} {N : List Str} {own : List (Str × Nat)} {env : Env} (hN : X.N = N) (h : blkC N scope' scope own = true) :
    BlkOk (X.blk s H scope' (compEnvC scope' cl C env) fp).N (X.blk s H scope' (compEnvC scope' cl C env) fp).env.scope scope own := by
  subst hN
  obtain ⟨h1, h2, h3, h4, h5⟩ := blkOk_by h
  exact ⟨h1, h2, h3, fun y hy e => lookup_rel (h4 y hy e), h5⟩
def gNeNil : G2 := fun x y R => match x, y with
  | .tuple ds, .tuple [] => R (.d (.bool (!ds.isEmpty)))
  | _, _ => False
theorem gNeNil_t {ds : List PyData} {R : A → Prop} : gNeNil (.tuple ds) (.tuple []) R = R (.d (.bool (!ds.isEmpty))) := propext ⟨fun h => h, fun h => h⟩
end
end Lf
namespace Lf
open PySem PySem.Spec PyProof.Rows L2 Sx
def rI (n : Nat) : List Int := (List.range n).map fun i => ((i : Nat) : Int)
theorem rI_rangeD (n : Nat) : rangeD 0 n = (rI n).map PyData.int := by
  unfold rangeD rI
  rw [List.map_map]
  refine List.map_congr_left fun i _ => ?_
  show PyData.int (0 + (i : Nat)) = .int (i : Nat)
  rw [Int.zero_add]
theorem rI_len (n : Nat) : (rI n).length = n := by unfold rI; rw [List.length_map, List.length_range]
theorem rI_mem {n : Nat} {m : Int} : m ∈ rI n ↔ 0 ≤ m ∧ m < (n : Int) := by
  unfold rI
  rw [List.mem_map]
  constructor
  · rintro ⟨i, hi, rfl⟩
    have := List.mem_range.mp hi
    omega
  · rintro ⟨h0, h1⟩
    exact ⟨m.toNat, List.mem_range.mpr (by omega), by omega⟩
theorem lot_len {n : Nat} {l : List Int} (h : l.Sublist (rI n)) : l.length ≤ n := by
  have := h.length_le
  rw [rI_len] at this
  exact this
theorem lot_mem {n : Nat} {l : List Int} (h : l.Sublist (rI n)) {m : Int} (hm : m ∈ l) : 0 ≤ m ∧ m < (n : Int) := rI_mem.mp (h.mem hm)
theorem tI_ok {n : Nat} {l : List Int} (h : l.Sublist (rI n)) (hn : n ≤ 10) : Ok 11 2 (tI l) := by
  have a : OkAll (l.length * 1) 1 (l.map PyData.int) := by
    have := okAll_all (n := 1) (k := 1) (ds := l.map PyData.int) (fun d hd => by
      obtain ⟨m, hm, rfl⟩ := List.mem_map.mp hd
      have := lot_mem h hm
      have big : (100 : Nat) ≤ 10 ^ 120 := by decide +kernel
      exact Ok.small (by omega))
    rwa [List.length_map] at this
  have := lot_len h
  exact a.tup.ge (by omega) (by decide)
def Book (w : Nat) (d : PyData) : Prop := (∃ i : Nat, d = .int (i : Nat) ∧ i ≤ w) ∨ ∃ nss : List (List Int), d = .tuple (nss.map tI) ∧ 1 ≤ nss.length ∧ nss.length ≤ 5 ∧ nss.Nodup ∧ nss.Pairwise (fun x y => HT.lexLt y x = false) ∧ ∀ ns ∈ nss, ns.Sublist (rI w)
theorem eqv_tI (a b : List Int) : PyData.eqv (tI a) (tI b) = decide (a = b) := eqv_tup_ints a b
theorem any_tI {nss : List (List Int)} {ns : List Int} : ((nss.map tI).any fun z => PyData.eqv z (tI ns)) = decide (ns ∈ nss) := by
  induction nss with
  | nil => rfl
  | cons m nss ih =>
    rw [List.map_cons, List.any_cons, ih, eqv_tI]
    by_cases h : m = ns
    · subst h
      rw [decide_eq_true rfl, decide_eq_true (List.mem_cons_self)] <;> rfl
    · rw [decide_eq_false h, Bool.false_or]
      exact decide_eq_decide.mpr ⟨fun z => List.mem_cons_of_mem _ z, fun z => (List.mem_cons.mp z).elim (fun e => absurd e.symm h) id⟩
theorem plain_tI (ns : List Int) : (tI ns).plain = true := by
  show PyData.plainAll (ns.map PyData.int) = true
  exact plain_ints fun d hd => by
    obtain ⟨m, _, rfl⟩ := List.mem_map.mp hd
    exact ⟨m, rfl⟩
theorem plainAll_tI (nss : List (List Int)) : PyData.plainAll (nss.map tI) = true := by
  induction nss with
  | nil => rfl
  | cons m nss ih =>
    show (PyData.plain (tI m) && PyData.plainAll (nss.map tI)) = true
    rw [plain_tI, ih] <;> rfl
theorem depth_tI (ns : List Int) : (tI ns).depth ≤ 1 := by
  show PyData.depthAll (ns.map PyData.int) + 1 ≤ 1
  have : PyData.depthAll (ns.map PyData.int) ≤ 0 := depthAll_map ns fun _ _ => Nat.le_refl 0
  omega
theorem ints_map (ns : List Int) : intsD (ns.map PyData.int) = some ns := by
  induction ns with
  | nil => rfl
  | cons n ns ih =>
    show (intsD (ns.map PyData.int)).map (n :: ·) = _
    rw [ih] <;> rfl
abbrev Srt (l : List (List Int)) : Prop := l.Pairwise fun x y => HT.lexLt x y = true
theorem lex_irr (x : List Int) : HT.lexLt x x = false := by
  cases h : HT.lexLt x x with
  | false => rfl
  | true => exact absurd (NtL.lex_asym x x h) (by rw [h]; decide)
theorem Srt.nodup {l : List (List Int)} (h : Srt l) : l.Nodup := h.imp fun {x y} h e => by
  subst e
  rw [lex_irr] at h
  exact absurd h (by decide)
theorem rI_nodup (n : Nat) : (rI n).Nodup := by
  unfold rI
  refine List.pairwise_map.mpr (List.nodup_range.imp fun {a b} h e => h (by omega))
abbrev Bk := Nat ⊕ List (List Int)
def bkD : Bk → PyData
  | .inl k => .int (k : Nat)
  | .inr nss => .tuple (nss.map tI)
def inL (l k : List Int) : Bool := l.all fun m => decide (m ∈ k)
def letB : Bk → List Int → Bool
  | .inl k, l => decide (l.length ≤ k)
  | .inr nss, l => nss.any fun ns => inL l ns
theorem inL_iff {l k : List Int} : inL l k = true ↔ ∀ m ∈ l, m ∈ k := by
  unfold inL
  rw [List.all_eq_true]
  exact ⟨fun h m hm => of_decide_eq_true (h m hm), fun h m hm => decide_eq_true (h m hm)⟩
structure BkOk (n : Nat) (b : Bk) : Prop where
  few : ∀ nss, b = .inr nss → nss.length ≤ 252
  srt : ∀ nss, b = .inr nss → Srt nss
  sub : ∀ nss, b = .inr nss → ∀ ns ∈ nss, ns.Sublist (rI n)
def pk : List Int → Nat → List (List Int)
  | _, 0 => [[]]
  | [], _ + 1 => []
  | a :: s, k + 1 => (pk s k).map (fun l => a :: l) ++ pk s (k + 1)
theorem pk_0 (s : List Int) : pk s 0 = [[]] := by cases s <;> rfl
theorem pk_mem : ∀ (s : List Int) (k : Nat) (l : List Int), l ∈ pk s k ↔ l.Sublist s ∧ l.length = k
  | s, 0, l => by
    rw [pk_0, List.mem_singleton]
    exact ⟨fun e => by rw [e]; exact ⟨List.nil_sublist _, rfl⟩, fun h => List.eq_nil_of_length_eq_zero h.2⟩
  | [], k + 1, l => by
    show l ∈ [] ↔ _
    refine ⟨fun h => absurd h (by simp), fun h => ?_⟩
    rw [List.sublist_nil.mp h.1] at h
    exact nomatch h.2
  | a :: s, k + 1, l => by
    show l ∈ (pk s k).map (fun l => a :: l) ++ pk s (k + 1) ↔ _
    rw [List.mem_append, List.mem_map, pk_mem s (k + 1) l]
    constructor
    · rintro (⟨m, h, rfl⟩ | ⟨h1, h2⟩)
      · obtain ⟨h1, h2⟩ := (pk_mem s k m).mp h
        exact ⟨h1.cons_cons _, by rw [List.length_cons, h2]⟩
      · exact ⟨h1.cons _, h2⟩
    · rintro ⟨h1, h2⟩
      cases h1 with
      | cons _ h => exact .inr ⟨h, h2⟩
      | cons_cons _ h => exact .inl ⟨_, (pk_mem s k _).mpr ⟨h, by simpa using h2⟩, rfl⟩
theorem pk_len : ∀ (s : List Int) (k : Nat), (pk s k).length ≤ 2 ^ s.length
  | s, 0 => by
    rw [pk_0]
    exact Nat.one_le_two_pow
  | [], k + 1 => Nat.zero_le _
  | a :: s, k + 1 => by
    show ((pk s k).map (fun l => a :: l) ++ pk s (k + 1)).length ≤ _
    rw [List.length_append, List.length_map, List.length_cons, Nat.pow_succ]
    have := pk_len s k
    have := pk_len s (k + 1)
    omega
def Fam (n f : Nat) (P : Nat → Bool) : Prop := ∀ m, f.testBit m = (decide (m < 2 ^ n) && P m)
theorem Fam.lt {n f : Nat} {P : Nat → Bool} (h : Fam n f P) : f < 2 ^ 2 ^ n := Nat.lt_pow_two_of_testBit _ fun i hi => by
  rw [h i, decide_eq_false (by omega), Bool.false_and]
end Lf
namespace Sx
open PySem PySem.Spec PyProof.Rows L2
def reelKv (g c : Addr) (st ct : Int) : List (Key × V) := [(Sum.inr "deep", .ref g), (Sum.inr "cells", .ref c), (Sum.inr "stamp", .int st), (Sum.inr "count", .int ct)]
structure Rs (H0 H : Hp) (b g : Addr) : Prop where
  sub : Same H0 H
  nb : H0 b = none
  ng : H0 g = none
  ls : ∃ ms : List Int, H g = some (.lst (ms.map V.int)) ∧ ms.length ≤ 63
  dc : ∃ (c : Addr) (st ct : Int) (cs : List Int), H b = some (.dK (reelKv g c st ct)) ∧ H c = some (.lst (cs.map V.int)) ∧ cs ≠ [] ∧ H0 c = none ∧ c ≠ g ∧ 0 ≤ st ∧ st < 4294967291
namespace Rs
variable {H0 H H1 : Hp} {b g p : Addr} {o u : HO}
theorem bg (B : Rs H0 H b g) : b ≠ g := by
  obtain ⟨ms, h1, _⟩ := B.ls
  obtain ⟨c, st, ct, cs, h2, _⟩ := B.dc
  exact ne_of h2 h1 (fun z => nomatch z)
theorem pb (B : Rs H0 H b g) (n : H p = none) : p ≠ b := by
  obtain ⟨c, st, ct, cs, h2, _⟩ := B.dc
  exact (ne_of_none h2 n).symm
theorem pg (B : Rs H0 H b g) (n : H p = none) : p ≠ g := by
  obtain ⟨ms, h2, _⟩ := B.ls
  exact (ne_of_none h2 n).symm
theorem more (B : Rs H0 H b g) (s : Same H H1) : Rs H0 H1 b g := by
  obtain ⟨ms, h1, h2⟩ := B.ls
  obtain ⟨c, st, ct, cs, h3, h4, h5, h6, h7, h8⟩ := B.dc
  exact ⟨B.sub.trans s, B.nb, B.ng, ⟨ms, s _ _ h1, h2⟩, ⟨c, st, ct, cs, s _ _ h3, s _ _ h4, h5, h6, h7, h8⟩⟩
theorem new (B : Rs H0 H b g) (n : H p = none) : Rs (upd H0 p o) (upd H p o) b g := by
  have B1 := B.more (same_new (o := o) n)
  obtain ⟨c, st, ct, cs, h3, h4, h5, h6, h7, h8⟩ := B1.dc
  obtain ⟨c', st', ct', cs', k3, k4, k5, k6, k7, k8⟩ := B.dc
  have ecc : c' = c := by
    rw [upd_ne (B.pb n).symm, k3] at h3
    cases h3
    rfl
  subst ecc
  have hcp : c' ≠ p := ne_of_none k4 n
  refine ⟨?_, by rw [upd_ne (B.pb n).symm]; exact B.nb, by rw [upd_ne (B.pg n).symm]; exact B.ng, B1.ls, ⟨c', st, ct, cs, h3, h4, h5, by rw [upd_ne hcp]; exact k6, h7, h8⟩⟩
  intro c x e
  by_cases h : c = p
  · subst h
    rw [upd_same] at e ⊢
    exact e
  · rw [upd_ne h] at e ⊢
    exact B.sub c x e
theorem put (B : Rs H0 H b g) (e : H0 p = some u) : Rs (upd H0 p o) (upd H p o) b g := by
  have pb : p ≠ b := ne_of_none e B.nb
  have pg : p ≠ g := ne_of_none e B.ng
  obtain ⟨ms, h1, h2⟩ := B.ls
  obtain ⟨c, st, ct, cs, h3, h4, h5, h6, h7, h8⟩ := B.dc
  have pc : p ≠ c := ne_of_none e h6
  refine ⟨?_, by rw [upd_ne pb.symm]; exact B.nb, by rw [upd_ne pg.symm]; exact B.ng, ⟨ms, by rw [upd_ne pg.symm]; exact h1, h2⟩, ⟨c, st, ct, cs, by rw [upd_ne pb.symm]; exact h3, by rw [upd_ne pc.symm]; exact h4, h5, by rw [upd_ne pc.symm]; exact h6, h7, h8⟩⟩
  intro c x h
  by_cases hc : c = p
  · subst hc
    rw [upd_same] at h ⊢
    exact h
  · rw [upd_ne hc] at h ⊢
    exact B.sub c x h
theorem less {H2 : Hp} (B : Rs H0 H b g) (s : Same H2 H0) : Rs H2 H b g := by
  obtain ⟨c, st, ct, cs, h3, h4, h5, h6, h7, h8⟩ := B.dc
  exact ⟨s.trans B.sub, s.free B.nb, s.free B.ng, B.ls, ⟨c, st, ct, cs, h3, h4, h5, s.free h6, h7, h8⟩⟩
end Rs
end Sx
namespace Lf
open PySem PySem.Spec PyProof.Rows L2 Sx
end Lf
namespace K4
open PySem PySem.Spec PyProof.Rows L2 Sx
def innS : Stp → Option (Int × Int)
  | .inn lo hi => some (lo, hi)
  | _ => none
end K4
namespace Sx
open PySem PySem.Spec PyProof.Rows L2
end Sx
namespace K4
open PySem PySem.Spec PyProof.Rows L2 Sx
end K4
namespace K4
open PySem PySem.Spec PyProof.Rows L2 Sx
end K4
namespace K4
open PySem PySem.Spec PyProof.Rows L2 Sx
theorem eqv_nil (L : List Int) : PyData.eqv (.list (L.map PyData.int)) (.list (([] : List Int).map PyData.int)) = L.isEmpty := by
  cases L with
  | nil => simp [PyData.eqv, PyData.eqvAll]
  | cons x l => simp [PyData.eqv, PyData.eqvAll]
end K4
namespace K4
open PySem PySem.Spec PyProof.Rows L2 Sx
end K4
namespace K4
open PySem PySem.Spec PyProof.Rows L2 Sx
end K4
namespace K4
open PySem PySem.Spec PyProof.Rows L2 Sx
end K4
namespace K4
open PySem PySem.Spec PyProof.Rows L2 Sx
end K4
namespace K4
open PySem PySem.Spec PyProof.Rows L2 Sx
end K4
namespace Sx
open PySem PySem.Spec PyProof.Rows L2
def Sgn (x : Str) : Prop := ∀ c ∈ x.cps.toList, c < 16 ^ 8
theorem Sgn.app {a b : Str} (h : Sgn a) (g : Sgn b) : Sgn (a ++ b) := by
  intro c hc
  have e : (a ++ b).cps.toList = a.cps.toList ++ b.cps.toList := Array.toList_append
  rw [e] at hc
  rcases List.mem_append.mp hc with h1 | h1
  · exact h c h1
  · exact g c h1
end Sx
namespace K4
open PySem PySem.Spec PyProof.Rows L2 Sx
end K4
namespace K4
open PySem PySem.Spec PyProof.Rows L2 Sx
end K4
namespace K4
open PySem PySem.Spec PyProof.Rows L2 Sx
def Each (s k : Nat) (ds : List PyData) : Prop := ∀ x ∈ ds, Ok s k x
theorem Each.ge {s k s' k' : Nat} {ds : List PyData} (h : Each s k ds) (h1 : s ≤ s') (h2 : k ≤ k') : Each s' k' ds := fun x hx => (h x hx).ge h1 h2
theorem Each.all {s k : Nat} : ∀ {ds : List PyData}, Each s k ds → OkAll (ds.length * s) k ds
  | [], _ => ⟨rfl, Nat.zero_le _, Nat.zero_le _⟩
  | d :: ds, h => (OkAll.cons (h d List.mem_cons_self) (Each.all fun x hx => h x (List.mem_cons_of_mem _ hx))).ge (by rw [List.length_cons, Nat.succ_mul]; omega) (Nat.le_refl _)
theorem Each.tup {s k : Nat} {ds : List PyData} (h : Each s k ds) (hl : ds.length ≤ 31) : Ok (31 * s + 1) (k + 1) (.tuple ds) :=
  (h.all.tup).ge (by have := Nat.mul_le_mul_right s hl; omega) (Nat.le_refl _)
theorem Each.app {s k : Nat} {ds es : List PyData} (h : Each s k ds) (g : Each s k es) : Each s k (ds ++ es) := fun x hx => (List.mem_append.mp hx).elim (h x) (g x)
theorem Each.cut {s k : Nat} {ds : List PyData} (h : Each s k ds) (lo hi : Option Int) : Each s k (cutD ds lo hi) := fun x hx => h x (List.mem_of_mem_drop (List.mem_of_mem_take hx))
theorem cut_to {xs : List PyData} {j : Nat} (h : j ≤ xs.length) : cutD xs none (some (j : Int)) = xs.take j := by
  unfold Sx.cutD
  rw [HT.sIx_none, show HT.sIx xs.length xs.length (some (j : Int)) = min j xs.length from HT.sIx_nat _ _ j, Nat.min_eq_left h]
  show List.take (j - 0) (List.drop 0 xs) = _
  rw [List.drop_zero, Nat.sub_zero]
theorem cut_past {xs : List PyData} {j : Nat} (h : j < xs.length) : cutD xs (some ((j : Int) + 1)) none = xs.drop (j + 1) := by
  unfold Sx.cutD
  rw [show ((j : Int) + 1) = ((j + 1 : Nat) : Int) by omega, HT.sIx_none, show HT.sIx xs.length 0 (some ((j + 1 : Nat) : Int)) = min (j + 1) xs.length from HT.sIx_nat _ _ (j + 1), Nat.min_eq_left (by omega)]
  rw [List.take_of_length_le (Nat.le_of_eq List.length_drop)]
theorem cut_len (ds : List PyData) (lo hi : Option Int) : (cutD ds lo hi).length ≤ ds.length := by
  unfold Sx.cutD
  rw [List.length_take, List.length_drop]
  omega
end K4
namespace K4
open PySem PySem.Spec PyProof.Rows L2 Sx
end K4
namespace K4
open PySem PySem.Spec PyProof.Rows L2 Sx
def progDs (ss : List Stp) : List PyData := ss.map fun s => .tuple (stepD s)
def ThT (d : PyData) : Prop := Ok 1000 20 d
theorem Each.th {s k : Nat} {ds : List PyData} (h : Each s k ds) (hl : ds.length ≤ 31) (hs : s ≤ 32) (hk : k ≤ 19) : ThT (.tuple ds) := (h.tup hl).ge (by omega) (by omega)
end K4
namespace Sx
open PySem PySem.Spec PyProof.Rows L2
end Sx
namespace K4
open PySem PySem.Spec PyProof.Rows L2 Sx
end K4
namespace K4
open PySem PySem.Spec PyProof.Rows L2 Sx
structure IsIns (ss : List Stp) (ins : List Int) : Prop where
  len : ins.length = (ss.filterMap innS).length
  num : ∀ x ∈ ins, IsNum x
end K4
namespace Lf
open PySem PySem.Spec PyProof.Rows L2 Sx
def A.rd : A → Bool
  | .un => false
  | .sp _ => false
  | _ => true
def A.intd (a : A) (k : Int → Prop) : Prop := match a with
  | .d (.int n) => k n
  | _ => False
def rdAll (ρ : List A) : List Nat → Bool
  | [] => true
  | j :: js => (sl ρ j).rd && rdAll ρ js
def aLendX (c : Ct) (i : Nat) (js : List Nat) (fe : AEx) : AEx := fun ρ R Z => rdAll ρ js = true ∧ fe ρ (fun y ρ2 => y.intd fun n => (sl ρ2 i).isL = true ∧ argsV ρ2 i js fun as => c (as ++ [.d (.int n)]) (fun a => a.nl fun b => R b ρ2) fun _ => False) Z
section
variable {k : List A → Prop} {ka : A → Prop} {i j : Nat} {js : List Nat} {ρ : List A} {x : PyData} {v : V} {c : Ct} {R : Po} {Z : Zo} {fe : AEx} {n : Int} {kk : Int → Prop}
theorem aLendX_e : aLendX c i js fe ρ R Z = (rdAll ρ js = true ∧ fe ρ (fun y ρ2 => y.intd fun n => (sl ρ2 i).isL = true ∧ argsV ρ2 i js fun as => c (as ++ [.d (.int n)]) (fun a => a.nl fun b => R b ρ2) fun _ => False) Z) := propext ⟨fun h => h, fun h => h⟩
theorem intd_i : (A.d (.int n)).intd kk = kk n := propext ⟨fun h => h, fun h => h⟩
theorem rdAll_n : rdAll ρ [] = true := rfl
theorem rdAll_c : rdAll ρ (j :: js) = ((sl ρ j).rd && rdAll ρ js) := rfl
theorem rd_d : (A.d x).rd = true := rfl
theorem rd_r : (A.raw v).rd = true := rfl
theorem rd_o {ds : List PyData} : (A.own ds).rd = true := rfl
end
end Lf
namespace Wk
open PySem PySem.Spec PyProof.Rows L2 Sx K4
inductive Fd where
  | val (x : Int)
  | stg (k : Nat)
def fD : Fd → PyData
  | .val x => .tuple [.str "value", .int x]
  | .stg k => .tuple [.str "stage", .int (k : Nat)]
structure Sg where
  ss : List Stp
  fs : List Fd
  lo : Int
  hi : Int
instance : Inhabited Sg := ⟨⟨[], [], 0, 0⟩⟩
def sgD (s : Sg) : PyData := .tuple [.tuple (progDs s.ss), .tuple (s.fs.map fD), .tuple [.int s.lo, .int s.hi]]
def FdOk (k : Nat) : Fd → Prop
  | .val _ => True
  | .stg j => j < k
structure SgOk (k : Nat) (s : Sg) : Prop where
  p : IsProg s.ss
  l : s.fs.length = (s.ss.filterMap innS).length
  f : ∀ x ∈ s.fs, FdOk k x
  lo : IsNum s.lo
  hi : IsNum s.hi
  le : s.lo ≤ s.hi
open Classical in
noncomputable def pick (k : Nat) (d : PyData) : Sg := if h : ∃ s, d = sgD s ∧ SgOk k s then h.choose else default
end Wk
namespace Lf
open PySem PySem.Spec PyProof.Rows L2 Sx
theorem isL {h : Heap} {a : Addr} {its : Array Value} (t : PlainL h a its) : h.IsList a its := by
  obtain ⟨o, n, ho, hc, _, hd⟩ := t
  exact ⟨o, ho, hc, n, hd⟩
def gNilL (neg : Bool) : G2 := fun x y R => match x, y with
  | .list ds, .list [] => R (.d (.bool (if neg = true then !ds.isEmpty else ds.isEmpty)))
  | _, _ => False
theorem gNilL_t {ds : List PyData} {R : A → Prop} : gNilL true (.list ds) (.list []) R = R (.d (.bool (!ds.isEmpty))) := propext ⟨fun h => h, fun h => h⟩
theorem gNilL_f {ds : List PyData} {R : A → Prop} : gNilL false (.list ds) (.list []) R = R (.d (.bool ds.isEmpty)) := propext ⟨fun h => h, fun h => h⟩
end Lf
namespace Wk
open PySem PySem.Spec PyProof.Rows L2 Sx K4
structure Gen (ss : List Stp) (ins : List Int) (B : Nat) : Prop where
  ok : ∀ j s, ss[j]? = some s → StepOk j s
  len : ins.length = Sx.cnt ss ss.length
  bnd : ∀ z ∈ vals ss ins, z.natAbs ≤ B
theorem cnt_app {ss : List Stp} {s : Stp} {i : Nat} (h : i ≤ ss.length) : Sx.cnt (ss ++ [s]) i = Sx.cnt ss i := by
  unfold Sx.cnt
  rw [List.take_append_of_le_length h]
theorem cnt_snoc {ss : List Stp} {s : Stp} : Sx.cnt (ss ++ [s]) (ss ++ [s]).length = Sx.cnt ss ss.length + (if isIn s then 1 else 0) := by
  unfold Sx.cnt
  rw [List.take_length, List.take_length, List.countP_append, List.countP_cons, List.countP_nil, Nat.zero_add]
theorem valsN_app {ss : List Stp} {s : Stp} {ins t : List Int} (hl : ins.length = Sx.cnt ss ss.length) : ∀ i, i ≤ ss.length → valsN (ss ++ [s]) (ins ++ t) i = valsN ss ins i
  | 0, _ => rfl
  | i + 1, h => by
    have ih := valsN_app (s := s) (t := t) hl i (by omega)
    show valsN (ss ++ [s]) (ins ++ t) i ++ [Sx.valOf (valsN (ss ++ [s]) (ins ++ t) i) (givOf (ss ++ [s]) (ins ++ t) i) ((ss ++ [s]).getD i default)] = valsN ss ins i ++ [Sx.valOf (valsN ss ins i) (givOf ss ins i) (ss.getD i default)]
    have e1 : (ss ++ [s]).getD i default = ss.getD i default := getD_append_left _ (by omega)
    have e2 : givOf (ss ++ [s]) (ins ++ t) i = givOf ss ins i := by
      unfold givOf
      rw [e1, cnt_app (by omega)]
      have cs := cnt_succ (ss := ss) (i := i) (by omega)
      have cm := cnt_mono (ss := ss) (i := i + 1) (j := ss.length) h (Nat.le_refl _)
      generalize ss.getD i default = u at *
      cases u with
      | inn lo hi =>
        have : (if isIn (Stp.inn lo hi) then 1 else 0) = 1 := rfl
        rw [this] at cs
        show some ((ins ++ t).getD (Sx.cnt ss i) 0) = some (ins.getD (Sx.cnt ss i) 0)
        rw [getD_append_left _ (by omega)]
      | num c => rfl
      | op k a b => rfl
    rw [ih, e1, e2]
theorem vals_snoc {ss : List Stp} {s : Stp} {ins t : List Int} (hl : ins.length = Sx.cnt ss ss.length) : vals (ss ++ [s]) (ins ++ t) = vals ss ins ++ [Sx.valOf (vals ss ins) (givOf (ss ++ [s]) (ins ++ t) ss.length) s] := by
  have e : (ss ++ [s]).length = ss.length + 1 := by rw [List.length_append] <;> rfl
  have e1 : (ss ++ [s]).getD ss.length default = s := getD_append_last default
  show valsN (ss ++ [s]) (ins ++ t) (ss ++ [s]).length = _
  rw [e]
  show valsN (ss ++ [s]) (ins ++ t) ss.length ++ [Sx.valOf (valsN (ss ++ [s]) (ins ++ t) ss.length) (givOf (ss ++ [s]) (ins ++ t) ss.length) ((ss ++ [s]).getD ss.length default)] = _
  rw [valsN_app hl ss.length (Nat.le_refl _), e1]
theorem giv_last {ss : List Stp} {s : Stp} {ins : List Int} : givOf (ss ++ [s]) ins ss.length = match s with
  | .inn _ _ => some (ins.getD (Sx.cnt ss ss.length) 0)
  | .num c => some c
  | .op _ _ _ => none := by
  unfold givOf
  rw [show (ss ++ [s]).getD ss.length default = s from getD_append_last default, cnt_app (Nat.le_refl _)] <;> cases s <;> rfl
theorem Gen.nil : Gen [] [] 0 := by
  refine ⟨fun j s h => ?_, rfl, fun z h => nomatch h⟩
  rw [List.getElem?_nil] at h
  cases h
theorem ok_snoc {ss : List Stp} {s : Stp} (h : ∀ j s, ss[j]? = some s → StepOk j s) (hs : StepOk ss.length s) : ∀ j u, (ss ++ [s])[j]? = some u → StepOk j u := by
  intro j u e
  by_cases hj : j < ss.length
  · rw [List.getElem?_append_left hj] at e
    exact h j u e
  · rw [List.getElem?_append_right (by omega)] at e
    have : j - ss.length = 0 := by
      by_cases z : j - ss.length = 0
      · exact z
      · rw [List.getElem?_eq_none (by rw [List.length_singleton]; omega)] at e
        exact nomatch e
    rw [this] at e
    obtain rfl : s = u := Option.some.inj e
    obtain rfl : j = ss.length := by omega
    exact hs
theorem Gen.le {ss : List Stp} {ins : List Int} {B C : Nat} (g : Gen ss ins B) (h : B ≤ C) : Gen ss ins C := ⟨g.ok, g.len, fun z hz => Nat.le_trans (g.bnd z hz) h⟩
theorem Gen.num {ss : List Stp} {ins : List Int} {B : Nat} {c : Int} (g : Gen ss ins B) (h1 : IsNum c) (h : c.natAbs ≤ B) : Gen (ss ++ [.num c]) ins B ∧ vals (ss ++ [.num c]) ins = vals ss ins ++ [c] := by
  have e := vals_snoc (s := .num c) (t := []) g.len
  rw [List.append_nil, giv_last] at e
  have e : vals (ss ++ [.num c]) ins = vals ss ins ++ [c] := e
  refine ⟨⟨ok_snoc g.ok h1, by rw [cnt_snoc]; exact g.len, fun z hz => ?_⟩, e⟩
  rw [e] at hz
  rcases List.mem_append.mp hz with hz | hz
  · exact g.bnd z hz
  · rw [List.mem_singleton.mp hz]
    exact h
theorem Gen.inn {ss : List Stp} {ins : List Int} {B : Nat} {lo hi x : Int} (g : Gen ss ins B) (h1 : IsNum lo) (h2 : IsNum hi) (h3 : lo ≤ hi) (h : x.natAbs ≤ B) : Gen (ss ++ [.inn lo hi]) (ins ++ [x]) B ∧ vals (ss ++ [.inn lo hi]) (ins ++ [x]) = vals ss ins ++ [x] := by
  have e := vals_snoc (s := .inn lo hi) (t := [x]) g.len
  rw [giv_last, ← g.len] at e
  have e : vals (ss ++ [.inn lo hi]) (ins ++ [x]) = vals ss ins ++ [(ins ++ [x]).getD ins.length 0] := e
  rw [getD_append_last] at e
  refine ⟨⟨ok_snoc g.ok ⟨h1, h2, h3⟩, by rw [cnt_snoc, List.length_append, g.len] <;> rfl, fun z hz => ?_⟩, e⟩
  rw [e] at hz
  rcases List.mem_append.mp hz with hz | hz
  · exact g.bnd z hz
  · rw [List.mem_singleton.mp hz]
    exact h
theorem Gen.op {ss : List Stp} {ins : List Int} {B C : Nat} {k i j : Nat} (g : Gen ss ins B) (hk : k ≤ 2) (hi : i < ss.length) (hj : j < ss.length) (hBC : B ≤ C) (h : (op3 k ((vals ss ins).getD i 0) ((vals ss ins).getD j 0)).natAbs ≤ C) : Gen (ss ++ [.op k i j]) ins C ∧ vals (ss ++ [.op k i j]) ins = vals ss ins ++ [op3 k ((vals ss ins).getD i 0) ((vals ss ins).getD j 0)] := by
  have e := vals_snoc (s := .op k i j) (t := []) g.len
  rw [List.append_nil, giv_last] at e
  have e : vals (ss ++ [.op k i j]) ins = vals ss ins ++ [op3 k ((vals ss ins).getD i 0) ((vals ss ins).getD j 0)] := e
  refine ⟨⟨ok_snoc g.ok ⟨hk, hi, hj⟩, by rw [cnt_snoc]; exact g.len, fun z hz => ?_⟩, e⟩
  rw [e] at hz
  rcases List.mem_append.mp hz with hz | hz
  · exact Nat.le_trans (g.bnd z hz) hBC
  · rw [List.mem_singleton.mp hz]
    exact h
structure Rk (ss : List Stp) (ins : List Int) : Prop where
  most : ss.length ≤ 1000
  ok : ∀ j s, ss[j]? = some s → StepOk j s
  len : ins.length = Sx.cnt ss ss.length
  bnd : ∀ i, i ≤ ss.length → ∀ z ∈ valsN ss ins i, z.natAbs ≤ 10 ^ 120
theorem Rk.lt {ss : List Stp} {ins : List Int} (r : Rk ss ins) {i : Nat} (h : i < ss.length) (hi : isIn (ss.getD i default) = true) : Sx.cnt ss i < ins.length := by
  rw [r.len]
  have e := cnt_succ h
  rw [hi, if_pos rfl] at e
  have := cnt_mono (ss := ss) (i := i + 1) (j := ss.length) h (Nat.le_refl _)
  omega
end Wk
namespace Lf
open PySem PySem.Spec PyProof.Rows L2 Sx
def aLe3 (fa fb fc fd : AEx) : AEx := fun ρ R Z => fa ρ (fun x ρ1 => x.intd fun i => fb ρ1 (fun y ρ2 => y.intd fun j => if decide (i ≤ j) = true then fc ρ2 (fun z ρ3 => z.intd fun k => if decide (j ≤ k) = true then fd ρ3 (fun u ρ4 => u.intd fun l => R (.d (.bool (decide (k ≤ l)))) ρ4) Z else R (.d (.bool false)) ρ3) Z else R (.d (.bool false)) ρ2) Z) Z
theorem St.intd {B : Bx} {K : PySem.W.Frag} {G0 F0 H : Hp} {as : List A} {xs : List (Option V)} {a : A} {v : V} {k : Int → Prop} (S : St B K G0 F0 (a :: as) (some v :: xs) H) (h : a.intd k) : ∃ i, v = .int i ∧ k i := by
  obtain ⟨G, F, kn, s⟩ := S.ex
  obtain ⟨x, e1, ok⟩ := s.ok 0 _ rfl
  cases e1
  unfold A.intd at h
  split at h
  · obtain ⟨v', e2, hv⟩ := ok
    cases e2
    cases hv
    exact ⟨_, rfl, h⟩
  · exact h.elim
section
variable {B : Bx} {K : PySem.W.Frag} {W : Wx} {ta tb tc td : TE} {fa fb fc fd : AEx}
theorem aLe3_e (fa fb fc fd : AEx) (ρ : List A) (R : Po) (Z : Zo) : aLe3 fa fb fc fd ρ R Z = (fa ρ (fun x ρ1 => x.intd fun i => fb ρ1 (fun y ρ2 => y.intd fun j => if decide (i ≤ j) = true then fc ρ2 (fun z ρ3 => z.intd fun k => if decide (j ≤ k) = true then fd ρ3 (fun u ρ4 => u.intd fun l => R (.d (.bool (decide (k ≤ l)))) ρ4) Z else R (.d (.bool false)) ρ3) Z else R (.d (.bool false)) ρ2) Z) Z) := propext ⟨fun h => h, fun h => h⟩
end
end Lf
namespace Lf
open PySem PySem.Spec PyProof.Rows L2 Sx
def gNiS : G2 := fun x y R => match y with
  | .tuple ds => ∃ ts, strsD ds = some ts ∧ R (.d (.bool (!ts.any fun t => isStr x t)))
  | _ => False
theorem gNiS_t {x : PyData} {ds : List PyData} {R : A → Prop} : gNiS x (.tuple ds) R = ∃ ts, strsD ds = some ts ∧ R (.d (.bool (!ts.any fun t => isStr x t))) := propext ⟨fun h => h, fun h => h⟩
end Lf
namespace Lf
open PySem PySem.Spec PyProof.Rows L2 Sx
end Lf
namespace Lf
open PySem PySem.Spec PyProof.Rows L2 Sx
def aPar3 (i j l : Nat) (fa : AAx) : ASx := fun E N ρ => fa ρ (fun as ρ1 => A.three as fun a b c => N (((ρ1.set i a).set j b).set l c)) E.ex
section
variable {B : Bx} {K : PySem.W.Frag} {W : Wx} {G0 F0 H : Hp} {θ ρ as bs : List A} {τ xs ys : List (Option V)} {σ : L2.St} {a b : A} {x : Option V} {v w : V}
theorem aPar3_e (i j l : Nat) (fa : AAx) (E : AE) (N : List A → Prop) (ρ : List A) : aPar3 i j l fa E N ρ = (fa ρ (fun as ρ1 => A.three as fun a b c => N (((ρ1.set i a).set j b).set l c)) E.ex) := propext ⟨fun h => h, fun h => h⟩
theorem three_e {a b c : A} {k : A → A → A → Prop} : A.three [a, b, c] k = k a b c := rfl
end
end Lf
namespace Sx
open PySem PySem.Spec PyProof.Rows L2
end Sx
namespace Lf
open PySem PySem.Spec PyProof.Rows L2 Sx
def gRepF3 : G2 := fun x y R => match x, y with
  | .tuple ds, .int k => k = 3 ∧ ds.length ≤ 1000 ∧ R (.d (.tuple (List.replicate 3 ds).flatten))
  | _, _ => False
theorem gRepF3_t {ds : List PyData} {k : Int} {R : A → Prop} : gRepF3 (.tuple ds) (.int k) R = (k = 3 ∧ ds.length ≤ 1000 ∧ R (.d (.tuple (List.replicate 3 ds).flatten))) := propext ⟨fun h => h, fun h => h⟩
end Lf
namespace Lf
open PySem PySem.Spec PyProof.Rows L2 Sx
def gLcm : GB := fun as R => match as with
  | [.d (.int i), .d (.int j)] => i.natAbs < 2 ^ 4000 ∧ j.natAbs < 2 ^ 4000 ∧ R (.d (.int ((Nat.lcm i.natAbs j.natAbs : Nat) : Int)))
  | _ => False
theorem gLcm_i {i j : Int} {R : A → Prop} : gLcm [.d (.int i), .d (.int j)] R = (i.natAbs < 2 ^ 4000 ∧ j.natAbs < 2 ^ 4000 ∧ R (.d (.int ((Nat.lcm i.natAbs j.natAbs : Nat) : Int)))) := propext ⟨fun h => h, fun h => h⟩
def aBits (fa : AEx) : AEx := fun ρ R Z => fa ρ (fun x ρ1 => x.intd fun i => R (.d (.int (Builtin.Int.intBits i : Nat))) ρ1) Z
theorem aBits_e (fa : AEx) (ρ : List A) (R : Po) (Z : Zo) : aBits fa ρ R Z = fa ρ (fun x ρ1 => x.intd fun i => R (.d (.int (Builtin.Int.intBits i : Nat))) ρ1) Z := propext ⟨fun h => h, fun h => h⟩
end Lf
namespace Sx
open PySem PySem.Spec PyProof.Rows L2
end Sx
namespace Lf
open PySem PySem.Spec PyProof.Rows L2 Sx
def aSortSet (fa : AEx) : AEx := fun ρ R Z => fa ρ (fun x ρ1 => x.tup fun ds => ∃ ns, intsD ds = some ns ∧ ns.length < 64 ∧ ∀ ms : List Int, ms.Pairwise (· < ·) → (∀ k, k ∈ ms ↔ k ∈ ns) → R (.own (ms.map PyData.int)) ρ1) Z
theorem St.beside {B : Bx} {K : PySem.W.Frag} {G0 F0 H : Hp} {as : List A} {xs : List (Option V)} {p : Addr} (o : HO) (S : St B K G0 F0 as xs H) (np : H p = none) : St B K G0 F0 as xs (upd H p o) := by
  obtain ⟨G, F, k, s⟩ := S.ex
  exact ⟨G, F, ⟨B.more k.B (same_new np), k.sG, k.sF, k.s, k.ap, k.fm⟩, s⟩
theorem aSortSet_e (fa : AEx) (ρ : List A) (R : Po) (Z : Zo) : aSortSet fa ρ R Z = fa ρ (fun x ρ1 => x.tup fun ds => ∃ ns, intsD ds = some ns ∧ ns.length < 64 ∧ ∀ ms : List Int, ms.Pairwise (· < ·) → (∀ k, k ∈ ms ↔ k ∈ ns) → R (.own (ms.map PyData.int)) ρ1) Z := propext ⟨fun h => h, fun h => h⟩
end Lf
namespace Lf
open PySem PySem.Spec PyProof.Rows L2 Sx
def compIn (ds1 : List PyData) (g1 : AGx) (ft1 : ATx) (fe : AEx) (vs1 : List Nat) (ρ1 : List A) (acc : List PyData) (K : List PyData → List A → Prop) : Prop := ∃ I1 : Nat → List PyData → List A → Prop, I1 0 acc ρ1 ∧
  (∀ j acc1 ρ', j < ds1.length → I1 j acc1 ρ' → g1 (.d (ds1.getD j .none)) ρ' (fun ρ2 => ft1 ρ2 (fun b ρ3 => if b = true then fe ρ3 (fun a ρ4 => a.on fun y => acc1.length < 4000000 ∧ I1 (j + 1) (acc1 ++ [y]) (wipeA ρ4 vs1)) (fun _ _ => False) else I1 (j + 1) acc1 (wipeA ρ3 vs1)) fun _ _ => False) fun _ _ => False) ∧
  ∀ acc1 ρ', I1 ds1.length acc1 ρ' → K acc1 ρ'
def compRun2 (ds : List PyData) (g : AGx) (ft : ATx) (fi1 : AIx) (g1 : AGx) (ft1 : ATx) (fe : AEx) (vs vs1 : List Nat) (ρ1 : List A) (R : Po) : Prop := ∃ I : Nat → List PyData → List A → Prop, I 0 [] ρ1 ∧
  (∀ i acc ρ', i < ds.length → I i acc ρ' → g (.d (ds.getD i .none)) ρ' (fun ρ2 => ft ρ2 (fun b ρ3 => if b = true then fi1 ρ3 (fun ds1 ρ4 => compIn ds1 g1 ft1 fe vs1 (wipeA ρ4 vs1) acc fun acc1 ρ5 => I (i + 1) acc1 (wipeA ρ5 vs)) (fun _ _ => False) else I (i + 1) acc (wipeA ρ3 vs)) fun _ _ => False) fun _ _ => False) ∧
  ∀ acc ρ', I ds.length acc ρ' → R (.own acc) (wipeA ρ' vs)
def aComp2 (fi : AIx) (g : AGx) (ft : ATx) (fi1 : AIx) (g1 : AGx) (ft1 : ATx) (fe : AEx) (vs vs1 : List Nat) : AEx := fun ρ R Z => fi ρ (fun ds ρ1 => compRun2 ds g ft fi1 g1 ft1 fe vs vs1 (wipeA ρ1 vs) R) Z
theorem wipe_sub (σ : L2.St) {vs : List Nat} : ∀ {vs1 : List Nat}, (∀ i ∈ vs1, i ∈ vs) → L2.wipe (L2.wipe σ vs1) vs = L2.wipe σ vs
  | [], _ => rfl
  | v :: vs1, h => by
    show L2.wipe ((L2.wipe σ vs1).set v none) vs = _
    rw [wipe_set vs _ v none (h v List.mem_cons_self)]
    exact wipe_sub σ fun i hi => h i (List.mem_cons_of_mem _ hi)
section
variable {B : Bx} {K : PySem.W.Frag} {W : Wx} {G0 F0 H : Hp} {θ ρ as bs : List A} {τ xs ys : List (Option V)} {σ : L2.St} {a b : A} {x : Option V} {v w : V}
variable {tt tt1 : TT} {ft ft1 : ATx} {te : TE} {fe : AEx} {tg tg1 : TG} {fg fg1 : AGx} {wi wi1 : TI} {fi fi1 : AIx}
theorem aComp2_e {g g1 : AGx} (vs vs1 : List Nat) (R : Po) (Z : Zo) : aComp2 fi g ft fi1 g1 ft1 fe vs vs1 ρ R Z = fi ρ (fun ds ρ1 => compRun2 ds g ft fi1 g1 ft1 fe vs vs1 (wipeA ρ1 vs) R) Z := propext ⟨fun h => h, fun h => h⟩
end
end Lf
namespace Sx
open PySem PySem.Spec PyProof.Rows L2
end Sx
namespace Lf
open PySem PySem.Spec PyProof.Rows L2 Sx
def aMaxDef (fa fd : AEx) : AEx := fun ρ R Z => fa ρ (fun x ρ1 => x.fz.lst fun ds => ∃ ns, intsD ds = some ns ∧ fd ρ1 (fun y ρ2 => y.intd fun d => (ns = [] → R (.d (.int d)) ρ2) ∧ ∀ n ms, ns = n :: ms → R (.d (.int (ms.foldl max n))) ρ2) Z) Z
theorem aMaxDef_e (fa fd : AEx) (ρ : List A) (R : Po) (Z : Zo) : aMaxDef fa fd ρ R Z = fa ρ (fun x ρ1 => x.fz.lst fun ds => ∃ ns, intsD ds = some ns ∧ fd ρ1 (fun y ρ2 => y.intd fun d => (ns = [] → R (.d (.int d)) ρ2) ∧ ∀ n ms, ns = n :: ms → R (.d (.int (ms.foldl max n))) ρ2) Z) Z := propext ⟨fun h => h, fun h => h⟩
end Lf
namespace Lf
open PySem PySem.Spec PyProof.Rows L2 Sx
def aListRg2 (fa fb : AEx) : AEx := fun ρ R Z => fa ρ (fun x ρ1 => x.intd fun i => fb ρ1 (fun y ρ2 => y.intd fun j => (-1000000 ≤ i ∧ i ≤ 1000000 ∧ -1000000 ≤ j ∧ j ≤ 1000000) ∧ R (.own (rangeD i (j - i).toNat)) ρ2) Z) Z
theorem aListRg2_e (fa fb : AEx) (ρ : List A) (R : Po) (Z : Zo) : aListRg2 fa fb ρ R Z = fa ρ (fun x ρ1 => x.intd fun i => fb ρ1 (fun y ρ2 => y.intd fun j => (-1000000 ≤ i ∧ i ≤ 1000000 ∧ -1000000 ≤ j ∧ j ≤ 1000000) ∧ R (.own (rangeD i (j - i).toNat)) ρ2) Z) Z := propext ⟨fun h => h, fun h => h⟩
end Lf
namespace Sx
open PySem PySem.Spec PyProof.Rows L2 Lf
def valT {β : Type} (xs : List (List Int × β)) (k : List Int) : Option β := (xs.find? fun x => decide (x.1 = k)).map (·.2)
def putX (xs : List (List Int × Addr × V)) (k : List Int) (b : Addr) (v : V) : List (List Int × Addr × V) :=
  if (valT xs k).isSome then xs.map (fun x => if x.1 = k then (x.1, x.2.1, v) else x) else xs ++ [(k, b, v)]
abbrev Pr3 : List (List Int × Addr × V) → List (List Int × Addr × Value) → Prop := Paired fun (p : List Int × Addr × V) (q : List Int × Addr × Value) => p.1 = q.1 ∧ p.2.1 = q.2.1 ∧ RelV p.2.2 q.2.2
theorem pr3_len {xs : List (List Int × Addr × V)} {ys : List (List Int × Addr × Value)} (r : Pr3 xs ys) : xs.length = ys.length := Paired.length r
theorem pr3_val (k : List Int) : ∀ {xs : List (List Int × Addr × V)} {ys : List (List Int × Addr × Value)}, Pr3 xs ys →
    (valT xs k = none ∧ atKey ys k = none) ∨ ∃ c v u, valT xs k = some (c, v) ∧ atKey ys k = some (c, u) ∧ RelV v u
  | _, _, .nil => .inl ⟨rfl, rfl⟩
  | (k1, c, v) :: xs, (k2, c2, u) :: ys, .cons ⟨e1, e2, e3⟩ t => by
    obtain rfl : k1 = k2 := e1
    obtain rfl : c = c2 := e2
    by_cases h : k1 = k
    · refine .inr ⟨c, v, u, ?_, ?_, e3⟩
      · simp [valT, List.find?_cons, h]
      · simp [atKey, List.find?_cons, h]
    · rcases pr3_val k t with ⟨q1, q2⟩ | ⟨c', v', u', q1, q2, q3⟩
      · exact .inl ⟨by simpa [valT, List.find?_cons, h] using q1, by simpa [atKey, List.find?_cons, h] using q2⟩
      · exact .inr ⟨c', v', u', by simpa [valT, List.find?_cons, h] using q1, by simpa [atKey, List.find?_cons, h] using q2, q3⟩
theorem pr3_repl (k : List Int) {v : V} {u : Value} (rv : RelV v u) : ∀ {xs : List (List Int × Addr × V)} {ys : List (List Int × Addr × Value)}, Pr3 xs ys → Pr3 (xs.map fun x => if x.1 = k then (x.1, x.2.1, v) else x) (ys.map (putAt k u))
  | _, _, .nil => .nil
  | (k1, c, w) :: xs, (k2, c2, z) :: ys, .cons ⟨e1, e2, e3⟩ t => by
    obtain rfl : k1 = k2 := e1
    obtain rfl : c = c2 := e2
    refine .cons ?_ (pr3_repl k rv t)
    unfold putAt
    show (if k1 = k then (k1, c, v) else (k1, c, w)).1 = _ ∧ (if k1 = k then (k1, c, v) else (k1, c, w)).2.1 = _ ∧ RelV (if k1 = k then (k1, c, v) else (k1, c, w)).2.2 _
    by_cases h : k1 = k
    · rw [if_pos h, if_pos h]
      exact ⟨rfl, rfl, rv⟩
    · rw [if_neg h, if_neg h]
      exact ⟨rfl, rfl, e3⟩
theorem pr3_put {xs : List (List Int × Addr × V)} {ys : List (List Int × Addr × Value)} (r : Pr3 xs ys) (k : List Int) (b : Addr) {v : V} {u : Value} (rv : RelV v u) : Pr3 (putX xs k b v) (storedH ys k b u) := by
  unfold putX storedH
  rcases pr3_val k r with ⟨q1, q2⟩ | ⟨c, v', u', q1, q2, _⟩
  · rw [q1, q2]
    exact Paired.snoc r ⟨rfl, rfl, rv⟩
  · rw [q1, q2]
    exact pr3_repl k rv r
theorem putX_len (xs : List (List Int × Addr × V)) (k : List Int) (b : Addr) (v : V) : (putX xs k b v).length ≤ xs.length + 1 := by
  unfold putX
  split
  · rw [List.length_map]; omega
  · rw [List.length_append]; exact Nat.le_refl _
section
variable {X : Cx} {pins : List (Addr × Obj)} {σ : L2.St} {H : Hp} {s : Shared} {d b : Addr} {xs : List (List Int × Addr × V)} {k : List Int}
def KeysT (K : PySem.W.Frag) (H : Hp) (xs : List (List Int × Addr × V)) : Prop := ∀ p ∈ xs, SqT K H p.2.1 (p.1.map V.int)
theorem pr3_keys (I : Inv X pins σ H s) : ∀ {xs : List (List Int × Addr × V)} {ys : List (List Int × Addr × Value)}, KeysT X.K H xs → Pr3 xs ys → ∀ y ∈ ys, (tupleKind (intKind X.prog X.w)).is s.heap y.1 y.2.1
  | _, _, _, .nil, y, hy => nomatch hy
  | (k1, c, w) :: xs, (k2, c2, z) :: ys, hk, .cons ⟨e1, e2, e3⟩ t, y, hy => by
    rcases List.mem_cons.mp hy with e | hy
    · subst e
      have e1 : k1 = k2 := e1
      have e2 : c = c2 := e2
      show IsTupleKey (intKind X.prog X.w) s.heap k2 c2
      rw [← e1, ← e2]
      exact I.isT (hk _ List.mem_cons_self)
    · exact pr3_keys I (fun p hp => hk p (List.mem_cons_of_mem _ hp)) t y hy
theorem pr3_nodup : ∀ {xs : List (List Int × Addr × V)} {ys : List (List Int × Addr × Value)}, Pr3 xs ys → xs.map (·.1) = ys.map (·.1)
  | _, _, .nil => rfl
  | _, _, .cons h t => by rw [List.map_cons, List.map_cons, h.1, pr3_nodup t]
theorem ent_is (P : Program) (w : World) : (entT : List Int × Addr × Value → DictEntry) = entryOfKey (tupleKind (intKind P w)) := rfl
theorem dtO_at (I : Inv X pins σ H s) (e : H d = some (DtO d xs)) (hk : KeysT X.K H xs) : xs.length ≤ sizeLine ∧ (d == sysModules) = false ∧ ∃ ys, Pr3 xs ys ∧ s.heap.DictOfH (tupleKind (intKind X.prog X.w)) d ys := by
  obtain ⟨⟨z, hd, ys, o, es, ep, r, ho, hx, hdat, he, hn⟩, _, _⟩ := I.hok d _ e
  exact ⟨z, hd, ys, r, o, es, ep, ho, hx, hdat, by rw [he, ent_is X.prog X.w], pr3_keys I hk r, by rw [← pr3_nodup r]; exact hn⟩
theorem dtP_stay {xs : List (List Int × Addr × V)} {h1 h2 : Heap} (h : DtP d xs h1) (k : ∀ o, h1.get? d = some o → h2.get? d = some o) : DtP d xs h2 := by
  obtain ⟨z, hd, ys, o, es, ep, r, ho, rest⟩ := h
  exact ⟨z, hd, ys, o, es, ep, r, k _ ho, rest⟩
theorem dtO_ok {P : Program} {w : World} {H' : Hp} {h' : Heap} {ys : List (List Int × Addr × Value)} (z : xs.length ≤ sizeLine) (hd : (d == sysModules) = false) (r : Pr3 xs ys) (dd : h'.DictOfH (tupleKind (intKind P w)) d ys) : ObjOk P w H' h' d (DtO d xs) := by
  obtain ⟨o, es, ep, ho, hx, hdat, he, _, hn⟩ := dd
  refine ⟨⟨z, hd, ys, o, es, ep, r, ho, hx, hdat, by rw [he, ent_is P w], by rw [pr3_nodup r]; exact hn⟩, ⟨o, ho⟩, fun h1 h2 h k => dtP_stay h k⟩
def tDNewT : TE := fun _ H Q => ∀ p, H p = none → Q (.ref p) (upd H p (DtO p []))
theorem pe_dnewTO {pos : Pos} : PE X (.Dict [] [] pos) tDNewT := ⟨fun pins s σ H Q I h =>
  wpAny_Dict_empty ⟨.ref s.heap.objs.size, _, I.laid (a := s.heap.objs.size) (o := DtO s.heap.objs.size []) (t' := s.toks) (fun _ _ q => Heap.get?_push_of_some _ q) (Nat.le_refl _)
    (dtO_ok (Nat.zero_le _) (beq_eq_false_iff_ne.mpr (Ne.symm (Nat.ne_of_lt I.big))) .nil (Heap.DictOfH.new s.heap)), rfl, h _ (I.hok.fresh (Nat.le_refl _))⟩⟩
def rDGetT (K : PySem.W.Frag) : R2 := fun x y H Q => ∃ d b xs k c v, x = .ref d ∧ y = .ref b ∧ H d = some (DtO d xs) ∧ KeysT K H xs ∧ SqT K H b (k.map V.int) ∧ valT xs k = some (c, v) ∧ Q v H
theorem ix_dt (hu : X.A.units + 1 < cLine) : IxR X (rDGetT X.K) := by
  intro value slice pins s σ H x y v u Q I rx ry h hs
  obtain ⟨d, b, xs, k, c, v', rfl, rfl, e, hk, hb, hv, q⟩ := h
  obtain rfl : v = Value.ref d := rx
  obtain rfl : u = Value.ref b := ry
  obtain ⟨z, hd, ys, r, dd⟩ := dtO_at I e hk
  rcases pr3_val k r with ⟨q1, _⟩ | ⟨c', v2, u2, q1, q2, rv⟩
  · rw [q1] at hv
    cases hv
  · rw [q1] at hv
    cases hv
    exact tail_any dd.typeIs slot_dict_getitem.lookup (wpAny_getItem_heap (tupleKind_room_in1 hu) (I.isT hb) dd q2 ⟨v', H, I.tok _, rv, q⟩) hs
def rDInT (K : PySem.W.Frag) (neg : Bool) : R2 := fun x y H Q => ∃ d b xs k, y = .ref d ∧ x = .ref b ∧ H d = some (DtO d xs) ∧ KeysT K H xs ∧ SqT K H b (k.map V.int) ∧ Q (.bl (if neg then !(valT xs k).isSome else (valT xs k).isSome)) H
theorem op_dninT (hu : X.A.units + 1 < cLine) : OpR X (compareOp .NotIn) (rDInT X.K true) := by
  intro pins s σ H x y v u Q I rx ry h
  obtain ⟨d, b, xs, k, rfl, rfl, e, hk, hb, q⟩ := h
  obtain rfl : u = Value.ref d := ry
  obtain rfl : v = Value.ref b := rx
  obtain ⟨z, hd, ys, r, dd⟩ := dtO_at I e hk
  refine wpAny_notIn_heap (tupleKind_room_in1 hu) (I.isT hb) hd dd ?_
  have : (atKey ys k).isSome = (valT xs k).isSome := by
    rcases pr3_val k r with ⟨q1, q2⟩ | ⟨c', v2, u2, q1, q2, rv⟩ <;> rw [q1, q2] <;> rfl
  rw [this]
  exact ⟨.bl (!(valT xs k).isSome), H, I.tok _, rfl, q⟩
def rDPutT (K : PySem.W.Frag) : V → V → V → Hp → (Hp → Prop) → Prop := fun o i v H Q => ∃ d b xs k, o = .ref d ∧ i = .ref b ∧ H d = some (DtO d xs) ∧ KeysT K H xs ∧ SqT K H b (k.map V.int) ∧ xs.length < sizeLine ∧ Q (upd H d (DtO d (putX xs k b v)))
theorem set_dt (hu : X.A.units + 1 < cLine) : PSet X (rDPutT X.K) := by
  intro pins s σ H o i v ov iv u Q I ro ri rv h
  obtain ⟨d, b, xs, k, rfl, rfl, e, hk, hb, hl, q⟩ := h
  obtain rfl : ov = Value.ref d := ro
  obtain rfl : iv = Value.ref b := ri
  obtain ⟨z, hd, ys, r, dd⟩ := dtO_at I e hk
  refine wpAny_setItem_heap (hsz := by rw [← pr3_len r]; exact z) (tupleKind_room_in1 hu) (I.isT hb) dd fun h' dd' hs => ⟨_, ?_, q⟩
  have hl2 : (putX xs k b v).length ≤ sizeLine := by have := putX_len xs k b v; omega
  have he : ∃ q, h'.get? d = some q := let ⟨q, _, _, hq, _⟩ := dd'; ⟨q, hq⟩
  exact d_write I (by rw [e]; exact True.intro) hs he (dtO_ok hl2 hd (pr3_put r k b rv) dd')
def rDListT (K : PySem.W.Frag) : List V → Hp → VK → Prop := fun vs H Q => ∃ d xs, vs = [.ref d] ∧ H d = some (DtO d xs) ∧ KeysT K H xs ∧ ∀ p, H p = none → Q (.ref p) (upd H p (.lst (xs.map fun x => V.ref x.2.1)))
theorem pr3_refs : ∀ {xs : List (List Int × Addr × V)} {ys : List (List Int × Addr × Value)}, Pr3 xs ys → Vals (xs.map fun x => V.ref x.2.1) (ys.map fun x => Value.ref x.2.1)
  | _, _, .nil => .nil
  | _, _, .cons h t => .cons (show _ = _ by rw [h.2.1]) (pr3_refs t)
theorem cr_dlistT (hc : X.calm = true) : CallR X (.type "list") (rDListT X.K) := by
  intro pins s σ H vs us Q I r h
  obtain ⟨d, xs, rfl, e, hk, q⟩ := h
  obtain ⟨u, rfl, rx⟩ := r.one
  cases rx
  obtain ⟨z, hs, ys, pr, o, es, ep, ho, hx, hdt, he, hn⟩ := dtO_at I e hk
  have l1 : es.size = ys.length := size_of_entries he
  have l2 : xs.length = ys.length := pr3_len pr
  refine PySem.W.kdl_call (kdl_raw hs hx hdt) (I.ok.hd hc) ho (by omega) fun h' tk acc' c' kp e it => ?_
  have ea : acc'.toList = ys.map fun x => Value.ref x.2.1 := by
    have hl : acc'.toList.length = ys.length := by rw [Array.length_toList, it.1]; exact l1
    apply List.ext_getElem?
    intro j
    rw [List.getElem?_map]
    cases hj : acc'.toList[j]? with
    | none =>
      have h1 := List.getElem?_eq_none_iff.mp hj
      rw [List.getElem?_eq_none (by omega)] <;> rfl
    | some v =>
      obtain ⟨en, h1, rfl⟩ := it.2 j v (by rw [← Array.getElem?_toList]; exact hj)
      rw [entry_at he] at h1
      cases hy : ys[j]? with
      | none =>
        rw [hy] at h1
        cases h1
      | some y =>
        rw [hy] at h1
        cases h1
        rfl
  refine ⟨.ref s.heap.objs.size, upd H s.heap.objs.size (.lst (xs.map fun x => V.ref x.2.1)), I.laid kp (Nat.le_refl _) (show ObjOk X.prog X.w _ _ _ (.lst (xs.map fun x => V.ref x.2.1)) from ⟨by rw [List.length_map]; exact z, acc'.toList, c', ?_, ?_⟩), rfl, q _ (I.hok.fresh (Nat.le_refl _))⟩
  · rw [ea]
    exact pr3_refs pr
  · rw [Array.toArray_toList]; exact e
end
end Sx
namespace Lf
open PySem PySem.Spec PyProof.Rows L2 Sx
section
variable {κ : Type} [DecidableEq κ]
def valD (kvs : List (κ × PyData)) (k : κ) : Option PyData := (kvs.find? fun x => decide (x.1 = k)).map (·.2)
def putD (kvs : List (κ × PyData)) (k : κ) (v : PyData) : List (κ × PyData) := if (valD kvs k).isSome then kvs.map (fun x => if x.1 = k then (x.1, v) else x) else kvs ++ [(k, v)]
end
def A.isD : A → Bool
  | .sp o => o.own
  | _ => false
def A.dtd : A → (List (List Int × PyData) → Prop) → Prop
  | .sp (.dt kvs), k => k kvs
  | _, _ => False
def A.dkd : A → (List (Key × PyData) → Prop) → Prop
  | .sp (.dk kvs), k => k kvs
  | _, _ => False
def A.key : A → (Key → Prop) → Prop
  | .d (.int i), k => k (.inl i)
  | .d (.str x), k => k (.inr x)
  | _, _ => False
def A.keyT : A → (List Int → Prop) → Prop
  | .d (.tuple ds), k => ∃ ns, intsD ds = some ns ∧ k ns
  | _, _ => False
def aDNewT : AEx := fun ρ R _ => R (.sp (.dt [])) ρ
def aDNewK : AEx := fun ρ R _ => R (.sp (.dk [])) ρ
def aDGetT (i : Nat) (fk : AEx) : AEx := fun ρ R Z => (sl ρ i).isD = true ∧ fk ρ (fun k ρ1 => k.keyT fun ks => (sl ρ1 i).dtd fun kvs => ∃ y, valD kvs ks = some y ∧ R (.d y) ρ1) Z
def aDInT (neg : Bool) (i : Nat) (fk : AEx) : AEx := fun ρ R Z => fk ρ (fun k ρ1 => k.keyT fun ks => (sl ρ1 i).dtd fun kvs => R (.d (.bool (if neg then !(valD kvs ks).isSome else (valD kvs ks).isSome))) ρ1) Z
def gDPutT (i : Nat) (fk : AEx) : AGx := fun a ρ R Z => (sl ρ i).isD = true ∧ fk ρ (fun k ρ1 => k.keyT fun ks => a.on fun y => (sl ρ1 i).dtd fun kvs => kvs.length < 4000000 ∧ R (ρ1.set i (.sp (.dt (putD kvs ks y))))) Z
def aDLenT (i : Nat) : AEx := fun ρ R _ => (sl ρ i).dtd fun kvs => R (.d (.int (kvs.length : Nat))) ρ
def aDListT (i : Nat) : AEx := fun ρ R _ => (sl ρ i).dtd fun kvs => R (.own (kvs.map fun x => .tuple (x.1.map PyData.int))) ρ
def aDGetK (i : Nat) (fk : AEx) : AEx := fun ρ R Z => (sl ρ i).isD = true ∧ fk ρ (fun k ρ1 => k.key fun ks => (sl ρ1 i).dkd fun kvs => ∃ y, valD kvs ks = some y ∧ R (.d y) ρ1) Z
def aDInK (neg : Bool) (i : Nat) (fk : AEx) : AEx := fun ρ R Z => fk ρ (fun k ρ1 => k.key fun ks => (sl ρ1 i).dkd fun kvs => R (.d (.bool (if neg then !(valD kvs ks).isSome else (valD kvs ks).isSome))) ρ1) Z
def gDPutK (i : Nat) (fk : AEx) : AGx := fun a ρ R Z => (sl ρ i).isD = true ∧ fk ρ (fun k ρ1 => k.key fun ks => a.on fun y => (sl ρ1 i).dkd fun kvs => kvs.length < 4000000 ∧ R (ρ1.set i (.sp (.dk (putD kvs ks y))))) Z
def aDLenK (i : Nat) : AEx := fun ρ R _ => (sl ρ i).dkd fun kvs => R (.d (.int (kvs.length : Nat))) ρ
def aDListK (i : Nat) : AEx := fun ρ R _ => (sl ρ i).dkd fun kvs => R (.own (kvs.map fun x => match x.1 with | .inl j => .int j | .inr z => .str z)) ρ
section
variable {K : PySem.W.Frag} {B : Bx} {W : Wx} {G G0 F0 H : Hp} {θ ρ as bs : List A} {τ xs ys : List (Option V)} {σ : L2.St} {a b : A} {x : Option V} {v w : V} {ta : TE} {fa : AEx}
theorem A.is_dtd {k : List (List Int × PyData) → Prop} (h : a.dtd k) : ∃ kvs, a = .sp (.dt kvs) ∧ k kvs := by
  cases a with
  | sp o =>
    cases o with
    | dt kvs => exact ⟨kvs, rfl, h⟩
    | dk _ => exact h.elim
    | exc _ _ _ _ => exact h.elim
    | row _ => exact h.elim
    | rowL _ => exact h.elim
    | si _ _ => exact h.elim
  | un => exact h.elim
  | raw _ => exact h.elim
  | d _ => exact h.elim
  | own _ => exact h.elim
theorem A.is_isD (h : a.isD = true) : ∃ o, a = .sp o ∧ o.own = true := by
  cases a with
  | sp o => exact ⟨o, rfl, h⟩
  | un => exact nomatch h
  | raw _ => exact nomatch h
  | d _ => exact nomatch h
  | own _ => exact nomatch h
theorem A.is_keyT {k : List Int → Prop} (h : a.keyT k) : ∃ ds ns, a = .d (.tuple ds) ∧ intsD ds = some ns ∧ k ns := by
  cases a with
  | d y =>
    cases y with
    | tuple ds =>
      obtain ⟨ns, e, q⟩ := h
      exact ⟨ds, ns, rfl, e, q⟩
    | none => exact h.elim
    | bool _ => exact h.elim
    | int _ => exact h.elim
    | str _ => exact h.elim
    | list _ => exact h.elim
    | dict _ => exact h.elim
  | un => exact h.elim
  | raw _ => exact h.elim
  | own _ => exact h.elim
  | sp _ => exact h.elim
theorem dv_keyT {ds : List PyData} {ns : List Int} (h : Dv K G v (.tuple ds)) (e : intsD ds = some ns) : ∃ b, v = .ref b ∧ SqT K G b (ns.map V.int) := by
  obtain ⟨p, ws, rfl, e1, ha⟩ := tup_in h
  have := dva_ints ha e
  subst this
  exact ⟨p, rfl, e1⟩
theorem sl_spk {i : Nat} {o : Spk} (e : sl ρ i = .sp o) : ρ[i]? = some (.sp o) := by
  have := sl_get (l := ρ) (i := i) (by rw [e]; exact fun z => nomatch z)
  rw [e] at this
  exact this
theorem St.ownS {i : Nat} {o : Spk} (ho : o.own = true) (hl : θ.length = τ.length) (S : St B K G0 F0 (θ ++ ρ) (τ ++ σ) H) (e : ρ[i]? = some (.sp o)) : ∃ p u G F, σ[i]? = some (some (.ref p)) ∧ H p = some u ∧ SpAt K G p u o ∧ Opn B K G0 F0 (θ ++ ρ) (τ ++ σ) H G ∧ Sl K G F0 F (θ ++ ρ) (τ ++ σ) ∧
    ∀ o' u', o'.own = true → SpAt K G p u' o' → St B K G0 F0 (θ ++ ρ.set i (.sp o')) (τ ++ σ) (upd H p u') := by
  obtain ⟨G, F, k, s⟩ := S.ex
  obtain ⟨x, hx, s1⟩ := s.takeA (a := .sp o) ho hl e
  obtain ⟨x', e1, ok⟩ := s1.ok 0 _ rfl
  cases e1
  have ok : o.own = true ∧ ∃ a u, x = some (.ref a) ∧ F a = some u ∧ G a = none ∧ F0 a = none ∧ SpAt K G a u o := by
    rcases ok with h | h
    · exact h
    · cases o with
      | dk _ => exact h.elim
      | dt _ => exact h.elim
      | exc _ _ _ _ => exact nomatch ho
      | row _ => exact nomatch ho
      | rowL _ => exact nomatch ho
      | si _ _ => exact h.elim
  obtain ⟨_, p, u, rfl, e3, e4, e5, e6⟩ := ok
  refine ⟨p, u, G, F, hx, k.sub _ _ e3, e6, opn k s, s, fun o' u' ho' hu => ?_⟩
  have s2 : Sl K G F0 (upd F p u') (.sp o' :: (θ ++ ρ.set i .un)) (some (.ref p) :: (τ ++ σ)) := by
    refine Sl.push ⟨s1.pop.len, fun j b hb => ?_, s1.pop.nd⟩ (.inl ⟨ho', p, u', rfl, upd_same, e4, e5, hu⟩) fun _ q hq j c hj oc hx => ?_
    · obtain ⟨x, hxj, ok⟩ := s1.pop.ok j b hb
      refine ⟨x, hxj, ok.grow (Same.refl _) fun q z1 z2 => ?_⟩
      obtain ⟨q', u', z3, _, z4, _⟩ := ok.at z1
      rw [z2] at z3
      cases z3
      refine ⟨upd_ne ?_, z4⟩
      rintro rfl
      have := s1.nd 0 (j + 1) _ _ q rfl hb ho z1 rfl (by rw [List.getElem?_cons_succ, hxj, z2])
      omega
    · cases hq
      have := s1.nd 0 (j + 1) _ _ p rfl (by rw [List.getElem?_cons_succ]; exact hj) ho oc rfl (by rw [List.getElem?_cons_succ]; exact hx)
      omega
  have s3 := s2.set (i := i) hl
  rw [List.set_set] at s3
  have e9 : σ.set i (some (.ref p)) = σ := by
    obtain ⟨hi, e⟩ := List.getElem?_eq_some_iff.mp hx
    rw [← e, List.set_getElem_self]
  rw [e9] at s3
  exact ⟨G, _, k.putF e3 e4 e5 e6.mut u' hu.noIns hu.mut, s3⟩
theorem le_dnewT : LE B K W Sx.tDNewT aDNewT := fun G0 F0 θ τ ρ σ H R Z Q hl S h q _ p np => q _ _ _ _ h (St.newS rfl S np fun _ _ _ _ _ => ⟨[], rfl, .nil⟩)
abbrev PrT (K : PySem.W.Frag) (G : Hp) : List (List Int × Addr × V) → List (List Int × PyData) → Prop := Paired fun (x : List Int × Addr × V) (y : List Int × PyData) => x.1 = y.1 ∧ SqT K G x.2.1 (x.1.map V.int) ∧ Dv K G x.2.2 y.2
theorem prT_keys {H : Hp} (e : Same G H) : ∀ {xs : List (List Int × Addr × V)} {kvs : List (List Int × PyData)}, PrT K G xs kvs → KeysT K H xs
  | _, _, .nil, p, hp => nomatch hp
  | _, _, .cons h t, p, hp => by
    rcases List.mem_cons.mp hp with z | hp
    · subst z
      exact Sx.Same.tup e h.2.1
    · exact prT_keys e t p hp
theorem prT_val (k : List Int) : ∀ {xs : List (List Int × Addr × V)} {kvs : List (List Int × PyData)}, PrT K G xs kvs → (valT xs k = none ∧ valD kvs k = none) ∨ ∃ c v y, valT xs k = some (c, v) ∧ valD kvs k = some y ∧ Dv K G v y
  | _, _, .nil => .inl ⟨rfl, rfl⟩
  | (k1, c, v) :: xs, (k2, y) :: kvs, .cons ⟨e1, e2, e3⟩ t => by
    obtain rfl : k1 = k2 := e1
    by_cases h : k1 = k
    · exact .inr ⟨c, v, y, by simp [valT, List.find?_cons, h], by simp [valD, List.find?_cons, h], e3⟩
    · rcases prT_val k t with ⟨q1, q2⟩ | ⟨c', v', u', q1, q2, q3⟩
      · exact .inl ⟨by simpa [valT, List.find?_cons, h] using q1, by simpa [valD, List.find?_cons, h] using q2⟩
      · exact .inr ⟨c', v', u', by simpa [valT, List.find?_cons, h] using q1, by simpa [valD, List.find?_cons, h] using q2, q3⟩
theorem prT_repl (k : List Int) {v : V} {y : PyData} (hv : Dv K G v y) : ∀ {xs : List (List Int × Addr × V)} {kvs : List (List Int × PyData)}, PrT K G xs kvs → PrT K G (xs.map fun x => if x.1 = k then (x.1, x.2.1, v) else x) (kvs.map fun x => if x.1 = k then (x.1, y) else x)
  | _, _, .nil => .nil
  | (k1, c, w) :: xs, (k2, z) :: kvs, .cons ⟨e1, e2, e3⟩ t => by
    obtain rfl : k1 = k2 := e1
    refine .cons ?_ (prT_repl k hv t)
    by_cases h : k1 = k
    · show (if k1 = k then (k1, c, v) else (k1, c, w)).1 = (if k1 = k then (k1, y) else (k1, z)).1 ∧ SqT K G (if k1 = k then (k1, c, v) else (k1, c, w)).2.1 ((if k1 = k then (k1, c, v) else (k1, c, w)).1.map V.int) ∧ Dv K G (if k1 = k then (k1, c, v) else (k1, c, w)).2.2 (if k1 = k then (k1, y) else (k1, z)).2
      rw [if_pos h, if_pos h]
      exact ⟨rfl, e2, hv⟩
    · show (if k1 = k then (k1, c, v) else (k1, c, w)).1 = (if k1 = k then (k1, y) else (k1, z)).1 ∧ SqT K G (if k1 = k then (k1, c, v) else (k1, c, w)).2.1 ((if k1 = k then (k1, c, v) else (k1, c, w)).1.map V.int) ∧ Dv K G (if k1 = k then (k1, c, v) else (k1, c, w)).2.2 (if k1 = k then (k1, y) else (k1, z)).2
      rw [if_neg h, if_neg h]
      exact ⟨rfl, e2, e3⟩
theorem prT_put {xs : List (List Int × Addr × V)} {kvs : List (List Int × PyData)} (r : PrT K G xs kvs) {k : List Int} {b : Addr} {v : V} {y : PyData} (hb : SqT K G b (k.map V.int)) (hv : Dv K G v y) : PrT K G (putX xs k b v) (putD kvs k y) := by
  unfold putX putD
  rcases prT_val k r with ⟨q1, q2⟩ | ⟨c, v', u', q1, q2, _⟩
  · rw [q1, q2]
    exact Paired.snoc r ⟨rfl, hb, hv⟩
  · rw [q1, q2]
    exact prT_repl k hv r
theorem lg_dputT {i : Nat} (la : LE B K W ta fa) : LG B K W (gSub (tVar i) ta (rDPutT K)) (gDPutT i fa) := by
  intro G0 F0 θ τ ρ σ H a v R Z Q hl S h q w
  obtain ⟨h0, h⟩ := h
  obtain ⟨o, e0, ho⟩ := A.is_isD h0
  obtain ⟨p, u, G, F, hx, eH, _⟩ := St.ownS (θ := a :: θ) (τ := some v :: τ) ho (congrArg (· + 1) hl) S (sl_spk e0)
  refine ⟨.ref p, hx, ?_⟩
  refine la G0 F0 (a :: θ) (some v :: τ) ρ σ H _ Z _ (congrArg (· + 1) hl) S h (fun u H1 x ρ1 h1 S1 => ?_) w.push
  obtain ⟨ds, ns, rfl, en, k⟩ := A.is_keyT h1
  obtain ⟨y, k2, S2⟩ := (S1.swap2).on k
  obtain ⟨kvs, e1, hz, r⟩ := A.is_dtd k2
  obtain ⟨p', u', G2, F2, hx', eH', ⟨xs, rfl, pr⟩, O, s, al⟩ := St.ownS (θ := .d y :: .d (.tuple ds) :: θ) (τ := some v :: some u :: τ) rfl (congrArg (· + 2) hl) S2 (sl_spk e1)
  rw [hx] at hx'
  cases hx'
  obtain ⟨z, ez, w1, e3, hv⟩ := s.ok 0 _ rfl
  cases ez
  cases e3
  obtain ⟨z, ez, w2, e3, hk⟩ := s.ok 1 _ rfl
  cases ez
  cases e3
  obtain ⟨b, rfl, hb⟩ := dv_keyT hk en
  have lx : xs.length = kvs.length := Paired.length pr
  exact ⟨p, b, xs, ns, rfl, rfl, eH', prT_keys O.sg pr, Sx.Same.tup O.sg hb, big_size (by omega), q _ _ _ r (St.pop (St.pop (al (.dt (putD kvs ns y)) (DtO p (putX xs ns b v)) rfl ⟨_, rfl, prT_put pr hb hv⟩)))⟩
theorem prT_refs : ∀ {xs : List (List Int × Addr × V)} {kvs : List (List Int × PyData)}, PrT K G xs kvs → DvAll K G (xs.map fun x => V.ref x.2.1) (kvs.map fun x => .tuple (x.1.map PyData.int))
  | _, _, .nil => .nil
  | (k1, c, w) :: xs, (k2, z) :: kvs, .cons ⟨e1, e2, e3⟩ t => by
    obtain rfl : k1 = k2 := e1
    exact .cons (.tup e2 (dva_of_ints k1)) (prT_refs t)
theorem le_dlistT {i : Nat} : LE B K W (tCB (rDListT K) (tCons (tVar i) tNil)) (aDListT i) := by
  intro G0 F0 θ τ ρ σ H R Z Q hl S h q w
  obtain ⟨kvs, e1, r⟩ := A.is_dtd h
  obtain ⟨p, u', G2, F2, hx, eH', ⟨xs, rfl, pr⟩, O, _, _⟩ := St.ownS rfl hl S (sl_spk e1)
  exact ⟨.ref p, hx, p, xs, rfl, eH', prT_keys O.sg pr, fun n nn => q _ _ _ _ r (O.nl _ _ _ nn (prT_refs pr))⟩
theorem aDNewT_e (ρ : List A) (R : Po) (Z : Zo) : aDNewT ρ R Z = R (.sp (.dt [])) ρ := propext ⟨fun h => h, fun h => h⟩
theorem aDNewK_e (ρ : List A) (R : Po) (Z : Zo) : aDNewK ρ R Z = R (.sp (.dk [])) ρ := propext ⟨fun h => h, fun h => h⟩
theorem aDGetT_e (i : Nat) (fk : AEx) (ρ : List A) (R : Po) (Z : Zo) : aDGetT i fk ρ R Z = ((sl ρ i).isD = true ∧ fk ρ (fun k ρ1 => k.keyT fun ks => (sl ρ1 i).dtd fun kvs => ∃ y, valD kvs ks = some y ∧ R (.d y) ρ1) Z) := propext ⟨fun h => h, fun h => h⟩
theorem aDInT_e (neg : Bool) (i : Nat) (fk : AEx) (ρ : List A) (R : Po) (Z : Zo) : aDInT neg i fk ρ R Z = fk ρ (fun k ρ1 => k.keyT fun ks => (sl ρ1 i).dtd fun kvs => R (.d (.bool (if neg then !(valD kvs ks).isSome else (valD kvs ks).isSome))) ρ1) Z := propext ⟨fun h => h, fun h => h⟩
theorem gDPutT_e (i : Nat) (fk : AEx) (a : A) (ρ : List A) (R : List A → Prop) (Z : Zo) : gDPutT i fk a ρ R Z = ((sl ρ i).isD = true ∧ fk ρ (fun k ρ1 => k.keyT fun ks => a.on fun y => (sl ρ1 i).dtd fun kvs => kvs.length < 4000000 ∧ R (ρ1.set i (.sp (.dt (putD kvs ks y))))) Z) := propext ⟨fun h => h, fun h => h⟩
theorem aDLenT_e (i : Nat) (ρ : List A) (R : Po) (Z : Zo) : aDLenT i ρ R Z = ((sl ρ i).dtd fun kvs => R (.d (.int (kvs.length : Nat))) ρ) := propext ⟨fun h => h, fun h => h⟩
theorem aDListT_e (i : Nat) (ρ : List A) (R : Po) (Z : Zo) : aDListT i ρ R Z = ((sl ρ i).dtd fun kvs => R (.own (kvs.map fun x => .tuple (x.1.map PyData.int))) ρ) := propext ⟨fun h => h, fun h => h⟩
theorem aDGetK_e (i : Nat) (fk : AEx) (ρ : List A) (R : Po) (Z : Zo) : aDGetK i fk ρ R Z = ((sl ρ i).isD = true ∧ fk ρ (fun k ρ1 => k.key fun ks => (sl ρ1 i).dkd fun kvs => ∃ y, valD kvs ks = some y ∧ R (.d y) ρ1) Z) := propext ⟨fun h => h, fun h => h⟩
theorem aDInK_e (neg : Bool) (i : Nat) (fk : AEx) (ρ : List A) (R : Po) (Z : Zo) : aDInK neg i fk ρ R Z = fk ρ (fun k ρ1 => k.key fun ks => (sl ρ1 i).dkd fun kvs => R (.d (.bool (if neg then !(valD kvs ks).isSome else (valD kvs ks).isSome))) ρ1) Z := propext ⟨fun h => h, fun h => h⟩
theorem gDPutK_e (i : Nat) (fk : AEx) (a : A) (ρ : List A) (R : List A → Prop) (Z : Zo) : gDPutK i fk a ρ R Z = ((sl ρ i).isD = true ∧ fk ρ (fun k ρ1 => k.key fun ks => a.on fun y => (sl ρ1 i).dkd fun kvs => kvs.length < 4000000 ∧ R (ρ1.set i (.sp (.dk (putD kvs ks y))))) Z) := propext ⟨fun h => h, fun h => h⟩
theorem aDLenK_e (i : Nat) (ρ : List A) (R : Po) (Z : Zo) : aDLenK i ρ R Z = ((sl ρ i).dkd fun kvs => R (.d (.int (kvs.length : Nat))) ρ) := propext ⟨fun h => h, fun h => h⟩
theorem aDListK_e (i : Nat) (ρ : List A) (R : Po) (Z : Zo) : aDListK i ρ R Z = ((sl ρ i).dkd fun kvs => R (.own (kvs.map fun x => match x.1 with | .inl j => .int j | .inr z => .str z)) ρ) := propext ⟨fun h => h, fun h => h⟩
theorem isD_t {kvs : List (List Int × PyData)} : (A.sp (.dt kvs)).isD = true := rfl
theorem isD_k {kvs : List (Key × PyData)} : (A.sp (.dk kvs)).isD = true := rfl
theorem dtd_o {kvs : List (List Int × PyData)} {k : List (List Int × PyData) → Prop} : (A.sp (.dt kvs)).dtd k = k kvs := propext ⟨fun h => h, fun h => h⟩
theorem dkd_o {kvs : List (Key × PyData)} {k : List (Key × PyData) → Prop} : (A.sp (.dk kvs)).dkd k = k kvs := propext ⟨fun h => h, fun h => h⟩
theorem keyK_i {i : Int} {k : Key → Prop} : (A.d (.int i)).key k = k (.inl i) := propext ⟨fun h => h, fun h => h⟩
theorem keyK_s {i : Str} {k : Key → Prop} : (A.d (.str i)).key k = k (.inr i) := propext ⟨fun h => h, fun h => h⟩
theorem keyT_t {ds : List PyData} {k : List Int → Prop} : (A.d (.tuple ds)).keyT k = ∃ ns, intsD ds = some ns ∧ k ns := propext ⟨fun h => h, fun h => h⟩
end
end Lf
namespace Sx
open PySem PySem.Spec PyProof.Rows L2
section
variable {X : Cx} {CX : CXT} {n : Nat} {f C : Addr} {fd : FuncData} {ps : List Str} {sp : Sp} {E : L2.St → XK} {x m : Str} {p pos apos : Pos} {e o : Expr} {es : List Expr} {ta : TE} {t : TA}
theorem pmk_own0 {bmB : List Value} {Bn newId initId : String} (F : ExcBaseFacts Bn newId initId bmB) (q : PySem.W.excIn X.K C bmB newId = true) (gC : X.mg x = some (.ref C)) (kC : PySem.W.keepIn X.K (.ref C) = true) (r : Raises X (.ref C)) (hg : Gl X x)
    (hdb : (x == ("__debug__" : Str)) = false := by decide) : PMk X (.Call (.Name x p) [] [] pos) (fun _ H Q => Q (.ref C) none H) := by
  intro pins s σ H Q I h
  refine wpAny_Call_Name_kw (ld_glob I hg gC ?_ hdb)
  refine PySem.W.callWith_K0 I.kIn kC ?_
  obtain ⟨bm, N, nm, qn, bs, hdct, sn, sub, ab, col, dd, k0, k1, k2, k3, k5, mN, hC, hN, hni, T⟩ := exc_obj I.kIn q
  exact wpAny_call_exc_subT (rest := []) F T hC hN hni (fun h' e hm => mk_of I hm r h (I.hok.gone hm.new)) (by rw [sizeLine_eq]; decide)
def tCallKS (sp : Sp) (gV : List V → List V → List V) (E : L2.St → XK) (t tk : TA) : TE := fun σ H Q => t σ H fun vs H1 => tk σ H1 fun zs H2 => sp (gV vs zs) H2 Q (E σ)
variable {ks : List Str} {kws : List Keyword} {tk : TA} {g : List Value → List Value → List Value} {gV : List V → List V → List V}
theorem run_kw {pins : List (Addr × Obj)} {σ : L2.St} {H : Hp} {s : Shared} {Q : VK} {us ws : List Value} {vs zs : List V} (F : FnOk X.prog X.w X.K X.mg X.base CX n f fd ps sp) (hr : Room n X.A) (hb : KBinds X.K fd ps ks g gV) (hx : PassesAt CX X σ (E σ))
    (I : Inv X pins σ H s) (r : Vals vs us) (rz : Vals zs ws) (h : sp (gV vs zs) H Q (E σ)) : wpAny (model X.prog X.w) X.A (call (.ref f) us (ks.zip ws)) (EP X pins σ Q) X.xe s := by
  have both := hb.rel r rz
  have many : (g us ws).length = ps.length := both.length.symm.trans (F.len _ _ _ _ h)
  have run := F.run X.A X.stack s H ⟨us, ks.zip ws⟩ (g us ws) (gV vs zs) Q (E σ) hr I.env0 (hb.to s us ws I.kIn many) both h
  refine wpAny_call (codeAny_mono run fun end_ s' z => ?_)
  match end_, z with
  | .error v, z => exact hx pins H s v s' I z
  | .ok (.ret u), z => exact I.after z
theorem pe_callKsS (F : FnOk X.prog X.w X.K X.mg X.base CX n f fd ps sp) (hr : Room n X.A) (hgl : Gl X x) (hm : X.mg x = some (.ref f)) (hk : PySem.W.keepIn X.K (.ref f) = true) (hb : KBinds X.K fd ps ks g gV) (hx : ∀ σ, PassesAt CX X σ (E σ))
    (hkw : PK X kws tk) (hall : (backToKw pos (keywordEach kws X.env)).all (·.1.isSome) = true := by rfl) (hks : (backToKw pos (keywordEach kws X.env)).filterMap (·.1) = ks := by rfl) (hdb : (x == ("__debug__" : Str)) = false := by decide)
    (hpl : ((backTo pos (starEach [] X.env)).any (·.1) || (backToKw pos (keywordEach kws X.env)).any (·.1.isNone)) = false := by rfl) : PE X (.Call (.Name x p) [] kws pos) (tCallKS sp gV E tNil tk) := by
  refine ⟨fun pins s σ H Q I h => wpAny_Call_Name_kw (ld_glob I hgl hm ?_ hdb)⟩
  refine PySem.W.callWith_KW0 (h₀ := X.base) I.ok.mod.kin hk hall (thn (hkw.run pos pins s σ H _ I h) fun ws s2 ⟨zs, H2, I2, rz, q2⟩ => ⟨I2.kIn, ?_⟩) hpl
  rw [hks]
  exact run_kw (us := []) (vs := []) F hr hb (hx σ) I2 .nil rz q2
end
structure IsiX (K : PySem.W.Frag) (C : Addr) : Prop where
  cl : (PySem.W.clsIn K C).isSome = true
  hga : PySem.W.findIn K (.ref C) "__getattribute__" = some (some (.builtin "BaseException.__getattribute__"))
  hgt : PySem.W.findIn K (.ref C) "__getattr__" = some none
  sb : PySem.W.subIn K (.ref C) (.type "BaseException") = some true
  ha : PySem.W.findIn K (.ref C) "__class__" = some (some (.builtin "object.__class__"))
  hn : PySem.W.specialIn K (.builtin "object.__class__") "__get__" = some (some (.builtin "getset_descriptor.__get__"))
  htk : PySem.W.takesIn K (.builtin "object.__class__") = some true
  hm : PySem.W.mroIn K C (.type "object") = some true
end Sx
namespace Lf
open PySem PySem.Spec PyProof.Rows L2 Sx
def aRaise (nm : Str) : ASx := fun E _ ρ => E.ex ⟨nm, []⟩ ρ
def aRaise1 (nm f : Str) (fa : AEx) : ASx := fun E _ ρ => fa ρ (fun x ρ1 => x.on fun y => E.ex ⟨nm, [(f, y)]⟩ ρ1) E.ex
def aTryAs (sb : Str → Option Bool) (i : Nat) (fb : ASx) (fh : Str → Addr → Option Addr → ASx) : ASx := fun E N ρ => fb { E with ex := fun e ρ1 => ∃ b, sb e.cls = some b ∧ (b = true → ∀ a dd, fh e.cls a dd ⟨E.rt, fun ρ2 => E.bk (ρ2.set i .un), fun ρ2 => E.ct (ρ2.set i .un), fun _ _ => False⟩ (fun ρ2 => N (ρ2.set i .un)) (ρ1.set i (.sp (.exc a .none dd e)))) ∧ (b = false → E.ex e ρ1) } N ρ
def aTry (sb : Str → Option Bool) (fb fh : ASx) : ASx := fun E N ρ => fb { E with ex := fun e ρ1 => ∃ b, sb e.cls = some b ∧ (b = true → fh ⟨E.rt, E.bk, E.ct, fun _ _ => False⟩ N ρ1) ∧ (b = false → E.ex e ρ1) } N ρ
def aXf (a : Addr) (dd : Option Addr) (i : Nat) (f : Str) : AEx := fun ρ R _ => match sl ρ i with
  | .sp (.exc a' _ d' e) => a' = a ∧ d' = dd ∧ ∃ y, e.fs = [(f, y)] ∧ R (.d y) ρ
  | _ => False
def aIsX (a : Addr) (dd : Option Addr) (i : Nat) (b : Bool) : AEx := fun ρ R _ => match sl ρ i with
  | .sp (.exc a' _ d' e) => a' = a ∧ d' = dd ∧ R (.d (.bool b)) ρ
  | _ => False
def sp1 (C : Addr) (f : Str) : Sp := fun vs H Q _ => ∃ (a : Addr) (v : V), vs = [.ref a, v] ∧ H a = some (exo a C none) ∧ ∀ dx, H dx = none → dx ≠ a → Q .non (upd (upd H dx (exd dx [(f, v)])) a (exo a C (some dx)))
section
variable {B : Bx} {K : PySem.W.Frag} {W : Wx} {G0 F0 H : Hp} {θ ρ as bs : List A} {τ xs ys : List (Option V)} {σ : L2.St} {a b : A} {x : Option V} {v w : V}
variable {ta : TE} {fa : AEx} {tb : TS} {fb fh : ASx}
theorem St.xs0 {nm : Str} {C : Value} (S : St B K G0 F0 as xs H) (hn : B.cn nm = C) : XS B K G0 F0 as xs H ⟨nm, []⟩ C none := by
  obtain ⟨G, F, k, s⟩ := S.ex
  exact ⟨G, F, k, s, hn.symm, .inl ⟨rfl, rfl⟩⟩
theorem ls_raise {nm : Str} {C : Addr} (hn : B.cn nm = .ref C) : LS B K W (fun _ σ H => W (.ref C) none σ H) (aRaise nm) := fun G0 F0 θ τ ρ σ H E N D hl S h e => e.ex _ _ _ _ _ _ h (S.xs0 hn)
theorem St.xs1 {nm f : Str} {C : Value} {y : PyData} {dx : Addr} (S : St B K G0 F0 (.d y :: as) (some v :: xs) H) (hn : B.cn nm = C) (nd : H dx = none) : XS B K G0 F0 as xs (upd H dx (.xd [(f, v)])) ⟨nm, [(f, y)]⟩ C (some dx) := by
  obtain ⟨G, F, k, s⟩ := S.ex
  have nF := k.sub.free nd
  have nG := k.s.free nF
  have sg : Same G (upd G dx (.xd [(f, v)])) := same_new nG
  obtain ⟨x, e, v', e2, hd⟩ := s.ok 0 _ rfl
  cases e
  cases e2
  refine ⟨_, _, k.newG nd _, s.pop.grow sg fun q u e1 e2 e3 => ?_, hn.symm, .inr ⟨dx, _, rfl, upd_same, .cons ⟨rfl, dv_same sg _ _ hd⟩ .nil⟩⟩
  have hq := ne_of_none e1 nF
  exact ⟨upd_ne hq, by rw [upd_ne hq]; exact e2⟩
theorem upd_del {H : Hp} {a d : Addr} {o1 o2 o3 o4 : HO} (na : H a = none) (h : d ≠ a) : upd (del (upd (upd (upd H a o1) d o2) a o3) a) d o4 = upd H d o4 := by
  funext b
  by_cases hd : b = d
  · rw [hd, upd_same, upd_same]
  · rw [upd_ne hd, upd_ne hd]
    by_cases ha : b = a
    · rw [ha, del_same]
      exact na.symm
    · rw [del_ne ha, upd_ne ha, upd_ne hd, upd_ne ha]
theorem ls_raise1 {nm f : Str} {C : Addr} (hn : B.cn nm = .ref C) (la : LE B K W ta fa) : LS B K W (fun _ σ H => tMkO C (sp1 C f) [] (tCons ta tNil) σ H fun cls d H' => W cls d σ H') (aRaise1 nm f fa) := by
  intro G0 F0 θ τ ρ σ H E N D hl S h e
  refine la G0 F0 θ τ ρ σ H _ E.ex _ hl S h (fun v H1 x ρ1 h1 S1 => ?_) e.ex
  obtain ⟨y, k, S2⟩ := S1.on h1
  refine ⟨(by decide : 1 ≤ 1000), fun a na => ⟨a, v, rfl, upd_same, fun dx nd hda => ?_⟩⟩
  have nd' : H1 dx = none := by
    rw [upd_ne hda] at nd
    exact nd
  refine ⟨rfl, dx, [(f, v)], upd_same, ?_, nd', ?_⟩
  · rw [upd_ne hda, upd_same]
  · rw [upd_del na hda]
    exact e.ex _ _ _ _ _ _ k (S2.xs1 hn nd')
theorem le_callX {n : Nat} {tr : TA} {fr : AAx} {ι : Type} {box : ι → Bx → Prop} {dk : ι} {c : ι → Ct} (hb : box dk B) (la : LAn n B K W tr fr) : LE B K W (tCallS (SpL K box c) (WE W) tr) (aCall (c dk) fr) := by
  intro G0 F0 θ τ ρ σ H R Z Q hl S h q w
  refine la G0 F0 θ τ ρ σ H _ Z _ hl S h (fun vs H1 as ρ1 h1 l1 l2 S1 => ?_) w
  refine ⟨dk, B, G0, F0, as.map A.fz, θ ++ ρ1, τ ++ σ, _, _, hb, by rw [List.length_map, l1, l2], fun a ha => ?_, fz_all (by rw [l1, l2]) S1, h1, fun a v H' r S5 => q v H' a ρ1 r S5, fun e H' cv dd z xs => w e ρ1 σ H' cv dd z xs⟩
  obtain ⟨b, _, rfl⟩ := List.mem_map.mp ha
  exact fz_not b
theorem le_callKX {n m : Nat} {tr tk : TA} {fr fk : AAx} {ι : Type} {box : ι → Bx → Prop} {dk : ι} {c : ι → Ct} {gA : List A → List A → List A} {gV : List V → List V → List V} (hb : box dk B) (hg : KwOk n m gA gV) (la : LAn n B K W tr fr) (lk : LAn m B K W tk fk) :
    LE B K W (tCallKS (SpL K box c) gV (WE W) tr tk) (aCallK (c dk) gA fr fk) := by
  intro G0 F0 θ τ ρ σ H R Z Q hl S h q w
  refine la G0 F0 θ τ ρ σ H _ Z _ hl S h (fun vs H1 as ρ1 h1 l1 l2 S1 => ?_) w
  refine lk G0 F0 (as ++ θ) (vs.map some ++ τ) ρ1 σ H1 _ Z _ (by simp; omega) (by rw [List.append_assoc, List.append_assoc]; exact S1) h1 (fun ws H2 zs ρ2 h2 l3 l4 S2 => ?_) (w.pushes (by rw [List.length_map, l1, l2]))
  rw [List.append_assoc, List.append_assoc] at S2
  -- all of them as data
  have S3 : St B K G0 F0 ((zs ++ as).map A.fz ++ (θ ++ ρ2)) ((ws ++ vs).map some ++ (τ ++ σ)) H2 := by
    refine fz_all (by simp; omega) ?_
    rw [List.map_append, List.append_assoc, List.append_assoc]
    exact S2
  rw [List.map_append, List.map_append] at S3
  obtain ⟨k1, k2, k3⟩ := hg (as.map A.fz) (zs.map A.fz) vs ws (by rw [List.length_map, l1]) l2 (by rw [List.length_map, l3]) l4
  have nown : ∀ a ∈ gA (as.map A.fz) (zs.map A.fz), a.isOwn = false := fun a ha => by
    rcases k2 a ha with h | h <;> (obtain ⟨b, _, rfl⟩ := List.mem_map.mp h; exact fz_not b)
  have S4 := S3.pick (cs := gA (as.map A.fz) (zs.map A.fz)) (zs := (gV vs ws).map some) (by rw [List.length_map, k1]) (fun i hi => by
    obtain ⟨j, e1, e2⟩ := k3 i hi
    have hj : j < (zs.map A.fz ++ as.map A.fz).length := by
      rw [List.getElem?_eq_getElem hi] at e1
      exact (List.getElem?_eq_some_iff.mp e1.symm).1
    refine ⟨j, by rw [e1, List.getElem?_append_left hj], ?_⟩
    rw [List.getElem?_append_left (by simp at hj ⊢; omega), List.getElem?_map, e2, ← List.map_append, List.getElem?_map]) nown
  refine ⟨dk, B, G0, F0, gA (as.map A.fz) (zs.map A.fz), θ ++ ρ2, τ ++ σ, _, _, hb, k1, nown, ?_, h2, fun a v H' r S5 => q v H' a ρ2 r S5, fun e H' cv dd z xs => w e ρ2 σ H' cv dd z xs⟩
  -- the others go
  have l5 : (zs.map A.fz ++ as.map A.fz).length = (ws.map some ++ vs.map some).length := by simp; omega
  generalize gA (as.map A.fz) (zs.map A.fz) = cs at S4 k1
  have key : ∀ (cs : List A) (us : List (Option V)), cs.length = us.length → St B K G0 F0 (cs ++ ((zs.map A.fz ++ as.map A.fz) ++ (θ ++ ρ2))) (us ++ ((ws.map some ++ vs.map some) ++ (τ ++ σ))) H2 → St B K G0 F0 (cs ++ (θ ++ ρ2)) (us ++ (τ ++ σ)) H2 := by
    intro cs
    induction cs with
    | nil =>
      intro us hu S
      cases us with
      | nil => exact S.pops l5
      | cons _ _ => exact nomatch hu
    | cons c cs ih =>
      intro us hu S
      cases us with
      | nil => exact nomatch hu
      | cons u us =>
        have hl' : cs.length = us.length := Nat.succ.inj hu
        refine S.reindex (by simp; have := S.len; simp at this; omega) (fun j => if j < cs.length + 1 then j else j + (zs.map A.fz ++ as.map A.fz).length) (fun j hj => ?_) (fun j hj => ?_) fun i j hi hj e => ?_
        · by_cases z : j < cs.length + 1
          · rw [if_pos z, List.getElem?_append_left z, List.getElem?_append_left z]
          · rw [if_neg z]
            obtain ⟨m, rfl⟩ : ∃ m, j = (c :: cs).length + m := ⟨j - (cs.length + 1), by simp; omega⟩
            rw [app_at, show (c :: cs).length + m + (zs.map A.fz ++ as.map A.fz).length = (c :: cs).length + ((zs.map A.fz ++ as.map A.fz).length + m) by omega, app_at, app_at]
        · by_cases z : j < cs.length + 1
          · rw [if_pos z, List.getElem?_append_left (by simp; omega), List.getElem?_append_left (by simp; omega)]
          · rw [if_neg z]
            obtain ⟨m, rfl⟩ : ∃ m, j = (u :: us).length + m := ⟨j - (cs.length + 1), by simp; omega⟩
            rw [app_at, l5, show (u :: us).length + m + (ws.map some ++ vs.map some).length = (u :: us).length + ((ws.map some ++ vs.map some).length + m) by omega, app_at, app_at]
        · split at e <;> split at e <;> omega
  exact key cs _ (by rw [List.length_map, k1]) S4
theorem XS.st {e : Ex} {c : Value} {dd : Option Addr} (S : XS B K G0 F0 as xs H e c dd) : c = B.cn e.cls ∧ St B K G0 F0 as xs H := by
  obtain ⟨G, F, k, s, hc, hx⟩ := S.ex
  exact ⟨hc, G, F, k, s⟩
def tTryOnly (K : PySem.W.Frag) (cv : Value) (ts : Addr → Value → Option Addr → TS) (tb : WX → TS) (W : WX) : TS := fun D σ H => tb (wOnly K cv ts W D) D σ H
theorem ps_tryOnly {X : Cx} {x : Str} {c : Value} {body suite : List Stmt} {b₀ : Stmt} {np pos pos' : Pos} {tb : WX → TS} {ts : Addr → Value → Option Addr → TS} {Wout : WX} (h1 : X.stack = X.env :: X.outer) (h2 : X.env.frame = some X.env.locals)
    (h6 : Names X x c) (h7 : Takes X Wout) (h8 : ∀ (W : WX) (pn : List (Addr × Obj)) (xe : Value → Shared → Prop), Takes (X.tr pn xe) W → PassesOwn (model X.prog X.w) X.A X.env xe → PSs (X.tr pn xe) body (tb W))
    (h9 : ∀ (a : Addr) (oe : Obj) (cls : Value) (d : Option Addr) (pn : List (Addr × Obj)), Zc cls d oe → (∃ vs, oe.data = Data.fields vs) → PSs (X.suite a ((a, oe) :: pn)) (b₀ :: suite) (ts a cls d)) :
    PS X (Stmt.Try body [ExceptHandler.ExceptHandler (some (Expr.Name x np)) none (b₀ :: suite) pos'] [] [] pos) (tTryOnly X.K c ts tb Wout) := ps_try_only h1 h2 h6 h7 h8 h9
theorem ls_try {sb : Str → Option Bool} {cv : Value} {tb : WX → TS} {ts : Addr → Value → Option Addr → TS} (hx : ∀ n b, sb n = some b → PySem.W.exmOne K (B.cn n) cv = some b)
    (lb : ∀ W', LS B K W' (tb W') fb) (lh : ∀ a c dd, LS B K Wno (ts a c dd) fh) : LS B K W (tTryOnly K cv ts tb W) (aTry sb fb fh) := by
  intro G0 F0 θ τ ρ σ H E N D hl S h e
  refine lb (wOnly K cv ts W D) G0 F0 θ τ ρ σ H _ N D hl S h ⟨e.nx, e.rt, e.bk, e.ct, ?_⟩
  rintro er ρ1 σ1 H1 c dd ⟨b, hb, h1, h2⟩ X
  obtain ⟨hc, S1⟩ := X.st
  subst hc
  refine ⟨b, hx _ _ hb, fun eb a na => ?_, fun eb => e.ex _ _ _ _ _ _ (h2 eb) X⟩
  subst eb
  exact lh a _ dd G0 F0 θ τ _ _ H1 _ _ _ hl S1 (h1 rfl) ⟨e.nx, e.rt, e.bk, e.ct, fun _ _ _ _ _ _ z _ => z.elim⟩
theorem run1 {ι : Type} {box : ι → Bx → Prop} {c : ι → Ct} {N : List Str} {np : Nat} {vs : List V} {Q : VK} {E : XK} {t : TS} {f : ι → ASx} (h : SpL K box c vs H Q E) (hn : vs.length = np)
    (hl : ∀ dk B, box dk B → LS B K (fun c d _ H => E c d H) t (f dk)) (hf : ∀ dk as R Z, as.length = np → c dk as R Z → f dk ⟨R, fun _ => False, fun _ => False, fun e _ => Z e⟩ (fun _ => R (.d .none)) (as ++ unA (N.length - np))) :
    t { nx := fun _ H1 => Q .non H1, rt := Q } (L2.start N vs) H := by
  obtain ⟨dk, B, G0, F0, as, bs, xs, R, Z, hb, l, n, S, hc, hR, hZ⟩ := h
  obtain ⟨G, F, k, s, S1⟩ := S.enter l n
  have hz := hf dk as R Z (by omega) hc
  have S2 : St B K G F ([] ++ (as ++ unA (N.length - np))) ([] ++ L2.start N vs) H := by
    have := S1 (N.length - np)
    unfold L2.start
    rw [hn, unA_eq]
    exact this
  refine hl dk B hb G F [] [] _ _ H _ _ _ rfl S2 hz ⟨fun ρ' σ' H' r S' => ?_, fun v a H' r S' => hR a v H' r (St.leave k s S'), fun ρ' σ' H' r S' => r.elim, fun ρ' σ' H' r S' => r.elim, fun e ρ' σ' H' cv dd z X => hZ e H' cv dd z (X.leave k s)⟩
  refine hR _ _ H' r (St.leave k s ?_)
  exact St.keepFirst (θ := []) (τ := []) rfl (S'.push (v := .non) (y := .none) fun _ => .non)
theorem aRaise_e (nm : Str) (E : AE) (N : List A → Prop) (ρ : List A) : aRaise nm E N ρ = E.ex ⟨nm, []⟩ ρ := propext ⟨fun h => h, fun h => h⟩
theorem aRaise1_e (nm f : Str) (fa : AEx) (E : AE) (N : List A → Prop) (ρ : List A) : aRaise1 nm f fa E N ρ = fa ρ (fun x ρ1 => x.on fun y => E.ex ⟨nm, [(f, y)]⟩ ρ1) E.ex := propext ⟨fun h => h, fun h => h⟩
theorem aTryAs_e (sb : Str → Option Bool) (i : Nat) (fb : ASx) (fh : Str → Addr → Option Addr → ASx) (E : AE) (N : List A → Prop) (ρ : List A) : aTryAs sb i fb fh E N ρ = fb { E with ex := fun e ρ1 => ∃ b, sb e.cls = some b ∧ (b = true → ∀ a dd, fh e.cls a dd ⟨E.rt, fun ρ2 => E.bk (ρ2.set i .un), fun ρ2 => E.ct (ρ2.set i .un), fun _ _ => False⟩ (fun ρ2 => N (ρ2.set i .un)) (ρ1.set i (.sp (.exc a .none dd e)))) ∧ (b = false → E.ex e ρ1) } N ρ := propext ⟨fun h => h, fun h => h⟩
theorem aTry_e (sb : Str → Option Bool) (fb fh : ASx) (E : AE) (N : List A → Prop) (ρ : List A) : aTry sb fb fh E N ρ = fb { E with ex := fun e ρ1 => ∃ b, sb e.cls = some b ∧ (b = true → fh ⟨E.rt, E.bk, E.ct, fun _ _ => False⟩ N ρ1) ∧ (b = false → E.ex e ρ1) } N ρ := propext ⟨fun h => h, fun h => h⟩
theorem aXf_e (a : Addr) (dd : Option Addr) (i : Nat) (f : Str) (ρ : List A) (R : Po) (Z : Zo) : aXf a dd i f ρ R Z = (match sl ρ i with
  | .sp (.exc a' _ d' e) => a' = a ∧ d' = dd ∧ ∃ y, e.fs = [(f, y)] ∧ R (.d y) ρ
  | _ => False) := propext ⟨fun h => h, fun h => h⟩
theorem aIsX_e (a : Addr) (dd : Option Addr) (i : Nat) (b : Bool) (ρ : List A) (R : Po) (Z : Zo) : aIsX a dd i b ρ R Z = (match sl ρ i with
  | .sp (.exc a' _ d' e) => a' = a ∧ d' = dd ∧ R (.d (.bool b)) ρ
  | _ => False) := propext ⟨fun h => h, fun h => h⟩
end
end Lf
namespace Sx
open PySem PySem.Spec PyProof.Rows L2 Lf
def tDisp1T (K : PySem.W.Frag) (tk tv : TE) : TE := fun σ H Q => ∀ p, H p = none → tk σ (upd H p (DtO p [])) fun x H1 => tv σ H1 fun v H2 => ∃ b k, x = .ref b ∧ SqT K H2 b (k.map V.int) ∧ H2 p = some (DtO p []) ∧ Q (.ref p) (upd H2 p (DtO p [(k, b, v)]))
section
variable {X : Cx} {k v : Expr} {tk tv : TE} {pos : Pos}
theorem pe_disp1T (hu : X.A.units + 1 < cLine) (hk : PE X k tk) (hv : PE X v tv) : PE X (.Dict [some k] [v] pos) (tDisp1T X.K tk tv) := by
  refine ⟨fun pins s σ H Q I h => ?_⟩
  have hn := I.hok.fresh (Nat.le_refl s.heap.objs.size)
  have I1 : Inv X pins σ (upd H s.heap.objs.size (DtO s.heap.objs.size [])) ⟨s.heap.push { cls := .type "dict", data := .dict #[] }, s.gens, s.drawn, s.toks, s.os⟩ :=
    I.laid (a := s.heap.objs.size) (t' := s.toks) (fun _ _ q => Heap.get?_push_of_some _ q) (Nat.le_refl _) (dtO_ok (Nat.zero_le _) (beq_eq_false_iff_ne.mpr (Ne.symm (Nat.ne_of_lt I.big))) .nil (Heap.DictOfH.new s.heap))
  have sh : (evalEachOpt [some k] X.env).zip ((evalEach [v] X.env).map fun v => do let x ← v; standAt pos; pure x) = [(eval k X.env, (do let x ← eval v X.env; standAt pos; pure x))].map fun p => (some p.1, p.2) := by rfl
  rw [arm_eval_Dict, sh, dictDisplay_pairs [(eval k X.env, (do let x ← eval v X.env; standAt pos; pure x))] (List.cons_ne_nil _ _) (show 1 < 17 by decide)]
  have room : (tupleKind (intKind X.prog X.w)).room X.A := Nat.lt_of_le_of_lt (Nat.le_succ _) hu
  refine wpAny_bind (wpAny_standAt (wpAny_bind (wpAny_subDictH (knd := tupleKind (intKind X.prog X.w)) room (show 1 ≤ 15 by decide) ?_)))
  unfold evalPairs
  refine wpAny_bind (thn (hk.run pins _ σ _ _ I1 (h _ hn)) fun u1 s2 ⟨x, H1, I2, r1, q1⟩ => ?_)
  refine wpAny_bind (wpAny_holding (wpAny_bind (thn (hv.run pins s2 σ H1 _ I2 q1) fun u2 s3 ⟨y, H2, I3, r2, b, ks, ex, hb, e, q2⟩ => wpAny_bind (wpAny_standAt (wpAny_pure ?_)))))
  subst ex
  obtain rfl : u1 = Value.ref b := r1
  unfold evalPairs
  refine wpAny_bind (wpAny_holding (wpAny_pure (wpAny_pure ?_)))
  obtain ⟨z, hd, ys, pr, dd⟩ := dtO_at I3 e (fun p hp => nomatch hp)
  cases pr
  refine ⟨[(ks, b, u2)], ⟨rfl, rfl, I3.isT hb, True.intro⟩, dd, fun h' tok dd' hs => wpAny_pure ⟨.ref s.heap.objs.size, _, ?_, rfl, q2⟩⟩
  have he : ∃ q, h'.get? s.heap.objs.size = some q := let ⟨q, _, _, hq, _⟩ := dd'; ⟨q, hq⟩
  exact d_write I3 (by rw [e]; exact True.intro) hs he (dtO_ok (by rw [sizeLine_eq]; show 1 ≤ _; decide) hd (.cons ⟨rfl, rfl, r2⟩ .nil) dd')
def tGhost (t : TE) : TE := fun σ H Q => t σ H fun v H1 => ∃ (a C dx : Addr) (fs fs' : List (Str × V)), v = .ref a ∧ H1 a = some (.ins C dx fs) ∧ (∀ f, fs'.lookup f = fs.lookup f) ∧ (∀ f ∈ fs.map (·.1), f ∈ fs'.map (·.1)) ∧ fs'.length ≤ 1000 ∧ Q v (upd H1 a (.ins C dx fs'))
theorem pe_ghost {e : Expr} {t : TE} (he : PE X e t) : PE X e (tGhost t) := by
  refine ⟨fun pins s σ H Q I h => thn (he.run pins s σ H _ I h) fun u s1 ⟨v, H1, I1, r, a, C, dx, fs, fs', ev, ea, look, names, few, q⟩ => ?_⟩
  subst ev
  obtain ⟨h1, h2, h3, h4, mA, h5, h6, h7⟩ := I1.hok a _ ea
  refine ⟨.ref a, _, ?_, r, q⟩
  refine I1.write (x := a) (e := a) (h' := s1.heap) (t' := s1.toks) (by rw [ea]; exact True.intro) (.inl rfl) (fun _ _ _ z => z) ⟨_, h4⟩ ⟨?_, few, h3, h4, mA, h5, fun f => by rw [look f]; exact h6 f, ?_⟩
  · rw [upd_ne h3]
    exact h1
  · exact fun f hf => names f (h7 f hf)
end
end Sx
namespace Lf
open PySem PySem.Spec PyProof.Rows L2 Sx
def Rw.ok (r : Rw) : Prop := r.ms.length = r.ws.length ∧ r.ms.length ≤ 10 ∧ (∀ m ∈ r.ms, 2 ≤ m ∧ m ≤ 1000000) ∧ (∀ (i : Nat) q, r.ws[i]? = some (some q) → 0 ≤ q ∧ q < r.ms.getD i 0) ∧ r.lo ≤ r.hi ∧ r.lo.natAbs ≤ 4 * 10 ^ 60 ∧ r.hi.natAbs ≤ 4 * 10 ^ 60
def Rw.lane (r : Rw) (l : Int) : Prop := 0 ≤ l ∧ ∃ q, r.ws[l.toNat]? = some (some q)
def Rw.agr (r : Rw) (L : List Int) (x : Int) : Prop := ∀ l ∈ L, ∀ q, r.ws[l.toNat]? = some (some q) → r.ms.getD l.toNat 1 ∣ x - q
def Rw.span (r : Rw) (L : List Int) : Nat := L.foldl (fun s l => Nat.lcm s (r.ms.getD l.toNat 1).natAbs) 1
def RowIs (r : Rw) (L : List Int) (d : PyData) : Prop := (d = .none ∧ ∀ x, r.lo ≤ x → x ≤ r.hi → ¬ r.agr L x) ∨
  ∃ f m : Int, d = .tuple [.int f, .int (r.span L : Nat), .int m] ∧ 1 ≤ m ∧ r.lo ≤ f ∧ f + (m - 1) * (r.span L : Nat) ≤ r.hi ∧ ∀ x, r.lo ≤ x → x ≤ r.hi → (r.agr L x ↔ ∃ t : Int, 0 ≤ t ∧ t < m ∧ x = f + t * (r.span L : Nat))
def NarIs (f s m n q : Int) (d : PyData) : Prop := (d = .none ∧ ∀ t, 0 ≤ t → t < m → ¬ n ∣ f + t * s - q) ∨
  ∃ t0 m' : Int, d = .tuple [.int (f + t0 * s), .int (Nat.lcm s.natAbs n.natAbs : Nat), .int m'] ∧ 1 ≤ m' ∧ 0 ≤ t0 ∧ t0 + (m' - 1) * (n / (Nat.gcd s.natAbs n.natAbs : Nat)) < m ∧
    ∀ t, 0 ≤ t → t < m → (n ∣ f + t * s - q ↔ ∃ j : Int, 0 ≤ j ∧ j < m' ∧ t = t0 + j * (n / (Nat.gcd s.natAbs n.natAbs : Nat)))
def cNar : V → Ct := fun _ as R _ => match as with
  | [.d row, .d (.int n), .d (.int q)] => ∃ f s m : Int, row = .tuple [.int f, .int s, .int m] ∧ 1 ≤ s ∧ s ≤ 10 ^ 61 ∧ 1 ≤ m ∧ m ≤ 10 ^ 61 ∧ f.natAbs ≤ 10 ^ 61 ∧ 1 ≤ n ∧ n ≤ 1000000 ∧ 0 ≤ q ∧ q < n ∧ ∀ d, NarIs f s m n q d → R (.d d)
  | _ => False
theorem len_nar (dk : V) (as : List A) (R : A → Prop) (Z : Ex → Prop) (h : cNar dk as R Z) : as.length = 3 := by
  unfold cNar at h
  split at h
  · rfl
  · exact h.elim
theorem Rw.span_snoc (r : Rw) (L : List Int) (l : Int) : r.span (L ++ [l]) = Nat.lcm (r.span L) (r.ms.getD l.toNat 1).natAbs := by
  unfold Rw.span
  rw [List.foldl_append] <;> rfl
theorem Rw.agr_snoc {r : Rw} {L : List Int} {l x : Int} {q : Int} (hq : r.ws[l.toNat]? = some (some q)) : r.agr (L ++ [l]) x ↔ r.agr L x ∧ r.ms.getD l.toNat 1 ∣ x - q := by
  constructor
  · intro h
    exact ⟨fun k hk => h k (List.mem_append_left _ hk), h l (List.mem_append_right _ List.mem_cons_self) q hq⟩
  · rintro ⟨h1, h2⟩ k hk q' hq'
    rcases List.mem_append.mp hk with hk | hk
    · exact h1 k hk q' hq'
    · rw [List.mem_singleton] at hk
      subst hk
      rw [hq] at hq'
      cases hq'
      exact h2
theorem row_nil (r : Rw) (h : r.lo ≤ r.hi) : RowIs r [] (.tuple [.int r.lo, .int 1, .int (r.hi - r.lo + 1)]) := by
  refine .inr ⟨r.lo, r.hi - r.lo + 1, rfl, by omega, Int.le_refl _, ?_, fun x h1 h2 => ⟨fun _ => ⟨x - r.lo, by omega, by omega, ?_⟩, fun _ k hk => nomatch hk⟩⟩
  · show r.lo + (r.hi - r.lo + 1 - 1) * ((1 : Nat) : Int) ≤ r.hi
    omega
  · show x = r.lo + (x - r.lo) * ((1 : Nat) : Int)
    omega
theorem row_none {r : Rw} {L : List Int} {l : Int} (h : RowIs r L .none) : RowIs r (L ++ [l]) .none := by
  rcases h with ⟨_, h⟩ | ⟨f, m, e, _⟩
  · exact .inl ⟨rfl, fun x h1 h2 z => h x h1 h2 fun k hk => z k (List.mem_append_left _ hk)⟩
  · cases e
theorem row_more {r : Rw} {L : List Int} {l f m q : Int} {d : PyData} (hs : 0 < r.span L) (hq : r.ws[l.toNat]? = some (some q)) (hn : 1 ≤ r.ms.getD l.toNat 1) (h : RowIs r L (.tuple [.int f, .int (r.span L : Nat), .int m])) (hd : NarIs f (r.span L : Nat) m (r.ms.getD l.toNat 1) q d) : RowIs r (L ++ [l]) d := by
  rcases h with ⟨e, _⟩ | ⟨f', m', e, h1, h2, h3, h4⟩
  · cases e
  · cases e
    rcases hd with ⟨rfl, hd⟩ | ⟨t0, m1, rfl, g1, g2, g3, g4⟩
    · refine .inl ⟨rfl, fun x x1 x2 z => ?_⟩
      obtain ⟨z1, z2⟩ := (Rw.agr_snoc hq).mp z
      obtain ⟨t, t1, t2, e⟩ := (h4 x x1 x2).mp z1
      rw [e] at z2
      exact hd t t1 t2 z2
    · have es := r.span_snoc L l
      -- the step of the narrowed row
      have hg0 : 0 < Nat.gcd (r.span L) (r.ms.getD l.toNat 1).natAbs := Nat.gcd_pos_of_pos_left _ hs
      have ag : ∀ x, r.agr (L ++ [l]) x ↔ r.agr L x ∧ r.ms.getD l.toNat 1 ∣ x - q := fun x => Rw.agr_snoc hq
      generalize hN : r.ms.getD l.toNat 1 = N at *
      have eN : ((N.natAbs : Nat) : Int) = N := by omega
      have step : ((Nat.lcm (r.span L) N.natAbs : Nat) : Int) = ((r.span L : Nat) : Int) * (N / (Nat.gcd (r.span L) N.natAbs : Nat)) := by
        have e1 : Nat.lcm (r.span L) N.natAbs = r.span L * (N.natAbs / Nat.gcd (r.span L) N.natAbs) := by
          rw [Nat.lcm_eq_mul_div, Nat.mul_div_assoc _ (Nat.gcd_dvd_right _ _)]
        rw [e1, Int.natCast_mul, Int.natCast_ediv, eN]
      refine .inr ⟨f + t0 * (r.span L : Nat), m1, ?_, g1, ?_, ?_, fun x x1 x2 => ?_⟩
      · rw [es]
        rfl
      · have := Int.mul_nonneg g2 (Int.natCast_nonneg (r.span L))
        omega
      · rw [es, step]
        have g3' : t0 + (m1 - 1) * (N / (Nat.gcd (r.span L) N.natAbs : Nat)) ≤ m - 1 := by
          have : t0 + (m1 - 1) * (N / (Nat.gcd (r.span L) N.natAbs : Nat)) < m := g3
          omega
        have := Int.mul_le_mul_of_nonneg_right g3' (Int.natCast_nonneg (r.span L))
        generalize (N / (Nat.gcd (r.span L) N.natAbs : Nat)) = P at *
        have e2 : f + t0 * ((r.span L : Nat) : Int) + (m1 - 1) * (((r.span L : Nat) : Int) * P) = f + (t0 + (m1 - 1) * P) * ((r.span L : Nat) : Int) := by
          rw [Int.add_mul, Int.mul_assoc, Int.mul_comm P, ← Int.add_assoc]
        rw [e2]
        omega
      · rw [ag, es, step]
        constructor
        · rintro ⟨z1, z2⟩
          obtain ⟨t, t1, t2, e⟩ := (h4 x x1 x2).mp z1
          rw [e] at z2
          obtain ⟨j, j1, j2, ej⟩ := (g4 t t1 t2).mp z2
          refine ⟨j, j1, j2, ?_⟩
          rw [e, ej]
          show f + (t0 + j * (N / (Nat.gcd (r.span L) N.natAbs : Nat))) * ((r.span L : Nat) : Int) = _
          rw [Int.add_mul, Int.mul_assoc, Int.mul_comm (N / _), ← Int.add_assoc]
        · rintro ⟨j, j1, j2, e⟩
          have ej : x = f + (t0 + j * (N / (Nat.gcd (r.span L) N.natAbs : Nat))) * ((r.span L : Nat) : Int) := by
            rw [e, Int.add_mul, Int.mul_assoc, Int.mul_comm (N / _), ← Int.add_assoc]
          have hP : 0 ≤ N / (Nat.gcd (r.span L) N.natAbs : Nat) := Int.ediv_nonneg (by omega) (by omega)
          have t1 : 0 ≤ t0 + j * (N / (Nat.gcd (r.span L) N.natAbs : Nat)) := Int.add_nonneg g2 (Int.mul_nonneg j1 hP)
          have t2 : t0 + j * (N / (Nat.gcd (r.span L) N.natAbs : Nat)) < m := by
            have := Int.mul_le_mul_of_nonneg_right (show j ≤ m1 - 1 by omega) hP
            have g3' : t0 + (m1 - 1) * (N / (Nat.gcd (r.span L) N.natAbs : Nat)) < m := g3
            omega
          refine ⟨(h4 x x1 x2).mpr ⟨_, t1, t2, ej⟩, ?_⟩
          rw [ej]
          exact (g4 _ t1 t2).mpr ⟨j, j1, j2, rfl⟩
theorem Rw.span_pos {r : Rw} (h : r.ok) : ∀ L : List Int, (∀ l ∈ L, r.lane l) → 0 < r.span L ∧ r.span L ≤ 1000000 ^ L.length := by
  intro L
  have key : ∀ (L : List Int) (s : Nat), (∀ l ∈ L, r.lane l) → 0 < s → 0 < L.foldl (fun s l => Nat.lcm s (r.ms.getD l.toNat 1).natAbs) s ∧ L.foldl (fun s l => Nat.lcm s (r.ms.getD l.toNat 1).natAbs) s ≤ s * 1000000 ^ L.length := by
    intro L
    induction L with
    | nil => exact fun s _ h => ⟨h, by simp⟩
    | cons l L ih =>
      intro s hl hs
      obtain ⟨l0, q, hq⟩ := hl l List.mem_cons_self
      have hlt : l.toNat < r.ms.length := by
        rw [h.1]
        exact (List.getElem?_eq_some_iff.mp hq).1
      have hm := h.2.2.1 (r.ms.getD l.toNat 1) (by
        rw [List.getD_eq_getElem?_getD, List.getElem?_eq_getElem hlt]
        exact List.getElem_mem hlt)
      have hp : 0 < Nat.lcm s (r.ms.getD l.toNat 1).natAbs := Nat.lcm_pos hs (by omega)
      have hle : Nat.lcm s (r.ms.getD l.toNat 1).natAbs ≤ s * 1000000 := Nat.le_trans (Nat.le_of_dvd (Nat.mul_pos hs (by omega)) (Nat.lcm_dvd_mul _ _)) (Nat.mul_le_mul_left _ (by omega))
      obtain ⟨a, b⟩ := ih _ (fun k hk => hl k (List.mem_cons_of_mem _ hk)) hp
      refine ⟨a, Nat.le_trans b ?_⟩
      rw [List.length_cons, Nat.pow_succ, Nat.mul_comm (1000000 ^ L.length), ← Nat.mul_assoc]
      exact Nat.mul_le_mul_right _ hle
  intro h1
  have := key L 1 h1 (by decide)
  rw [Nat.one_mul] at this
  exact this
end Lf
namespace Lf
open PySem PySem.Spec PyProof.Rows L2 Sx
theorem sqT_put {K : PySem.W.Frag} {H : Hp} {a p : Addr} {xs : List V} {u o : HO} (h : SqT K H a xs) (e : H p = some u) (mu : Mut (some u)) : SqT K (upd H p o) a xs := by
  rcases h with (h | ⟨ob, h⟩) | h
  · refine .inl (.inl ?_)
    rw [upd_ne]
    · exact h
    · rintro rfl
      rw [h] at e
      cases e
      exact mu
  · refine .inl (.inr ⟨ob, ?_⟩)
    rw [upd_ne]
    · exact h
    · rintro rfl
      rw [h] at e
      cases e
      exact mu
  · exact .inr h
def RowV (K : PySem.W.Frag) (H : Hp) (v : V) (d : PyData) : Prop := (v = .non ∧ d = .none) ∨ ∃ (q : Addr) (f s m : Int), v = .ref q ∧ SqT K H q [.int f, .int s, .int m] ∧ d = .tuple [.int f, .int s, .int m]
def Ents (K : PySem.W.Frag) (F1 : Hp) (r : Rw) (xs : List (List Int × Addr × V)) : Prop := KeysT K F1 xs ∧ (valT xs []).isSome = true ∧ (∀ e ∈ xs, ∃ d, RowIs r e.1 d ∧ RowV K F1 e.2.2 d) ∧ (xs.map (·.1)).Nodup ∧ ∀ e ∈ xs, e.1.Pairwise (· < ·) ∧ ∀ l ∈ e.1, r.lane l
def RowO (K : PySem.W.Frag) (F1 : Hp) (m w : V) (kd : Addr) (r : Rw) : Prop := ∃ (t t' : Addr) (xs : List (List Int × Addr × V)), m = .ref t ∧ w = .ref t' ∧ SqT K F1 t (r.ms.map V.int) ∧ SqT K F1 t' (r.ws.map oV) ∧ F1 kd = some (DtO kd xs) ∧ Ents K F1 r xs
structure RowsOk (K : PySem.W.Frag) (C : Addr) (F F1 : Hp) : Prop where
  at_ : ∀ a C' dx fs, F a = some (.ins C' dx fs) → C' = C ∧ ∃ m w kd r, fs = rowF m w kd r ∧ r.ok ∧ F kd = none ∧ RowO K F1 m w kd r
  one : ∀ a a' C1 C2 dx dx' m w kd r m' w' r', F a = some (.ins C1 dx (rowF m w kd r)) → F a' = some (.ins C2 dx' (rowF m' w' kd r')) → a = a'
theorem RowV.same {K : PySem.W.Frag} {H H' : Hp} {v : V} {d : PyData} (s : ∀ q xs, SqT K H q xs → SqT K H' q xs) (h : RowV K H v d) : RowV K H' v d := by
  rcases h with h | ⟨q, f, st, m, h1, h2, h3⟩
  · exact .inl h
  · exact .inr ⟨q, f, st, m, h1, s _ _ h2, h3⟩
theorem Ents.same {K : PySem.W.Frag} {H H' : Hp} {r : Rw} {xs : List (List Int × Addr × V)} (s : ∀ q xs, SqT K H q xs → SqT K H' q xs) (h : Ents K H r xs) : Ents K H' r xs :=
  ⟨fun p hp => s _ _ (h.1 p hp), h.2.1, fun e he => by
    obtain ⟨d, h1, h2⟩ := h.2.2.1 e he
    exact ⟨d, h1, h2.same s⟩, h.2.2.2⟩
theorem RowO.same {K : PySem.W.Frag} {H H' : Hp} {m w : V} {kd : Addr} {r : Rw} (s : ∀ q xs, SqT K H q xs → SqT K H' q xs) (k : ∀ u, H kd = some u → H' kd = some u) (h : RowO K H m w kd r) : RowO K H' m w kd r := by
  obtain ⟨t, t', xs, h1, h2, h3, h4, h5, h6⟩ := h
  exact ⟨t, t', xs, h1, h2, s _ _ h3, s _ _ h4, k _ h5, h6.same s⟩
theorem RowO.there {K : PySem.W.Frag} {H : Hp} {m w : V} {kd : Addr} {r : Rw} (h : RowO K H m w kd r) : ∃ u, H kd = some u ∧ Mut (some u) ∧ NoIns u := by
  obtain ⟨t, t', xs, h1, h2, h3, h4, h5, h6⟩ := h
  exact ⟨_, h5, True.intro, True.intro⟩
def NewOk (B0 : Bx) : Prop := ∀ {F H : Hp} {p : Addr} (o : HO), B0.P F H → H p = none → B0.P (upd F p o) (upd H p o)
def rb (K : PySem.W.Frag) (C : Addr) (B0 : Bx) : Bx where
  P F H := ∃ F1, B0.P F1 H ∧ Same F F1 ∧ RowsOk K C F F1
  sub := fun ⟨F1, h1, h2, _⟩ => h2.trans (B0.sub h1)
  more := fun ⟨F1, h1, h2, h3⟩ s => ⟨F1, B0.more h1 s, h2, h3⟩
  new := fun {F H p} o ⟨F1, h1, h2, h3⟩ np ni => by
    have n1 := (B0.sub h1).free np
    have nF := h2.free n1
    have s1 : Same F1 (upd F1 p o) := same_new n1
    have ne : ∀ {a : Addr} {C' dx : Addr} {fs}, upd F p o a = some (.ins C' dx fs) → F a = some (.ins C' dx fs) := fun {a C' dx fs} e => by
      by_cases h : a = p
      · subst h
        rw [upd_same] at e
        cases e
        exact ni.elim
      · rw [upd_ne h] at e
        exact e
    refine ⟨upd F1 p o, B0.new o h1 np ni, ?_, fun a C' dx fs e => ?_, fun a a' C1 C2 dx dx' m w kd r m' w' r' e1 e2 => h3.one _ _ _ _ _ _ _ _ _ _ _ _ _ (ne e1) (ne e2)⟩
    · intro c x e
      by_cases h : c = p
      · subst h
        rw [upd_same] at e ⊢
        exact e
      · rw [upd_ne h] at e ⊢
        exact h2 _ _ e
    · obtain ⟨hc, m, w, kd, r, h4, h5, h6, h7⟩ := h3.at_ _ _ _ _ (ne e)
      refine ⟨hc, m, w, kd, r, h4, h5, ?_, h7.same (fun q xs z => Sx.Same.tup s1 z) fun u z => s1 _ _ z⟩
      obtain ⟨u, hu, _⟩ := h7.there
      rw [upd_ne (ne_of_none hu n1)]
      exact h6
  put := fun {F H p u} o ⟨F1, h1, h2, h3⟩ e0 mu ni => by
    have e1 := h2 _ _ e0
    have ne : ∀ {a : Addr} {C' dx : Addr} {fs}, upd F p o a = some (.ins C' dx fs) → F a = some (.ins C' dx fs) := fun {a C' dx fs} e => by
      by_cases h : a = p
      · subst h
        rw [upd_same] at e
        cases e
        exact ni.elim
      · rw [upd_ne h] at e
        exact e
    refine ⟨upd F1 p o, B0.put o h1 e1 mu ni, ?_, fun a C' dx fs e => ?_, fun a a' C1 C2 dx dx' m w kd r m' w' r' e1 e2 => h3.one _ _ _ _ _ _ _ _ _ _ _ _ _ (ne e1) (ne e2)⟩
    · intro c x e
      by_cases h : c = p
      · subst h
        rw [upd_same] at e ⊢
        exact e
      · rw [upd_ne h] at e ⊢
        exact h2 _ _ e
    · obtain ⟨hc, m, w, kd, r, h4, h5, h6, h7⟩ := h3.at_ _ _ _ _ (ne e)
      have hk : kd ≠ p := fun z => by
        rw [z, e0] at h6
        cases h6
      exact ⟨hc, m, w, kd, r, h4, h5, by rw [upd_ne hk]; exact h6, h7.same (fun q xs z => sqT_put z e1 mu) fun u z => by rw [upd_ne hk]; exact z⟩
  less := fun {F F' H} ⟨F1, h1, h2, h3⟩ s => ⟨F1, h1, s.trans h2, ⟨fun a C' dx fs e => by
    obtain ⟨hc, m, w, kd, r, h4, h5, h6, h7⟩ := h3.at_ _ _ _ _ (s _ _ e)
    exact ⟨hc, m, w, kd, r, h4, h5, s.free h6, h7⟩, fun a a' C1 C2 dx dx' m w kd r m' w' r' e1 e2 => h3.one _ _ _ _ _ _ _ _ _ _ _ _ _ (s _ _ e1) (s _ _ e2)⟩⟩
  cn := B0.cn
def RBox (K : PySem.W.Frag) (C : Addr) (B : Bx) : Prop := ∃ B0, NewOk B0 ∧ B = rb K C B0
theorem map_inj2 {α β : Type} {f : α → β} (hf : ∀ x y, f x = f y → x = y) : ∀ {l m : List α}, l.map f = m.map f → l = m
  | [], [], _ => rfl
  | [], _ :: _, h => nomatch h
  | _ :: _, [], h => nomatch h
  | x :: l, y :: m, h => by
    rw [List.map_cons, List.map_cons] at h
    injection h with h1 h2
    rw [hf _ _ h1, map_inj2 hf h2]
theorem app_names {α : Type} {n1 n2 : Str} (hn : n1 ≠ n2) {f : α → V} {β : Type} {g : β → V} : ∀ {a b : List α} {c d : List β}, (a.map fun i => (n1, f i)) ++ (c.map fun i => (n2, g i)) = (b.map fun i => (n1, f i)) ++ (d.map fun i => (n2, g i)) →
    (a.map fun i => (n1, f i)) = (b.map fun i => (n1, f i)) ∧ (c.map fun i => (n2, g i)) = (d.map fun i => (n2, g i))
  | [], [], _, _, h => ⟨rfl, h⟩
  | [], y :: b, c, d, h => by
    cases c with
    | nil => exact nomatch h
    | cons z c =>
      rw [List.map_nil, List.nil_append, List.map_cons, List.map_cons, List.cons_append] at h
      injection h with h1 _
      exact absurd (congrArg Prod.fst h1).symm hn
  | x :: a, [], c, d, h => by
    cases d with
    | nil => exact nomatch h
    | cons z d =>
      rw [List.map_nil, List.nil_append, List.map_cons, List.map_cons, List.cons_append] at h
      injection h with h1 _
      exact absurd (congrArg Prod.fst h1) hn
  | x :: a, y :: b, c, d, h => by
    rw [List.map_cons, List.map_cons, List.cons_append, List.cons_append] at h
    injection h with h1 h2
    obtain ⟨q1, q2⟩ := app_names hn h2
    exact ⟨by rw [List.map_cons, List.map_cons, h1, q1], q2⟩
theorem rowF_inj {m w m' w' : V} {kd kd' : Addr} {r r' : Rw} (h : rowF m w kd r = rowF m' w' kd' r') : m = m' ∧ w = w' ∧ kd = kd' ∧ r = r' := by
  unfold rowF at h
  rw [List.cons_append, List.cons_append, List.cons_append, List.cons_append, List.cons_append, List.nil_append, List.cons_append, List.cons_append, List.cons_append, List.cons_append, List.cons_append, List.nil_append] at h
  injection h with h1 h
  injection h with h2 h
  injection h with h3 h
  injection h with h4 h
  injection h with h5 h
  obtain ⟨q1, q2⟩ := app_names (by decide +kernel) h
  have e1 := map_inj2 (f := fun i => (("machine" : Str), V.int i)) (fun x y e => by
    have := congrArg Prod.snd e
    exact V.int.inj this) q1
  have e2 := map_inj2 (f := fun o => (("word" : Str), oV o)) (fun x y e => by
    have := congrArg Prod.snd e
    cases x <;> cases y <;> first | rfl | (cases this; rfl) | exact nomatch this) q2
  have i1 : m = m' := congrArg Prod.snd h1
  have i2 : w = w' := congrArg Prod.snd h2
  have i3 : V.ref kd = V.ref kd' := congrArg Prod.snd h3
  have i4 : V.int r.lo = V.int r'.lo := congrArg Prod.snd h4
  have i5 : V.int r.hi = V.int r'.hi := congrArg Prod.snd h5
  obtain ⟨a1, a2, a3, a4⟩ := r
  obtain ⟨b1, b2, b3, b4⟩ := r'
  cases i3
  cases i4
  cases i5
  have e1 : a1 = b1 := e1
  have e2 : a2 = b2 := e2
  subst e1 e2
  exact ⟨i1, i2, rfl, rfl⟩
theorem rowF_look {m w : V} {kd : Addr} {r : Rw} (f : Str) : (rowF m w kd r).lookup f = ([("machine", m), ("word", w), ("known", .ref kd)] : List (Str × V)).lookup f := by
  by_cases h1 : f = "machine"
  · subst h1
    rfl
  by_cases h2 : f = "word"
  · subst h2
    rfl
  by_cases h3 : f = "known"
  · subst h3
    rfl
  have n1 : (f == ("machine" : Str)) = false := beq_eq_false_iff_ne.mpr h1
  have n2 : (f == ("word" : Str)) = false := beq_eq_false_iff_ne.mpr h2
  have n3 : (f == ("known" : Str)) = false := beq_eq_false_iff_ne.mpr h3
  have k1 : ∀ l : List Int, ∀ t : List (Str × V), ((l.map fun i => (("machine" : Str), V.int i)) ++ t).lookup f = t.lookup f := fun l t => by
    induction l with
    | nil => rfl
    | cons a l ih =>
      rw [List.map_cons, List.cons_append, List.lookup_cons, n1]
      exact ih
  have k2 : ∀ l : List (Option Int), (l.map fun o => (("word" : Str), oV o)).lookup f = none := fun l => by
    induction l with
    | nil => rfl
    | cons a l ih =>
      rw [List.map_cons, List.lookup_cons, n2]
      exact ih
  unfold rowF
  simp only [List.cons_append, List.nil_append, List.lookup_cons, n1, n2, n3, k1, k2, List.lookup_nil]
theorem rowF_len {m w : V} {kd : Addr} {r : Rw} (h : r.ok) : (rowF m w kd r).length ≤ 1000 := by
  unfold rowF
  rw [List.length_append, List.length_append, List.length_map, List.length_map]
  have h1 := h.1
  have h2 := h.2.1
  show 5 + _ ≤ 1000
  omega
end Lf
namespace Lf
open PySem PySem.Spec PyProof.Rows L2 Sx
section
variable {K : PySem.W.Frag} {C : Addr} {B0 : Bx} {G0 F0 G F H : Hp} {a dx kd : Addr} {C' : Addr} {m w : V} {r : Rw}
theorem rb_kn (k : Kn (rb K C B0) G0 F0 G F H) (e : G a = some (.ins C' dx (rowF m w kd r))) : C' = C ∧ r.ok ∧ ∃ F1 t t' xs, B0.P F1 H ∧ Same F F1 ∧ RowsOk K C F F1 ∧ F kd = none ∧ m = .ref t ∧ w = .ref t' ∧ SqT K F1 t (r.ms.map V.int) ∧ SqT K F1 t' (r.ws.map oV) ∧ F1 kd = some (DtO kd xs) ∧ Ents K F1 r xs := by
  obtain ⟨F1, h1, h2, h3⟩ := k.B
  obtain ⟨hc, m1, w1, kd1, r1, h4, h5, h6, t, t', xs, h7, h8, h9, h10, h11, h12⟩ := h3.at_ _ _ _ _ (k.s _ _ e)
  obtain ⟨rfl, rfl, rfl, rfl⟩ := rowF_inj h4
  exact ⟨hc, h5, F1, t, t', xs, h1, h2, h3, h6, h7, h8, h9, h10, h11, h12⟩
theorem rb_put {F1 : Hp} {xs xs' : List (List Int × Addr × V)} (k : Kn (rb K C B0) G0 F0 G F H) (e : G a = some (.ins C' dx (rowF m w kd r))) (h1 : B0.P F1 H) (h2 : Same F F1) (h3 : RowsOk K C F F1) (h6 : F kd = none) (h7 : F1 kd = some (DtO kd xs)) (h8 : Ents K F1 r xs') :
    Kn (rb K C B0) G0 F0 G F (upd H kd (DtO kd xs')) ∧ B0.P (upd F1 kd (DtO kd xs')) (upd H kd (DtO kd xs')) ∧ Same F (upd F1 kd (DtO kd xs')) ∧ RowsOk K C F (upd F1 kd (DtO kd xs')) := by
  have keep : ∀ q ys, SqT K F1 q ys → SqT K (upd F1 kd (DtO kd xs')) q ys := fun q ys z => sqT_put z h7 True.intro
  have eF := k.s _ _ e
  have p1 := B0.put (DtO kd xs') h1 h7 True.intro True.intro
  have p2 : Same F (upd F1 kd (DtO kd xs')) := by
    intro c x ec
    rw [upd_ne (ne_of_none ec h6)]
    exact h2 _ _ ec
  have p3 : RowsOk K C F (upd F1 kd (DtO kd xs')) := by
    refine ⟨fun b C2 d2 fs eb => ?_, h3.one⟩
    obtain ⟨hc, m1, w1, kd1, r1, h4, h5, h6', h9⟩ := h3.at_ _ _ _ _ eb
    refine ⟨hc, m1, w1, kd1, r1, h4, h5, h6', ?_⟩
    by_cases hk : kd1 = kd
    · subst hk
      subst h4
      have := h3.one _ _ _ _ _ _ _ _ _ _ _ _ _ eb eF
      subst this
      rw [eF] at eb
      injection eb with eb
      injection eb with _ _ ef
      obtain ⟨rfl, rfl, _, rfl⟩ := rowF_inj ef
      obtain ⟨t, t', ys, g1, g2, g3, g4, g5, g6⟩ := h9
      exact ⟨t, t', xs', g1, g2, keep _ _ g3, keep _ _ g4, upd_same, h8.same keep⟩
    · exact h9.same keep fun u hu => by rw [upd_ne hk]; exact hu
  exact ⟨⟨⟨_, p1, p2, p3⟩, k.sG, k.sF, k.s, k.ap, k.fm⟩, p1, p2, p3⟩
theorem sqT_rd {F1 : Hp} {q : Addr} {xs : List V} (h : SqT K F1 q xs) : (∃ u, F1 q = some u ∧ ¬ Mut (some u) ∧ NoIns u ∧ ∀ G : Hp, G q = some u → SqT K G q xs) ∨ ∀ G : Hp, SqT K G q xs := by
  rcases h with (h | ⟨ob, h⟩) | h
  · exact .inl ⟨_, h, fun z => z, True.intro, fun G e => .inl (.inl e)⟩
  · exact .inl ⟨_, h, fun z => z, True.intro, fun G e => .inl (.inr ⟨ob, e⟩)⟩
  · exact .inr fun G => .inr h
theorem rb_read {F1 : Hp} {q : Addr} {xs : List V} {ps : List A} {zs : List (Option V)} (k : Kn (rb K C B0) G0 F0 G F H) (s : Sl K G F0 F ps zs) (h1 : B0.P F1 H) (h2 : Same F F1) (h3 : RowsOk K C F F1) (h : SqT K F1 q xs) :
    ∃ G' F', Kn (rb K C B0) G0 F0 G' F' H ∧ Same G G' ∧ Sl K G' F0 F' ps zs ∧ SqT K G' q xs := by
  rcases sqT_rd h with ⟨u, hu, nm, ni, hq⟩ | h
  · cases hF : F q with
    | none =>
      have nG := k.s.free hF
      have n0 := k.old hF
      have sg : Same G (upd G q u) := same_new nG
      have hu' : Same (upd F q u) F1 := fun c x e => by
        by_cases hc : c = q
        · subst hc
          rw [upd_same] at e
          rw [hu]
          exact e
        · rw [upd_ne hc] at e
          exact h2 _ _ e
      have ne : ∀ {b : Addr} {C' dx : Addr} {fs}, upd F q u b = some (.ins C' dx fs) → F b = some (.ins C' dx fs) := fun {b C' dx fs} e => by
        by_cases hb : b = q
        · subst hb
          rw [upd_same] at e
          cases e
          exact ni.elim
        · rw [upd_ne hb] at e
          exact e
      refine ⟨_, upd F q u, ⟨⟨F1, h1, hu', fun b C2 d2 fs e => ?_, fun a a' C1 C2 dx dx' m w kd r m' w' r' e1 e2 => h3.one _ _ _ _ _ _ _ _ _ _ _ _ _ (ne e1) (ne e2)⟩, k.sG.trans sg, k.sF.trans (same_new hF), ?_, fun D g1 g2 => ?_, fun D v g1 g2 => ?_⟩, sg, s.grow sg fun p v e1 e2 e3 => ?_, hq _ upd_same⟩
      · obtain ⟨hc, m1, w1, kd1, r1, h4, h5, h6, h9⟩ := h3.at_ _ _ _ _ (ne e)
        refine ⟨hc, m1, w1, kd1, r1, h4, h5, ?_, h9⟩
        obtain ⟨z, hz, mz, _⟩ := h9.there
        rw [upd_ne]
        · exact h6
        · rintro rfl
          rw [hu] at hz
          cases hz
          exact nm mz
      · intro c x e
        by_cases hc : c = q
        · subst hc
          rw [upd_same] at e ⊢
          exact e
        · rw [upd_ne hc] at e ⊢
          exact k.s _ _ e
      · have hD : D ≠ q := fun z => g2 (by rw [z]; exact n0)
        rw [upd_ne hD]
        exact k.ap D g1 g2
      · by_cases hD : D = q
        · subst hD
          rw [upd_same] at g1
          cases g1
        · rw [upd_ne hD] at g1 g2
          exact k.fm D v g1 g2
      · have hp := ne_of_none e1 hF
        exact ⟨upd_ne hp, by rw [upd_ne hp]; exact e2⟩
    | some u' =>
      have e1 := h2 _ _ hF
      rw [hu] at e1
      cases e1
      cases hG : G q with
      | none => exact absurd (k.fm _ _ hG hF) nm
      | some g =>
        have e2 := k.s _ _ hG
        rw [hF] at e2
        cases e2
        exact ⟨G, F, k, Same.refl _, s, hq _ hG⟩
  · exact ⟨G, F, k, Same.refl _, s, h G⟩
theorem rowV_dv {v : V} {d : PyData} (h : Dv K G v d) {r : Rw} {L : List Int} (hd : RowIs r L d) : RowV K G v d := by
  rcases hd with ⟨rfl, _⟩ | ⟨f, m, rfl, _⟩
  · cases h
    exact .inl ⟨rfl, rfl⟩
  · obtain ⟨q, ws, rfl, e, ha⟩ := tup_in h
    have := dva_ints (bs := [f, (r.span L : Nat), m]) ha rfl
    subst this
    exact .inr ⟨q, f, _, m, rfl, e, rfl⟩
theorem putX_mem {xs : List (List Int × Addr × V)} {k : List Int} {b : Addr} {v : V} {e : List Int × Addr × V} (h : e ∈ putX xs k b v) : e ∈ xs ∨ (e.1 = k ∧ e.2.2 = v ∧ (e.2.1 = b ∨ ∃ e' ∈ xs, e'.1 = k ∧ e'.2.1 = e.2.1)) := by
  unfold putX at h
  split at h
  · obtain ⟨x, hx, rfl⟩ := List.mem_map.mp h
    by_cases hk : x.1 = k
    · rw [if_pos hk]
      exact .inr ⟨hk, rfl, .inr ⟨x, hx, hk, rfl⟩⟩
    · rw [if_neg hk]
      exact .inl hx
  · rcases List.mem_append.mp h with h | h
    · exact .inl h
    · rw [List.mem_singleton] at h
      subst h
      exact .inr ⟨rfl, rfl, .inl rfl⟩
theorem valT_map {xs : List (List Int × Addr × V)} {k : List Int} {v : V} (j : List Int) : valT (xs.map fun x => if x.1 = k then (x.1, x.2.1, v) else x) j = (valT xs j).map fun y => if j = k then (y.1, v) else y := by
  induction xs with
  | nil => rfl
  | cons x xs ih =>
    unfold valT at ih ⊢
    rw [List.map_cons, List.find?_cons, List.find?_cons]
    by_cases hk : x.1 = k
    · rw [if_pos hk]
      by_cases hj : x.1 = j
      · have : j = k := hj.symm.trans hk
        simp [hj, this]
      · simp only [hj, decide_false]
        exact ih
    · rw [if_neg hk]
      by_cases hj : x.1 = j
      · have : ¬ j = k := fun z => hk (hj.trans z)
        simp [hj, this]
      · simp only [hj, decide_false]
        exact ih
theorem valT_put (xs : List (List Int × Addr × V)) (k : List Int) (b : Addr) (v : V) (j : List Int) : (∃ c, valT (putX xs k b v) k = some (c, v)) ∧ ((valT xs j).isSome = true → (valT (putX xs k b v) j).isSome = true) := by
  unfold putX
  cases h : (valT xs k).isSome with
  | true =>
    rw [if_pos rfl]
    refine ⟨?_, fun hj => ?_⟩
    · rw [valT_map]
      obtain ⟨y, hy⟩ := Option.isSome_iff_exists.mp h
      exact ⟨y.1, by rw [hy]; simp⟩
    · rw [valT_map, Option.isSome_map]
      exact hj
  | false =>
    rw [if_neg (by decide)]
    have hn : xs.find? (fun x => decide (x.1 = k)) = none := by
      unfold valT at h
      rw [Option.isSome_map] at h
      exact Option.isSome_eq_false_iff.mp h |> Option.isNone_iff_eq_none.mp
    refine ⟨⟨b, ?_⟩, fun hj => ?_⟩
    · unfold valT
      rw [List.find?_append, hn]
      simp
    · unfold valT at hj ⊢
      rw [Option.isSome_map] at hj ⊢
      rw [List.find?_append]
      obtain ⟨y, hy⟩ := Option.isSome_iff_exists.mp hj
      rw [hy] <;> rfl
theorem putX_keys {xs : List (List Int × Addr × V)} {k : List Int} {b : Addr} {v : V} (h : (xs.map (·.1)).Nodup) : ((putX xs k b v).map (·.1)).Nodup := by
  unfold putX
  split
  · have : (xs.map fun x => if x.1 = k then (x.1, x.2.1, v) else x).map (·.1) = xs.map (·.1) := by
      rw [List.map_map]
      refine List.map_congr_left fun x _ => ?_
      show (if x.1 = k then (x.1, x.2.1, v) else x).1 = x.1
      split <;> rfl
    rw [this]
    exact h
  · rename_i hn
    rw [List.map_append, List.nodup_append]
    refine ⟨h, by simp, fun y hy z hz e => ?_⟩
    have hz' : z = k := by simpa using hz
    obtain ⟨x, hx, ex⟩ := List.mem_map.mp hy
    refine hn ?_
    unfold valT
    rw [Option.isSome_map, List.find?_isSome]
    exact ⟨x, hx, by simpa using ex.trans (e.trans hz')⟩
theorem ents_put {F1 : Hp} {xs : List (List Int × Addr × V)} {L : List Int} {b : Addr} {v : V} {d : PyData} (h : Ents K F1 r xs) (hb : SqT K F1 b (L.map V.int)) (hd : RowIs r L d) (hv : RowV K F1 v d) (hp : L.Pairwise (· < ·)) (ha : ∀ l ∈ L, r.lane l) : Ents K F1 r (putX xs L b v) := by
  refine ⟨fun e he => ?_, (valT_put xs L b v []).2 h.2.1, fun e he => ?_, putX_keys h.2.2.2.1, fun e he => ?_⟩
  · rcases putX_mem he with h1 | ⟨h1, _, h3 | ⟨e', h4, h5, h6⟩⟩
    · exact h.1 e h1
    · rw [h1, h3]
      exact hb
    · rw [h1, ← h6, ← h5]
      exact h.1 e' h4
  · rcases putX_mem he with h1 | ⟨h1, h2, _⟩
    · exact h.2.2.1 e h1
    · rw [h1, h2]
      exact ⟨d, hd, hv⟩
  · rcases putX_mem he with h1 | ⟨h1, h2, _⟩
    · exact h.2.2.2.2 e h1
    · rw [h1]
      exact ⟨hp, ha⟩
theorem valT_mem {xs : List (List Int × Addr × V)} {k : List Int} {c : Addr} {v : V} (h : valT xs k = some (c, v)) : (k, c, v) ∈ xs := by
  unfold valT at h
  obtain ⟨x, hx, e⟩ := Option.map_eq_some_iff.mp h
  have h1 := List.mem_of_find?_eq_some hx
  have h2 : x.1 = k := by
    have := List.find?_some hx
    simpa using this
  rw [← h2, ← e]
  exact h1
end
end Lf
namespace Lf
open PySem PySem.Spec PyProof.Rows L2 Sx
def cRow (n : Nat) : V → Ct := fun _ as R _ => match as with
  | [.sp (.row r), .d t] => ∃ L : List Int, t = .tuple (L.map PyData.int) ∧ L.length ≤ n ∧ L.Pairwise (· < ·) ∧ (∀ l ∈ L, r.lane l) ∧ ∀ d, RowIs r L d → R (.d d)
  | _ => False
theorem len_row (n : Nat) (dk : V) (as : List A) (R : A → Prop) (Z : Ex → Prop) (h : cRow n dk as R Z) : as.length = 2 := by
  unfold cRow at h
  split at h
  · rfl
  · exact h.elim
def A.isRow : A → Bool
  | .sp (.row _) => true
  | _ => false
def aMeth (c : Ct) (fo : AEx) (fr : AAx) : AEx := fun ρ R Z => fo ρ (fun x ρ1 => x.isRow = true ∧ fr ρ1 (fun as ρ2 => c (x :: as.map A.fz) (fun a => R a ρ2) fun _ => False) Z) Z
def aNewRow (fr : AAx) : AEx := fun ρ R Z => fr ρ (fun as ρ1 => ∃ r : Rw, as.map A.fz = [.d (.tuple (r.ms.map PyData.int)), .d (.tuple (r.ws.map oD)), .d (.tuple [.int r.lo, .int r.hi])] ∧ r.ok ∧ R (.sp (.row r)) ρ1) Z
def spI (K : PySem.W.Frag) (C : Addr) : Sp := fun vs H Q _ => ∃ (x dx t : Addr) (m w : V) (lo hi : Int), vs = [.ref x, m, w, .ref t] ∧ H x = some (.ins C dx []) ∧ SqT K H t [.int lo, .int hi] ∧
  ∀ kd b q, H kd = none → H b = none → H q = none → b ≠ kd → q ≠ kd → q ≠ b → Q .non (upd (upd (upd (upd H kd (DtO kd [([], b, .ref q)])) b (.tup [])) q (.tup [.int lo, .int 1, .int (hi - lo + 1)])) x (.ins C dx [("machine", m), ("word", w), ("known", .ref kd)]))
theorem dva_oD {K : PySem.W.Frag} {G : Hp} : ∀ {ws : List (Option Int)} {xs : List V}, DvAll K G xs (ws.map oD) → xs = ws.map oV
  | [], _, .nil => rfl
  | none :: ws, _, .cons h t => by
    cases h
    rw [List.map_cons, ← dva_oD t] <;> rfl
  | some i :: ws, _, .cons h t => by
    cases h
    rw [List.map_cons, ← dva_oD t] <;> rfl
section
variable {B : Bx} {K : PySem.W.Frag} {W : Wx} {G0 F0 H : Hp} {θ ρ as bs : List A} {τ xs ys : List (Option V)} {σ : L2.St} {a b : A} {x : Option V} {v w : V}
variable {ta : TE} {fa : AEx} {tr : TA} {fr : AAx} {C : Addr}
theorem A.is_row (h : a.isRow = true) : ∃ r, a = .sp (.row r) := by
  cases a with
  | sp o =>
    cases o with
    | row r => exact ⟨r, rfl⟩
    | dk _ => exact nomatch h
    | dt _ => exact nomatch h
    | exc _ _ _ _ => exact nomatch h
    | rowL _ => exact nomatch h
    | si _ _ => exact nomatch h
  | un => exact nomatch h
  | raw _ => exact nomatch h
  | d _ => exact nomatch h
  | own _ => exact nomatch h
theorem St.row {r : Rw} (hB : RBox K C B) (S : St B K G0 F0 (.sp (.row r) :: as) (some v :: xs) H) : r.ok ∧ ∃ a dx m w kd, v = .ref a ∧ H a = some (.ins C dx (rowF m w kd r)) := by
  obtain ⟨B0, nw, rfl⟩ := hB
  obtain ⟨G, F, k, s⟩ := S.ex
  obtain ⟨x, e, ok⟩ := s.ok 0 _ rfl
  cases e
  rcases ok with ⟨z, _⟩ | ⟨v', e, a, C', dx, kd, m, w, rfl, h1, h2, h3⟩
  · exact nomatch z
  · cases e
    obtain ⟨rfl, h4, _⟩ := rb_kn k h1
    exact ⟨h4, a, dx, m, w, kd, rfl, k.gh _ _ h1⟩
theorem le_meth {n : Nat} {ι : Type} {dk : ι} {c : ι → Ct} {m : Str} {E : XK} (hB : RBox K C B) (hm : ∀ p w kd r, (rowF p w kd r).lookup m = none) (la : LE B K W ta fa) (lr : LAn n B K W tr fr) :
    LE B K W (tMeth C m (SpL K (fun _ B => RBox K C B) c) [] E ta tr) (aMeth (c dk) fa fr) := by
  intro G0 F0 θ τ ρ σ H R Z Q hl S h q w
  refine la G0 F0 θ τ ρ σ H _ Z _ hl S h (fun v H1 x ρ1 h1 S1 => ?_) w
  obtain ⟨hr, h1⟩ := h1
  obtain ⟨r, rfl⟩ := A.is_row hr
  obtain ⟨_, a, dx, p, ww, kd, rfl, ea⟩ := St.row hB S1
  refine ⟨a, dx, _, rfl, ea, hm _ _ _ _, ?_⟩
  refine lr G0 F0 (.sp (.row r) :: θ) (some (.ref a) :: τ) ρ1 σ H1 _ Z _ (congrArg (· + 1) hl) S1 h1 (fun vs H2 as ρ2 h2 l1 l2 S2 => ?_) w.push
  have S3 := fz_all (by rw [l1, l2]) S2
  have S4 := St.front (as := as.map A.fz) (xs := vs.map some) (by rw [List.length_map, List.length_map, l1, l2]) S3
  refine ⟨dk, B, G0, F0, .sp (.row r) :: as.map A.fz, θ ++ ρ2, τ ++ σ, _, _, hB, ?_, fun a ha => ?_, ?_, h2, fun a v H' rr S5 => q v H' a ρ2 rr S5, fun e H' cv dd z _ => z.elim⟩
  · rw [List.append_nil, List.length_cons, List.length_cons, List.length_map, l1, l2]
  · rcases List.mem_cons.mp ha with rfl | ha
    · rfl
    · obtain ⟨b, _, rfl⟩ := List.mem_map.mp ha
      exact fz_not b
  · rw [List.append_nil, List.map_cons]
    exact S4
theorem Kn.row {G F : Hp} {B0 : Bx} {x dx kd b q : Addr} {m w : V} {r : Rw} (nw : NewOk B0) (k : Kn (rb K C B0) G0 F0 G F H) (hr : r.ok) (hm : Dv K G m (.tuple (r.ms.map PyData.int))) (hw : Dv K G w (.tuple (r.ws.map oD)))
    (n1 : H dx = none) (n2 : H kd = none) (n3 : H b = none) (n4 : H q = none) (n5 : H x = none) (d1 : kd ≠ dx) (d2 : b ≠ dx) (d3 : b ≠ kd) (d4 : q ≠ dx) (d5 : q ≠ kd) (d6 : q ≠ b) (d7 : x ≠ dx) (d8 : x ≠ kd) (d9 : x ≠ b) (d10 : x ≠ q) :
    Kn (rb K C B0) G0 F0 (upd G x (.ins C dx (rowF m w kd r))) (upd F x (.ins C dx (rowF m w kd r)))
      (upd (upd (upd (upd (upd H dx (.own x)) kd (DtO kd [([], b, .ref q)])) b (.tup [])) q (.tup [.int r.lo, .int 1, .int (r.hi - r.lo + 1)])) x (.ins C dx (rowF m w kd r))) := by
  obtain ⟨F1, h1, h2, h3⟩ := k.B
  have g1 := (B0.sub h1).free n1
  have g2 := (B0.sub h1).free n2
  have g3 := (B0.sub h1).free n3
  have g4 := (B0.sub h1).free n4
  have g5 := (B0.sub h1).free n5
  have nF := h2.free g5
  have nG := k.s.free nF
  have n0 := k.old nF
  -- what is new beside
  have P1 := nw (.own x) h1 n1
  have P2 := nw (DtO kd [([], b, .ref q)]) P1 (show _ = none by rw [upd_ne d1]; exact n2)
  have P3 := nw (.tup []) P2 (show _ = none by rw [upd_ne d3, upd_ne d2]; exact n3)
  have P4 := nw (.tup [.int r.lo, .int 1, .int (r.hi - r.lo + 1)]) P3 (show _ = none by rw [upd_ne d6, upd_ne d5, upd_ne d4]; exact n4)
  have P5 := nw (.ins C dx (rowF m w kd r)) P4 (show _ = none by rw [upd_ne d10, upd_ne d9, upd_ne d8, upd_ne d7]; exact n5)
  have s1 : Same F1 (upd (upd (upd (upd (upd F1 dx (.own x)) kd (DtO kd [([], b, .ref q)])) b (.tup [])) q (.tup [.int r.lo, .int 1, .int (r.hi - r.lo + 1)])) x (.ins C dx (rowF m w kd r))) := fun c u e => by
    rw [upd_ne (ne_of_none e g5), upd_ne (ne_of_none e g4), upd_ne (ne_of_none e g3), upd_ne (ne_of_none e g2), upd_ne (ne_of_none e g1)]
    exact e
  have keep : ∀ q' ys, SqT K F1 q' ys → SqT K _ q' ys := fun q' ys z => Sx.Same.tup s1 z
  have own : RowO K (upd (upd (upd (upd (upd F1 dx (.own x)) kd (DtO kd [([], b, .ref q)])) b (.tup [])) q (.tup [.int r.lo, .int 1, .int (r.hi - r.lo + 1)])) x (.ins C dx (rowF m w kd r))) m w kd r := by
    obtain ⟨t, ws1, rfl, e1, a1⟩ := tup_in hm
    obtain ⟨t', ws2, rfl, e2, a2⟩ := tup_in hw
    have i1 := dva_ints (bs := r.ms) a1 (by induction r.ms with
      | nil => rfl
      | cons i l ih => show (intsD (l.map PyData.int)).map _ = _; rw [ih]; rfl)
    have i2 := dva_oD a2
    subst i1 i2
    have gF : ∀ q' ys, SqT K G q' ys → SqT K F1 q' ys := fun q' ys z => Sx.Same.tup (k.s.trans h2) z
    refine ⟨t, t', _, rfl, rfl, keep _ _ (gF _ _ e1), keep _ _ (gF _ _ e2), by rw [upd_ne (Ne.symm d8), upd_ne (Ne.symm d5), upd_ne (Ne.symm d3), upd_same], fun p hp => ?_, rfl, fun e he => ?_, by simp, fun e he => ?_⟩
    · rw [List.mem_singleton] at hp
      subst hp
      exact .of (by rw [upd_ne (Ne.symm d9), upd_ne (Ne.symm d6), upd_same]; rfl)
    rotate_left
    · rw [List.mem_singleton] at he
      subst he
      exact ⟨.nil, fun l hl => nomatch hl⟩
    · rw [List.mem_singleton] at he
      subst he
      exact ⟨_, row_nil r hr.2.2.2.2.1, .inr ⟨q, _, _, _, rfl, .of (by rw [upd_ne (Ne.symm d10), upd_same]), rfl⟩⟩
  have new_ : ∀ {c : Addr} {C' d' : Addr} {fs}, upd F x (.ins C dx (rowF m w kd r)) c = some (.ins C' d' fs) → (c = x ∧ C' = C ∧ d' = dx ∧ fs = rowF m w kd r) ∨ F c = some (.ins C' d' fs) := fun {c C' d' fs} e => by
    by_cases hc : c = x
    · subst hc
      rw [upd_same] at e
      cases e
      exact .inl ⟨rfl, rfl, rfl, rfl⟩
    · rw [upd_ne hc] at e
      exact .inr e
  refine ⟨⟨_, P5, ?_, ⟨fun c C' d' fs e => ?_, fun c c' C1 C2 e1 e2 m1 w1 kd1 r1 m2 w2 r2 h4 h5 => ?_⟩⟩, k.sG.trans (same_new nG), k.sF.trans (same_new nF), ?_, fun D z1 z2 => ?_, fun D u z1 z2 => ?_⟩
  · intro c u e
    by_cases hc : c = x
    · subst hc
      rw [upd_same] at e ⊢
      exact e
    · rw [upd_ne hc] at e
      exact s1 _ _ (h2 _ _ e)
  · rcases new_ e with ⟨rfl, rfl, rfl, rfl⟩ | e
    · refine ⟨rfl, m, w, kd, r, rfl, hr, ?_, own⟩
      rw [upd_ne (Ne.symm d8)]
      exact h2.free g2
    · obtain ⟨hc, m1, w1, kd1, r1, h4, h5, h6, h7⟩ := h3.at_ _ _ _ _ e
      refine ⟨hc, m1, w1, kd1, r1, h4, h5, ?_, h7.same keep fun u z => s1 _ _ z⟩
      obtain ⟨u, hu, _⟩ := h7.there
      rw [upd_ne (ne_of_none hu g5)]
      exact h6
  · rcases new_ h4 with ⟨rfl, _, _, hf⟩ | g4' <;> rcases new_ h5 with ⟨rfl, _, _, hf'⟩ | g5'
    · rfl
    · obtain ⟨_, _, rfl, _⟩ := rowF_inj hf
      obtain ⟨_, m3, w3, kd3, r3, z4, _, _, z7⟩ := h3.at_ _ _ _ _ g5'
      obtain ⟨_, _, rfl, _⟩ := rowF_inj z4
      obtain ⟨u, hu, _⟩ := z7.there
      rw [g2] at hu
      cases hu
    · obtain ⟨_, _, rfl, _⟩ := rowF_inj hf'
      obtain ⟨_, m3, w3, kd3, r3, z4, _, _, z7⟩ := h3.at_ _ _ _ _ g4'
      obtain ⟨_, _, rfl, _⟩ := rowF_inj z4
      obtain ⟨u, hu, _⟩ := z7.there
      rw [g2] at hu
      cases hu
    · exact h3.one _ _ _ _ _ _ _ _ _ _ _ _ _ g4' g5'
  · intro c u e
    by_cases hc : c = x
    · subst hc
      rw [upd_same] at e ⊢
      exact e
    · rw [upd_ne hc] at e ⊢
      exact k.s _ _ e
  · have hD : D ≠ x := fun z => z2 (by rw [z]; exact n0)
    rw [upd_ne hD]
    exact k.ap D z1 z2
  · by_cases hD : D = x
    · subst hD
      rw [upd_same] at z1
      cases z1
    · rw [upd_ne hD] at z1 z2
      exact k.fm D u z1 z2
theorem le_newRow {E : XK} (hB : RBox K C B) (lr : LAn 3 B K W tr fr) : LE B K W (tGhost (tMake C (spI K C) [] E tr)) (aNewRow fr) := by
  obtain ⟨B0, nw, rfl⟩ := hB
  intro G0 F0 θ τ ρ σ H R Z Q hl S h q w
  refine lr G0 F0 θ τ ρ σ H _ Z _ hl S h (fun vs H1 as ρ1 h1 l1 l2 S1 => ?_) w
  obtain ⟨r, ha, hr, hR⟩ := h1
  have S2 := fz_all (by rw [l1, l2]) S1
  rw [ha] at S2
  match vs, l2 with
  | [m, w1, st], _ =>
  obtain ⟨G, F, k, s⟩ := S2.ex
  obtain ⟨y, e, v', e', hm⟩ := s.ok 0 _ rfl
  cases e
  cases e'
  obtain ⟨y, e, v', e', hw⟩ := s.ok 1 _ rfl
  cases e
  cases e'
  obtain ⟨y, e, v', e', hs⟩ := s.ok 2 _ rfl
  cases e
  cases e'
  obtain ⟨t, zs, rfl, et, az⟩ := tup_in hs
  have i3 := dva_ints (bs := [r.lo, r.hi]) az rfl
  subst i3
  intro x dx nx ndx ddx
  refine ⟨x, dx, t, m, w1, r.lo, r.hi, rfl, upd_same, ?_, fun kd b qq nk nb nq d3 d5 d6 => ⟨rfl, x, C, dx, _, rowF m w1 kd r, rfl, upd_same, fun f => rowF_look f, fun f hf => ?_, rowF_len hr, ?_⟩⟩
  · refine Sx.Same.tup (fun c u e => ?_) et
    rw [upd_ne (ne_of_none (k.gh _ _ e) nx), upd_ne (ne_of_none (k.gh _ _ e) ndx)]
    exact k.gh _ _ e
  · have : f = "machine" ∨ f = "word" ∨ f = "known" := by simpa using hf
    unfold rowF
    rcases this with rfl | rfl | rfl <;> simp
  · have hx : ∀ c : Addr, upd (upd H1 dx (HO.own x)) x (.ins C dx []) c = none → c ≠ x ∧ c ≠ dx ∧ H1 c = none := fun c e => by
      have c1 : c ≠ x := fun z => by
        rw [z, upd_same] at e
        cases e
      have c2 : c ≠ dx := fun z => by
        rw [z, upd_ne ddx, upd_same] at e
        cases e
      rw [upd_ne c1, upd_ne c2] at e
      exact ⟨c1, c2, e⟩
    obtain ⟨k1, k2, k3⟩ := hx kd nk
    obtain ⟨b1, b2, b3⟩ := hx b nb
    obtain ⟨q1, q2, q3⟩ := hx qq nq
    have kn := k.row (x := x) (dx := dx) (kd := kd) (b := b) (q := qq) nw hr hm hw ndx k3 b3 q3 nx k2 b2 d3 q2 d5 d6 (Ne.symm ddx) (Ne.symm k1) (Ne.symm b1) (Ne.symm q1)
    have nF := k.sub.free nx
    have nG := k.s.free nF
    have sg : Same G (upd G x (.ins C dx (rowF m w1 kd r))) := same_new nG
    have eH : upd (upd (upd (upd (upd (upd (upd H1 dx (HO.own x)) x (.ins C dx [])) kd (DtO kd [([], b, .ref qq)])) b (.tup [])) qq (.tup [.int r.lo, .int 1, .int (r.hi - r.lo + 1)])) x (.ins C dx [("machine", m), ("word", w1), ("known", .ref kd)])) x (.ins C dx (rowF m w1 kd r)) =
        upd (upd (upd (upd (upd H1 dx (.own x)) kd (DtO kd [([], b, .ref qq)])) b (.tup [])) qq (.tup [.int r.lo, .int 1, .int (r.hi - r.lo + 1)])) x (.ins C dx (rowF m w1 kd r)) := by
      funext c
      by_cases c1 : c = x
      · rw [c1, upd_same, upd_same]
      · rw [upd_ne c1, upd_ne c1, upd_ne c1]
        by_cases c2 : c = qq
        · rw [c2, upd_same, upd_same]
        · rw [upd_ne c2, upd_ne c2]
          by_cases c3 : c = b
          · rw [c3, upd_same, upd_same]
          · rw [upd_ne c3, upd_ne c3]
            by_cases c4 : c = kd
            · rw [c4, upd_same, upd_same]
            · rw [upd_ne c4, upd_ne c4, upd_ne c1]
    rw [eH]
    have s3 : Sl K (upd G x (.ins C dx (rowF m w1 kd r))) F0 (upd F x (.ins C dx (rowF m w1 kd r))) (θ ++ ρ1) (τ ++ σ) := Sl.grow s.pop.pop.pop sg fun p u e1 e2 e3 => by
      have hp := ne_of_none e1 nF
      exact ⟨upd_ne hp, by rw [upd_ne hp]; exact e2⟩
    exact q _ _ _ _ hR ⟨_, _, kn, s3.push (.inr ⟨_, rfl, x, C, dx, kd, m, w1, rfl, upd_same, dv_same sg _ _ hm, dv_same sg _ _ hw⟩) fun z => nomatch z⟩
theorem deck_rb {box : Addr → Addr → Bx} {b g : Addr} {N : Str → Value} : deckOf box (.ref b) (rb K C ((box b g).nm N)) := ⟨b, g, rfl, fun F H ⟨F1, h1, h2, h3⟩ => ⟨F1, h1, fun H' h' => ⟨F1, h', h2, h3⟩⟩⟩
theorem rb_start {B0 : Bx} {F H : Hp} (h : B0.P F H) : (rb K C B0).P (fun _ => none) H := by
  refine ⟨F, h, fun c x z => ?_, ⟨fun a C' dx fs z => ?_, fun a a' C1 C2 dx dx' m w kd r m' w' r' z _ => ?_⟩⟩ <;> exact nomatch z
theorem row_look (p w : V) (kd : Addr) (r : Rw) : (rowF p w kd r).lookup ("row" : Str) = none := (rowF_look "row").trans rfl
theorem aMeth_e (c : Ct) (fo : AEx) (fr : AAx) (ρ : List A) (R : Po) (Z : Zo) : aMeth c fo fr ρ R Z = fo ρ (fun x ρ1 => x.isRow = true ∧ fr ρ1 (fun as ρ2 => c (x :: as.map A.fz) (fun a => R a ρ2) fun _ => False) Z) Z := propext ⟨fun h => h, fun h => h⟩
theorem aNewRow_e (fr : AAx) (ρ : List A) (R : Po) (Z : Zo) : aNewRow fr ρ R Z = fr ρ (fun as ρ1 => ∃ r : Rw, as.map A.fz = [.d (.tuple (r.ms.map PyData.int)), .d (.tuple (r.ws.map oD)), .d (.tuple [.int r.lo, .int r.hi])] ∧ r.ok ∧ R (.sp (.row r)) ρ1) Z := propext ⟨fun h => h, fun h => h⟩
theorem isRow_r {r : Rw} : (A.sp (.row r)).isRow = true := rfl
theorem fz_row {r : Rw} : (A.sp (.row r)).fz = .sp (.row r) := rfl
end
end Lf
namespace Sx
open PySem PySem.Spec PyProof.Rows L2
structure AtM (K : PySem.W.Frag) (x qual : Str) (st : Stmt) (ps : List Str) (f : Addr) (fd : FuncData) : Prop where
  F : Fun K x qual st f fd
  b : Binds K fd ps []
end Sx
namespace Lf
open PySem PySem.Spec PyProof.Rows L2 Sx
def ends1 (R : A → Prop) (Z : Ex → Prop) : AE := ⟨R, fun _ => False, fun _ => False, fun e _ => Z e⟩
section
variable {ρ : List A} {R : Po} {Z : Zo} {i : Nat}
theorem look_row {r : Rw} : (A.sp (.row r)).look i ρ R = R (.sp (.row r)) ρ := rfl
theorem look_rowL {r : List Rw} : (A.sp (.rowL r)).look i ρ R = R (.sp (.rowL r)) ρ := rfl
theorem look_exc {a : Addr} {c : Value} {dd : Option Addr} {e : Ex} : (A.sp (.exc a c dd e)).look i ρ R = R (.sp (.exc a c dd e)) ρ := rfl
theorem look_dt {kvs : List (List Int × PyData)} : (A.sp (.dt kvs)).look i ρ R = R (.sp (.dt kvs)) (ρ.set i .un) := rfl
theorem look_dk {kvs : List (L2.Key × PyData)} : (A.sp (.dk kvs)).look i ρ R = R (.sp (.dk kvs)) (ρ.set i .un) := rfl
theorem fz_rowL {r : List Rw} : (A.sp (.rowL r)).fz = .sp (.rowL r) := rfl
theorem fz_exc {a : Addr} {c : Value} {dd : Option Addr} {e : Ex} : (A.sp (.exc a c dd e)).fz = .sp (.exc a c dd e) := rfl
def aDisp1T (fk fv : AEx) : AEx := fun ρ R Z => fk ρ (fun k ρ1 => k.keyT fun ks => fv ρ1 (fun v ρ2 => v.on fun y => R (.sp (.dt [(ks, y)])) ρ2) Z) Z
end
section
variable {K : PySem.W.Frag} {B : Bx} {W : Wx} {tk tv : TE} {fk fv : AEx}
theorem aDisp1T_e (fk fv : AEx) (ρ : List A) (R : Po) (Z : Zo) : aDisp1T fk fv ρ R Z = fk ρ (fun k ρ1 => k.keyT fun ks => fv ρ1 (fun v ρ2 => v.on fun y => R (.sp (.dt [(ks, y)])) ρ2) Z) Z := propext ⟨fun h => h, fun h => h⟩
end
end Lf
namespace Lf
open PySem PySem.Spec PyProof.Rows L2 Sx
def truD : PyData → (Bool → Prop) → Prop
  | .tuple ds, k => k (!ds.isEmpty)
  | .list ds, k => k (!ds.isEmpty)
  | .bool b, k => k b
  | .none, k => k false
  | .int i, k => k (i != 0)
  | _, _ => False
def aTru (fe : AEx) : ATx := fun ρ R Z => fe ρ (fun x ρ1 => x.on fun d => truD d fun b => R b ρ1) Z
def aTruV (i : Nat) : ATx := fun ρ R _ => (sl ρ i).ow fun ds => R (!ds.isEmpty) ρ
def tTru (K : PySem.W.Frag) (te : TE) : TT := fun σ H Q => te σ H fun x H1 => ∃ k, TruV K x H1 k ∧ Q k H1
section
variable {K : PySem.W.Frag} {B : Bx} {W : Wx} {ta : TE} {fa : AEx}
theorem dva_empty {G : Hp} {ws : List V} {ds : List PyData} (h : DvAll K G ws ds) : (!ws.isEmpty) = !ds.isEmpty := by
  cases h <;> rfl
theorem lt_tru (la : LE B K W ta fa) : LT B K W (tTru K ta) (aTru fa) := by
  intro G0 F0 θ τ ρ σ H R Z Q hl S h q w
  refine la G0 F0 θ τ ρ σ H _ Z _ hl S h (fun v H1 x ρ1 h1 S1 => ?_) w
  obtain ⟨y, k, S2⟩ := S1.on h1
  obtain ⟨G, hd, O⟩ := S2.open1
  cases y with
  | tuple ds =>
    obtain ⟨p, ws, rfl, e, ha⟩ := tup_in hd
    refine ⟨!ds.isEmpty, .inr (.inl ⟨ws, Sx.Same.tup O.sg e, (dva_empty ha).symm⟩), q _ _ _ k S2.pop⟩
  | list ds =>
    obtain ⟨p, ws, rfl, e, ha⟩ := lst_in hd
    refine ⟨!ds.isEmpty, .inl ⟨ws, .of (O.sg _ _ e), (dva_empty ha).symm⟩, q _ _ _ k S2.pop⟩
  | bool b =>
    cases hd
    exact ⟨b, rfl, q _ _ _ k S2.pop⟩
  | none =>
    cases hd
    exact ⟨false, rfl, q _ _ _ k S2.pop⟩
  | int i =>
    cases hd
    exact ⟨i != 0, rfl, q _ _ _ k S2.pop⟩
  | str _ => exact k.elim
  | dict _ => exact k.elim
theorem aTru_e (fe : AEx) (ρ : List A) (R : Bool → List A → Prop) (Z : Zo) : aTru fe ρ R Z = fe ρ (fun x ρ1 => x.on fun d => truD d fun b => R b ρ1) Z := propext ⟨fun h => h, fun h => h⟩
theorem aTruV_e (i : Nat) (ρ : List A) (R : Bool → List A → Prop) (Z : Zo) : aTruV i ρ R Z = (sl ρ i).ow fun ds => R (!ds.isEmpty) ρ := propext ⟨fun h => h, fun h => h⟩
theorem truD_t {ds : List PyData} {k : Bool → Prop} : truD (.tuple ds) k = k (!ds.isEmpty) := rfl
theorem truD_l {ds : List PyData} {k : Bool → Prop} : truD (.list ds) k = k (!ds.isEmpty) := rfl
theorem truD_b {b : Bool} {k : Bool → Prop} : truD (.bool b) k = k b := rfl
theorem truD_n {k : Bool → Prop} : truD .none k = k false := rfl
theorem truD_i {i : Int} {k : Bool → Prop} : truD (.int i) k = k (i != 0) := rfl
end
end Lf
namespace Lf
open PySem PySem.Spec PyProof.Rows L2 Sx
def aRowM (fo : AEx) : AEx := fun ρ R Z => fo ρ (fun x ρ1 => ∃ r, x = .sp (.row r) ∧ R (.d (.tuple (r.ms.map PyData.int))) ρ1) Z
def aRowW (fo : AEx) : AEx := fun ρ R Z => fo ρ (fun x ρ1 => ∃ r, x = .sp (.row r) ∧ R (.d (.tuple (r.ws.map oD))) ρ1) Z
section
variable {B : Bx} {K : PySem.W.Frag} {W : Wx} {ta : TE} {fa : AEx} {C : Addr}
theorem row_slot {G0 F0 H : Hp} {as : List A} {xs : List (Option V)} {v : V} {r : Rw} (hB : RBox K C B) (S : St B K G0 F0 (.sp (.row r) :: as) (some v :: xs) H) :
    ∃ a dx m w kd G F, v = .ref a ∧ G a = some (.ins C dx (rowF m w kd r)) ∧ Dv K G m (.tuple (r.ms.map PyData.int)) ∧ Dv K G w (.tuple (r.ws.map oD)) ∧ Kn B G0 F0 G F H ∧ Sl K G F0 F (.sp (.row r) :: as) (some v :: xs) := by
  obtain ⟨B0, nw, rfl⟩ := hB
  obtain ⟨G, F, k, s⟩ := S.ex
  obtain ⟨x, e, ok⟩ := s.ok 0 _ rfl
  cases e
  rcases ok with ⟨z, _⟩ | ⟨v', e, a, C', dx, kd, m, w, rfl, h1, h2, h3⟩
  · exact nomatch z
  · cases e
    obtain ⟨rfl, h4, _⟩ := rb_kn k h1
    exact ⟨a, dx, m, w, kd, G, F, rfl, h1, h2, h3, k, s⟩
theorem le_rowM (hB : RBox K C B) (hc : L2.Cls K C) (hn : NoAttr K C "machine") (la : LE B K W ta fa) : LE B K W (tFld K ta "machine") (aRowM fa) := by
  intro G0 F0 θ τ ρ σ H R Z Q hl S h q w
  refine la G0 F0 θ τ ρ σ H _ Z _ hl S h (fun v H1 x ρ1 h1 S1 => ?_) w
  obtain ⟨r, rfl, h1⟩ := h1
  obtain ⟨a, dx, m, w, kd, G, F, rfl, e1, e2, e3, k, s⟩ := row_slot hB S1
  exact ⟨a, C, dx, _, m, rfl, k.gh _ _ e1, hc, hn, (rowF_look "machine").trans rfl, q _ _ _ _ h1 ⟨_, _, k, s.pop.push ⟨_, rfl, e2⟩ fun z => nomatch z⟩⟩
theorem le_rowW (hB : RBox K C B) (hc : L2.Cls K C) (hn : NoAttr K C "word") (la : LE B K W ta fa) : LE B K W (tFld K ta "word") (aRowW fa) := by
  intro G0 F0 θ τ ρ σ H R Z Q hl S h q w
  refine la G0 F0 θ τ ρ σ H _ Z _ hl S h (fun v H1 x ρ1 h1 S1 => ?_) w
  obtain ⟨r, rfl, h1⟩ := h1
  obtain ⟨a, dx, m, w, kd, G, F, rfl, e1, e2, e3, k, s⟩ := row_slot hB S1
  exact ⟨a, C, dx, _, w, rfl, k.gh _ _ e1, hc, hn, (rowF_look "word").trans rfl, q _ _ _ _ h1 ⟨_, _, k, s.pop.push ⟨_, rfl, e3⟩ fun z => nomatch z⟩⟩
theorem aRowM_e (fo : AEx) (ρ : List A) (R : Po) (Z : Zo) : aRowM fo ρ R Z = fo ρ (fun x ρ1 => ∃ r, x = .sp (.row r) ∧ R (.d (.tuple (r.ms.map PyData.int))) ρ1) Z := propext ⟨fun h => h, fun h => h⟩
theorem aRowW_e (fo : AEx) (ρ : List A) (R : Po) (Z : Zo) : aRowW fo ρ R Z = fo ρ (fun x ρ1 => ∃ r, x = .sp (.row r) ∧ R (.d (.tuple (r.ws.map oD))) ρ1) Z := propext ⟨fun h => h, fun h => h⟩
end
abbrev aNeg1 : AEx := aUn (gU fun i => .int (-i)) (aC (.int 1))
def bRow (n : Nat) (dk : V) : ASx :=
  aSeq (aAsg (aMeth (cRow n dk) (aVar 0) (aCons (aSl gCut (aVar 1) aNoP (aPart aNeg1)) aNil)) (gN 2))
    (aIfS (aB (aOp (gNotN) (aVar 2) (aC (.none)))) (aAsg (aCall0 (cNar dk) (aCons (aVar 2) (aCons (aOp gIx (aRowM (aVar 0)) (aOp gIx (aVar 1) aNeg1)) (aCons (aOp gIx (aRowW (aVar 0)) (aOp gIx (aVar 1) aNeg1)) aNil)))) (gN 2)) aNext)
theorem bRow_h {n : Nat} {dk : V} {r : Rw} {L : List Int} {l : Int} (hr : r.ok) (hL : L.length ≤ n) (hn : n ≤ 10) (hp : (L ++ [l]).Pairwise (· < ·)) (ha : ∀ k ∈ L ++ [l], r.lane k) (E : AE) :
    bRow n dk E (fun ρ => ∃ d, RowIs r (L ++ [l]) d ∧ ρ = [.sp (.row r), .d (.tuple ((L ++ [l]).map PyData.int)), .d d]) [.sp (.row r), .d (.tuple ((L ++ [l]).map PyData.int)), .un] := by
  unfold bRow
  simp only [aNeg1, cRow, ends0,ends1,wipeA,List.map,List.set,List.cons_append,List.nil_append,List.length_cons,List.length_nil,ite_true,ite_false,Bool.not_true,Bool.not_false,Bool.true_and,Bool.and_true,Bool.false_and,Bool.and_false,reduceIte,reduceCtorEq,Bool.false_eq_true,if_true,if_false,Nat.reduceAdd,Nat.reduceLeDiff,ne_eq,not_false_eq_true,eq_self,not_true_eq_false,Nat.reduceSub,Nat.reduceMul,Nat.reduceLT,Nat.reducePow,Int.reduceLE,Int.reduceLT,Int.reduceAdd,Int.reduceSub,Int.reduceMul,Int.reduceNeg,Int.reducePow,Int.reduceToNat,Int.reduceEq,Int.reduceBEq,Option.some.injEq,exists_eq_left',exists_eq_left,true_and,and_true,decide_true,decide_false,Nat.reduceBEq,Bool.or_true,Bool.true_or,Bool.or_false,Bool.false_or,aVar_e,aC_e,aRaw_e,aOp_e,aUn_e,aNot_e,aAnd_e,aOr_e,aChain_e,aTern_e,aNil_e,aCons_e,aTup_e,aLst_e,aB_e,tAndA_e,tOrA_e,tNotA_e,aCB_e,aCall_e,aCallK_e,aSl_e,aNoP_e,aCall0_e,gN_e,aNext_e,aSeq_e,aBrk_e,aCnt_e,aDrop_e,aRet_e,aRetN_e,aIfS_e,aAsg_e,aAug_e,aPar_e,aFor_e,aWhile_e,aYes_e,aIter_e,aEnum_e,aRange1_e,aRange2_e,aZip_e,aZipTL_e,aApp_e,aPopAt_e,aPop_e,aLenV_e,aIxV_e,aEqNilV_e,aTupV_e,aDnew_e,aListRg_e,aComp_e,aZip3T_e,aCallK0_e,gSetV_e,on_d,on_own,bl_b,it_i,ow_o,isOwn_o,seq_t,seq_l,seq_o,lst_l,lst_o,tup_t,same_t,same_l,one_1,fz_d,fz_r,fz_o,look_d,look_r,look_o,unA_0,unA_s,sl_0,sl_s,ons_n,ons_c,gI0_i,gI_i,gU_i,gIsN_n,gNotN_n,isNone_n,isNone_i,isNone_b,isNone_s,isNone_t,isNone_l,gEq_s,gNe_s,gIn_l,gIn_t,gNotIn_l,gNotIn_t,gIx_t,gIx_l,gCat_i,gCat_t,gCat_l,gMul_i,gMul_t,gMul_l,gCut_t,gCut_l,gP_x,intD_n,intD_b,intD_i,intD_s,intD_l,intD_t,intD_d,boolD_n,boolD_b,boolD_i,boolD_s,boolD_l,boolD_t,boolD_d,strD_n,strD_b,strD_i,strD_s,strD_l,strD_t,strD_d,tupD_n,tupD_b,tupD_i,tupD_s,tupD_l,tupD_t,tupD_d,wholeD_n,wholeD_b,wholeD_i,wholeD_s,wholeD_l,wholeD_t,wholeD_d,gLen_1,gTuple_1,gList_1,gInt_i,gInt_b,gAbs_i,gRepr_x,gAll_l,gAny_l,gSum_l,gGcd_i,gSorted_l,cDraw_1,two_1,three_1,cPick_1,gMax2_i,gMin2_i,gEqS_s,isStr_s,gNil_n,gCons_c,gT_t,gL_o,gL_l,at1_0,at2_0,at2_1,at3_0,at3_1,at3_2,cpow_e,cast_lit,abs_lit,aPart_e,gMax1_l,gMax1_t,gMin1_l,gMin1_t,gInS_t,gEqNil_t,MaxR,MinR,aLend_e,argsV_n,argsV_c,dat_d,dat_r,nl_d,gSortedT_l,gLeT_t,aInV_e,aTupRg_e,gRev_t,gStr_i,aRevI_e,aDown_e,aCompV_e,gEq_nl,gNe_nl,gEq_nt,gNe_nt,gNeNil_t,aLendX_e,intd_i,rdAll_n,rdAll_c,rd_d,rd_r,rd_o,gNilL_t,gNilL_f,aLe3_e,gNiS_t,aPar3_e,three_e,gRepF3_t,gLcm_i,aBits_e,aSortSet_e,aComp2_e,aMaxDef_e,aListRg2_e,aDNewT_e,aDNewK_e,aDGetT_e,aDInT_e,gDPutT_e,aDLenT_e,aDListT_e,aDGetK_e,aDInK_e,gDPutK_e,aDLenK_e,aDListK_e,isD_t,isD_k,dtd_o,dkd_o,keyK_i,keyK_s,keyT_t,aRaise_e,aRaise1_e,aTryAs_e,aTry_e,aXf_e,aIsX_e,aMeth_e,aNewRow_e,isRow_r,fz_row,look_row,look_rowL,look_exc,look_dt,look_dk,fz_rowL,fz_exc,aDisp1T_e,aTru_e,aTruV_e,truD_t,truD_l,truD_b,truD_n,truD_i,gEq_i,gNe_i, aRowM_e, aRowW_e]
  have hcut : Sx.cutD (List.map PyData.int (L ++ [l])) none (some (-1)) = L.map PyData.int := by
    unfold Sx.cutD
    rw [List.map_append, List.length_append, List.length_map]
    have e1 : HT.sIx (L.length + [l].length) 0 none = 0 := rfl
    have e2 : HT.sIx (L.length + ([l].map PyData.int).length) (L.length + ([l].map PyData.int).length) (some (-1)) = L.length := by
      unfold HT.sIx
      show _ = L.length
      simp
      omega
    rw [e2]
    show List.take (L.length - 0) (List.drop 0 _) = _
    rw [List.drop_zero, Nat.sub_zero, List.take_left' (List.length_map ..)]
  have hlast : atI (List.map PyData.int (L ++ [l])) (-1) = some (.int l) := by
    rw [List.map_append]
    exact atI_last _ _
  have aL : ∀ k ∈ L, r.lane k := fun k hk => ha k (List.mem_append_left _ hk)
  obtain ⟨l0, q, hq⟩ := ha l (List.mem_append_right _ List.mem_cons_self)
  have hlt : l.toNat < r.ms.length := by
    rw [hr.1]
    exact (List.getElem?_eq_some_iff.mp hq).1
  have em : atI (List.map PyData.int r.ms) l = some (.int (r.ms.getD l.toNat 1)) := by
    have := atI_nat (α := PyData) (xs := List.map PyData.int r.ms) (j := l.toNat) (v := .int (r.ms.getD l.toNat 1)) (by
      rw [List.getElem?_map, List.getElem?_eq_getElem hlt, List.getD_eq_getElem?_getD, List.getElem?_eq_getElem hlt] <;> rfl)
    rwa [show ((l.toNat : Nat) : Int) = l by omega] at this
  have ew : atI (List.map oD r.ws) l = some (.int q) := by
    have := atI_nat (α := PyData) (xs := List.map oD r.ws) (j := l.toNat) (v := .int q) (by
      rw [List.getElem?_map, hq] <;> rfl)
    rwa [show ((l.toNat : Nat) : Int) = l by omega] at this
  refine ⟨L, by rw [hcut], hL, (List.pairwise_append.mp hp).1, aL, fun d hd => ?_⟩
  cases hN : isNone d with
  | true =>
    simp only [ends0,ends1,wipeA,List.map,List.set,List.cons_append,List.nil_append,List.length_cons,List.length_nil,ite_true,ite_false,Bool.not_true,Bool.not_false,Bool.true_and,Bool.and_true,Bool.false_and,Bool.and_false,reduceIte,reduceCtorEq,Bool.false_eq_true,if_true,if_false,Nat.reduceAdd,Nat.reduceLeDiff,ne_eq,not_false_eq_true,eq_self,not_true_eq_false,Nat.reduceSub,Nat.reduceMul,Nat.reduceLT,Nat.reducePow,Int.reduceLE,Int.reduceLT,Int.reduceAdd,Int.reduceSub,Int.reduceMul,Int.reduceNeg,Int.reducePow,Int.reduceToNat,Int.reduceEq,Int.reduceBEq,Option.some.injEq,exists_eq_left',exists_eq_left,true_and,and_true,decide_true,decide_false,Nat.reduceBEq,Bool.or_true,Bool.true_or,Bool.or_false,Bool.false_or,aVar_e,aC_e,aRaw_e,aOp_e,aUn_e,aNot_e,aAnd_e,aOr_e,aChain_e,aTern_e,aNil_e,aCons_e,aTup_e,aLst_e,aB_e,tAndA_e,tOrA_e,tNotA_e,aCB_e,aCall_e,aCallK_e,aSl_e,aNoP_e,aCall0_e,gN_e,aNext_e,aSeq_e,aBrk_e,aCnt_e,aDrop_e,aRet_e,aRetN_e,aIfS_e,aAsg_e,aAug_e,aPar_e,aFor_e,aWhile_e,aYes_e,aIter_e,aEnum_e,aRange1_e,aRange2_e,aZip_e,aZipTL_e,aApp_e,aPopAt_e,aPop_e,aLenV_e,aIxV_e,aEqNilV_e,aTupV_e,aDnew_e,aListRg_e,aComp_e,aZip3T_e,aCallK0_e,gSetV_e,on_d,on_own,bl_b,it_i,ow_o,isOwn_o,seq_t,seq_l,seq_o,lst_l,lst_o,tup_t,same_t,same_l,one_1,fz_d,fz_r,fz_o,look_d,look_r,look_o,unA_0,unA_s,sl_0,sl_s,ons_n,ons_c,gI0_i,gI_i,gU_i,gIsN_n,gNotN_n,isNone_n,isNone_i,isNone_b,isNone_s,isNone_t,isNone_l,gEq_s,gNe_s,gIn_l,gIn_t,gNotIn_l,gNotIn_t,gIx_t,gIx_l,gCat_i,gCat_t,gCat_l,gMul_i,gMul_t,gMul_l,gCut_t,gCut_l,gP_x,intD_n,intD_b,intD_i,intD_s,intD_l,intD_t,intD_d,boolD_n,boolD_b,boolD_i,boolD_s,boolD_l,boolD_t,boolD_d,strD_n,strD_b,strD_i,strD_s,strD_l,strD_t,strD_d,tupD_n,tupD_b,tupD_i,tupD_s,tupD_l,tupD_t,tupD_d,wholeD_n,wholeD_b,wholeD_i,wholeD_s,wholeD_l,wholeD_t,wholeD_d,gLen_1,gTuple_1,gList_1,gInt_i,gInt_b,gAbs_i,gRepr_x,gAll_l,gAny_l,gSum_l,gGcd_i,gSorted_l,cDraw_1,two_1,three_1,cPick_1,gMax2_i,gMin2_i,gEqS_s,isStr_s,gNil_n,gCons_c,gT_t,gL_o,gL_l,at1_0,at2_0,at2_1,at3_0,at3_1,at3_2,cpow_e,cast_lit,abs_lit,aPart_e,gMax1_l,gMax1_t,gMin1_l,gMin1_t,gInS_t,gEqNil_t,MaxR,MinR,aLend_e,argsV_n,argsV_c,dat_d,dat_r,nl_d,gSortedT_l,gLeT_t,aInV_e,aTupRg_e,gRev_t,gStr_i,aRevI_e,aDown_e,aCompV_e,gEq_nl,gNe_nl,gEq_nt,gNe_nt,gNeNil_t,aLendX_e,intd_i,rdAll_n,rdAll_c,rd_d,rd_r,rd_o,gNilL_t,gNilL_f,aLe3_e,gNiS_t,aPar3_e,three_e,gRepF3_t,gLcm_i,aBits_e,aSortSet_e,aComp2_e,aMaxDef_e,aListRg2_e,aDNewT_e,aDNewK_e,aDGetT_e,aDInT_e,gDPutT_e,aDLenT_e,aDListT_e,aDGetK_e,aDInK_e,gDPutK_e,aDLenK_e,aDListK_e,isD_t,isD_k,dtd_o,dkd_o,keyK_i,keyK_s,keyT_t,aRaise_e,aRaise1_e,aTryAs_e,aTry_e,aXf_e,aIsX_e,aMeth_e,aNewRow_e,isRow_r,fz_row,look_row,look_rowL,look_exc,look_dt,look_dk,fz_rowL,fz_exc,aDisp1T_e,aTru_e,aTruV_e,truD_t,truD_l,truD_b,truD_n,truD_i,gEq_i,gNe_i]
    have : d = .none := by
      cases d <;> first | rfl | exact nomatch hN
    subst this
    exact ⟨_, row_none hd, rfl⟩
  | false =>
    simp only [ends0,ends1,wipeA,List.map,List.set,List.cons_append,List.nil_append,List.length_cons,List.length_nil,ite_true,ite_false,Bool.not_true,Bool.not_false,Bool.true_and,Bool.and_true,Bool.false_and,Bool.and_false,reduceIte,reduceCtorEq,Bool.false_eq_true,if_true,if_false,Nat.reduceAdd,Nat.reduceLeDiff,ne_eq,not_false_eq_true,eq_self,not_true_eq_false,Nat.reduceSub,Nat.reduceMul,Nat.reduceLT,Nat.reducePow,Int.reduceLE,Int.reduceLT,Int.reduceAdd,Int.reduceSub,Int.reduceMul,Int.reduceNeg,Int.reducePow,Int.reduceToNat,Int.reduceEq,Int.reduceBEq,Option.some.injEq,exists_eq_left',exists_eq_left,true_and,and_true,decide_true,decide_false,Nat.reduceBEq,Bool.or_true,Bool.true_or,Bool.or_false,Bool.false_or,aVar_e,aC_e,aRaw_e,aOp_e,aUn_e,aNot_e,aAnd_e,aOr_e,aChain_e,aTern_e,aNil_e,aCons_e,aTup_e,aLst_e,aB_e,tAndA_e,tOrA_e,tNotA_e,aCB_e,aCall_e,aCallK_e,aSl_e,aNoP_e,aCall0_e,gN_e,aNext_e,aSeq_e,aBrk_e,aCnt_e,aDrop_e,aRet_e,aRetN_e,aIfS_e,aAsg_e,aAug_e,aPar_e,aFor_e,aWhile_e,aYes_e,aIter_e,aEnum_e,aRange1_e,aRange2_e,aZip_e,aZipTL_e,aApp_e,aPopAt_e,aPop_e,aLenV_e,aIxV_e,aEqNilV_e,aTupV_e,aDnew_e,aListRg_e,aComp_e,aZip3T_e,aCallK0_e,gSetV_e,on_d,on_own,bl_b,it_i,ow_o,isOwn_o,seq_t,seq_l,seq_o,lst_l,lst_o,tup_t,same_t,same_l,one_1,fz_d,fz_r,fz_o,look_d,look_r,look_o,unA_0,unA_s,sl_0,sl_s,ons_n,ons_c,gI0_i,gI_i,gU_i,gIsN_n,gNotN_n,isNone_n,isNone_i,isNone_b,isNone_s,isNone_t,isNone_l,gEq_s,gNe_s,gIn_l,gIn_t,gNotIn_l,gNotIn_t,gIx_t,gIx_l,gCat_i,gCat_t,gCat_l,gMul_i,gMul_t,gMul_l,gCut_t,gCut_l,gP_x,intD_n,intD_b,intD_i,intD_s,intD_l,intD_t,intD_d,boolD_n,boolD_b,boolD_i,boolD_s,boolD_l,boolD_t,boolD_d,strD_n,strD_b,strD_i,strD_s,strD_l,strD_t,strD_d,tupD_n,tupD_b,tupD_i,tupD_s,tupD_l,tupD_t,tupD_d,wholeD_n,wholeD_b,wholeD_i,wholeD_s,wholeD_l,wholeD_t,wholeD_d,gLen_1,gTuple_1,gList_1,gInt_i,gInt_b,gAbs_i,gRepr_x,gAll_l,gAny_l,gSum_l,gGcd_i,gSorted_l,cDraw_1,two_1,three_1,cPick_1,gMax2_i,gMin2_i,gEqS_s,isStr_s,gNil_n,gCons_c,gT_t,gL_o,gL_l,at1_0,at2_0,at2_1,at3_0,at3_1,at3_2,cpow_e,cast_lit,abs_lit,aPart_e,gMax1_l,gMax1_t,gMin1_l,gMin1_t,gInS_t,gEqNil_t,MaxR,MinR,aLend_e,argsV_n,argsV_c,dat_d,dat_r,nl_d,gSortedT_l,gLeT_t,aInV_e,aTupRg_e,gRev_t,gStr_i,aRevI_e,aDown_e,aCompV_e,gEq_nl,gNe_nl,gEq_nt,gNe_nt,gNeNil_t,aLendX_e,intd_i,rdAll_n,rdAll_c,rd_d,rd_r,rd_o,gNilL_t,gNilL_f,aLe3_e,gNiS_t,aPar3_e,three_e,gRepF3_t,gLcm_i,aBits_e,aSortSet_e,aComp2_e,aMaxDef_e,aListRg2_e,aDNewT_e,aDNewK_e,aDGetT_e,aDInT_e,gDPutT_e,aDLenT_e,aDListT_e,aDGetK_e,aDInK_e,gDPutK_e,aDLenK_e,aDListK_e,isD_t,isD_k,dtd_o,dkd_o,keyK_i,keyK_s,keyT_t,aRaise_e,aRaise1_e,aTryAs_e,aTry_e,aXf_e,aIsX_e,aMeth_e,aNewRow_e,isRow_r,fz_row,look_row,look_rowL,look_exc,look_dt,look_dk,fz_rowL,fz_exc,aDisp1T_e,aTru_e,aTruV_e,truD_t,truD_l,truD_b,truD_n,truD_i,gEq_i,gNe_i]
    refine ⟨r, rfl, _, hlast, ?_⟩
    rw [gIx_t]
    refine ⟨_, em, r, rfl, _, hlast, ?_⟩
    rw [gIx_t]
    refine ⟨_, ew, ?_⟩
    simp only [ends0,ends1,wipeA,List.map,List.set,List.cons_append,List.nil_append,List.length_cons,List.length_nil,ite_true,ite_false,Bool.not_true,Bool.not_false,Bool.true_and,Bool.and_true,Bool.false_and,Bool.and_false,reduceIte,reduceCtorEq,Bool.false_eq_true,if_true,if_false,Nat.reduceAdd,Nat.reduceLeDiff,ne_eq,not_false_eq_true,eq_self,not_true_eq_false,Nat.reduceSub,Nat.reduceMul,Nat.reduceLT,Nat.reducePow,Int.reduceLE,Int.reduceLT,Int.reduceAdd,Int.reduceSub,Int.reduceMul,Int.reduceNeg,Int.reducePow,Int.reduceToNat,Int.reduceEq,Int.reduceBEq,Option.some.injEq,exists_eq_left',exists_eq_left,true_and,and_true,decide_true,decide_false,Nat.reduceBEq,Bool.or_true,Bool.true_or,Bool.or_false,Bool.false_or,aVar_e,aC_e,aRaw_e,aOp_e,aUn_e,aNot_e,aAnd_e,aOr_e,aChain_e,aTern_e,aNil_e,aCons_e,aTup_e,aLst_e,aB_e,tAndA_e,tOrA_e,tNotA_e,aCB_e,aCall_e,aCallK_e,aSl_e,aNoP_e,aCall0_e,gN_e,aNext_e,aSeq_e,aBrk_e,aCnt_e,aDrop_e,aRet_e,aRetN_e,aIfS_e,aAsg_e,aAug_e,aPar_e,aFor_e,aWhile_e,aYes_e,aIter_e,aEnum_e,aRange1_e,aRange2_e,aZip_e,aZipTL_e,aApp_e,aPopAt_e,aPop_e,aLenV_e,aIxV_e,aEqNilV_e,aTupV_e,aDnew_e,aListRg_e,aComp_e,aZip3T_e,aCallK0_e,gSetV_e,on_d,on_own,bl_b,it_i,ow_o,isOwn_o,seq_t,seq_l,seq_o,lst_l,lst_o,tup_t,same_t,same_l,one_1,fz_d,fz_r,fz_o,look_d,look_r,look_o,unA_0,unA_s,sl_0,sl_s,ons_n,ons_c,gI0_i,gI_i,gU_i,gIsN_n,gNotN_n,isNone_n,isNone_i,isNone_b,isNone_s,isNone_t,isNone_l,gEq_s,gNe_s,gIn_l,gIn_t,gNotIn_l,gNotIn_t,gIx_t,gIx_l,gCat_i,gCat_t,gCat_l,gMul_i,gMul_t,gMul_l,gCut_t,gCut_l,gP_x,intD_n,intD_b,intD_i,intD_s,intD_l,intD_t,intD_d,boolD_n,boolD_b,boolD_i,boolD_s,boolD_l,boolD_t,boolD_d,strD_n,strD_b,strD_i,strD_s,strD_l,strD_t,strD_d,tupD_n,tupD_b,tupD_i,tupD_s,tupD_l,tupD_t,tupD_d,wholeD_n,wholeD_b,wholeD_i,wholeD_s,wholeD_l,wholeD_t,wholeD_d,gLen_1,gTuple_1,gList_1,gInt_i,gInt_b,gAbs_i,gRepr_x,gAll_l,gAny_l,gSum_l,gGcd_i,gSorted_l,cDraw_1,two_1,three_1,cPick_1,gMax2_i,gMin2_i,gEqS_s,isStr_s,gNil_n,gCons_c,gT_t,gL_o,gL_l,at1_0,at2_0,at2_1,at3_0,at3_1,at3_2,cpow_e,cast_lit,abs_lit,aPart_e,gMax1_l,gMax1_t,gMin1_l,gMin1_t,gInS_t,gEqNil_t,MaxR,MinR,aLend_e,argsV_n,argsV_c,dat_d,dat_r,nl_d,gSortedT_l,gLeT_t,aInV_e,aTupRg_e,gRev_t,gStr_i,aRevI_e,aDown_e,aCompV_e,gEq_nl,gNe_nl,gEq_nt,gNe_nt,gNeNil_t,aLendX_e,intd_i,rdAll_n,rdAll_c,rd_d,rd_r,rd_o,gNilL_t,gNilL_f,aLe3_e,gNiS_t,aPar3_e,three_e,gRepF3_t,gLcm_i,aBits_e,aSortSet_e,aComp2_e,aMaxDef_e,aListRg2_e,aDNewT_e,aDNewK_e,aDGetT_e,aDInT_e,gDPutT_e,aDLenT_e,aDListT_e,aDGetK_e,aDInK_e,gDPutK_e,aDLenK_e,aDListK_e,isD_t,isD_k,dtd_o,dkd_o,keyK_i,keyK_s,keyT_t,aRaise_e,aRaise1_e,aTryAs_e,aTry_e,aXf_e,aIsX_e,aMeth_e,aNewRow_e,isRow_r,fz_row,look_row,look_rowL,look_exc,look_dt,look_dk,fz_rowL,fz_exc,aDisp1T_e,aTru_e,aTruV_e,truD_t,truD_l,truD_b,truD_n,truD_i,gEq_i,gNe_i]
    rcases hd with ⟨rfl, _⟩ | ⟨f, m, rfl, h1, h2, h3, h4⟩
    · exact nomatch hN
    have hm := hr.2.2.1 (r.ms.getD l.toNat 1) (by
      rw [List.getD_eq_getElem?_getD, List.getElem?_eq_getElem hlt]
      exact List.getElem_mem hlt)
    have sp := Rw.span_pos hr L aL
    have sp1 : r.span L ≤ 10 ^ 60 := Nat.le_trans sp.2 (Nat.le_trans (Nat.pow_le_pow_right (by decide) (show L.length ≤ 10 by omega)) (by decide +kernel))
    have i60 : ((10 ^ 60 : Nat) : Int) = 10 ^ 60 := by decide +kernel
    have i61 : ((10 ^ 61 : Nat) : Int) = 10 ^ 61 := by decide +kernel
    have e61 : 9 * (10 : Nat) ^ 60 ≤ 10 ^ 61 := by decide +kernel
    have h6 := hr.2.2.2.2.2.1
    have h7 := hr.2.2.2.2.2.2
    have h8 : m - 1 ≤ (m - 1) * ((r.span L : Nat) : Int) := by
      have := Int.mul_le_mul_of_nonneg_left (show (1 : Int) ≤ ((r.span L : Nat) : Int) by omega) (show 0 ≤ m - 1 by omega)
      omega
    have hq2 := hr.2.2.2.1 _ _ hq
    rw [show r.ms.getD l.toNat 0 = r.ms.getD l.toNat 1 by rw [List.getD_eq_getElem?_getD, List.getD_eq_getElem?_getD, List.getElem?_eq_getElem hlt] <;> rfl] at hq2
    refine ⟨f, _, m, rfl, by omega, ?_, h1, ?_, ?_, by omega, by omega, hq2.1, hq2.2, fun d hd => ⟨d, ?_, rfl⟩⟩
    · omega
    · omega
    · omega
    · exact row_more sp.1 hq (by omega) (.inr ⟨f, m, rfl, h1, h2, h3, h4⟩) hd
theorem nodup_len {β : Type} [DecidableEq β] : ∀ {xs T : List β}, xs.Nodup → (∀ x ∈ xs, x ∈ T) → xs.length ≤ T.length
  | [], _, _, _ => Nat.zero_le _
  | x :: xs, T, h, hs => by
    have h1 := List.nodup_cons.mp h
    have hx := hs x List.mem_cons_self
    have := nodup_len (xs := xs) (T := T.erase x) h1.2 fun y hy => (List.mem_erase_of_ne (fun e : y = x => h1.1 (by rw [← e]; exact hy))).mpr (hs y (List.mem_cons_of_mem _ hy))
    rw [List.length_erase_of_mem hx] at this
    have : 0 < T.length := List.length_pos_of_mem hx
    rw [List.length_cons]
    omega
def subsOf : List Int → List (List Int)
  | [] => [[]]
  | a :: l => subsOf l ++ (subsOf l).map (a :: ·)
theorem subsOf_len : ∀ l : List Int, (subsOf l).length = 2 ^ l.length
  | [] => rfl
  | a :: l => by
    show (subsOf l ++ (subsOf l).map (a :: ·)).length = 2 ^ (l.length + 1)
    rw [List.length_append, List.length_map, subsOf_len l, Nat.pow_succ]
    omega
theorem mem_subsOf : ∀ {l L : List Int}, l.Pairwise (· < ·) → L.Pairwise (· < ·) → (∀ x ∈ L, x ∈ l) → L ∈ subsOf l
  | [], L, _, _, h => by
    cases L with
    | nil => exact List.mem_cons_self
    | cons x L => exact nomatch h x List.mem_cons_self
  | a :: l, L, hl, hL, h => by
    have hl' := List.pairwise_cons.mp hl
    show L ∈ subsOf l ++ (subsOf l).map (a :: ·)
    cases L with
    | nil => exact List.mem_append_left _ (mem_subsOf hl'.2 .nil fun x hx => nomatch hx)
    | cons x L =>
      have hx' := List.pairwise_cons.mp hL
      rcases List.mem_cons.mp (h x List.mem_cons_self) with rfl | hx
      · refine List.mem_append_right _ (List.mem_map.mpr ⟨L, mem_subsOf hl'.2 hx'.2 fun y hy => ?_, rfl⟩)
        rcases List.mem_cons.mp (h y (List.mem_cons_of_mem _ hy)) with rfl | hy'
        · exact absurd (hx'.1 _ hy) (Int.lt_irrefl _)
        · exact hy'
      · refine List.mem_append_left _ (mem_subsOf hl'.2 hL fun y hy => ?_)
        have ax := hl'.1 x hx
        rcases List.mem_cons.mp (h y hy) with rfl | hy'
        · rcases List.mem_cons.mp hy with rfl | hy
          · exact absurd ax (Int.lt_irrefl _)
          · exact absurd (Int.lt_trans ax (hx'.1 _ hy)) (Int.lt_irrefl _)
        · exact hy'
theorem ents_len {K : PySem.W.Frag} {F1 : Hp} {r : Rw} {xs : List (List Int × Addr × V)} (hr : r.ok) (h : Ents K F1 r xs) : xs.length ≤ 1024 := by
  have := nodup_len (xs := xs.map (·.1)) (T := subsOf [0, 1, 2, 3, 4, 5, 6, 7, 8, 9]) h.2.2.2.1 fun k hk => by
    obtain ⟨e, he, rfl⟩ := List.mem_map.mp hk
    obtain ⟨h1, h2⟩ := h.2.2.2.2 e he
    refine mem_subsOf (by decide) h1 fun l hl => ?_
    obtain ⟨l0, q, hq⟩ := h2 l hl
    have := (List.getElem?_eq_some_iff.mp hq).1
    have := hr.1
    have := hr.2.1
    have : l = 0 ∨ l = 1 ∨ l = 2 ∨ l = 3 ∨ l = 4 ∨ l = 5 ∨ l = 6 ∨ l = 7 ∨ l = 8 ∨ l = 9 := by omega
    simpa using this
  rw [List.length_map, subsOf_len] at this
  exact this
section
variable {B : Bx} {K : PySem.W.Frag} {C : Addr} {G0 F0 H : Hp} {as : List A} {xs : List (Option V)} {v : V} {x1 : Option V} {r : Rw} {L : List Int}
theorem intsD_map : ∀ L : List Int, intsD (L.map PyData.int) = some L
  | [] => rfl
  | i :: L => by
    show (intsD (L.map PyData.int)).map _ = _
    rw [intsD_map L] <;> rfl
theorem row_at {x0 : Option V} (hB : RBox K C B) (S : St B K G0 F0 (.sp (.row r) :: .d (.tuple (L.map PyData.int)) :: as) (x0 :: x1 :: xs) H) :
    ∃ a dx m w kd b ys G F B0 F1, B = rb K C B0 ∧ x0 = some (.ref a) ∧ x1 = some (.ref b) ∧ r.ok ∧ G a = some (.ins C dx (rowF m w kd r)) ∧ Kn (rb K C B0) G0 F0 G F H ∧
      Sl K G F0 F (.sp (.row r) :: .d (.tuple (L.map PyData.int)) :: as) (x0 :: x1 :: xs) ∧ B0.P F1 H ∧ Same F F1 ∧ RowsOk K C F F1 ∧ F kd = none ∧ F1 kd = some (DtO kd ys) ∧ Ents K F1 r ys ∧ SqT K G b (L.map V.int) ∧ Same F1 H := by
  obtain ⟨v, rfl⟩ : ∃ v, x0 = some v := by
    obtain ⟨G, F, k, s⟩ := S.ex
    obtain ⟨x, e, ok⟩ := s.ok 0 _ rfl
    cases e
    rcases ok with ⟨z, _⟩ | ⟨v', e, _⟩
    · exact nomatch z
    · exact ⟨_, e⟩
  obtain ⟨a, dx, m, w, kd, G, F, rfl, e1, e2, e3, k, s⟩ := row_slot hB S
  obtain ⟨B0, nw, rfl⟩ := hB
  obtain ⟨_, hr, F1, t, t', ys, h1, h2, h3, h6, rfl, rfl, h7, h8, h9, h10⟩ := rb_kn k e1
  obtain ⟨y, e, v', e4, hl⟩ := s.ok 1 _ rfl
  cases e
  obtain ⟨b, rfl, hb⟩ := dv_keyT (ds := L.map PyData.int) (ns := L) hl (intsD_map L)
  exact ⟨a, dx, _, _, kd, b, ys, G, F, B0, F1, rfl, rfl, e4, hr, e1, k, s, h1, h2, h3, h6, h9, h10, hb, B0.sub h1⟩
theorem row_got {B0 : Bx} {G F F1 : Hp} {y : V} {d : PyData} (k : Kn (rb K C B0) G0 F0 G F H) (s : Sl K G F0 F as xs) (h1 : B0.P F1 H) (h2 : Same F F1) (h3 : RowsOk K C F F1) (h : RowV K F1 y d) : St (rb K C B0) K G0 F0 (.d d :: as) (some y :: xs) H := by
  rcases h with ⟨rfl, rfl⟩ | ⟨q, f, st, m, rfl, hq, rfl⟩
  · exact ⟨_, _, k, s.push ⟨_, rfl, .non⟩ fun z => nomatch z⟩
  · obtain ⟨G', F', k', sg, s', hq'⟩ := rb_read k s h1 h2 h3 hq
    exact ⟨_, _, k', s'.push ⟨_, rfl, .tup hq' (.cons (.int f) (.cons (.int st) (.cons (.int m) .nil)))⟩ fun z => nomatch z⟩
def fRow (n : Nat) : ASx := fun E _ ρ => ∃ r L, ρ = [.sp (.row r), .d (.tuple (L.map PyData.int)), .un] ∧ L.length ≤ n ∧ L.Pairwise (· < ·) ∧ (∀ l ∈ L, r.lane l) ∧ ∀ d, RowIs r L d → E.rt (.d d)
theorem ls_row {n : Nat} {dk : V} {W : Wx} {ts1 ts2 : TS} (hB : RBox K C B) (hc : L2.Cls K C) (hn : NoAttr K C "known") (hn10 : n ≤ 10) (h12 : ∀ m, n = m + 1 → LS B K W (tSeq ts1 ts2) (bRow m dk)) :
    LS B K W (tSeq (tIfS (tTest (tOp (rDInT K true) (tVar 1) (tFld K (tVar 0) "known"))) (tSeq ts1 (tSeq ts2 (tAsg (tVar 2) (gSub (tFld K (tVar 0) "known") (tVar 1) (rDPutT K))))) tNext)
      (tRet (tOp (rDGetT K) (tFld K (tVar 0) "known") (tVar 1)))) (fRow n) := by
  intro G0 F0 θ τ ρ σ H E N D hl S h ek
  obtain ⟨r, L, rfl, hL, hp, ha, hE⟩ := h
  obtain ⟨G, F, k, s⟩ := S.ex
  have hlen := s.len
  match σ, (show σ.length = 3 by rw [List.length_append, List.length_append, hl] at hlen; simpa using hlen.symm) with
  | [x0, x1, x2], _ =>
  -- all three to the front
  have toFront : ∀ {B : Bx} {G0 F0 H : Hp} {y0 y1 y2 : Option V} {a2 : A}, St B K G0 F0 (θ ++ [.sp (.row r), .d (.tuple (L.map PyData.int)), a2]) (τ ++ [y0, y1, y2]) H →
      St B K G0 F0 (.sp (.row r) :: .d (.tuple (L.map PyData.int)) :: a2 :: θ) (y0 :: y1 :: y2 :: τ) H := fun {B G0 F0 H y0 y1 y2 a2} S => by
    have S1 := St.front hl S
    have S2 := St.front (as := .sp (.row r) :: θ) (xs := y0 :: τ) (by rw [List.length_cons, List.length_cons, hl]) S1
    have S3 := St.front (as := .d (.tuple (L.map PyData.int)) :: .sp (.row r) :: θ) (xs := y1 :: y0 :: τ) (by rw [List.length_cons, List.length_cons, List.length_cons, List.length_cons, hl]) S2
    rw [List.append_nil, List.append_nil] at S3
    have S4 := St.front (as := [a2, .d (.tuple (L.map PyData.int))]) (xs := [y2, y1]) rfl S3
    have S5 := St.front (as := [.sp (.row r), a2]) (xs := [y0, y2]) rfl S4
    exact St.swap2 S5
  have fin : ∀ {B : Bx} {H : Hp} {y0 y1 y2 : Option V} {a2 : A} {d : PyData} {y : V}, St B K G0 F0 (.d d :: .sp (.row r) :: .d (.tuple (L.map PyData.int)) :: a2 :: θ) (some y :: y0 :: y1 :: y2 :: τ) H → St B K G0 F0 (.d d :: θ) (some y :: τ) H := fun {B H y0 y1 y2 a2 d y} S =>
    St.drop (θ1 := [.sp (.row r), .d (.tuple (L.map PyData.int)), a2]) (τ1 := [y0, y1, y2]) rfl S
  obtain ⟨a, dx, m, w, kd, b, ys, G, F, B0, F1, rfl, rfl, rfl, hr, e1, k, s1, h1, h2, h3, h6, h9, h10, hb, sH⟩ := row_at hB (toFront S)
  have keys : ∀ {F1 H : Hp} {ys}, Same F1 H → Ents K F1 r ys → KeysT K H ys := fun sH h10 p hp => Sx.Same.tup sH (h10.1 p hp)
  refine ⟨_, rfl, _, rfl, a, C, dx, _, .ref kd, rfl, k.gh _ _ e1, hc, hn, (rowF_look "known").trans rfl, kd, b, ys, L, rfl, rfl, sH _ _ h9, keys sH h10, Sx.Same.tup k.gh hb, _, rfl, ?_⟩
  cases hv : valT ys L with
  | some cv =>
    obtain ⟨c, v⟩ := cv
    obtain ⟨d, hd, hdv⟩ := h10.2.2.1 _ (valT_mem hv)
    refine ⟨_, rfl, a, C, dx, _, .ref kd, rfl, k.gh _ _ e1, hc, hn, (rowF_look "known").trans rfl, _, rfl, kd, b, ys, L, c, v, rfl, rfl, sH _ _ h9, keys sH h10, Sx.Same.tup k.gh hb, hv, ?_⟩
    exact ek.rt v (.d d) H (hE d hd) (fin (row_got k s1 h1 h2 h3 hdv))
  | none =>
    have hne : L ≠ [] := fun z => by
      have := h10.2.1
      rw [← z, hv] at this
      exact nomatch this
    obtain ⟨L0, l, rfl⟩ : ∃ L0 l, L = L0 ++ [l] := ⟨L.dropLast, L.getLast hne, (List.dropLast_concat_getLast hne).symm⟩
    rw [List.length_append] at hL
    obtain ⟨n0, rfl⟩ : ∃ n0, n = n0 + 1 := ⟨n - 1, by simp at hL; omega⟩
    have hb2 := bRow_h (n := n0) (dk := dk) hr (by simpa using hL) (by omega) hp ha ⟨fun _ => False, fun _ => False, fun _ => False, fun _ _ => False⟩
    refine h12 n0 rfl G0 F0 θ τ _ _ H _ _ _ hl S hb2 ⟨fun ρ' σ' H' hN S' => ?_, fun _ _ _ z => z.elim, fun _ _ _ z => z.elim, fun _ _ _ z => z.elim, fun _ _ _ _ _ _ z => z.elim⟩
    obtain ⟨d, hd, rfl⟩ := hN
    obtain ⟨G3, F3, k3, s3⟩ := S'.ex
    have hlen := s3.len
    match σ', (show σ'.length = 3 by rw [List.length_append, List.length_append, hl] at hlen; simpa using hlen.symm) with
    | [x0, x1, x2], _ =>
    obtain ⟨a, dx, m, w, kd, b, ys, G, F, B0', F1, eB, rfl, rfl, _, e1, k, s1, h1, h2, h3, h6, h9, h10, hb, sH⟩ := row_at hB (toFront S')
    have eB : rb K C B0 = rb K C B0' := eB
    rw [eB] at S' ek
    obtain ⟨y, e, x, rfl, hdv⟩ := s1.ok 2 _ rfl
    cases e
    have hv' : RowV K F1 x d := (rowV_dv hdv hd).same fun q xs z => Sx.Same.tup (k.s.trans h2) z
    have lE := ents_len hr h10
    have e10 := ents_put h10 (Sx.Same.tup (k.s.trans h2) hb) hd hv' hp ha
    have keep : ∀ q zs, SqT K F1 q zs → SqT K (upd F1 kd (DtO kd (putX ys (L0 ++ [l]) b x))) q zs := fun q zs z => sqT_put z h9 True.intro
    obtain ⟨k', p1, p2, p3⟩ := rb_put (xs' := putX ys (L0 ++ [l]) b x) k e1 h1 h2 h3 h6 h9 e10
    refine ⟨x, rfl, _, rfl, a, C, dx, _, .ref kd, rfl, k.gh _ _ e1, hc, hn, (rowF_look "known").trans rfl, _, rfl, kd, b, ys, _, rfl, rfl, sH _ _ h9, keys sH h10, Sx.Same.tup k.gh hb, Nat.lt_of_le_of_lt lE (by decide), ?_⟩
    obtain ⟨⟨c, hc2⟩, _⟩ := valT_put ys (L0 ++ [l]) b x []
    refine ⟨_, rfl, a, C, dx, _, .ref kd, rfl, k'.gh _ _ e1, hc, hn, (rowF_look "known").trans rfl, _, rfl, kd, b, _, _, c, x, rfl, rfl, upd_same, keys (B0'.sub p1) (e10.same keep), Sx.Same.tup k'.gh hb, hc2, ?_⟩
    exact ek.rt x (.d d) _ (hE d hd) (fin (row_got k' s1 p1 p2 p3 (hv'.same keep)))
end
end Lf
namespace Sx
open PySem PySem.Spec PyProof.Rows L2
abbrev bareSet (w : World) : Obj := { cls := .type "set", dict := none, data := .set #[] 0 (.fresh 0 0 (!w.params.followText "set-order")) }
section
variable {P : Program} {w : World} {A : Around} {E : Value → Shared → Prop} {s : Shared}
theorem set_asc {a : Addr} {S : Int → Bool} {n : Nat} {Q : Value → Shared → Prop} (R : SetR w s.heap a S n) (hh : A.handled = none)
    (hQ : ∀ s' p (out : Array Value) (c : Nat) (ns : List Int), (∀ b o, s.heap.get? b = some o → s'.heap.get? b = some o) ∧ s'.gens = s.gens ∧ s'.os = s.os → s.heap.objs.size ≤ p →
      s'.heap.get? p = some (seqObj "list" out c) → IntsAre out.toList ns → ns.Pairwise (· < ·) → (∀ k, k ∈ ns ↔ S k = true) → ns.length = n → n ≤ sizeLine → Q (.ref p) s') :
    wpAny (model P w) A (call (.builtin "sorted") [.ref a]) Q E s := by
  obtain ⟨o, es, ep, t, ho, hex, hd, good, nodup, mem, few, fits, hn, ris, led⟩ := R
  have nz : n ≤ sizeLine := by
    have : es.size < 4096 := few
    rw [sizeLine_eq]
    omega
  refine Calls.call_function_entry kind_sorted plain_sorted entry_sorted (args_sorted1 _) ?_
  unfold Builtin.«sorted»
  refine wpAny_bind (m := checkCount "sorted" 1 1 _) (wpAny_pure ?_)
  refine wpAny_bind (collect_set (A := A.in1) hh ⟨o, ho, hex.1, hd⟩ fits few ris led fun s1 vs kept grown gens os perm => ?_)
  have lv : vs.length = n := by
    rw [perm.length_eq, List.length_map, Array.length_toList]
    exact hn
  have gi : IntsAre vs (vs.map Builtin.Re.reRawOf) := ints_of vs fun v hv => by
    obtain ⟨e, he, rfl⟩ := List.mem_map.mp (perm.mem_iff.mp hv)
    obtain ⟨k, tk, h1, _⟩ := good e he
    exact ⟨k, tk, h1⟩
  have keys : (vs.map Builtin.Re.reRawOf).Perm (es.toList.map keyOf) := by
    have := perm.map Builtin.Re.reRawOf
    rwa [List.map_map] at this
  refine wpAny_bind (wpAny_newList ?_ (by rw [lv]; exact nz))
  have hL : (s1.heap.push (seqObj "list" vs.toArray 0)).get? s1.heap.objs.size = some (seqObj "list" vs.toArray 0) := Heap.get?_push_size _ rfl
  refine wpAny_bind (wpAny_holding (wpAny_call_entry slot_list_sort ⟨_, hL, rfl⟩ entry_list_sort (list_sort_treeAny hL gi (by rw [lv]; exact nz) fun out ms h1 h2 h3 => ⟨_, rfl, ?_⟩) (args_list_sort _)))
  obtain ⟨c, hc⟩ := sortedHeap_at (vs := vs) (out := out) hL
  have pm := h2.trans keys
  refine wpAny_pure ⟨_, rfl, hQ _ s1.heap.objs.size out c ms ⟨fun b u e => ?_, gens, os⟩ grown hc h1 (lt_of_le_nodup ms h3 (pm.nodup_iff.mpr nodup)) (fun k => by rw [pm.mem_iff, ← mem k]) (by rw [pm.length_eq, List.length_map, Array.length_toList]; exact hn) nz⟩
  have q := kept b u e
  have lt := Heap.lt_size q
  show (sortedHeap (s1.heap.push (seqObj "list" vs.toArray 0)) s1.heap.objs.size vs out).get? b = some u
  rw [sortedHeap_old (Nat.ne_of_lt lt) (by rw [size_push']; exact Nat.lt_succ_of_lt lt)]
  exact Heap.get?_push_of_some _ q
end
def rSetAsc (w : World) : List V → Hp → VK → Prop := fun vs H Q => ∃ (a : Addr) (S : Int → Bool) (n : Nat), vs = [V.ref a] ∧ H a = some (SetO w a S n) ∧
  ∀ (ns : List Int) (p : Addr), ns.Pairwise (· < ·) → (∀ k : Int, k ∈ ns ↔ S k = true) → H p = none → Q (.ref p) (upd H p (.lst (ns.map V.int)))
theorem cr_setAsc {X : Cx} (hc : X.calm = true) : CallR X (.builtin "sorted") (rSetAsc X.w) := by
  intro pins s σ H vs us Q I r h
  obtain ⟨a, S, n, rfl, ha, q⟩ := h
  rw [Vals.ref1 r]
  refine set_asc (setO_get I ha) (I.ok.hd hc) fun s' p out c ns ⟨k, g, o⟩ hp hg hi hs hm hl hz => ?_
  have hn : H p = none := I.hok.fresh hp
  have J : Inv X pins σ (upd H p (.lst (ns.map V.int))) { s with heap := s'.heap, gens := s'.gens, drawn := s'.drawn, toks := s'.toks } :=
    I.call (ch := []) (Un.laid k hp hn) (I.hok.laid k hp ⟨by rw [List.length_map, hl]; exact hz, out.toList, c, vals_of_ints hi, hg⟩) (by rw [g]; exact I.bare) (fun _ z => nomatch z)
  obtain ⟨h1, g1, d1, t1, o1⟩ := s'
  obtain ⟨h0, g0, d0, t0, o0⟩ := s
  cases o
  exact ⟨.ref p, _, J, rfl, q ns p hs hm hn⟩
end Sx
namespace Sx
open PySem PySem.Spec PyProof.Rows L2 PpSet
section
variable {X : Cx}
theorem addI_ok {pins : List (Addr × Obj)} {σ : L2.St} {H : Hp} {s : Shared} {E : Value → Shared → Prop} {D : Addr} {S : Int → Bool} {n : Nat} {y : Int} {tk : Tok} {Q : Value → Shared → Prop} (I : Inv X pins σ H s) (hD : H D = some (SetO X.w D S n)) (room : n + 1 < scanBound)
    (h : ∀ s', Inv X pins σ (upd H D (SetO X.w D (fun j => S j || decide (j = y)) (if S y = true then n else n + 1))) s' → Q .none s') : wpAny (model X.prog X.w) X.A (call (.builtin "set.add") [.ref D, .int y tk]) Q E s :=
  setR_add (setO_get I hD) room fun h' sb new => h _ (I.write (e := D) (t' := s.toks + 1) (by rw [hD]; trivial) (.inl rfl) (fun b u hb hu => (sb.2 b hb).trans hu) (by obtain ⟨o, _, _, _, ho, _⟩ := new; exact ⟨o, ho⟩) (setO_new new))
end
end Sx
namespace Lf
open PySem PySem.Spec PyProof.Rows L2 Sx
def AscOf (ns : List Int) (R : A → List A → Prop) (ρ : List A) : Prop := ∀ ms : List Int, ms.Pairwise (· < ·) → (∀ k, k ∈ ms ↔ k ∈ ns) → R (.own (ms.map PyData.int)) ρ
def aSetAsc (fa : AEx) : AEx := fun ρ R Z => fa ρ (fun x ρ1 => x.lst fun ds => ∃ ns, intsD ds = some ns ∧ ns.length < 4000 ∧ AscOf ns R ρ1) Z
def compRunI (ds : List PyData) (g : AGx) (ft : ATx) (fe : AEx) (vs : List Nat) (ρ1 : List A) (R : Po) : Prop := ∃ I : Nat → List Int → List A → Prop, I 0 [] ρ1 ∧
  (∀ i acc ρ', i < ds.length → I i acc ρ' → g (.d (ds.getD i .none)) ρ' (fun ρ2 => ft ρ2 (fun b ρ3 => if b = true then fe ρ3 (fun a ρ4 => a.intd fun c => acc.length < 4000 ∧ I (i + 1) (acc ++ [c]) (wipeA ρ4 vs)) (fun _ _ => False) else I (i + 1) acc (wipeA ρ3 vs)) fun _ _ => False) fun _ _ => False) ∧
  ∀ acc ρ', I ds.length acc ρ' → AscOf acc R (wipeA ρ' vs)
def aCompAsc (fi : AIx) (g : AGx) (ft : ATx) (fe : AEx) (vs : List Nat) : AEx := fun ρ R Z => fi ρ (fun ds ρ1 => compRunI ds g ft fe vs (wipeA ρ1 vs) R) Z
theorem A.is_intd {a : A} {k : Int → Prop} (h : a.intd k) : ∃ n, a = .d (.int n) ∧ k n := by
  cases a with
  | d y =>
    cases y with
    | int n => exact ⟨n, rfl, h⟩
    | none => exact h.elim
    | bool _ => exact h.elim
    | str _ => exact h.elim
    | tuple _ => exact h.elim
    | list _ => exact h.elim
    | dict _ => exact h.elim
  | own _ => exact h.elim
  | un => exact h.elim
  | raw _ => exact h.elim
  | sp _ => exact h.elim
theorem aSetAsc_e (fa : AEx) (ρ : List A) (R : Po) (Z : Zo) : aSetAsc fa ρ R Z = fa ρ (fun x ρ1 => x.lst fun ds => ∃ ns, intsD ds = some ns ∧ ns.length < 4000 ∧ AscOf ns R ρ1) Z := rfl
theorem aCompAsc_e (fi : AIx) (g : AGx) (ft : ATx) (fe : AEx) (vs : List Nat) (ρ : List A) (R : Po) (Z : Zo) : aCompAsc fi g ft fe vs ρ R Z = fi ρ (fun ds ρ1 => compRunI ds g ft fe vs (wipeA ρ1 vs) R) Z := rfl
end Lf
namespace Lf
open PySem PySem.Spec PyProof.Rows L2 Sx
def aDGetOrK (i : Nat) (fk fx : AEx) : AEx := fun ρ R Z => (sl ρ i).dkd (fun _ => True) ∧ fk ρ (fun k ρ1 => k.key fun ks => fx ρ1 (fun x ρ2 => x.on fun dx => (sl ρ2 i).dkd fun kvs => R (.d ((valD kvs ks).getD dx)) ρ2) Z) Z
theorem aDGetOrK_e (i : Nat) (fk fx : AEx) (ρ : List A) (R : Po) (Z : Zo) : aDGetOrK i fk fx ρ R Z = ((sl ρ i).dkd (fun _ => True) ∧ fk ρ (fun k ρ1 => k.key fun ks => fx ρ1 (fun x ρ2 => x.on fun dx => (sl ρ2 i).dkd fun kvs => R (.d ((valD kvs ks).getD dx)) ρ2) Z) Z) := rfl
end Lf
namespace Lf
open PySem PySem.Spec PyProof.Rows L2 Sx
def aDisp1K (fk fv : AEx) : AEx := fun ρ R Z => fk ρ (fun k ρ1 => k.key fun ks => fv ρ1 (fun v ρ2 => v.on fun y => R (.sp (.dk [(ks, y)])) ρ2) Z) Z
theorem aDisp1K_e (fk fv : AEx) (ρ : List A) (R : Po) (Z : Zo) : aDisp1K fk fv ρ R Z = fk ρ (fun k ρ1 => k.key fun ks => fv ρ1 (fun v ρ2 => v.on fun y => R (.sp (.dk [(ks, y)])) ρ2) Z) Z := propext ⟨fun h => h, fun h => h⟩
end Lf
set_option maxHeartbeats 1000000
namespace Ez
open PySem
open PySem.Sem (wp)
section
variable {prog : Program} {w : World} {A : Around} {E : Value → Shared → Prop} {s : Shared}
theorem zh_item {z TI TO T i1 i2 l1 l2 : Addr} {f : Bool} {oT : Obj} {k : Nat} {xs ys : Array Value} {x y : Value} {Q : Value → Shared → Prop} (D : ZipApart z TI TO i1 i2 l1 l2)
    (hz : IsZipHeld s.heap z TI TO T f) (hT : s.heap.get? T = some oT) (hTI : IsPair s.heap TI (.ref i1) (.ref i2))
    (h1 : s.heap.IsTupleIter i1 l1 k) (h2 : s.heap.IsTupleIter i2 l2 k) (hl1 : s.heap.IsTuple l1 xs) (hl2 : s.heap.IsTuple l2 ys) (hx : xs[k]? = some x) (hy : ys[k]? = some y)
    (hQ : ∀ h', IsZipHeld h' z TI TO T true → h'.IsTupleIter i1 l1 (k + 1) → h'.IsTupleIter i2 l2 (k + 1) → IsPair h' s.heap.objs.size x y → h'.objs.size = s.heap.objs.size + 1 →
      (∀ c o, c ≠ z → c ≠ i1 → c ≠ i2 → s.heap.get? c = some o → h'.get? c = some o) → Q (.ref s.heap.objs.size) { s with heap := h' }) :
    wpAny (model prog w) A (Builtin.«zip.__next__» ⟨[.ref z], []⟩) (fun fin s' => ∃ v, fin = .done (.ret v) ∧ Q v s') E s := by
  show wpAny _ _ (field (.ref z) 2 >>= _) _ _ _
  refine wpAny_bind (wpAny_field hz rfl (x := .bool false) rfl ?_)
  show wpAny _ _ (field (.ref z) 3 >>= _) _ _ _
  refine wpAny_bind (wpAny_field hz rfl (x := .ref TI) rfl ?_)
  refine wpAny_bind (wpAny_seqItems hTI rfl ?_)
  show wpAny _ _ (Builtin.SmallTypes.ownedTupleIsFree (.ref z) >>= _) _ _ _
  refine wpAny_bind (wpAny_tupleHeld_zip hz hT fun h₁ hz₁ hs₁ => ?_)
  simp only [Bool.false_eq_true, if_false]
  refine wpAny_bind ?_
  rw [← Array.forIn_toList]
  simp only [List.forIn_cons, List.forIn_nil]
  refine wpAny_bind (wpAny_bind (wpAny_holding ?_))
  show wpAny _ _ (Builtin.SmallTypes.nextOf (.ref i1) >>= _) _ _ _
  have a1 : h₁.IsTupleIter i1 l1 k := h1.at fun o q => hs₁.extBut _ _ D.i1z q
  have a2 : h₁.IsTuple l1 xs := hl1.at fun o q => hs₁.extBut _ _ D.l1z q
  refine wpAny_bind (RZ.nextOf_tuple_item (s := { s with heap := h₁ }) a1 a2 hx fun h₂ h1₂ hs₂ => wpAny_pure ?_)
  refine wpAny_pure ?_
  refine wpAny_bind (wpAny_bind (wpAny_holding ?_))
  show wpAny _ _ (Builtin.SmallTypes.nextOf (.ref i2) >>= _) _ _ _
  have a3 : h₂.IsTupleIter i2 l2 k := h2.at fun o q => hs₂.extBut _ _ D.i12.symm (hs₁.extBut _ _ D.i2z q)
  have a4 : h₂.IsTuple l2 ys := hl2.at fun o q => hs₂.extBut _ _ D.l2i1 (hs₁.extBut _ _ D.l2z q)
  refine wpAny_bind (RZ.nextOf_tuple_item (s := { s with heap := h₂ }) a3 a4 hy fun h₃ h2₃ hs₃ => wpAny_pure ?_)
  refine wpAny_pure (wpAny_pure ?_)
  show wpAny _ _ (newTuple [x, y] >>= _) _ _ _
  refine wpAny_bind (wpAny_newTuple ?_)
  have hsz : h₃.objs.size = s.heap.objs.size := by rw [hs₃.1, hs₂.1, hs₁.1]
  have hz₃ : IsZipHeld h₃ z TI TO T true := hs₃.extBut _ _ D.i2z.symm (hs₂.extBut _ _ D.i1z.symm hz₁)
  have hk : ∀ c o, c ≠ z → c ≠ i1 → c ≠ i2 → s.heap.get? c = some o → h₃.get? c = some o := fun c o c1 c2 c3 q => hs₃.extBut _ _ c3 (hs₂.extBut _ _ c2 (hs₁.extBut _ _ c1 q))
  have h1₃ : h₃.IsTupleIter i1 l1 (k + 1) := h1₂.at fun o q => hs₃.extBut _ _ D.i12 q
  refine wpAny_pure ⟨_, rfl, ?_⟩
  show Q (.ref h₃.objs.size) _
  have hp : IsPair (h₃.push { cls := .type "tuple", data := .seq #[x, y] }) h₃.objs.size x y := Heap.get?_push_size _ rfl
  have hz4 : (h₃.push { cls := .type "tuple", data := .seq #[x, y] }).objs.size = h₃.objs.size + 1 := Heap.size_push ..
  rw [hsz] at hp hz4 ⊢
  exact hQ _ (Heap.get?_push_of_some _ hz₃) (h1₃.at fun o q => Heap.get?_push_of_some _ q) (h2₃.at fun o q => Heap.get?_push_of_some _ q) hp hz4 fun c o c1 c2 c3 q => Heap.get?_push_of_some _ (hk c o c1 c2 c3 q)
theorem zh_end {z TI TO T i1 i2 l1 l2 : Addr} {f : Bool} {oT : Obj} {k : Nat} {xs ys : Array Value} {Q : Fin → Shared → Prop} (hh : A.handled = none) (D : ZipApart z TI TO i1 i2 l1 l2)
    (hz : IsZipHeld s.heap z TI TO T f) (hT : s.heap.get? T = some oT) (hTI : IsPair s.heap TI (.ref i1) (.ref i2))
    (h1 : s.heap.IsTupleIter i1 l1 k) (h2 : s.heap.IsTupleIter i2 l2 k) (hl1 : s.heap.IsTuple l1 xs) (hl2 : s.heap.IsTuple l2 ys) (hend : xs[k]? = none ∨ ys[k]? = none)
    (hE : ∀ h' e, (∀ c o, c ≠ z → c ≠ i1 → c ≠ i2 → s.heap.get? c = some o → h'.get? c = some o) → (∃ o, h'.get? e = some o ∧ o.cls = .type "StopIteration") → E (.ref e) { s with heap := h' }) :
    wpAny (model prog w) A (Builtin.«zip.__next__» ⟨[.ref z], []⟩) Q E s := by
  show wpAny _ _ (field (.ref z) 2 >>= _) _ _ _
  refine wpAny_bind (wpAny_field hz rfl (x := .bool false) rfl ?_)
  show wpAny _ _ (field (.ref z) 3 >>= _) _ _ _
  refine wpAny_bind (wpAny_field hz rfl (x := .ref TI) rfl ?_)
  refine wpAny_bind (wpAny_seqItems hTI rfl ?_)
  show wpAny _ _ (Builtin.SmallTypes.ownedTupleIsFree (.ref z) >>= _) _ _ _
  refine wpAny_bind (wpAny_tupleHeld_zip hz hT fun h₁ hz₁ hs₁ => ?_)
  simp only [Bool.false_eq_true, if_false]
  refine wpAny_bind ?_
  rw [← Array.forIn_toList]
  simp only [List.forIn_cons, List.forIn_nil]
  refine wpAny_bind (wpAny_bind (wpAny_holding ?_))
  show wpAny _ _ (Builtin.SmallTypes.nextOf (.ref i1) >>= _) _ _ _
  have a1 : h₁.IsTupleIter i1 l1 k := h1.at fun o q => hs₁.extBut _ _ D.i1z q
  have a2 : h₁.IsTuple l1 xs := hl1.at fun o q => hs₁.extBut _ _ D.l1z q
  cases hx : xs[k]? with
  | none =>
    refine wpAny_bind (RZ.nextOf_tuple_end (s := { s with heap := h₁ }) hh a1 a2 hx fun h₂ e hs₂ he => ?_)
    exact hE h₂ e (fun c o c1 c2 _ x => hs₂ _ _ c2 (hs₁.extBut _ _ c1 x)) he
  | some x =>
    have hy : ys[k]? = none := by
      rcases hend with h | h
      · rw [hx] at h
        cases h
      · exact h
    refine wpAny_bind (RZ.nextOf_tuple_item (s := { s with heap := h₁ }) a1 a2 hx fun h₂ h1₂ hs₂ => wpAny_pure ?_)
    refine wpAny_pure ?_
    refine wpAny_bind (wpAny_bind (wpAny_holding ?_))
    show wpAny _ _ (Builtin.SmallTypes.nextOf (.ref i2) >>= _) _ _ _
    have a3 : h₂.IsTupleIter i2 l2 k := h2.at fun o q => hs₂.extBut _ _ D.i12.symm (hs₁.extBut _ _ D.i2z q)
    have a4 : h₂.IsTuple l2 ys := hl2.at fun o q => hs₂.extBut _ _ D.l2i1 (hs₁.extBut _ _ D.l2z q)
    refine wpAny_bind (RZ.nextOf_tuple_end (s := { s with heap := h₂ }) hh a3 a4 hy fun h₃ e hs₃ he => ?_)
    exact hE h₃ e (fun c o c1 c2 c3 x => hs₃ _ _ c3 (hs₂.extBut _ _ c2 (hs₁.extBut _ _ c1 x))) he

def ZOk (h : Heap) (z TI TO N : Addr) : Prop := (IsZip h z TI TO .none ∧ ∃ a b, IsPair h TO a b) ∨ ∃ T f oT, IsZipHeld h z TI TO T f ∧ h.get? T = some oT ∧ N ≤ T
theorem nz_item {z TI TO i1 i2 l1 l2 N : Addr} {k : Nat} {xs ys : Array Value} {x y : Value} {Q : Value → Shared → Prop} (D : ZipApart z TI TO i1 i2 l1 l2) (lz : z < N) (lt : TO < N) (lt1 : i1 < N) (lt2 : i2 < N) (hN : N ≤ s.heap.objs.size)
    (hz : ZOk s.heap z TI TO N) (hTI : IsPair s.heap TI (.ref i1) (.ref i2))
    (h1 : s.heap.IsTupleIter i1 l1 k) (h2 : s.heap.IsTupleIter i2 l2 k) (hl1 : s.heap.IsTuple l1 xs) (hl2 : s.heap.IsTuple l2 ys) (hx : xs[k]? = some x) (hy : ys[k]? = some y)
    (hQ : ∀ h', ZOk h' z TI TO N → h'.IsTupleIter i1 l1 (k + 1) → h'.IsTupleIter i2 l2 (k + 1) → IsPair h' s.heap.objs.size x y → h'.objs.size = s.heap.objs.size + 1 →
      (∀ c o, c ≠ z → c ≠ TO → c ≠ i1 → c ≠ i2 → s.heap.get? c = some o → h'.get? c = some o) → Q (.ref s.heap.objs.size) { s with heap := h' }) :
    wpAny (model prog w) A (Builtin.SmallTypes.nextOf (.ref z)) Q E s := by
  rcases hz with ⟨hz, a, b, hTO⟩ | ⟨T, f, oT, hz, hT, lT⟩
  · have hTy : s.TypeIs (.ref z) "zip" := ⟨_, hz, rfl⟩
    unfold Builtin.SmallTypes.nextOf
    refine wpAny_bind (wpAny_callSpecial?_slot (name := Str.ofString "__next__") hTy F.slot_zip_next
      (wpAny_call_entry F.slot_zip_next hTy F.entry_zip_next (RZ.zipT_next_item D hz hTI hTO h1 h2 hl1 hl2 hx hy fun h' a1 a2 a3 a4 a5 a6 a7 => wpAny_pure (hQ h' (.inr ⟨_, false, _, a1, a5, hN⟩) a3 a4 a5 a6 a7)) (F.args_zip_next_1 _)))
  · have hTy : s.TypeIs (.ref z) "zip" := ⟨_, hz, rfl⟩
    unfold Builtin.SmallTypes.nextOf
    refine wpAny_bind (wpAny_callSpecial?_slot (name := Str.ofString "__next__") hTy F.slot_zip_next
      (wpAny_call_entry F.slot_zip_next hTy F.entry_zip_next (zh_item D hz hT hTI h1 h2 hl1 hl2 hx hy fun h' a1 a3 a4 a5 a6 a7 => wpAny_pure (hQ h' (.inr ⟨T, true, oT, a1, a7 T oT (Nat.ne_of_gt (Nat.lt_of_lt_of_le lz lT)) (Nat.ne_of_gt (Nat.lt_of_lt_of_le lt1 lT)) (Nat.ne_of_gt (Nat.lt_of_lt_of_le lt2 lT)) hT, lT⟩) a3 a4 a5 a6 fun c o c1 _ c3 c4 q => a7 c o c1 c3 c4 q)) (F.args_zip_next_1 _)))
theorem nz_end {z TI TO i1 i2 l1 l2 N : Addr} {k : Nat} {xs ys : Array Value} {Q : Value → Shared → Prop} (hh : A.handled = none) (D : ZipApart z TI TO i1 i2 l1 l2)
    (hz : ZOk s.heap z TI TO N) (hTI : IsPair s.heap TI (.ref i1) (.ref i2))
    (h1 : s.heap.IsTupleIter i1 l1 k) (h2 : s.heap.IsTupleIter i2 l2 k) (hl1 : s.heap.IsTuple l1 xs) (hl2 : s.heap.IsTuple l2 ys) (hend : xs[k]? = none ∨ ys[k]? = none)
    (hE : ∀ h' e, (∀ c o, c ≠ z → c ≠ TO → c ≠ i1 → c ≠ i2 → s.heap.get? c = some o → h'.get? c = some o) → (∃ o, h'.get? e = some o ∧ o.cls = .type "StopIteration") → E (.ref e) { s with heap := h' }) :
    wpAny (model prog w) A (Builtin.SmallTypes.nextOf (.ref z)) Q E s := by
  rcases hz with ⟨hz, a, b, hTO⟩ | ⟨T, f, oT, hz, hT, lT⟩
  · have hTy : s.TypeIs (.ref z) "zip" := ⟨_, hz, rfl⟩
    unfold Builtin.SmallTypes.nextOf
    exact wpAny_bind (wpAny_callSpecial?_slot (name := Str.ofString "__next__") hTy F.slot_zip_next
      (wpAny_call_entry F.slot_zip_next hTy F.entry_zip_next (RZ.zipT_next_end hh D hz hTI hTO h1 h2 hl1 hl2 hend fun h' e hk he => hE h' e hk he) (F.args_zip_next_1 _)))
  · have hTy : s.TypeIs (.ref z) "zip" := ⟨_, hz, rfl⟩
    unfold Builtin.SmallTypes.nextOf
    exact wpAny_bind (wpAny_callSpecial?_slot (name := Str.ofString "__next__") hTy F.slot_zip_next
      (wpAny_call_entry F.slot_zip_next hTy F.entry_zip_next (zh_end hh D hz hT hTI h1 h2 hl1 hl2 hend fun h' e hk he => hE h' e (fun c o c1 _ c3 c4 q => hk c o c1 c3 c4 q) he) (F.args_zip_next_1 _)))
def EOk (h : Heap) (e z : Addr) (i : Nat) (N : Addr) : Prop := (∃ old, IsEnum h e z i old) ∨ ∃ old T f oT, IsEnumHeld h e z i old T f ∧ h.get? T = some oT ∧ N ≤ T
structure St (h : Heap) (e z TI TO i1 i2 l1 l2 N : Addr) (xs ys : Array Value) (i : Nat) : Prop where
  pN : N ≤ h.objs.size
  pe : EOk h e z i N
  pz : ZOk h z TI TO N
  pTI : IsPair h TI (.ref i1) (.ref i2)
  p1 : h.IsTupleIter i1 l1 i
  p2 : h.IsTupleIter i2 l2 i
  q1 : h.IsTuple l1 xs
  q2 : h.IsTuple l2 ys
structure Apart (e z TI TO i1 i2 l1 l2 N : Addr) : Prop where
  D : ZipApart z TI TO i1 i2 l1 l2
  lz : z < N
  lt : TO < N
  lt1 : i1 < N
  lt2 : i2 < N
  le : e < N
  ez : e ≠ z
  et : e ≠ TO
  e1 : e ≠ i1
  e2 : e ≠ i2
  eT : e ≠ TI
  el1 : e ≠ l1
  el2 : e ≠ l2
def Kp (e z TO i1 i2 : Addr) (h h' : Heap) : Prop := ∀ c o, c ≠ e → c ≠ z → c ≠ TO → c ≠ i1 → c ≠ i2 → h.get? c = some o → h'.get? c = some o
theorem ez_item {e z TI TO i1 i2 l1 l2 N : Addr} {i : Nat} {xs ys : Array Value} {x y : Value} {Q : Value → Shared → Prop} (P : Apart e z TI TO i1 i2 l1 l2 N) (S : St s.heap e z TI TO i1 i2 l1 l2 N xs ys i) (hx : xs[i]? = some x) (hy : ys[i]? = some y)
    (hQ : ∀ h', St h' e z TI TO i1 i2 l1 l2 N xs ys (i + 1) → IsPair h' s.heap.objs.size x y → h'.get? (s.heap.objs.size + 1) = some { cls := .type "tuple", data := .seq #[.int i s.toks, .ref s.heap.objs.size] } → Kp e z TO i1 i2 s.heap h' →
      Q (.ref (s.heap.objs.size + 1)) { s with heap := h', toks := s.toks + 1 }) :
    wpAny (model prog w) A (Builtin.«enumerate.__next__» ⟨[.ref e], []⟩) (fun fin s' => ∃ v, fin = .done (.ret v) ∧ Q v s') E s := by
  obtain ⟨hp, g, d, tk, os⟩ := s
  have lN : N ≤ hp.objs.size := S.pN
  have ee : ∃ f0 f1 old, hp.get? e = some { cls := .type "enumerate", dict := none, data := .fields #[f0, f1, .ref z, rawInt i, .none, old], slots := #[] } ∧
      ((f0 = .none ∧ f1 = .bool false) ∨ ∃ (T : Addr) (f : Bool) (oT : Obj), f0 = rawInt T ∧ f1 = .bool f ∧ hp.get? T = some oT ∧ N ≤ T) := by
    rcases S.pe with ⟨old, he⟩ | ⟨old, T, f, oT, he, hT, lT⟩
    · exact ⟨_, _, _, he, .inl ⟨rfl, rfl⟩⟩
    · exact ⟨_, _, _, he, .inr ⟨T, f, oT, rfl, rfl, hT, lT⟩⟩
  obtain ⟨f0, f1, old, he, hf⟩ := ee
  show wpAny _ _ (field (.ref e) 2 >>= _) _ _ _
  refine wpAny_bind (wpAny_field he rfl (x := .ref z) rfl ?_)
  refine wpAny_bind (nz_item P.D P.lz P.lt P.lt1 P.lt2 lN S.pz S.pTI S.p1 S.p2 S.q1 S.q2 hx hy fun h₁ z₁ i1₁ i2₁ p₁ s₁ k₁ => ?_)
  have he₁ : h₁.get? e = some { cls := .type "enumerate", dict := none, data := .fields #[f0, f1, .ref z, rawInt i, .none, old], slots := #[] } := k₁ _ _ P.ez P.et P.e1 P.e2 he
  show wpAny _ _ (field (.ref e) 3 >>= _) _ _ ⟨h₁, g, d, tk, os⟩
  refine wpAny_bind (wpAny_field he₁ rfl (x := rawInt i) rfl ?_)
  show wpAny _ _ (field (.ref e) 4 >>= _) _ _ ⟨h₁, g, d, tk, os⟩
  refine wpAny_bind (wpAny_field he₁ rfl (x := .none) rfl ?_)
  show wpAny _ _ (mkInt i >>= _) _ _ ⟨h₁, g, d, tk, os⟩
  refine wpAny_bind (wpAny_mkInt ?_)
  show wpAny _ _ (setField (.ref e) 3 (rawInt ((i : Int) + 1)) >>= _) _ _ ⟨h₁, g, d, tk + 1, os⟩
  refine wpAny_bind (wpAny_setField_rec he₁ (by simp) fun h₂ he₂ hs₂ => ?_)
  replace hs₂ : Heap.SameBut e h₁ h₂ := hs₂
  show wpAny _ _ (setField (.ref e) 4 .none >>= _) _ _ ⟨h₂, g, d, tk + 1, os⟩
  refine wpAny_bind (wpAny_setField_rec he₂ (by simp) fun h₃ he₃ hs₃ => ?_)
  replace hs₃ : Heap.SameBut e h₂ h₃ := hs₃
  replace he₃ : h₃.get? e = some { cls := .type "enumerate", dict := none, data := .fields #[f0, f1, .ref z, rawInt ((i : Int) + 1), .none, old], slots := #[] } := he₃
  show wpAny _ _ (newTuple [.int i tk, .ref hp.objs.size] >>= _) _ _ ⟨h₃, g, d, tk + 1, os⟩
  refine wpAny_bind (wpAny_newTuple ?_)
  have hsz : h₃.objs.size = hp.objs.size + 1 := by rw [hs₃.1, hs₂.1, s₁]
  have he₄ : (h₃.push { cls := .type "tuple", data := .seq #[.int i tk, .ref hp.objs.size] }).get? e = some { cls := .type "enumerate", dict := none, data := .fields #[f0, f1, .ref z, rawInt ((i : Int) + 1), .none, old], slots := #[] } := Heap.get?_push_of_some _ he₃
  have ht₄ : (h₃.push { cls := .type "tuple", data := .seq #[.int i tk, .ref hp.objs.size] }).get? (hp.objs.size + 1) = some { cls := .type "tuple", data := .seq #[.int i tk, .ref hp.objs.size] } := by
    rw [← hsz]
    exact Heap.get?_push_size _ rfl
  have hz₄ : (h₃.push { cls := .type "tuple", data := .seq #[.int i tk, .ref hp.objs.size] }).objs.size = hp.objs.size + 2 := by rw [Heap.size_push, hsz]
  have k₄ : ∀ c o, c ≠ e → h₁.get? c = some o → (h₃.push { cls := .type "tuple", data := .seq #[.int i tk, .ref hp.objs.size] }).get? c = some o := fun c o ce q => Heap.get?_push_of_some _ (hs₃.extBut _ _ ce (hs₂.extBut _ _ ce q))
  generalize hh₄ : h₃.push { cls := .type "tuple", data := .seq #[.int i tk, .ref hp.objs.size] } = h₄ at he₄ ht₄ hz₄ k₄
  show wpAny _ _ (Builtin.SmallTypes.ownedTupleIsFree (.ref e) >>= _) _ _ ⟨h₄, g, d, tk + 1, os⟩
  rw [hsz]
  clear hh₄ he₃ hs₃ he₂ hs₂ hsz
  have fin : ∀ h' : Heap, Heap.SameBut e h₄ h' → EOk h' e z (i + 1) N → Q (.ref (hp.objs.size + 1)) ⟨h', g, d, tk + 1, os⟩ := fun h' hs he' => by
    have k' : ∀ c o, c ≠ e → h₁.get? c = some o → h'.get? c = some o := fun c o ce q => hs.extBut _ _ ce (k₄ c o ce q)
    have ne : hp.objs.size ≠ e := Nat.ne_of_gt (Nat.lt_of_lt_of_le P.le lN)
    have ne' : hp.objs.size + 1 ≠ e := Nat.ne_of_gt (Nat.lt_of_lt_of_le P.le (Nat.le_succ_of_le lN))
    refine hQ h' ⟨by rw [hs.1, hz₄]; exact Nat.le_succ_of_le (Nat.le_succ_of_le lN), he', ?_, ?_, i1₁.at fun o q => k' _ o P.e1.symm q, i2₁.at fun o q => k' _ o P.e2.symm q, ?_, ?_⟩ (k' _ _ ne p₁) (hs.extBut _ _ ne' ht₄) fun c o ce cz ct c1 c2 q => k' c o ce (k₁ c o cz ct c1 c2 q)
    · rcases z₁ with ⟨a1, a, b, a2⟩ | ⟨T, f, oT, a1, a2, a3⟩
      · exact .inl ⟨k' _ _ P.ez.symm a1, a, b, k' _ _ P.et.symm a2⟩
      · exact .inr ⟨T, f, oT, k' _ _ P.ez.symm a1, k' _ _ (Nat.ne_of_gt (Nat.lt_of_lt_of_le P.le a3)) a2, a3⟩
    · exact k' _ _ P.eT.symm (k₁ _ _ P.D.TIz P.D.TITO P.D.TIi1 P.D.TIi2 S.pTI)
    · exact S.q1.at fun o q => k' _ o P.el1.symm (k₁ _ o P.D.l1z P.D.l1TO P.D.l1i1 P.D.l1i2 q)
    · exact S.q2.at fun o q => k' _ o P.el2.symm (k₁ _ o P.D.l2z P.D.l2TO P.D.l2i1 P.D.l2i2 q)
  have ec : ((i + 1 : Nat) : Int) = (i : Int) + 1 := by omega
  rcases hf with ⟨rfl, rfl⟩ | ⟨T, f, oT, rfl, rfl, hT, lT⟩
  · replace he₄ : IsEnum h₄ e z ((i : Int) + 1) old := he₄
    refine wpAny_bind ?_
    unfold Builtin.SmallTypes.ownedTupleIsFree
    refine wpAny_bind (wpAny_field he₄ rfl (x := .none) rfl (wpAny_pure ?_))
    simp only [if_true]
    refine wpAny_bind (wpAny_rule ?_)
    refine wpAny_bind (wpAny_field he₄ rfl (x := old) rfl ?_)
    refine wpAny_bind (wpAny_setField_rec he₄ (by simp) fun h₅ he₅ hs₅ => ?_)
    replace hs₅ : Heap.SameBut e h₄ h₅ := hs₅
    replace he₅ : IsEnum h₅ e z ((i : Int) + 1) (.ref hp.objs.size) := he₅
    show wpAny _ _ (Builtin.SmallTypes.ownedTupleHandOut (.ref e) (.ref (hp.objs.size + 1)) >>= _) _ _ ⟨h₅, g, d, tk + 1, os⟩
    refine wpAny_bind ?_
    unfold Builtin.SmallTypes.ownedTupleHandOut
    refine wpAny_bind (wpAny_setField_rec he₅ (by simp) fun h₆ he₆ hs₆ => ?_)
    replace hs₆ : Heap.SameBut e h₅ h₆ := hs₆
    replace he₆ : IsEnumOut h₆ e z ((i : Int) + 1) (.ref hp.objs.size) (hp.objs.size + 1) := he₆
    refine wpAny_setField_rec he₆ (by simp) fun h₇ he₇ hs₇ => ?_
    replace hs₇ : Heap.SameBut e h₆ h₇ := hs₇
    replace he₇ : IsEnumOut h₇ e z ((i : Int) + 1) (.ref hp.objs.size) (hp.objs.size + 1) := he₇
    have sb : Heap.SameBut e h₄ h₇ := ⟨by rw [hs₇.1, hs₆.1, hs₅.1], fun c ce => by rw [hs₇.2 c ce, hs₆.2 c ce, hs₅.2 c ce]⟩
    have ne' : hp.objs.size + 1 ≠ e := Nat.ne_of_gt (Nat.lt_of_lt_of_le P.le (Nat.le_succ_of_le lN))
    refine wpAny_bind (wpAny_letGo (wpAny_pure ⟨_, rfl, fin h₇ sb (.inr ⟨_, hp.objs.size + 1, false, _, by rw [ec]; exact he₇, sb.extBut _ _ ne' ht₄, Nat.le_succ_of_le lN⟩)⟩))
  · replace he₄ : IsEnumHeld h₄ e z ((i : Int) + 1) old T f := he₄
    have neT : T ≠ e := Nat.ne_of_gt (Nat.lt_of_lt_of_le P.le lT)
    have hT₄ : h₄.get? T = some oT := k₄ _ _ neT (k₁ _ _ (Nat.ne_of_gt (Nat.lt_of_lt_of_le P.lz lT)) (Nat.ne_of_gt (Nat.lt_of_lt_of_le P.lt lT)) (Nat.ne_of_gt (Nat.lt_of_lt_of_le P.lt1 lT)) (Nat.ne_of_gt (Nat.lt_of_lt_of_le P.lt2 lT)) hT)
    refine wpAny_bind (wpAny_tupleHeld_enum (s := ⟨h₄, g, d, tk + 1, os⟩) he₄ hT₄ fun h₅ he₅ hs₅ => ?_)
    replace hs₅ : Heap.SameBut e h₄ h₅ := hs₅
    simp only [Bool.false_eq_true, if_false]
    exact wpAny_pure ⟨_, rfl, fin h₅ hs₅ (.inr ⟨old, T, true, oT, by rw [ec]; exact he₅, hs₅.extBut _ _ neT hT₄, lT⟩)⟩

theorem ez_next {e z TI TO i1 i2 l1 l2 N : Addr} {i : Nat} {xs ys : Array Value} {x y : Value} {Q : Option Value → Shared → Prop} (P : Apart e z TI TO i1 i2 l1 l2 N) (S : St s.heap e z TI TO i1 i2 l1 l2 N xs ys i) (hx : xs[i]? = some x) (hy : ys[i]? = some y)
    (hQ : ∀ h', St h' e z TI TO i1 i2 l1 l2 N xs ys (i + 1) → IsPair h' s.heap.objs.size x y → h'.get? (s.heap.objs.size + 1) = some { cls := .type "tuple", data := .seq #[.int i s.toks, .ref s.heap.objs.size] } → Kp e z TO i1 i2 s.heap h' →
      Q (some (.ref (s.heap.objs.size + 1))) { s with heap := h', toks := s.toks + 1 }) : wpAny (model prog w) A (pyNext (.ref e)) Q E s := by
  have hTy : s.TypeIs (.ref e) "enumerate" := by
    rcases S.pe with ⟨old, he⟩ | ⟨old, T, f, oT, he, _, _⟩
    · exact ⟨_, he, rfl⟩
    · exact ⟨_, he, rfl⟩
  unfold pyNext
  exact wpAny_bind (wpAny_attempt (wpAny_callSpecial?_slot (name := Str.ofString "__next__") hTy F.slot_enumerate_next
    (wpAny_call_entry F.slot_enumerate_next hTy F.entry_enumerate_next (ez_item P S hx hy fun h' a1 a2 a3 a4 => wpAny_pure (hQ h' a1 a2 a3 a4)) (F.args_enumerate_next_1 _))))
theorem ez_end {e z TI TO i1 i2 l1 l2 N : Addr} {i : Nat} {xs ys : Array Value} {Q : Option Value → Shared → Prop} (hh : A.handled = none) (P : Apart e z TI TO i1 i2 l1 l2 N) (S : St s.heap e z TI TO i1 i2 l1 l2 N xs ys i) (hend : xs[i]? = none ∨ ys[i]? = none)
    (hQ : ∀ h', Kp e z TO i1 i2 s.heap h' → Q none { s with heap := h' }) : wpAny (model prog w) A (pyNext (.ref e)) Q E s := by
  have ee : ∃ f0 f1 old, s.heap.get? e = some { cls := .type "enumerate", dict := none, data := .fields #[f0, f1, .ref z, rawInt i, .none, old], slots := #[] } := by
    rcases S.pe with ⟨old, he⟩ | ⟨old, T, f, oT, he, _, _⟩
    · exact ⟨_, _, _, he⟩
    · exact ⟨_, _, _, he⟩
  obtain ⟨f0, f1, old, he⟩ := ee
  have hTy : s.TypeIs (.ref e) "enumerate" := ⟨_, he, rfl⟩
  unfold pyNext
  refine wpAny_bind (wpAny_attempt (wpAny_callSpecial?_slot (name := Str.ofString "__next__") hTy F.slot_enumerate_next
    (wpAny_call_entry F.slot_enumerate_next hTy F.entry_enumerate_next ?_ (F.args_enumerate_next_1 _))))
  show wpAny _ _ (field (.ref e) 2 >>= _) _ _ _
  refine wpAny_bind (wpAny_field he rfl (x := .ref z) rfl ?_)
  refine wpAny_bind (nz_end hh P.D S.pz S.pTI S.p1 S.p2 S.q1 S.q2 hend fun h' x he' hx' => ?_)
  obtain ⟨o, ho, hc⟩ := hx'
  refine wpAny_bind (wpAny_isInstance (T := "StopIteration") (b := true) ⟨o, ho, hc⟩ isSubtype_stop ?_)
  exact wpAny_pure (hQ _ fun c o _ cz ct c1 c2 q => he' c o cz ct c1 c2 q)
structure Off (S0 e z TI TO i1 i2 l1 l2 N : Addr) : Prop where
  lN : S0 < N
  e : S0 ≠ e
  z : S0 ≠ z
  TI : S0 ≠ TI
  TO : S0 ≠ TO
  i1 : S0 ≠ i1
  i2 : S0 ≠ i2
  l1 : S0 ≠ l1
  l2 : S0 ≠ l2
theorem St.keep {h h' : Heap} {S0 e z TI TO i1 i2 l1 l2 N : Addr} {i : Nat} {xs ys : Array Value} (S : St h e z TI TO i1 i2 l1 l2 N xs ys i) (O : Off S0 e z TI TO i1 i2 l1 l2 N) (hs : h'.objs.size = h.objs.size)
    (k : ∀ c o, c ≠ S0 → h.get? c = some o → h'.get? c = some o) : St h' e z TI TO i1 i2 l1 l2 N xs ys i := by
  have kT : ∀ T o, N ≤ T → h.get? T = some o → h'.get? T = some o := fun T o lT q => k T o (Nat.ne_of_gt (Nat.lt_of_lt_of_le O.lN lT)) q
  refine ⟨by rw [hs]; exact S.pN, ?_, ?_, k _ _ O.TI.symm S.pTI, S.p1.at fun o q => k _ o O.i1.symm q, S.p2.at fun o q => k _ o O.i2.symm q, S.q1.at fun o q => k _ o O.l1.symm q, S.q2.at fun o q => k _ o O.l2.symm q⟩
  · rcases S.pe with ⟨old, he⟩ | ⟨old, T, f, oT, he, hT, lT⟩
    · exact .inl ⟨old, k _ _ O.e.symm he⟩
    · exact .inr ⟨old, T, f, oT, k _ _ O.e.symm he, kT _ _ lT hT, lT⟩
  · rcases S.pz with ⟨hz, a, b, hTO⟩ | ⟨T, f, oT, hz, hT, lT⟩
    · exact .inl ⟨k _ _ O.z.symm hz, a, b, k _ _ O.TO.symm hTO⟩
    · exact .inr ⟨T, f, oT, k _ _ O.z.symm hz, kT _ _ lT hT, lT⟩
def Got (h : Heap) (N : Addr) (xs ys : Array Value) (L : List (Addr × Addr × Tok)) : Prop :=
  (∀ (j : Nat) (p : Addr × Addr × Tok), L[j]? = some p → N ≤ p.2.1 ∧ p.2.1 < p.1 ∧ p.1 < h.objs.size ∧ ∃ x y, xs[j]? = some x ∧ ys[j]? = some y ∧ IsPair h p.2.1 x y ∧ h.get? p.1 = some { cls := .type "tuple", data := .seq #[.int j p.2.2, .ref p.2.1] }) ∧ L.Pairwise (fun p q => p.1 < q.2.1)
theorem Got.keep {h h' : Heap} {N : Addr} {xs ys : Array Value} {L : List (Addr × Addr × Tok)} (g : Got h N xs ys L) (k : ∀ c o, N ≤ c → h.get? c = some o → h'.get? c = some o) : Got h' N xs ys L := by
  refine ⟨fun j p hp => ?_, g.2⟩
  obtain ⟨a1, a2, a3, x, y, a4, a5, a6, a7⟩ := g.1 j p hp
  exact ⟨a1, a2, Heap.lt_size (k _ _ (Nat.le_of_lt (Nat.lt_of_le_of_lt a1 a2)) a7), x, y, a4, a5, k _ _ a1 a6, k _ _ (Nat.le_of_lt (Nat.lt_of_le_of_lt a1 a2)) a7⟩
theorem Got.snoc {h : Heap} {N c0 b0 : Addr} {t : Tok} {xs ys : Array Value} {L : List (Addr × Addr × Tok)} {x y : Value} (g : Got h N xs ys L) (hN : N ≤ c0) (hb : c0 < b0) (hz : b0 < h.objs.size) (hL : ∀ (j : Nat) (p : Addr × Addr × Tok), L[j]? = some p → p.1 < c0) (hx : xs[L.length]? = some x) (hy : ys[L.length]? = some y)
    (hp : IsPair h c0 x y) (ht : h.get? b0 = some { cls := .type "tuple", data := .seq #[.int L.length t, .ref c0] }) : Got h N xs ys (L ++ [(b0, c0, t)]) := by
  refine ⟨fun j p q => ?_, ?_⟩
  · rw [List.getElem?_append] at q
    split at q
    · exact g.1 j p q
    · rename_i lt
      have e : j = L.length := by
        have := (List.getElem?_eq_some_iff.mp q).1
        simp at this
        omega
      subst e
      rw [Nat.sub_self] at q
      cases q
      exact ⟨hN, hb, hz, x, y, hx, hy, hp, ht⟩
  · rw [List.pairwise_append]
    refine ⟨g.2, List.pairwise_singleton _ _, fun p hp q hq => ?_⟩
    rw [List.mem_singleton.mp hq]
    obtain ⟨j, hj, e⟩ := List.mem_iff_getElem.mp hp
    exact hL j p (by rw [List.getElem?_eq_getElem hj, e])
def refs (L : List (Addr × Addr × Tok)) : List Value := L.map fun p => .ref p.1

def Lst (h : Heap) (S0 : Addr) (L : List (Addr × Addr × Tok)) : Prop := ∃ acc c, acc.toList = refs L ∧ h.get? S0 = some { cls := .type "list", dict := none, data := .seq acc c, slots := #[] }
def Kl (S0 e z TO i1 i2 : Addr) (h h' : Heap) : Prop := ∀ c o, c ≠ S0 → c ≠ e → c ≠ z → c ≠ TO → c ≠ i1 → c ≠ i2 → h.get? c = some o → h'.get? c = some o
theorem ez_loop {R : Result → Shared → Prop} {S0 e z TI TO i1 i2 l1 l2 N : Addr} {n : Nat} {xs ys : Array Value} (hh : A.in1.handled = none) (P : Apart e z TI TO i1 i2 l1 l2 N) (O : Off S0 e z TI TO i1 i2 l1 l2 N) (hx : n ≤ xs.size) (hy : n ≤ ys.size) (hend : xs[n]? = none ∨ ys[n]? = none) (hn : n ≤ sizeLine) (res : Value) :
    ∀ (k : Nat) (s : Shared) (L : List (Addr × Addr × Tok)), n - L.length = k → L.length ≤ n → St s.heap e z TI TO i1 i2 l1 l2 N xs ys L.length → Lst s.heap S0 L → Got s.heap N xs ys L →
    (∀ h' tk L', Kl S0 e z TO i1 i2 s.heap h' → Lst h' S0 L' → Got h' N xs ys L' → L'.length = n → R (.ok (.ret res)) { s with heap := h', toks := tk }) →
    codeAny (model prog w) A (.builtin "list.extend.loop" ⟨[.ref S0, .ref e, res], []⟩) R s := by
  intro k
  induction k with
  | zero =>
    intro s L hk hi hst hS hg hR
    have hin : L.length = n := by omega
    refine codeAny_builtin F.entry_extend_loop ?_
    rw [Around.under_plainId F.plain_extend_loop _]
    show wpAny _ A.in1 (pyNext (.ref e) >>= _) _ _ s
    refine wpAny_bind (ez_end hh P hst (by rw [hin]; exact hend) fun h' hk' => ?_)
    obtain ⟨acc, c, e1, e2⟩ := hS
    refine wpAny_pure (hR h' s.toks L (fun b o b0 be bz bt b1 b2 q => hk' b o be bz bt b1 b2 q) ⟨acc, c, e1, hk' _ _ O.e O.z O.TO O.i1 O.i2 e2⟩ (hg.keep fun b o lb q => ?_) hin)
    exact hk' b o (Nat.ne_of_gt (Nat.lt_of_lt_of_le P.le lb)) (Nat.ne_of_gt (Nat.lt_of_lt_of_le P.lz lb)) (Nat.ne_of_gt (Nat.lt_of_lt_of_le P.lt lb)) (Nat.ne_of_gt (Nat.lt_of_lt_of_le P.lt1 lb)) (Nat.ne_of_gt (Nat.lt_of_lt_of_le P.lt2 lb)) q
  | succ k ih =>
    intro s L hk hi hst hS hg hR
    have hlt : L.length < n := by omega
    obtain ⟨acc, c, e1, e2⟩ := hS
    refine codeAny_builtin F.entry_extend_loop ?_
    rw [Around.under_plainId F.plain_extend_loop _]
    show wpAny _ A.in1 (pyNext (.ref e) >>= _) _ _ s
    refine wpAny_bind (ez_next P hst (Array.getElem?_eq_getElem (Nat.lt_of_lt_of_le hlt hx)) (Array.getElem?_eq_getElem (Nat.lt_of_lt_of_le hlt hy)) fun h' hst' hp ht hk' => ?_)
    have hS' := hk' _ _ O.e O.z O.TO O.i1 O.i2 e2
    have kN : ∀ b o, N ≤ b → s.heap.get? b = some o → h'.get? b = some o := fun b o lb q => hk' b o (Nat.ne_of_gt (Nat.lt_of_lt_of_le P.le lb)) (Nat.ne_of_gt (Nat.lt_of_lt_of_le P.lz lb)) (Nat.ne_of_gt (Nat.lt_of_lt_of_le P.lt lb)) (Nat.ne_of_gt (Nat.lt_of_lt_of_le P.lt1 lb)) (Nat.ne_of_gt (Nat.lt_of_lt_of_le P.lt2 lb)) q
    show wpAny _ A.in1 (updateSeq S0 (·.push (.ref (s.heap.objs.size + 1))) >>= _) _ _ _
    refine wpAny_bind ?_
    have sz : acc.size = L.length := by rw [← Array.length_toList, e1]; simp [refs]
    have hz1 : s.heap.objs.size + 1 < h'.objs.size := Heap.lt_size ht
    have ll : (L ++ [(s.heap.objs.size + 1, s.heap.objs.size, s.toks)]).length = L.length + 1 := by rw [List.length_append, List.length_singleton]
    have oth : ∀ b o, b ≠ S0 → h'.get? b = some o → (h'.update S0 (Obj.mapSeq (·.push (.ref (s.heap.objs.size + 1))))).get? b = some o := fun b o b0 q => (Heap.get?_update_other _ _ (Ne.symm b0)).trans q
    have nS : ∀ b, N ≤ b → b ≠ S0 := fun b lb => Nat.ne_of_gt (Nat.lt_of_lt_of_le O.lN lb)
    refine wpAny_updateSeq hS' rfl (wpAny_pure ⟨plainId_quiet F.plain_extend_loop _, ih _ (L ++ [(s.heap.objs.size + 1, s.heap.objs.size, s.toks)]) (by rw [ll]; omega) (by rw [ll]; omega) ?_ ⟨acc.push (.ref (s.heap.objs.size + 1)), _, by rw [Array.toList_push, e1]; simp [refs], Heap.get?_update_self _ hS' rfl⟩ ?_ fun h'' tk L' q1 q2 q3 q4 => ?_⟩) (by rw [sz]; omega) (by show (acc.push _).size ≤ sizeLine + 1; rw [Array.size_push, sz]; omega)
    · rw [ll]
      exact hst'.keep O (Heap.size_update _ _ _) oth
    · refine Got.snoc ((hg.keep kN).keep fun b o lb q => oth b o (nS b lb) q) hst.pN (Nat.lt_succ_self _) (by show _ < (h'.update _ _).objs.size; rw [Heap.size_update]; exact hz1) (fun j p q => ?_) (Array.getElem?_eq_getElem (Nat.lt_of_lt_of_le hlt hx)) (Array.getElem?_eq_getElem (Nat.lt_of_lt_of_le hlt hy)) (oth _ _ (nS _ hst.pN) hp) (oth _ _ (nS _ (Nat.le_succ_of_le hst.pN)) ht)
      exact (hg.1 j p q).2.2.1
    · exact hR h'' tk L' (fun b o b0 be bz bt b1 b2 q => q1 b o b0 be bz bt b1 b2 (oth b o b0 (hk' b o be bz bt b1 b2 q))) q2 q3 q4

theorem enum_no_len : typeLookup (.type "enumerate") "__len__" = pure none := by rw [typeLookup_type, builtinLookup_eq_fast]; kernel_rfl
theorem enum_no_hint : typeLookup (.type "enumerate") "__length_hint__" = pure none := by rw [typeLookup_type, builtinLookup_eq_fast]; kernel_rfl
theorem ez_extend {R : Result → Shared → Prop} {S0 e z TI TO i1 i2 l1 l2 N : Addr} {n c0 : Nat} {old : Value} {xs ys : Array Value} (hh : A.in1.handled = none) (P : Apart e z TI TO i1 i2 l1 l2 N) (O : Off S0 e z TI TO i1 i2 l1 l2 N) (hx : n ≤ xs.size) (hy : n ≤ ys.size) (hend : xs[n]? = none ∨ ys[n]? = none) (hn : n ≤ sizeLine) (res : Value)
    (he : IsEnum s.heap e z 0 old) (hst : St s.heap e z TI TO i1 i2 l1 l2 N xs ys 0) (hS : s.heap.get? S0 = some { cls := .type "list", data := .seq #[] c0 })
    (hR : ∀ h' tk L', Kl S0 e z TO i1 i2 s.heap h' → Lst h' S0 L' → Got h' N xs ys L' → L'.length = n → R (.ok (.ret res)) { s with heap := h', toks := tk }) :
    wpAny (model prog w) A.in1 (Builtin.List.listExtendWith (.ref S0) (.ref e) res)
      (fun fin s' => match fin with | .done f => R (.ok f) s' | .again c' => c'.quiet = true ∧ codeAny (model prog w) A c' R s') (fun e s' => R (.error e) s') s := by
  have hT : s.TypeIs (.ref e) "enumerate" := ⟨_, he, rfl⟩
  unfold Builtin.List.listExtendWith
  refine wpAny_bind (wpAny_typeOf hT ?_)
  have h1 : Builtin.List.listSameRef (.ref S0) (.ref e) = false := by simp [Builtin.List.listSameRef, O.e]
  have h2 : (Value.type "enumerate" == Value.type "list") = false := by decide
  have h3 : (Value.type "enumerate" == Value.type "tuple") = false := by decide
  simp only [h1, h2, h3, Bool.or_false, Bool.false_eq_true, if_false]
  refine wpAny_bind (wpAny_pyIter_enum he ?_)
  refine wpAny_bind (wpAny_holding ?_)
  unfold Builtin.List.listLengthHint
  refine wpAny_bind (wpAny_specialOf hT enum_no_len ?_)
  show wpAny _ A.in1 (specialOf (Value.ref e) (Str.ofString "__length_hint__") >>= _) _ _ _
  refine wpAny_bind (wpAny_specialOf hT enum_no_hint ?_)
  refine wpAny_pure ?_
  show wpAny _ A.in1 (rule "list.extend.makes-room" >>= fun _ => Builtin.List.listTouch (.ref S0) >>= fun _ =>
    again (.builtin "list.extend.loop" ⟨[.ref S0, .ref e, res], []⟩)) _ _ _
  refine wpAny_bind (wpAny_rule ?_)
  refine wpAny_bind ?_
  show wpAny _ A.in1 (updateSeq S0 (·.push .none) >>= fun _ => updateSeq S0 (·.pop)) _ _ _
  refine wpAny_bind (wpAny_updateSeq hS rfl ?_)
  have hS₂ := Heap.get?_update_self (Obj.mapSeq (·.push Value.none)) hS rfl
  refine wpAny_updateSeq (hz := by seq_fits) hS₂ rfl ?_
  have hS₃ := Heap.get?_update_self (Obj.mapSeq (·.pop)) hS₂ rfl
  have oth : ∀ b o, b ≠ S0 → s.heap.get? b = some o → ((s.heap.update S0 (Obj.mapSeq (·.push Value.none))).update S0 (Obj.mapSeq (·.pop))).get? b = some o :=
    fun b o hb q => (Heap.get?_update_other _ _ (Ne.symm hb)).trans ((Heap.get?_update_other _ _ (Ne.symm hb)).trans q)
  refine wpAny_pure ⟨plainId_quiet F.plain_extend_loop _, ez_loop hh P O hx hy hend hn res (n - 0) _ [] rfl (Nat.zero_le _) (hst.keep O (by rw [Heap.size_update, Heap.size_update]) oth) ⟨#[], _, rfl, hS₃⟩ ⟨(fun j p q => nomatch q), List.Pairwise.nil⟩ fun h' tk L' k1 k2 k3 k4 => ?_⟩
  exact hR h' tk L' (fun b o b0 be bz bt b1 b2 q => k1 b o b0 be bz bt b1 b2 (oth b o b0 q)) k2 k3 k4
theorem ez_init {R : Result → Shared → Prop} {S0 e z TI TO i1 i2 l1 l2 N : Addr} {n : Nat} {old : Value} {xs ys : Array Value} (hh : A.in1.handled = none) (P : Apart e z TI TO i1 i2 l1 l2 N) (O : Off S0 e z TI TO i1 i2 l1 l2 N) (hx : n ≤ xs.size) (hy : n ≤ ys.size) (hend : xs[n]? = none ∨ ys[n]? = none) (hn : n ≤ sizeLine)
    (he : IsEnum s.heap e z 0 old) (hst : St s.heap e z TI TO i1 i2 l1 l2 N xs ys 0) (hS : s.heap.get? S0 = some { cls := .type "list", data := .seq #[] })
    (hR : ∀ h' tk L', Kl S0 e z TO i1 i2 s.heap h' → Lst h' S0 L' → Got h' N xs ys L' → L'.length = n → R (.ok (.ret .none)) { s with heap := h', toks := tk }) :
    wpAny (model prog w) A.in1 (Builtin.«list.__init__» ⟨[.ref S0, .ref e], []⟩)
      (fun fin s' => match fin with | .done f => R (.ok f) s' | .again c' => c'.quiet = true ∧ codeAny (model prog w) A c' R s') (fun e s' => R (.error e) s') s := by
  show wpAny _ A.in1 (do let old ← Builtin.List.listItems (.ref S0); Builtin.List.listUpdate (.ref S0) (fun _ => #[]); letGo old.toList.reverse; Builtin.List.listExtendWith (.ref S0) (.ref e) .none) _ _ s
  refine wpAny_bind ?_
  unfold Builtin.List.listItems
  refine wpAny_bind (wpAny_seqItems hS rfl (wpAny_pure ?_))
  show wpAny _ A.in1 (updateSeq S0 (fun _ => #[]) >>= fun _ => letGo (#[] : Array Value).toList.reverse >>= fun _ => Builtin.List.listExtendWith (.ref S0) (.ref e) .none) _ _ s
  refine wpAny_bind (wpAny_updateSeq hS rfl ?_)
  have hS₂ := Heap.get?_update_self (Obj.mapSeq (fun _ => (#[] : Array Value))) hS rfl
  have oth : ∀ b o, b ≠ S0 → s.heap.get? b = some o → (s.heap.update S0 (Obj.mapSeq (fun _ => (#[] : Array Value)))).get? b = some o :=
    fun b o hb q => (Heap.get?_update_other _ _ (Ne.symm hb)).trans q
  refine wpAny_bind (wpAny_letGo ?_)
  exact ez_extend hh P O hx hy hend hn .none (oth _ _ O.e.symm he) (hst.keep O (Heap.size_update _ _ _) oth) hS₂ fun h' tk L' k1 k2 k3 k4 => hR h' tk L' (fun b o b0 be bz bt b1 b2 q => k1 b o b0 be bz bt b1 b2 (oth b o b0 q)) k2 k3 k4
theorem ez_list {e z TI TO i1 i2 l1 l2 : Addr} {n : Nat} {old : Value} {xs ys : Array Value} {Q : Value → Shared → Prop} (hh : A.handled = none) (P : Apart e z TI TO i1 i2 l1 l2 (s.heap.objs.size + 1)) (lT : TI < s.heap.objs.size) (ll1 : l1 < s.heap.objs.size) (ll2 : l2 < s.heap.objs.size) (lz : z < s.heap.objs.size) (lt : TO < s.heap.objs.size) (lt1 : i1 < s.heap.objs.size) (lt2 : i2 < s.heap.objs.size) (le : e < s.heap.objs.size)
    (hx : n ≤ xs.size) (hy : n ≤ ys.size) (hend : xs[n]? = none ∨ ys[n]? = none) (hn : n ≤ sizeLine)
    (he : IsEnum s.heap e z 0 old) (hz : IsZip s.heap z TI TO .none) (hTO : ∃ a b, IsPair s.heap TO a b) (hTI : IsPair s.heap TI (.ref i1) (.ref i2)) (h1 : s.heap.IsTupleIter i1 l1 0) (h2 : s.heap.IsTupleIter i2 l2 0) (hl1 : s.heap.IsTuple l1 xs) (hl2 : s.heap.IsTuple l2 ys)
    (hQ : ∀ h' tk L', Kp e z TO i1 i2 s.heap h' → Lst h' s.heap.objs.size L' → Got h' (s.heap.objs.size + 1) xs ys L' → L'.length = n → Q (.ref s.heap.objs.size) { s with heap := h', toks := tk }) :
    wpAny (model prog w) A (call (.type "list") [.ref e]) Q E s := by
  obtain ⟨a, b, hTO⟩ := hTO
  have O : Off s.heap.objs.size e z TI TO i1 i2 l1 l2 (s.heap.objs.size + 1) := ⟨Nat.lt_succ_self _, Nat.ne_of_gt le, Nat.ne_of_gt lz, Nat.ne_of_gt lT, Nat.ne_of_gt lt, Nat.ne_of_gt lt1, Nat.ne_of_gt lt2, Nat.ne_of_gt ll1, Nat.ne_of_gt ll2⟩
  refine callType_codes (Q₁ := fun obj s₁ => obj = .ref s.heap.objs.size ∧ s₁ = { s with heap := s.heap.push { cls := .type "list", data := .seq #[] } }) F.called_list (F.typeCall_list_1 _) F.entry_list_init
    (code_list_new _ ⟨rfl, rfl⟩) fun obj s₁ h₁ => ?_
  obtain ⟨rfl, rfl⟩ := h₁
  have hS : (s.heap.push { cls := .type "list", data := .seq #[] }).get? s.heap.objs.size = some { cls := .type "list", data := .seq #[] } := Heap.get?_push_size _ rfl
  have pu : ∀ {c o}, s.heap.get? c = some o → (s.heap.push { cls := .type "list", data := .seq #[] }).get? c = some o := fun q => Heap.get?_push_of_some _ q
  have st : St (s.heap.push { cls := .type "list", data := .seq #[] }) e z TI TO i1 i2 l1 l2 (s.heap.objs.size + 1) xs ys 0 :=
    ⟨by rw [Heap.size_push]; exact Nat.le_refl _, .inl ⟨old, pu he⟩, .inl ⟨pu hz, a, b, pu hTO⟩, pu hTI, h1.at fun o q => pu q, h2.at fun o q => pu q, hl1.at fun o q => pu q, hl2.at fun o q => pu q⟩
  refine ⟨⟨_, hS, rfl⟩, F.args_list_init_2 _ _, ez_init hh P O hx hy hend hn (pu he) st hS fun h' tk L' k1 k2 k3 k4 => ?_⟩
  refine ⟨rfl, hQ h' tk L' (fun c o ce cz ct c1 c2 q => k1 c o (Nat.ne_of_lt (Heap.lt_size q)) ce cz ct c1 c2 (pu q)) k2 k3 k4⟩
end
end Ez
set_option maxHeartbeats 1000000
namespace Ez
open PySem PySem.Spec PyProof.Rows L2
section
variable {prog : Program} {w : World} {A : Around} {E : Value → Shared → Prop} {s : Shared}
theorem meets_enum_zip (z TI TO : Addr) :
    Meets (Builtin.«enumerate.__new__» ⟨[.type "enumerate", .ref z], []⟩) (fun _ R s => IsZip s.heap z TI TO .none ∧
      R (.ok (.ret (.ref s.heap.objs.size))) { s with heap := s.heap.push { cls := .type "enumerate", data := .fields #[.none, .bool false, .ref z, rawInt 0, .none, .none] } }) :=
  .of_wp fun prog w A R s h => by
    obtain ⟨hp, g, d, tk, os⟩ := s; obtain ⟨hz, h⟩ := h
    have hsub := sub_enumerate
    have hz : IsZip (Shared.heap ⟨hp, g, d, tk, os⟩) z TI TO .none := hz
    wp_walk
    refine wpAny_stack_any fun st => wpAny_pure ?_
    split
    · rename_i c _ _ _ _ _
      cases (c == Value.type "enumerate")
      · wp_walk using wpAny_pyIter_zip hz
        exact ⟨_, rfl, h⟩
      · wp_walk using wpAny_pyIter_zip hz
        exact ⟨_, rfl, h⟩
    · wp_walk using wpAny_pyIter_zip hz
      exact ⟨_, rfl, h⟩
theorem call_enum_zip {z TI TO : Addr} {Q : Value → Shared → Prop} (hz : IsZip s.heap z TI TO .none)
    (h : ∀ h', IsEnum h' s.heap.objs.size z 0 .none → h'.objs.size = s.heap.objs.size + 1 → (∀ b o, s.heap.get? b = some o → h'.get? b = some o) → Q (.ref s.heap.objs.size) { s with heap := h' }) :
    wpAny (model prog w) A (call (.type "enumerate") [.ref z]) Q E s := by
  refine callType_new F.called_enumerate (by decide) (F.typeCall_enumerate_1 _) (F.newCall_enumerate_1 _) (fun obj => F.args_object_init_2 obj _) F.entry_enumerate_new
    (meets_enum_zip z TI TO) ⟨hz, ?_⟩
  have he : IsEnum (s.heap.push { cls := .type "enumerate", data := .fields #[.none, .bool false, .ref z, rawInt 0, .none, .none] }) s.heap.objs.size z 0 .none := Heap.get?_push_size _ rfl
  exact ⟨⟨_, he, rfl⟩, h _ he (Heap.size_push ..) fun b o x => Heap.get?_push_of_some _ x⟩
end
def lay (H : Hp) : Nat → List (V × V) → List (Addr × Addr × Tok) → Hp × List V
  | j, (x, y) :: l, (b, c, t) :: L => let r := lay (upd (upd H c (.tup [x, y])) b (.tup [.int j, .ref c])) (j + 1) l L; (r.1, .ref b :: r.2)
  | _, _, _ => (H, [])
inductive Lays : Hp → Nat → List (V × V) → Hp → List V → Prop
  | nil {H : Hp} {j : Nat} : Lays H j [] H []
  | cons {H H' : Hp} {j : Nat} {x y : V} {l : List (V × V)} {b c : Addr} {ws : List V} : H c = none → upd H c (.tup [x, y]) b = none → Lays (upd (upd H c (.tup [x, y])) b (.tup [.int j, .ref c])) (j + 1) l H' ws → Lays H j ((x, y) :: l) H' (.ref b :: ws)
def Up (H : Hp) (M : Addr) : Prop := ∀ a, M ≤ a → H a = none
theorem Up.two {H : Hp} {M b c : Addr} {o o' : HO} (u : Up H M) (h1 : M ≤ c) (h2 : c < b) : Up (upd (upd H c o) b o') (b + 1) := fun a ha => by
  have n1 : a ≠ b := Nat.ne_of_gt ha
  have n2 : a ≠ c := Nat.ne_of_gt (Nat.lt_trans h2 ha)
  rw [upd_ne n1, upd_ne n2]
  exact u a (Nat.le_trans h1 (Nat.le_of_lt (Nat.lt_trans h2 ha)))
def Asc (M : Addr) : List (Addr × Addr × Tok) → Prop
  | [] => True
  | (b, c, _) :: L => M ≤ c ∧ c < b ∧ Asc (b + 1) L
theorem lay_lays : ∀ (L : List (Addr × Addr × Tok)) (l : List (V × V)) (H : Hp) (j M : Nat), l.length = L.length → Up H M → Asc M L → Lays H j l (lay H j l L).1 (lay H j l L).2
  | [], [], H, j, M, _, _, _ => .nil
  | (b, c, t) :: L, (x, y) :: l, H, j, M, hl, u, ⟨h1, h2, h3⟩ => by
    refine .cons (u c h1) ?_ (lay_lays L l _ (j + 1) (b + 1) (by simpa using hl) (u.two h1 h2) h3)
    have n1 : b ≠ c := Nat.ne_of_gt h2
    rw [upd_ne n1]
    exact u b (Nat.le_of_lt (Nat.lt_of_le_of_lt h1 h2))
theorem lay_below : ∀ (L : List (Addr × Addr × Tok)) (l : List (V × V)) (H : Hp) (j M a : Nat), Asc M L → a < M → (lay H j l L).1 a = H a
  | [], l, H, j, M, a, _, _ => by cases l <;> rfl
  | (b, c, t) :: L, [], H, j, M, a, _, _ => rfl
  | (b, c, t) :: L, (x, y) :: l, H, j, M, a, ⟨h1, h2, h3⟩, ha => by
    show (lay (upd (upd H c (.tup [x, y])) b (.tup [.int j, .ref c])) (j + 1) l L).1 a = H a
    have lc : a < c := Nat.lt_of_lt_of_le ha h1
    rw [lay_below L l _ (j + 1) (b + 1) a h3 (Nat.lt_succ_of_lt (Nat.lt_trans lc h2)), upd_ne (Nat.ne_of_lt (Nat.lt_trans lc h2)), upd_ne (Nat.ne_of_lt lc)]
def Held (h : Heap) : Nat → List (V × V) → List (Addr × Addr × Tok) → Prop
  | j, (x, y) :: l, (b, c, t) :: L => (∃ us, Vals [x, y] us ∧ h.get? c = some { cls := .type "tuple", data := .seq us.toArray }) ∧ h.get? b = some { cls := .type "tuple", data := .seq #[.int j t, .ref c] } ∧ Held h (j + 1) l L
  | _, _, _ => True
theorem hok_add {P : Program} {w : World} {H : Hp} {h : Heap} {a : Addr} {o : HO} (x : HOk P w H h) (hn : H a = none) (new : ObjOk P w (upd H a o) h a o) : HOk P w (upd H a o) h := fun b u e => by
  by_cases hb : b = a
  · subst hb
    rw [upd_same] at e
    cases e
    exact new
  · rw [upd_ne hb] at e
    exact (x b u e).stay (fun c v _ q => q) (fun c q => by rw [upd_ne (ne_of_none q hn)]; exact q) fun c xs q => by rw [upd_ne (ne_of_none q hn)]; exact q
theorem lay_hok {P : Program} {w : World} {h : Heap} : ∀ (L : List (Addr × Addr × Tok)) (l : List (V × V)) (H : Hp) (j M : Nat), HOk P w H h → Up H M → Asc M L → Held h j l L → HOk P w (lay H j l L).1 h
  | [], l, H, j, M, ok, _, _, _ => by cases l <;> exact ok
  | (b, c, t) :: L, [], H, j, M, ok, _, _, _ => ok
  | (b, c, t) :: L, (x, y) :: l, H, j, M, ok, u, ⟨h1, h2, h3⟩, ⟨⟨us, r, e1⟩, e2, hd⟩ => by
    refine lay_hok L l _ (j + 1) (b + 1) (hok_add (hok_add ok (u c h1) ?_) ?_ ?_) (u.two h1 h2) h3 hd
    · exact ⟨by show 2 ≤ sizeLine; decide, us, r, _, e1, rfl, _, rfl⟩
    · have n1 : b ≠ c := Nat.ne_of_gt h2
      rw [upd_ne n1]
      exact u b (Nat.le_of_lt (Nat.lt_of_le_of_lt h1 h2))
    · exact ⟨by show 2 ≤ sizeLine; decide, [.int j t, .ref c], .cons ⟨t, rfl⟩ (.cons rfl .nil), _, e2, rfl, _, rfl⟩
theorem un_lays {fs ex : List Addr} {H H' : Hp} {h h' : Heap} (k : ∀ b u, h.get? b = some u → h'.get? b = some u) (same : ∀ b, b < h.objs.size → H' b = H b) (lt : ∀ b o, H b = some o → b < h.objs.size) : Un fs ex H H' h h' where
  keep := fun b u q _ _ _ => k b u q
  slot := fun b u q _ _ _ => ⟨u.slots, k b u q⟩
  free := fun b u q n _ => by rw [same b (Heap.lt_size q)]; exact n
  there := fun b u q _ => ⟨u, k b u q⟩
  tups := fun b xs q => by rw [same b (lt _ _ q)]; exact q
  frzs := fun b u xs q => by rw [same b (lt _ _ q)]; exact q
  tbls := fun b ps q => ⟨#[], by rw [same b (lt _ _ q), q]; simp⟩
theorem asc_of : ∀ (L : List (Addr × Addr × Tok)) (N : Addr), (∀ p ∈ L, N ≤ p.2.1 ∧ p.2.1 < p.1) → L.Pairwise (fun p q => p.1 < q.2.1) → Asc N L
  | [], _, _, _ => trivial
  | (b, c, t) :: L, N, h1, h2 => by
    obtain ⟨g1, g2⟩ := List.pairwise_cons.mp h2
    have z := h1 _ List.mem_cons_self
    exact ⟨z.1, z.2, asc_of L (b + 1) (fun p hp => ⟨g1 p hp, (h1 p (List.mem_cons_of_mem _ hp)).2⟩) g2⟩

theorem neA {a b : Nat} (h : a < b ∨ b < a) : (a : Addr) ≠ b := fun e => by
  have e : a = b := e
  omega
theorem apart_of (M a b : Nat) (ha : a < M) (hb : b < M) : Apart (M + 5) (M + 4) (M + 2) (M + 3) M (M + 1) a b (M + 7) :=
  ⟨PySem.W.ktu_apart M a b ha hb, (by show M + 4 < M + 7; omega), (by show M + 3 < M + 7; omega), (by show M < M + 7; omega), (by show M + 1 < M + 7; omega), (by show M + 5 < M + 7; omega), neA (by omega), neA (by omega), neA (by omega), neA (by omega), neA (by omega), neA (by omega), neA (by omega)⟩
theorem held_of {h : Heap} {its its2 : List Value} : ∀ (L : List (Addr × Addr × Tok)) (xs ys : List V) (j : Nat), Vals xs (its.drop j) → Vals ys (its2.drop j) → xs.length = L.length → ys.length = L.length →
    (∀ (i : Nat) (p : Addr × Addr × Tok), L[i]? = some p → ∃ x y, its[j + i]? = some x ∧ its2[j + i]? = some y ∧ IsPair h p.2.1 x y ∧ h.get? p.1 = some { cls := .type "tuple", data := .seq #[.int ((j + i : Nat) : Int) p.2.2, .ref p.2.1] }) → Held h j (xs.zip ys) L
  | [], xs, ys, j, _, _, _, _, _ => by cases xs <;> cases ys <;> trivial
  | (b, c, t) :: L, x :: xs, y :: ys, j, r1, r2, h1, h2, g => by
    obtain ⟨u, v, e1, e2, e3, e4⟩ := g 0 _ rfl
    rw [Nat.add_zero] at e1 e2 e4
    have d1 : its.drop j = u :: its.drop (j + 1) := by
      obtain ⟨hj, e⟩ := List.getElem?_eq_some_iff.mp e1
      rw [List.drop_eq_getElem_cons hj, e]
    have d2 : its2.drop j = v :: its2.drop (j + 1) := by
      obtain ⟨hj, e⟩ := List.getElem?_eq_some_iff.mp e2
      rw [List.drop_eq_getElem_cons hj, e]
    rw [d1] at r1
    rw [d2] at r2
    cases r1 with
    | cons p1 r1 =>
      cases r2 with
      | cons p2 r2 =>
        refine ⟨⟨[u, v], .cons p1 (.cons p2 .nil), e3⟩, e4, held_of L xs ys (j + 1) r1 r2 (by simpa using h1) (by simpa using h2) fun i p hp => ?_⟩
        obtain ⟨u', v', f1, f2, f3, f4⟩ := g (i + 1) p hp
        rw [show j + (i + 1) = j + 1 + i by omega] at f1 f2 f4
        exact ⟨u', v', f1, f2, f3, f4⟩
def tLez (K : PySem.W.Frag) (ta : TA) : TE := fun σ H Q => ta σ H fun vs H1 => ∃ (a b : Addr) (xs ys : List V), vs = [.ref a, .ref b] ∧ SqT K H1 a xs ∧ SqT K H1 b ys ∧ xs.length = ys.length ∧
  ∀ (H2 : Hp) (ws : List V) (p : Addr), Lays H1 0 (xs.zip ys) H2 ws → H2 p = none → Q (.ref p) (upd H2 p (.lst ws))
theorem vals_of_refs {L : List (Addr × Addr × Tok)} {l : List (V × V)} {H : Hp} {j : Nat} (h : l.length = L.length) : Vals (lay H j l L).2 (refs L) := by
  induction L generalizing l H j with
  | nil => cases l <;> exact .nil
  | cons p L ih =>
    obtain ⟨b, c, t⟩ := p
    cases l with
    | nil => cases h
    | cons q l =>
      obtain ⟨x, y⟩ := q
      exact .cons rfl (ih (by simpa using h))
theorem pe_lez {X : Cx} {e e2 : Expr} {ta : TA} {p1 p2 p3 q1 q2 q3 : Pos} (hc : X.calm = true) (hg1 : Gl X "list") (hm1 : X.mg "list" = none) (hg2 : Gl X "enumerate") (hm2 : X.mg "enumerate" = none) (hg3 : Gl X "zip") (hm3 : X.mg "zip" = none) (ha : PA X [e, e2] ta)
    (hs : starEach [e, e2] X.env = (false, eval e X.env) :: starEach [e2] X.env := by rfl) (hpl : (backTo q3 (starEach [e2] X.env)).any (·.1) = false := by rfl) :
    PE X (.Call (.Name "list" p1) [.Call (.Name "enumerate" p2) [.Call (.Name "zip" p3) [e, e2] [] q3] [] q2] [] q1) (tLez X.K ta) := by
  refine ⟨fun pins s σ H Q I h => ?_⟩
  refine Call_ (ld_blt I hg1 hm1 boot_list (callWith_type1 ?_ (by rfl) (by rfl)))
  show wpAny _ _ (spliced ((false, eval (.Call (.Name "enumerate" p2) [.Call (.Name "zip" p3) [e, e2] [] q3] [] q2) X.env) :: backTo q1 (starEach [] X.env))) _ _ s
  refine Calls.spliced_cons ?_
  refine Call_ (ld_blt I hg2 hm2 boot_enumerate (callWith_type1 ?_ (by rfl) (by rfl)))
  show wpAny _ _ (spliced ((false, eval (.Call (.Name "zip" p3) [e, e2] [] q3) X.env) :: backTo q2 (starEach [] X.env))) _ _ s
  refine Calls.spliced_cons ?_
  refine Call_ (ld_blt I hg3 hm3 boot_zip (callWith_type1 (thn (ha.run q3 pins s σ H _ I h) fun us s1 ⟨vs, H1, I1, r1, g⟩ => ?_) hs hpl))
  obtain ⟨a, b, xs, ys, ex, hqx, hqy, hl, g⟩ := g
  subst ex
  obtain ⟨u1, u2, rfl⟩ : ∃ u1 u2, us = [u1, u2] := by
    cases r1 with
    | cons r rr =>
      cases rr with
      | cons r' rr =>
        cases rr
        exact ⟨_, _, rfl⟩
  cases r1 with
  | cons r rr =>
    cases rr with
    | cons r' rr =>
      cases rr
      cases r
      cases r'
      obtain ⟨its, rv, t1, z1⟩ := I1.tuple hqx
      obtain ⟨its2, rv2, t2, z2⟩ := I1.tuple hqy
      obtain ⟨o1, ho1, _⟩ := id t1
      obtain ⟨o2, ho2, _⟩ := id t2
      refine RZ.call_zipT (show s1.heap.IsTuple a its.toArray from t1) (show s1.heap.IsTuple b its2.toArray from t2) fun h' hz hTI hTO h1 h2 hsz hk => ?_
      refine Calls.spliced_nil ?_
      refine call_enum_zip (s := { s1 with heap := h' }) hz fun h'' he hsz2 hk2 => ?_
      refine Calls.spliced_nil ?_
      replace he : IsEnum h'' h'.objs.size (s1.heap.objs.size + 4) 0 .none := he
      replace hsz2 : h''.objs.size = h'.objs.size + 1 := hsz2
      replace hk2 : ∀ b o, h'.get? b = some o → h''.get? b = some o := hk2
      have la : a < s1.heap.objs.size := Heap.lt_size ho1
      have lb : b < s1.heap.objs.size := Heap.lt_size ho2
      show wpAny _ _ (call (.type "list") [.ref h'.objs.size]) _ _ _
      rw [hsz] at he hsz2 ⊢
      have l1 : xs.length = its.length := rv.length
      have l2 : ys.length = its2.length := rv2.length
      have lt6 : ∀ k, k < 6 → s1.heap.objs.size + k < h''.objs.size := fun k hk => by
        rw [hsz2]
        exact Nat.add_lt_add_left hk _
      have la6 : ∀ c, c < s1.heap.objs.size → c < h''.objs.size := fun c hc => Nat.lt_trans hc (lt6 0 (by decide))
      refine ez_list (s := { s1 with heap := h'' }) (e := s1.heap.objs.size + 5) (z := s1.heap.objs.size + 4) (TI := s1.heap.objs.size + 2) (TO := s1.heap.objs.size + 3) (i1 := s1.heap.objs.size) (i2 := s1.heap.objs.size + 1) (l1 := a) (l2 := b) (n := xs.length) (xs := its.toArray) (ys := its2.toArray) (I1.ok.hd hc) ?_
        (lt6 2 (by decide)) (la6 a la) (la6 b lb) (lt6 4 (by decide)) (lt6 3 (by decide)) (lt6 0 (by decide)) (lt6 1 (by decide)) (lt6 5 (by decide)) (by simp [l1]) (by simp [← l2, hl]) (.inl (by simp [l1])) z1 he (hk2 _ _ hz) ⟨_, _, hk2 _ _ hTO⟩ (hk2 _ _ hTI) (h1.at fun o q => hk2 _ o q) (h2.at fun o q => hk2 _ o q)
        ((show s1.heap.IsTuple a its.toArray from t1).at fun o q => hk2 _ o (hk _ o q)) ((show s1.heap.IsTuple b its2.toArray from t2).at fun o q => hk2 _ o (hk _ o q)) fun h3 tk L k1 k2 k3 k4 => ?_
      · show Apart _ _ _ _ _ _ _ _ (h''.objs.size + 1)
        rw [hsz2]
        exact apart_of _ _ _ la lb
      replace k2 : Lst h3 h''.objs.size L := k2
      replace k3 : Got h3 (h''.objs.size + 1) its.toArray its2.toArray L := k3
      show EP X pins σ Q (.ref h''.objs.size) { s1 with heap := h3, toks := tk }
      have ge : s1.heap.objs.size ≤ h''.objs.size := Nat.le_of_lt (lt6 0 (by decide))
      have keep : ∀ c o, s1.heap.get? c = some o → h3.get? c = some o := fun c o q => by
        have lc : c < s1.heap.objs.size := Heap.lt_size q
        exact k1 c o (Nat.ne_of_lt (Nat.lt_of_lt_of_le lc (Nat.le_add_right _ _))) (Nat.ne_of_lt (Nat.lt_of_lt_of_le lc (Nat.le_add_right _ _))) (Nat.ne_of_lt (Nat.lt_of_lt_of_le lc (Nat.le_add_right _ _))) (Nat.ne_of_lt lc) (Nat.ne_of_lt (Nat.lt_of_lt_of_le lc (Nat.le_add_right _ _))) (hk2 _ _ (hk _ _ q))
      have asc : Asc (h''.objs.size + 1) L := asc_of L _ (fun p hp => by
        obtain ⟨j, hj, e⟩ := List.mem_iff_getElem.mp hp
        obtain ⟨g1, g2, _⟩ := k3.1 j p (by rw [List.getElem?_eq_getElem hj, e])
        exact ⟨g1, g2⟩) k3.2
      have up : Up H1 (h''.objs.size + 1) := fun x hx => I1.hok.fresh (Nat.le_trans ge (Nat.le_of_succ_le hx))
      have lz : (xs.zip ys).length = L.length := by rw [List.length_zip, k4, ← hl, Nat.min_self]
      have held : Held h3 0 (xs.zip ys) L := held_of (its := its) (its2 := its2) L xs ys 0 rv rv2 k4.symm (by rw [← hl, k4]) fun i p hp => by
        obtain ⟨_, _, _, x, y, g4, g5, g6, g7⟩ := k3.1 i p hp
        rw [Nat.zero_add]
        exact ⟨x, y, by simpa using g4, by simpa using g5, g6, g7⟩
      have ok2 := lay_hok L (xs.zip ys) H1 0 _ (I1.hok.kept keep) up asc held
      have hn : (lay H1 0 (xs.zip ys) L).1 h''.objs.size = none := by
        rw [lay_below L _ H1 0 _ _ asc (Nat.lt_succ_self _)]
        exact I1.hok.fresh ge
      obtain ⟨acc, c, e1, e2⟩ := k2
      have vr : Vals (lay H1 0 (xs.zip ys) L).2 (refs L) := vals_of_refs lz
      have ok3 : HOk X.prog X.w (upd (lay H1 0 (xs.zip ys) L).1 h''.objs.size (.lst (lay H1 0 (xs.zip ys) L).2)) h3 := hok_add ok2 hn ⟨by rw [vr.length]; unfold refs; rw [List.length_map, k4]; exact z1, refs L, c, vr, by rw [← e1, Array.toArray_toList]; exact e2⟩
      have un : Un X.fs [] H1 (upd (lay H1 0 (xs.zip ys) L).1 h''.objs.size (.lst (lay H1 0 (xs.zip ys) L).2)) s1.heap h3 := un_lays keep (fun x hx => by
        rw [upd_ne (Nat.ne_of_lt (Nat.lt_of_lt_of_le hx ge)), lay_below L _ H1 0 _ _ asc (Nat.lt_succ_of_lt (Nat.lt_of_lt_of_le hx ge))]) fun x o q => I1.hok.lt q
      exact ⟨.ref h''.objs.size, _, I1.un (t' := tk) un ok3, rfl, g _ _ _ (lay_lays L _ H1 0 _ lz up asc) hn⟩
end Ez
namespace Lf
open PySem PySem.Spec PyProof.Rows L2 Sx
def ezD : Nat → List PyData → List PyData → List PyData
  | j, x :: xs, y :: ys => .tuple [.int (j : Nat), .tuple [x, y]] :: ezD (j + 1) xs ys
  | _, _, _ => []
theorem ezD_len : ∀ (xs ys : List PyData) (j : Nat), (ezD j xs ys).length = min xs.length ys.length
  | [], ys, _ => by simp [ezD]
  | x :: xs, [], _ => by simp [ezD]
  | x :: xs, y :: ys, j => by
    show (ezD (j + 1) xs ys).length + 1 = _
    rw [ezD_len xs ys (j + 1)]
    simp
theorem ezD_get : ∀ (xs ys : List PyData) (j i : Nat), i < xs.length → i < ys.length → (ezD j xs ys)[i]? = some (.tuple [.int ((j + i : Nat) : Int), .tuple [xs.getD i .none, ys.getD i .none]])
  | x :: xs, y :: ys, j, 0, _, _ => rfl
  | x :: xs, y :: ys, j, i + 1, h1, h2 => by
    show (ezD (j + 1) xs ys)[i]? = _
    rw [ezD_get xs ys (j + 1) i (Nat.lt_of_succ_lt_succ h1) (Nat.lt_of_succ_lt_succ h2), show j + 1 + i = j + (i + 1) by omega]
    simp
theorem ezD_at {xs ys : List PyData} {i : Nat} (h1 : i < xs.length) (h2 : i < ys.length) : (ezD 0 xs ys).getD i .none = .tuple [.int (i : Nat), .tuple [xs.getD i .none, ys.getD i .none]] := by
  rw [List.getD_eq_getElem?_getD, ezD_get xs ys 0 i h1 h2, Nat.zero_add] <;> rfl
def twoTup : A → A → (List PyData → List PyData → Prop) → Prop
  | .d (.tuple ds), .d (.tuple es), k => k ds es
  | _, _, _ => False
def aLez (fr : AAx) : AEx := fun ρ R Z => fr ρ (fun as ρ1 => A.two as fun a b => twoTup a b fun ds es => ds.length = es.length ∧ R (.own (ezD 0 ds es)) ρ1) Z
section
variable {K : PySem.W.Frag} {B : Bx} {W : Wx} {G G0 F0 F H : Hp} {as : List A} {xs : List (Option V)}
theorem new_tup {p : Addr} {ws : List V} (k : Kn B G0 F0 G F H) (s : Sl K G F0 F as xs) (np : H p = none) :
    ∃ G' F', Same G G' ∧ G' p = some (.tup ws) ∧ Kn B G0 F0 G' F' (upd H p (.tup ws)) ∧ Sl K G' F0 F' as xs := by
  have nF := k.sub.free np
  have nG := k.s.free nF
  have sg : Same G (upd G p (.tup ws)) := same_new nG
  refine ⟨_, _, sg, upd_same, k.newG np (.tup ws) True.intro, s.grow sg fun q u e1 e2 e3 => ?_⟩
  have hq := ne_of_none e1 nF
  exact ⟨upd_ne hq, by rw [upd_ne hq]; exact e2⟩
theorem lays_kn {j : Nat} {l : List (V × V)} {H H2 : Hp} {vs : List V} (Ly : Ez.Lays H j l H2 vs) : ∀ {G F : Hp} {ws zs : List V} {ds es : List PyData}, l = ws.zip zs → ws.length = zs.length → Kn B G0 F0 G F H → Sl K G F0 F as xs → DvAll K G ws ds → DvAll K G zs es →
    ∃ G' F', Same G G' ∧ Kn B G0 F0 G' F' H2 ∧ Sl K G' F0 F' as xs ∧ DvAll K G' vs (ezD j ds es) := by
  induction Ly with
  | nil =>
    intro G F ws zs ds es e hl k s h1 h2
    refine ⟨G, F, Same.refl _, k, s, ?_⟩
    cases h1 with
    | nil => exact .nil
    | cons a b =>
      cases h2 with
      | nil => cases hl
      | cons c d => cases e
  | cons n1 n2 Ly ih =>
    intro G F ws zs ds es e hl k s h1 h2
    cases h1 with
    | nil => cases e
    | cons a1 b1 =>
      cases h2 with
      | nil => cases hl
      | cons a2 b2 =>
        cases e
        obtain ⟨G1, F1, sg1, e1, k1, s1⟩ := new_tup k s n1
        obtain ⟨G2, F2, sg2, e2, k2, s2⟩ := new_tup k1 s1 n2
        obtain ⟨G3, F3, sg3, k3, s3, hv⟩ := ih rfl (Nat.succ.inj hl) k2 s2 (dva_same sg2 _ _ (dva_same sg1 _ _ b1)) (dva_same sg2 _ _ (dva_same sg1 _ _ b2))
        refine ⟨G3, F3, (sg1.trans sg2).trans sg3, k3, s3, .cons ?_ hv⟩
        refine dv_same sg3 _ _ (.tup (.inl (.of e2)) (.cons (.int _) (.cons ?_ .nil)))
        exact dv_same sg2 _ _ (.tup (.inl (.of e1)) (.cons (dv_same sg1 _ _ a1) (.cons (dv_same sg1 _ _ a2) .nil)))
theorem le_lez {tr : TA} {fr : AAx} (la : LAn 2 B K W tr fr) : LE B K W (Ez.tLez K tr) (aLez fr) := by
  intro G0 F0 θ τ ρ σ H R Z Q hl S h q w
  refine la G0 F0 θ τ ρ σ H _ Z _ hl S h (fun vs H1 as ρ1 h1 l1 l2 S1 => ?_) w
  match as, vs, l1, l2, h1, S1 with
  | [a, b], [v, u], _, _, h1, S1 =>
    obtain ⟨ds, es, rfl, rfl, hle, hR⟩ : ∃ ds es, a = .d (.tuple ds) ∧ b = .d (.tuple es) ∧ ds.length = es.length ∧ R (.own (ezD 0 ds es)) ρ1 := by
      have h1 : twoTup a b fun ds es => ds.length = es.length ∧ R (.own (ezD 0 ds es)) ρ1 := h1
      unfold twoTup at h1
      split at h1
      · exact ⟨_, _, rfl, rfl, h1.1, h1.2⟩
      · exact h1.elim
    have S2 : St B K G0 F0 (.d (.tuple es) :: .d (.tuple ds) :: (θ ++ ρ1)) (some u :: some v :: (τ ++ σ)) H1 := S1.swap2
    obtain ⟨G, F, k, sl⟩ := S2.ex
    obtain ⟨z1, ez1, v1, ev1, hd1⟩ := sl.ok 1 _ rfl
    cases ez1
    cases ev1
    obtain ⟨z2, ez2, v2, ev2, hd2⟩ := sl.ok 0 _ rfl
    cases ez2
    cases ev2
    obtain ⟨p, ws, rfl, hp, da⟩ := tup_in hd1
    obtain ⟨q', zs, rfl, hq, db⟩ := tup_in hd2
    have O := opn k sl
    have e1 : ws.length = ds.length := dva_len da
    have e2 : zs.length = es.length := dva_len db
    refine ⟨p, q', ws, zs, rfl, Sx.Same.tup O.sg hp, Sx.Same.tup O.sg hq, by omega, fun H2 vs2 p2 Ly np => ?_⟩
    obtain ⟨G1, F1, _, k1, s1, hv⟩ := lays_kn Ly rfl (by omega) k sl da db
    have S3 := (opn k1 s1).nl p2 vs2 _ np hv
    exact q _ _ _ ρ1 hR (St.drop (θ1 := [.d (.tuple es), .d (.tuple ds)]) (τ1 := [some (.ref q'), some (.ref p)]) rfl S3)
end
theorem aLez_e (fr : AAx) (ρ : List A) (R : Po) (Z : Zo) : aLez fr ρ R Z = fr ρ (fun as ρ1 => A.two as fun a b => twoTup a b fun ds es => ds.length = es.length ∧ R (.own (ezD 0 ds es)) ρ1) Z := rfl
theorem twoTup_t (ds es : List PyData) (k : List PyData → List PyData → Prop) : twoTup (.d (.tuple ds)) (.d (.tuple es)) k = k ds es := rfl
end Lf
namespace Sx
open PySem PySem.Spec PyProof.Rows L2
end Sx
namespace Lf
open PySem PySem.Spec PyProof.Rows L2 Sx
def aRange2A (fe : AAx) : AIx := fun ρ R Z => fe ρ (fun as ρ1 => A.two as fun a b => a.it fun i => b.it fun j => R (rangeD i (j - i).toNat) ρ1) Z
theorem aRange2A_e (fe : AAx) (ρ : List A) (R : List PyData → List A → Prop) (Z : Zo) : aRange2A fe ρ R Z = (fe ρ (fun as ρ1 => A.two as fun a b => a.it fun i => b.it fun j => R (rangeD i (j - i).toNat) ρ1) Z) := propext ⟨fun h => h, fun h => h⟩
end Lf
namespace Sx
open PySem PySem.Spec PyProof.Rows L2
end Sx
namespace Lf
open PySem PySem.Spec PyProof.Rows L2 Sx
def aDSorted (i : Nat) : AEx := fun ρ R _ => (sl ρ i).dkd fun kvs => ∃ is : List Int, kvs.map (·.1) = is.map Sum.inl ∧ ∀ ns : List Int, ns.Perm is → ns.Pairwise (· ≤ ·) → R (.own (ns.map PyData.int)) ρ
theorem aDSorted_e (i : Nat) (ρ : List A) (R : Po) (Z : Zo) : aDSorted i ρ R Z = ((sl ρ i).dkd fun kvs => ∃ is : List Int, kvs.map (·.1) = is.map Sum.inl ∧ ∀ ns : List Int, ns.Perm is → ns.Pairwise (· ≤ ·) → R (.own (ns.map PyData.int)) ρ) := rfl
end Lf
namespace Sx
open PySem PySem.Spec PyProof.Rows L2 PpSet
abbrev duo (el t0 i0 t1 i1 : Expr) (f0 f1 : List Expr) (sc : Scope) (po : Pos) : Expr := .SetComp el [⟨t0, i0, f0, 0⟩, ⟨t1, i1, f1, 0⟩] sc po
theorem duo_far (el t0 i0 t1 i1 : Expr) (f0 f1 : List Expr) (sc : Scope) (po : Pos) (it ac : Value) (en : Env) :
    compTurn (duo el t0 i0 t1 i1 f0 f1 sc po) 0 it ac en = (do
      standAt i0.pos
      match ← pyNext it with
      | none => pure (.done .next)
      | some u =>
        letOwnedTupleGo t0 it u
        assign t0 en u
        let mut go := true
        for c in f0 do
          if go then go ← isTrue c en (eval c en)
        if go then
          let y ← eval i1 en
          standAt i1.pos
          let y ← foldedSetIterable i1 en y
          let _ ← runOwn (.compStart (duo el t0 i0 t1 i1 f0 f1 sc po) 1 (← holding [y] (pyIter y)) ac en) en
        again (.compLoop (duo el t0 i0 t1 i1 f0 f1 sc po) 0 it ac en)) := by rfl
theorem duo_near (el t0 i0 t1 i1 : Expr) (f0 f1 : List Expr) (sc : Scope) (po : Pos) (it ac : Value) (en : Env) :
    compTurn (duo el t0 i0 t1 i1 f0 f1 sc po) 1 it ac en = (do
      standAt i1.pos
      match ← pyNext it with
      | none => pure (.done .next)
      | some u =>
        letOwnedTupleGo t1 it u
        assign t1 en u
        let mut go := true
        for c in f1 do
          if go then go ← isTrue c en (eval c en)
        if go then
          (do let y ← eval el en; standAt el.pos; let _ ← call (.builtin "set.add") [ac, y])
        again (.compLoop (duo el t0 i0 t1 i1 f0 f1 sc po) 1 it ac en)) := by rfl
section
variable {P : Program} {w : World} {A : Around} {R : Result → Shared → Prop} {s : Shared} {el t0 i0 t1 i1 : Expr} {f0 f1 : List Expr} {sc : Scope} {po : Pos} {it ac : Value} {en : Env}
abbrev erR (P : Program) (w : World) (A : Around) (en : Env) (R : Result → Shared → Prop) : Value → Shared → Prop := notedBy (model P w) A en fun e t => R (.error e) t
theorem mn {α : Type} {m : Sem α} {Q Q' : α → Shared → Prop} {E : Value → Shared → Prop} {s : Shared} (h : wpAny (model P w) A m Q E s) (k : ∀ a t, Q a t → Q' a t) : wpAny (model P w) A m Q' E s := wpAny_mono h k fun _ _ z => z
theorem duo_out (hs : ∀ x, foldedSetIterable i1 en x = pure x) (I : Nat → Shared → Prop)
    (turn : ∀ n t, I n t → wpAny (model P w) A (pyNext it) (fun r t1' => match r with
      | none => R (.ok .next) t1'
      | some u => wpAny (model P w) A (letOwnedTupleGo t0 it u) (fun _ t2 => wpAny (model P w) A (assign t0 en u) (fun _ t3 =>
          wpAny (model P w) A (forIn f0 true fun c g => if g = true then do let go ← isTrue c en (eval c en); pure (ForInStep.yield go) else pure (ForInStep.yield g)) (fun go t4 =>
            if go = true then wpAny (model P w) A (eval i1 en) (fun y t5 => wpAny (model P w) A (pyIter y) (fun it1 t6 =>
              codeAny (model P w) A (.compStart (duo el t0 i0 t1 i1 f0 f1 sc po) 1 it1 ac en) (fun r t7 => match r with
                | .ok _ => ∃ m, m < n ∧ I m t7
                | .error _ => False) t6) (erR P w A en R) t5) (erR P w A en R) t4
            else ∃ m, m < n ∧ I m t4) (erR P w A en R) t3) (erR P w A en R) t2) (erR P w A en R) t1') (erR P w A en R) t)
    (n : Nat) (h : I n s) : codeAny (model P w) A (.compLoop (duo el t0 i0 t1 i1 f0 f1 sc po) 0 it ac en) R s := by
  refine codeAny_loop rfl I (fun k t ht => ?_) n h
  show wpAny _ A ((compTurn (duo el t0 i0 t1 i1 f0 f1 sc po) 0 it ac en).onRaise (fun z => do noteFrame z en; theTreesLotGoes z)) _ _ t
  refine wpAny_noted ?_
  rw [duo_far]
  refine wpAny_bind (wpAny_standAt (wpAny_bind (mn (turn k t ht) fun r q1 h1 => ?_)))
  cases r with
  | none => exact wpAny_pure h1
  | some u =>
    refine wpAny_bind (mn h1 fun _ q2 h2 => wpAny_bind (mn h2 fun _ q3 h3 => wpAny_bind (mn h3 fun go q4 h4 => ?_)))
    cases go with
    | false => exact wpAny_pure ⟨rfl, h4⟩
    | true =>
      refine wpAny_bind (mn h4 fun y q5 h5 => wpAny_bind (wpAny_standAt (wpAny_bind (wpAny_of_eq (hs y) (wpAny_bind (wpAny_holding (mn h5 fun it1 q6 h6 => ?_)))))))
      refine wpAny_bind (wpAny_runOwn ?_)
      rw [Around.mark_none]
      refine codeAny_mono h6 fun r q7 hr => ?_
      cases r with
      | ok f =>
        first
        | exact wpAny_pure ⟨rfl, hr⟩
        | exact wpAny_bind (wpAny_pure (wpAny_pure ⟨rfl, hr⟩))
      | error e => exact hr.elim
theorem duo_in (I : Nat → Shared → Prop)
    (turn : ∀ n t, I n t → wpAny (model P w) A (pyNext it) (fun r t1' => match r with
      | none => R (.ok .next) t1'
      | some u => wpAny (model P w) A (letOwnedTupleGo t1 it u) (fun _ t2 => wpAny (model P w) A (assign t1 en u) (fun _ t3 =>
          wpAny (model P w) A (forIn f1 true fun c g => if g = true then do let go ← isTrue c en (eval c en); pure (ForInStep.yield go) else pure (ForInStep.yield g)) (fun go t4 =>
            if go = true then wpAny (model P w) A (eval el en) (fun y t5 => wpAny (model P w) A (call (.builtin "set.add") [ac, y]) (fun _ t6 => ∃ m, m < n ∧ I m t6) (erR P w A en R) t5) (erR P w A en R) t4
            else ∃ m, m < n ∧ I m t4) (erR P w A en R) t3) (erR P w A en R) t2) (erR P w A en R) t1') (erR P w A en R) t)
    (n : Nat) (h : I n s) : codeAny (model P w) A (.compLoop (duo el t0 i0 t1 i1 f0 f1 sc po) 1 it ac en) R s := by
  refine codeAny_loop rfl I (fun k t ht => ?_) n h
  show wpAny _ A ((compTurn (duo el t0 i0 t1 i1 f0 f1 sc po) 1 it ac en).onRaise (fun z => do noteFrame z en; theTreesLotGoes z)) _ _ t
  refine wpAny_noted ?_
  rw [duo_near]
  refine wpAny_bind (wpAny_standAt (wpAny_bind (mn (turn k t ht) fun r q1 h1 => ?_)))
  cases r with
  | none => exact wpAny_pure h1
  | some u =>
    refine wpAny_bind (mn h1 fun _ q2 h2 => wpAny_bind (mn h2 fun _ q3 h3 => wpAny_bind (mn h3 fun go q4 h4 => ?_)))
    cases go with
    | false => exact wpAny_pure ⟨rfl, h4⟩
    | true => exact wpAny_bind (wpAny_bind (mn h4 fun y q5 h5 => wpAny_bind (wpAny_standAt (wpAny_bind (mn h5 fun _ q6 h6 => wpAny_pure (wpAny_pure ⟨rfl, h6⟩))))))
theorem duo_begin (h0 : codeAny (model P w) A (.compLoop (duo el t0 i0 t1 i1 f0 f1 sc po) 1 it ac en) R s)
    (h : wpAny (model P w) A (pyIter it) (fun it' t => codeAny (model P w) A (.compLoop (duo el t0 i0 t1 i1 f0 f1 sc po) 1 it' ac en) R t) (erR P w A en R) s) :
    codeAny (model P w) A (.compStart (duo el t0 i0 t1 i1 f0 f1 sc po) 1 it ac en) R s := by
  refine codeAny_of_tree ?_
  show wpAny _ _ ((compStart (duo el t0 i0 t1 i1 f0 f1 sc po) 1 it ac en).onRaise (fun z => do noteFrame z en; standAt theWindowsPlace)) _ _ s
  refine wpAny_notedAt ?_
  unfold compStart
  show wpAny _ _ (ask >>= _) _ _ s
  refine wpAny_bind (wpAny_askSetting (wpAny_ite ?_))
  split
  · first
      | exact wpAny_bind (wpAny_pure <| wpAny_pure <| And.intro rfl h0)
      | exact wpAny_pure <| And.intro rfl h0
  · first
      | exact wpAny_bind (wpAny_rule (wpAny_bind (wpAny_standAt (wpAny_bind (mn h fun it' t z => wpAny_pure <| And.intro rfl z)))))
      | (refine wpAny_bind (wpAny_rule ?_); show wpAny _ _ (standAt i1.pos >>= _) _ _ s; exact wpAny_bind (wpAny_standAt (wpAny_bind (mn h fun it' t z => wpAny_pure <| And.intro rfl z))))
end
section
variable {X : Cx}
def tSi2 (w : World) (wi : TI) (g : TG) (tt : TT) (wi1 : TI) (g1 : TG) (tt1 : TT) (te : TE) (vs vs1 : List Nat) : TE := fun σ H Q => wi σ H fun J H1 => ∀ D, H1 D = none → ∃ W : Nat → Nat → Hp → Prop, (∃ m, W 0 m (upd H1 D (SetO w D (fun _ => false) 0))) ∧ ∀ i m G, W i m G →
  (J.stop i G ∧ Q (.ref D) G) ∨ (J.go i G ∧ ∃ Nx : Hp → Prop, (∀ G', Nx G' → ∃ m', m' < m ∧ W (i + 1) m' G') ∧ ∀ x G', J.yld i G x G' → g x (wipe σ vs) G' fun σ2 H2 => wipe σ2 vs = wipe σ vs ∧ tt σ2 H2 fun b H3 =>
    if b = true then wi1 σ2 H3 fun J1 H4 => ∃ W1 : Nat → Nat → Hp → Prop, (∃ m, W1 0 m H4) ∧ ∀ j k G, W1 j k G →
      (J1.stop j G ∧ Nx G) ∨ (J1.go j G ∧ ∃ Nx1 : Hp → Prop, (∀ G', Nx1 G' → ∃ k', k' < k ∧ W1 (j + 1) k' G') ∧ ∀ x G', J1.yld j G x G' → g1 x (wipe σ2 vs1) G' fun σ3 H5 => wipe σ3 vs1 = wipe σ2 vs1 ∧ tt1 σ3 H5 fun b H6 =>
        if b = true then te σ3 H6 fun y H7 => ∃ (c : Int) (S : Int → Bool) (n : Nat), y = .int c ∧ H7 D = some (SetO w D S n) ∧ n + 1 < scanBound ∧ Nx1 (upd H7 D (SetO w D (fun j => S j || decide (j = c)) (if S c = true then n else n + 1))) else Nx1 H6)
    else Nx H3)
theorem pe_si2 {el t0 i0 t1 i1 : Expr} {f0 f1 : List Expr} {sc : Scope} {own : List (PySem.Str × Nat)} {vs1 : List Nat} {po : Pos} {wi wi1 : TI} {g g1 : TG} {tt tt1 : TT} {te : TE} (hc : X.calm = true) (hN : X.N.Nodup) (hi : PI X t0 i0 wi) (ok : BlkOk X.N X.env.scope sc own) (hv : ∀ i ∈ vs1, i ∈ own.map (·.2))
    (hg : ∀ (s : Shared) (H : Hp) (C : Addr) (cl : List (PySem.Str × Addr)) (fp : List Addr), PG (X.blk s H sc (compEnvC sc cl C X.env) fp) t0 g) (ht : ∀ (s : Shared) (H : Hp) (C : Addr) (cl : List (PySem.Str × Addr)) (fp : List Addr), PTs (X.blk s H sc (compEnvC sc cl C X.env) fp) f0 tt)
    (hi1 : ∀ (s : Shared) (H : Hp) (C : Addr) (cl : List (PySem.Str × Addr)) (fp : List Addr), PI (X.blk s H sc (compEnvC sc cl C X.env) fp) t1 i1 wi1)
    (hg1 : ∀ (s : Shared) (H : Hp) (C : Addr) (cl : List (PySem.Str × Addr)) (fp : List Addr), PG (X.blk s H sc (compEnvC sc cl C X.env) fp) t1 g1) (ht1 : ∀ (s : Shared) (H : Hp) (C : Addr) (cl : List (PySem.Str × Addr)) (fp : List Addr), PTs (X.blk s H sc (compEnvC sc cl C X.env) fp) f1 tt1)
    (he : ∀ (s : Shared) (H : Hp) (C : Addr) (cl : List (PySem.Str × Addr)) (fp : List Addr), PE (X.blk s H sc (compEnvC sc cl C X.env) fp) el te) (hs : ∀ x, foldedSetIterable i0 X.env x = pure x := by intro _; rfl) (hs1 : ∀ env x, foldedSetIterable i1 env x = pure x := by intro _ _; rfl) :
    PE X (.SetComp el [⟨t0, i0, f0, 0⟩, ⟨t1, i1, f1, 0⟩] sc po) (tSi2 X.w wi g tt wi1 g1 tt1 te (own.map (·.2)) vs1) := by
  refine ⟨fun pins s σ H Q I h => ?_⟩
  rw [eval_SetComp]
  have cells : ∀ y ∈ sc.names, y.2 = .free → ∃ c, X.env.cells.lookup y.1 = some c := fun y hy e => I.ok.has _ (ok.free y hy e)
  refine wpAny_comprehension_free (use := none) rfl hs (closure_ok cells) ok.kind (fun y hy e => by rw [ok.uniq y hy, e]) (thn (hi.run pins s σ H _ I h) fun _ s1 hx => thn hx fun _ s2 h2 => ?_)
  obtain ⟨it, fp, tn, J, H2, rfl, I2, T, st2, f2, q⟩ := h2
  refine newSet_ok (newEnv_comp ?_)
  -- the new set
  generalize hD : s2.heap.objs.size = D
  obtain ⟨W, ⟨m0, w0⟩, turn⟩ := q D (I2.hok.fresh (Nat.le_of_eq hD))
  obtain ⟨s3, hs3⟩ : ∃ s3 : Shared, s3 = { s2 with heap := s2.heap.push (bareSet X.w) } := ⟨_, rfl⟩
  have h3 : s3.heap = s2.heap.push (bareSet X.w) := by rw [hs3]
  have grow : ∀ b o, s2.heap.get? b = some o → s3.heap.get? b = some o := fun b o e => by
    rw [h3]
    exact Heap.get?_push_of_some _ e
  rw [show ({ s2 with heap := s2.heap.push (bareSet X.w) } : Shared) = s3 from hs3.symm]
  have I3 : Inv X pins σ (upd H2 D (SetO X.w D (fun _ => false) 0)) s3 := by
    rw [hs3]
    refine I2.laid (t' := s2.toks) (fun b o e => Heap.get?_push_of_some _ e) (Nat.le_of_eq hD) ?_
    rw [← hD]
    exact setO_new (setR_fresh X.w)
  obtain ⟨H3, hH3⟩ : ∃ H3, H3 = upd H2 D (SetO X.w D (fun _ => false) 0) := ⟨_, rfl⟩
  rw [← hH3] at w0 I3
  have f3 : ∀ b ∈ fp, FpOk X pins H3 b ∧ b < s3.heap.objs.size := fun b hb => by
    obtain ⟨o, e, _⟩ := T.obj _ _ st2 b hb
    have lt := Heap.lt_size e
    refine ⟨⟨?_, (f2 b hb).2⟩, by rw [h3, Heap.size_push]; exact Nat.lt_succ_of_lt lt⟩
    rw [hH3, upd_ne (by rw [← hD]; exact Nat.ne_of_lt lt)]
    exact (f2 b hb).1
  -- the block's own context
  obtain ⟨cl, hcl⟩ : ∃ cl, cl = cellsFrom (s3.heap.objs.size + 1) sc.names (cloFrom X.env.cells sc.names []) := ⟨_, rfl⟩
  obtain ⟨ce, hce⟩ : ∃ ce, ce = compEnvC sc cl s3.heap.objs.size X.env := ⟨_, rfl⟩
  have I4 := block_start I3 ok hN f3
  have pg := hg s3 H3 s3.heap.objs.size cl fp
  have pt := ht s3 H3 s3.heap.objs.size cl fp
  have pe := he s3 H3 s3.heap.objs.size cl fp
  have pj := hi1 s3 H3 s3.heap.objs.size cl fp
  have pg1 := hg1 s3 H3 s3.heap.objs.size cl fp
  have pt1 := ht1 s3 H3 s3.heap.objs.size cl fp
  rw [← hcl] at I4
  rw [← hce] at I4 pg pt pe pj pg1 pt1
  have cL : ce.locals = s3.heap.objs.size := by
    rw [hce] <;> rfl
  obtain ⟨s4, hs4⟩ : ∃ s4 : Shared, s4 = { s3 with heap := pushCells (s3.heap.push { cls := .type "dict", data := .dict #[] }) sc.names } := ⟨_, rfl⟩
  rw [← hs4] at I4
  have st4 : tn 0 s4.heap := T.keep _ _ _ st2 fun b _ o e => by
    rw [hs4]
    exact pushCells_keeps _ _ _ _ (Heap.get?_push_of_some _ (grow b o e))
  have stat : ∀ {σ' : L2.St} {H' : Hp} {s' : Shared}, Inv (X.blk s3 H3 sc ce fp) [] σ' H' s' → (∀ b ∈ fp, H' b = none) → ∀ b ∈ fp, FpOk (X.blk s3 H3 sc ce fp) [] H' b := fun {σ' H' s'} I' hn b hb =>
    ⟨hn b hb, (I'.ok.exf b hb).1, I'.ok.exfs b hb, .inl hb, fun x c e => (I'.ok.exf b hb).2 x c e, fun p hp => absurd (show p ∈ ([] : List (Addr × Obj)) ++ [] from hp) (by simp)⟩
  let Turn : Nat → Shared → Prop := fun n t => ∃ i H', Inv (X.blk s3 H3 sc ce fp) [] (wipe σ (own.map (·.2))) H' t ∧ tn i t.heap ∧ (∀ b ∈ fp, H' b = none) ∧ W i n H'
  have loop : codeAny (model X.prog X.w) X.A (.compLoop (duo el t0 i0 t1 i1 f0 f1 sc po) 0 (.ref it) (.ref D) ce) (compPost (model X.prog X.w) X.A X.xe none (fun v t => EP X pins σ Q v t) (.ref D) s3.heap.objs.size) s4 := by
    refine duo_out (hs1 ce) Turn ?_ m0 ⟨0, H3, I4, st4, fun b hb => (f3 b hb).1.1, w0⟩
    rintro n s5 ⟨i, H5, I5, st5, n5, w5⟩
    rcases turn i n H5 w5 with ⟨stop, last⟩ | ⟨go, Nx, hNx, step⟩
    · refine thnF (T.done (X.blk s3 H3 sc ce fp) rfl rfl rfl hc i [] s5 _ H5 (fun _ _ => False) I5 (stat I5 n5) st5 stop) fun r s6 ⟨hr, I6⟩ => ?_
      subst hr
      have I7 : Inv X pins σ H5 s6 := I3.call' (ch := fp) I6.os I6.base I6.hok I6.bare fun b hb => ⟨(f3 b hb).1.2.2.2.1, (f3 b hb).1.2.1, (f3 b hb).1.2.2.2.2.1, (f3 b hb).1.2.2.2.2.2⟩
      have nC : H5 s3.heap.objs.size = none := by
        rw [← cL]
        exact I6.free
      obtain ⟨m, hn, _⟩ := I6.loc
      have hn : s6.heap.Ns s3.heap.objs.size m := by
        rw [← cL]
        exact hn
      obtain ⟨z0, z1, z2, z3, z4, z5⟩ := I3.fpOk (Nat.le_refl _) nC
      exact ⟨m, hn, fun h2 sb => ⟨.ref D, H5, I7.turned (t' := s6.toks) (fun b o hb e => (sb.2 b hb).trans e) z0 z1 z3 z4 z5, rfl, last⟩⟩
    · refine thnF (T.item (X.blk s3 H3 sc ce fp) rfl rfl rfl hc i [] s5 _ H5 (fun _ _ => False) I5 (stat I5 n5) st5 go) fun r s6 ⟨u, hr, h6⟩ => ?_
      subst hr
      refine thnF h6 fun _ s7 ⟨x, H7, I7, r7, y7, st7, n7⟩ => ?_
      refine thnF (pg.run _ s7 _ H7 x u _ (I7.pinned (stat I7 n7) (T.obj _ _ st7)) r7 (step x H7 y7)) fun _ s8 ⟨σ8, H8, I8, hw8, q8⟩ => ?_
      refine thnF (pt.run _ s8 σ8 H8 _ I8 q8) fun b s9 ⟨H9, I9, q9⟩ => ?_
      -- from slots that know what the block's start knew
      have next : ∀ {σ9 : L2.St} {t : Shared} {H' : Hp}, Inv (X.blk s3 H3 sc ce fp) ([] ++ pinsAt fp s7.heap) σ9 H' t → (wipe σ (own.map (·.2))).length = σ9.length → (∀ (j : Nat) v, (wipe σ (own.map (·.2)))[j]? = some (some v) → σ9[j]? = some (some v)) → Nx H' → ∃ m, m < n ∧ Turn m t := fun {σ9 t H'} I' el ek nx => by
        obtain ⟨m', hm, w'⟩ := hNx H' nx
        have pin : ∀ b ∈ fp, ∀ o, s7.heap.get? b = some o → t.heap.get? b = some o ∧ H' b = none := fun b hb o e =>
          ⟨(I'.pin (b, o) (List.mem_append_right _ (List.mem_append_right _ (mem_pinsAt hb e)))).1, (I'.pin (b, o) (List.mem_append_right _ (List.mem_append_right _ (mem_pinsAt hb e)))).2.1⟩
        refine ⟨m', hm, i + 1, H', (I'.unpinned (pins := [])).weak el ek, T.keep _ _ _ st7 fun b hb o e => (pin b hb o e).1, fun b hb => ?_, w'⟩
        obtain ⟨o, e, _⟩ := T.obj _ _ st7 b hb
        exact (pin b hb o e).2
      have l8 : (wipe σ (own.map (·.2))).length = σ8.length := by rw [← hw8, wipe_length]
      have k8 : ∀ (j : Nat) v, (wipe σ (own.map (·.2)))[j]? = some (some v) → σ8[j]? = some (some v) := fun j v e => by
        rw [← hw8] at e
        exact (wipe_some e).1
      have k9 : ∀ (j : Nat) v, (wipe σ (own.map (·.2)))[j]? = some (some v) → (wipe σ8 vs1)[j]? = some (some v) := fun j v e => by
        rw [← hw8] at e
        obtain ⟨e1, e2⟩ := wipe_some e
        rw [wipe_out fun z => e2 (hv j z)]
        exact e1
      cases b with
      | false =>
        simp only [Bool.false_eq_true, if_false] at q9 ⊢
        exact next I9 l8 k8 q9
      | true =>
        simp only [if_true] at q9 ⊢
        refine thnF (pj.run _ s9 σ8 H9 _ I9 q9) fun _ s10 hx => thnF hx fun _ s11 h11 => ?_
        obtain ⟨jt, gp, tm, J1, H11, rfl, I11, T1, st11, f11, W1, ⟨m1, w1⟩, turn1⟩ := h11
        have stat1 : ∀ {H' : Hp}, (∀ b ∈ gp, H' b = none) → ∀ b ∈ gp, FpOk (X.blk s3 H3 sc ce fp) ([] ++ pinsAt fp s7.heap) H' b := fun hn b hb => ⟨hn b hb, (f11 b hb).2⟩
        let Turn1 : Nat → Shared → Prop := fun k t => ∃ j H', Inv (X.blk s3 H3 sc ce fp) ([] ++ pinsAt fp s7.heap) (wipe σ8 vs1) H' t ∧ tm j t.heap ∧ (∀ b ∈ gp, H' b = none) ∧ W1 j k H'
        have inner : codeAny (model X.prog X.w) X.A (.compLoop (duo el t0 i0 t1 i1 f0 f1 sc po) 1 (.ref jt) (.ref D) ce)
            (fun r t => match r with
              | .ok _ => ∃ m, m < n ∧ Turn m t
              | .error _ => False) s11 := by
          refine duo_in Turn1 ?_ m1 ⟨0, H11, I11.weak (wipe_length _ _) (fun j v e => (wipe_some e).1), st11, fun b hb => (f11 b hb).1, w1⟩
          rintro k s12 ⟨j, H12, I12, st12, n12, w12⟩
          rcases turn1 j k H12 w12 with ⟨stop1, nx1⟩ | ⟨go1, Nx1, hNx1, step1⟩
          · refine thnF (T1.done (X.blk s3 H3 sc ce fp) rfl rfl rfl hc j _ s12 (wipe σ8 vs1) H12 (fun _ _ => False) I12 (stat1 n12) st12 stop1) fun r s13 ⟨hr, I13⟩ => ?_
            subst hr
            exact next I13 (l8.trans (wipe_length σ8 vs1).symm) k9 nx1
          · refine thnF (T1.item (X.blk s3 H3 sc ce fp) rfl rfl rfl hc j _ s12 (wipe σ8 vs1) H12 (fun _ _ => False) I12 (stat1 n12) st12 go1) fun r s13 ⟨u1, hr, h13⟩ => ?_
            subst hr
            refine thnF h13 fun _ s14 ⟨x1, H14, I14, r14, y14, st14, n14⟩ => ?_
            refine thnF (pg1.run _ s14 (wipe σ8 vs1) H14 x1 u1 _ (I14.pinned (stat1 n14) (T1.obj _ _ st14)) r14 (step1 x1 H14 y14)) fun _ s15 ⟨σ15, H15, I15, hw15, q15⟩ => ?_
            refine thnF (pt1.run _ s15 σ15 H15 _ I15 q15) fun b1 s16 ⟨H16, I16, q16⟩ => ?_
            have next1 : ∀ {t : Shared} {H' : Hp}, Inv (X.blk s3 H3 sc ce fp) (([] ++ pinsAt fp s7.heap) ++ pinsAt gp s14.heap) σ15 H' t → Nx1 H' → ∃ m, m < k ∧ Turn1 m t := fun {t H'} I' nx => by
              obtain ⟨m', hm, w'⟩ := hNx1 H' nx
              have pin : ∀ b ∈ gp, ∀ o, s14.heap.get? b = some o → t.heap.get? b = some o ∧ H' b = none := fun b hb o e =>
                ⟨(I'.pin (b, o) (List.mem_append_right _ (List.mem_append_right _ (mem_pinsAt hb e)))).1, (I'.pin (b, o) (List.mem_append_right _ (List.mem_append_right _ (mem_pinsAt hb e)))).2.1⟩
              refine ⟨m', hm, j + 1, H', I'.unpinned.weak (by rw [← hw15, wipe_length]) (fun j v e => ?_), T1.keep _ _ _ st14 fun b hb o e => (pin b hb o e).1, fun b hb => ?_, w'⟩
              · rw [← hw15] at e
                exact (wipe_some e).1
              · obtain ⟨o, e, _⟩ := T1.obj _ _ st14 b hb
                exact (pin b hb o e).2
            cases b1 with
            | false =>
              simp only [Bool.false_eq_true, if_false] at q16 ⊢
              exact next1 I16 q16
            | true =>
              simp only [if_true] at q16 ⊢
              refine thnF (pe.run _ s16 σ15 H16 _ I16 q16) fun z s17 ⟨y, H17, I17, r17, c, S, n0, ey, hD17, room, nx⟩ => ?_
              subst ey
              obtain ⟨tk, rfl⟩ := r17
              exact addI_ok (X := X.blk s3 H3 sc ce fp) I17 hD17 room fun s18 I18 => next1 I18 nx
        exact duo_begin inner (T1.self X.A 0 _ _ _ st11 inner)
  show codeAny _ _ (.compStart (duo el t0 i0 t1 i1 f0 f1 sc po) 0 (.ref it) (.ref D) (compEnvC sc (cellsFrom (s3.heap.objs.size + 1) sc.names (cloFrom X.env.cells sc.names [])) s3.heap.objs.size X.env)) _ { s3 with heap := pushCells (s3.heap.push { cls := .type "dict", data := .dict #[] }) sc.names }
  rw [← hcl, ← hce, ← hs4]
  exact codeAny_compStart_set loop (T.self X.A 0 _ _ _ st4 loop)
end
end Sx
namespace Lf
open PySem PySem.Spec PyProof.Rows L2 Sx
def compInI (ds1 : List PyData) (g1 : AGx) (ft1 : ATx) (fe : AEx) (vs1 : List Nat) (ρ1 : List A) (acc : List Int) (K : List Int → List A → Prop) : Prop := ∃ I1 : Nat → List Int → List A → Prop, I1 0 acc ρ1 ∧
  (∀ j acc1 ρ', j < ds1.length → I1 j acc1 ρ' → g1 (.d (ds1.getD j .none)) ρ' (fun ρ2 => ft1 ρ2 (fun b ρ3 => if b = true then fe ρ3 (fun a ρ4 => a.intd fun c => acc1.length < 4000 ∧ I1 (j + 1) (acc1 ++ [c]) (wipeA ρ4 vs1)) (fun _ _ => False) else I1 (j + 1) acc1 (wipeA ρ3 vs1)) fun _ _ => False) fun _ _ => False) ∧
  ∀ acc1 ρ', I1 ds1.length acc1 ρ' → K acc1 ρ'
def compRunI2 (ds : List PyData) (g : AGx) (ft : ATx) (fi1 : AIx) (g1 : AGx) (ft1 : ATx) (fe : AEx) (vs vs1 : List Nat) (ρ1 : List A) (R : Po) : Prop := ∃ I : Nat → List Int → List A → Prop, I 0 [] ρ1 ∧
  (∀ i acc ρ', i < ds.length → I i acc ρ' → g (.d (ds.getD i .none)) ρ' (fun ρ2 => ft ρ2 (fun b ρ3 => if b = true then fi1 ρ3 (fun ds1 ρ4 => compInI ds1 g1 ft1 fe vs1 (wipeA ρ4 vs1) acc fun acc1 ρ5 => I (i + 1) acc1 (wipeA ρ5 vs)) (fun _ _ => False) else I (i + 1) acc (wipeA ρ3 vs)) fun _ _ => False) fun _ _ => False) ∧
  ∀ acc ρ', I ds.length acc ρ' → AscOf acc R (wipeA ρ' vs)
def aCompAsc2 (fi : AIx) (g : AGx) (ft : ATx) (fi1 : AIx) (g1 : AGx) (ft1 : ATx) (fe : AEx) (vs vs1 : List Nat) : AEx := fun ρ R Z => fi ρ (fun ds ρ1 => compRunI2 ds g ft fi1 g1 ft1 fe vs vs1 (wipeA ρ1 vs) R) Z
section
variable {B : Bx} {K : PySem.W.Frag} {W : Wx} {w : World}
variable {tt tt1 : TT} {ft ft1 : ATx} {te : TE} {fe : AEx} {tg tg1 : TG} {fg fg1 : AGx} {wi wi1 : TI} {fi fi1 : AIx}
theorem le_compAsc2 {vs vs1 : List Nat} (hv : ∀ i ∈ vs1, i ∈ vs) (li : LI B K W wi fi) (lg : LG B K Wno tg fg) (ok : TgOk vs tg) (lt : LT B K Wno tt ft) (li1 : LI B K Wno wi1 fi1) (lg1 : LG B K Wno tg1 fg1) (ok1 : TgOk vs1 tg1) (lt1 : LT B K Wno tt1 ft1) (le : LE B K Wno te fe) :
    LE B K W (tCB (rSetAsc w) (tCons (tSi2 w wi tg tt wi1 tg1 tt1 te vs vs1) tNil)) (aCompAsc2 fi fg ft fi1 fg1 ft1 fe vs vs1) := by
  intro G0 F0 θ τ ρ σ H R Z Q hl S h q wk
  refine li G0 F0 θ τ ρ σ H _ Z _ hl S h (fun J H1 θ1 τ1 ds ρ1 h1 hl1 S1 hJ => ?_) wk
  obtain ⟨I, i0, step, last⟩ := h1
  intro D hD
  let T : List Int → List A → Hp → Prop := fun acc ρ' H => St B K G0 F0 (θ1 ++ (.sp (.si w acc) :: (θ ++ ρ'))) (τ1 ++ (some (.ref D) :: (τ ++ L2.wipe σ vs))) H
  have start : T [] (wipeA ρ1 vs) (upd H1 D (SetO w D (fun _ => false) 0)) := by
    have S2 : St B K G0 F0 ((θ1 ++ θ) ++ wipeA ρ1 vs) ((τ1 ++ τ) ++ L2.wipe σ vs) H1 := St.wipe (by simp; omega) vs (by rw [List.append_assoc, List.append_assoc]; exact S1)
    rw [List.append_assoc, List.append_assoc] at S2
    exact St.back hl1 (S2.newS (o := .si w []) rfl hD fun _ _ _ _ _ => ⟨0, by simp, Nat.le_refl _⟩)
  refine ⟨fun i m H => i + m = ds.length ∧ ∃ acc ρ', I i acc ρ' ∧ T acc ρ' H, ⟨ds.length, by omega, [], _, i0, start⟩, ?_⟩
  rintro i m H ⟨hm, acc, ρ', hi, S⟩
  obtain ⟨j1, j2⟩ := hJ _ _ H i S
  by_cases z : i < ds.length
  · obtain ⟨j3, j4⟩ := j1 z
    refine .inr ⟨j3, fun H' => ∃ acc ρ', I (i + 1) acc ρ' ∧ T acc ρ' H', fun H' ⟨acc, ρ', h1, h2⟩ => ⟨m - 1, by omega, by omega, acc, ρ', h1, h2⟩, fun x H' hy => ?_⟩
    have S2 := j4 x H' hy
    have hl2 : (θ1 ++ (.sp (.si w acc) :: θ)).length = (τ1 ++ (some (V.ref D) :: τ)).length := by simp; omega
    have S3 : St B K G0 F0 (.d (ds.getD i .none) :: ((θ1 ++ (.sp (.si w acc) :: θ)) ++ ρ')) (some x :: ((τ1 ++ (some (V.ref D) :: τ)) ++ L2.wipe σ vs)) H' := by
      rw [List.append_assoc, List.append_assoc]
      exact S2
    refine ok x (L2.wipe σ vs) (L2.wipe σ vs) H' _ _ (wipe_wipe σ vs) (lg G0 F0 (θ1 ++ (.sp (.si w acc) :: θ)) (τ1 ++ (some (V.ref D) :: τ)) ρ' (L2.wipe σ vs) H' _ x _ _ (fun σ2 H2 => ∀ e : L2.wipe σ2 vs = L2.wipe σ vs, tt σ2 H2 fun b H3 => if b = true then wi1 σ2 H3 (fun J1 H4 => ∃ W1 : Nat → Nat → Hp → Prop, (∃ m, W1 0 m H4) ∧ ∀ j k H, W1 j k H →
      (J1.stop j H ∧ ∃ acc ρ', I (i + 1) acc ρ' ∧ T acc ρ' H) ∨ (J1.go j H ∧ ∃ Nx1 : Hp → Prop, (∀ H', Nx1 H' → ∃ k', k' < k ∧ W1 (j + 1) k' H') ∧ ∀ x H', J1.yld j H x H' → tg1 x (wipe σ2 vs1) H' fun σ3 H5 => wipe σ3 vs1 = wipe σ2 vs1 ∧ tt1 σ3 H5 fun b H6 =>
        if b = true then te σ3 H6 fun y H7 => ∃ (c : Int) (S : Int → Bool) (n : Nat), y = .int c ∧ H7 D = some (SetO w D S n) ∧ n + 1 < scanBound ∧ Nx1 (upd H7 D (SetO w D (fun j => S j || decide (j = c)) (if S c = true then n else n + 1))) else Nx1 H6)) else ∃ acc ρ', I (i + 1) acc ρ' ∧ T acc ρ' H3) hl2 S3 (step i acc ρ' z hi) (fun ρ2 σ2 H2 h2 S4 e2 => ?_) wno_ok) fun σ2 H2 e2 q2 => ⟨e2, q2 e2⟩
    refine lt G0 F0 _ _ ρ2 σ2 H2 _ _ _ hl2 S4 h2 (fun b H3 ρ3 h3 S5 => ?_) wno_ok
    cases b with
    | false =>
      refine ⟨acc, wipeA ρ3 vs, h3, ?_⟩
      have S6 := St.wipe hl2 vs S5
      rw [e2, List.append_assoc, List.append_assoc] at S6
      exact S6
    | true =>
      refine li1 G0 F0 _ _ ρ3 σ2 H3 _ _ _ hl2 S5 h3 (fun J1 H4 θ2 τ2 ds1 ρ4 h4 hl3 S6 hJ1 => ?_) wno_ok
      obtain ⟨I1, k0, step1, last1⟩ := h4
      let T1 : List Int → List A → Hp → Prop := fun acc1 ρ' H => St B K G0 F0 ((θ2 ++ θ1) ++ (.sp (.si w acc1) :: (θ ++ ρ'))) ((τ2 ++ τ1) ++ (some (.ref D) :: (τ ++ L2.wipe σ2 vs1))) H
      have start1 : T1 acc (wipeA ρ4 vs1) H4 := by
        have S7 : St B K G0 F0 ((θ2 ++ (θ1 ++ (.sp (.si w acc) :: θ))) ++ wipeA ρ4 vs1) ((τ2 ++ (τ1 ++ (some (V.ref D) :: τ))) ++ L2.wipe σ2 vs1) H4 := St.wipe (by simp only [List.length_append, List.length_cons]; omega) vs1 (by simpa only [List.append_assoc, List.cons_append] using S6)
        show St B K G0 F0 ((θ2 ++ θ1) ++ (.sp (.si w acc) :: (θ ++ wipeA ρ4 vs1))) ((τ2 ++ τ1) ++ (some (.ref D) :: (τ ++ L2.wipe σ2 vs1))) H4
        simpa only [List.append_assoc, List.cons_append] using S7
      refine ⟨fun j k H => j + k = ds1.length ∧ ∃ acc1 ρ', I1 j acc1 ρ' ∧ T1 acc1 ρ' H, ⟨ds1.length, by omega, acc, _, k0, start1⟩, ?_⟩
      rintro j k H5 ⟨hk, acc1, ρ5, hj, S7⟩
      have S7' : St B K G0 F0 (θ2 ++ (θ1 ++ (.sp (.si w acc1) :: (θ ++ ρ5)))) (τ2 ++ (τ1 ++ (some (.ref D) :: (τ ++ L2.wipe σ2 vs1)))) H5 := by
        have S7 : St B K G0 F0 ((θ2 ++ θ1) ++ (.sp (.si w acc1) :: (θ ++ ρ5))) ((τ2 ++ τ1) ++ (some (.ref D) :: (τ ++ L2.wipe σ2 vs1))) H5 := S7
        rw [List.append_assoc, List.append_assoc] at S7
        exact S7
      obtain ⟨j5, j6⟩ := hJ1 _ _ H5 j S7'
      by_cases z1 : j < ds1.length
      · obtain ⟨j7, j8⟩ := j5 z1
        refine .inr ⟨j7, fun H' => ∃ acc1 ρ', I1 (j + 1) acc1 ρ' ∧ T1 acc1 ρ' H', fun H' ⟨a, r, h1, h2⟩ => ⟨k - 1, by omega, by omega, a, r, h1, h2⟩, fun x1 H6 hy1 => ?_⟩
        have S8 := j8 x1 H6 hy1
        have hl5 : (θ2 ++ θ1).length = (τ2 ++ τ1).length := by rw [List.length_append, List.length_append, hl3, hl1]
        have hl4 : ((θ2 ++ θ1) ++ (.sp (.si w acc1) :: θ)).length = ((τ2 ++ τ1) ++ (some (V.ref D) :: τ)).length := by
          simp only [List.length_append, List.length_cons]
          omega
        have S9 : St B K G0 F0 (.d (ds1.getD j .none) :: (((θ2 ++ θ1) ++ (.sp (.si w acc1) :: θ)) ++ ρ5)) (some x1 :: (((τ2 ++ τ1) ++ (some (V.ref D) :: τ)) ++ L2.wipe σ2 vs1)) H6 := by
          simpa only [List.append_assoc, List.cons_append] using S8
        refine ok1 x1 (L2.wipe σ2 vs1) (L2.wipe σ2 vs1) H6 _ _ (wipe_wipe σ2 vs1) (lg1 G0 F0 _ _ ρ5 (L2.wipe σ2 vs1) H6 _ x1 _ _ (fun σ3 H7 => ∀ e : L2.wipe σ3 vs1 = L2.wipe σ2 vs1, tt1 σ3 H7 fun b H8 => if b = true then te σ3 H8 fun y H9 => ∃ (c : Int) (S : Int → Bool) (n : Nat), y = .int c ∧ H9 D = some (SetO w D S n) ∧ n + 1 < scanBound ∧ (∃ acc1 ρ', I1 (j + 1) acc1 ρ' ∧ T1 acc1 ρ' (upd H9 D (SetO w D (fun j => S j || decide (j = c)) (if S c = true then n else n + 1)))) else ∃ acc1 ρ', I1 (j + 1) acc1 ρ' ∧ T1 acc1 ρ' H8) hl4 S9 (step1 j acc1 ρ5 z1 hj) (fun ρ6 σ3 H7 h6 S10 e3 => ?_) wno_ok) fun σ3 H7 e3 q3 => ⟨e3, q3 e3⟩
        refine lt1 G0 F0 _ _ ρ6 σ3 H7 _ _ _ hl4 S10 h6 (fun b H8 ρ7 h7 S11 => ?_) wno_ok
        cases b with
        | false =>
          refine ⟨acc1, wipeA ρ7 vs1, h7, ?_⟩
          have S12 := St.wipe hl4 vs1 S11
          rw [e3] at S12
          show St B K G0 F0 ((θ2 ++ θ1) ++ (.sp (.si w acc1) :: (θ ++ wipeA ρ7 vs1))) ((τ2 ++ τ1) ++ (some (.ref D) :: (τ ++ L2.wipe σ2 vs1))) H8
          simpa only [List.append_assoc, List.cons_append] using S12
        | true =>
          refine le G0 F0 _ _ ρ7 σ3 H8 _ _ _ hl4 S11 h7 (fun y H9 a ρ8 h8 S12 => ?_) wno_ok
          obtain ⟨c, rfl, few, kI⟩ := A.is_intd h8
          obtain ⟨_, hd, _⟩ := S12.open1
          obtain rfl : y = .int c := by
            cases hd with
            | int => rfl
          have S14 : St B K G0 F0 (((θ2 ++ θ1) ++ (.sp (.si w acc1) :: θ)) ++ wipeA ρ8 vs1) (((τ2 ++ τ1) ++ (some (V.ref D) :: τ)) ++ L2.wipe σ2 vs1) H9 := by
            rw [← e3]
            exact St.wipe hl4 vs1 S12.pop
          have S15 : St B K G0 F0 (.sp (.si w acc1) :: ((θ2 ++ θ1) ++ (θ ++ wipeA ρ8 vs1))) (some (V.ref D) :: ((τ2 ++ τ1) ++ (τ ++ L2.wipe σ2 vs1))) H9 := St.front (as := θ2 ++ θ1) (xs := τ2 ++ τ1) hl5 (by
            simpa only [List.append_assoc, List.cons_append] using S14)
          obtain ⟨p, u, e, eH, ⟨_, ⟨n, eu, hn⟩, _, _⟩, alt⟩ := St.alterS (o := .si w acc1) (o' := .si w (acc1 ++ [c])) rfl rfl S15
          cases e
          subst eu
          refine ⟨c, _, n, rfl, eH, Nat.lt_of_lt_of_le (show n + 1 < 4001 by omega) (by decide), acc1 ++ [c], wipeA ρ8 vs1, kI, ?_⟩
          refine St.back (as := θ2 ++ θ1) (xs := τ2 ++ τ1) hl5 (alt _ fun G F s1 s2 s3 h => ⟨_, by
            rw [show (fun j => decide (j ∈ acc1) || decide (j = c)) = fun j => decide (j ∈ acc1 ++ [c]) from funext fun j => by simp [List.mem_append]], ?_⟩)
          rw [List.length_append, List.length_singleton]
          split <;> omega
      · have hj' : j = ds1.length := by omega
        refine .inl ⟨j6 (by omega), acc1, wipeA ρ5 vs, last1 acc1 ρ5 (by rw [← hj']; exact hj), ?_⟩
        have S8 : St B K G0 F0 ((θ1 ++ (.sp (.si w acc1) :: θ)) ++ ρ5) ((τ1 ++ (some (.ref D) :: τ)) ++ L2.wipe σ2 vs1) H5 := by
          have := S7'.pops hl3
          simpa only [List.append_assoc, List.cons_append] using this
        have S9 := St.wipe (by simp; omega) vs S8
        rw [wipe_sub σ2 hv, e2] at S9
        show St B K G0 F0 (θ1 ++ (.sp (.si w acc1) :: (θ ++ wipeA ρ5 vs))) (τ1 ++ (some (.ref D) :: (τ ++ L2.wipe σ vs))) H5
        simpa only [List.append_assoc, List.cons_append] using S9
  · have hi' : i = ds.length := by omega
    refine .inl ⟨j2 (by omega), ?_⟩
    have S2 : St B K G0 F0 (.sp (.si w acc) :: (θ ++ ρ')) (some (.ref D) :: (τ ++ L2.wipe σ vs)) H := S.pops hl1
    obtain ⟨p, u, e, eH, ⟨_, ⟨n, eu, hn⟩, _, _⟩, _⟩ := St.alterS (o := .si w acc) (o' := .si w acc) rfl rfl S2
    cases e
    subst eu
    have S3 : St B K G0 F0 (θ ++ wipeA ρ' vs) (τ ++ L2.wipe (L2.wipe σ vs) vs) H := St.wipe hl vs S2.pop
    rw [wipe_wipe] at S3
    have S4 := St.wipeBack hl vs σ S3
    refine ⟨D, _, n, rfl, eH, fun ms b hp hm nb => ?_⟩
    obtain ⟨G, F, k, s⟩ := S4.ex
    exact q _ _ _ _ (last acc ρ' (by rw [← hi']; exact hi) ms hp fun k => by rw [hm k, decide_eq_true_eq]) ((opn k s).nl _ _ _ nb (dva_of_ints ms))
end
theorem aCompAsc2_e (fi : AIx) (g : AGx) (ft : ATx) (fi1 : AIx) (g1 : AGx) (ft1 : ATx) (fe : AEx) (vs vs1 : List Nat) (ρ : List A) (R : Po) (Z : Zo) : aCompAsc2 fi g ft fi1 g1 ft1 fe vs vs1 ρ R Z = fi ρ (fun ds ρ1 => compRunI2 ds g ft fi1 g1 ft1 fe vs vs1 (wipeA ρ1 vs) R) Z := rfl
theorem comp_in {ds1 : List PyData} {g1 : AGx} {fe : AEx} {vs1 : List Nat} {ρ1 : List A} {acc : List Int} {K : List Int → List A → Prop} (h : PyData → Int) (hn : acc.length + ds1.length < 4000)
    (step : ∀ d, d ∈ ds1 → ∀ J : Int → List A → Prop, J (h d) ρ1 → g1 (.d d) ρ1 (fun ρ2 => fe ρ2 (fun a ρ4 => a.intd fun c => J c (wipeA ρ4 vs1)) (fun _ _ => False)) fun _ _ => False)
    (last : K (acc ++ ds1.map h) ρ1) : compInI ds1 g1 aYes fe vs1 ρ1 acc K := by
  refine ⟨fun j acc1 ρ' => ρ' = ρ1 ∧ acc1 = acc ++ (ds1.take j).map h, ⟨rfl, by simp⟩, ?_, ?_⟩
  · rintro j acc1 ρ' hj ⟨rfl, rfl⟩
    have e : ds1[j]? = some (ds1.getD j .none) := by rw [List.getD_eq_getElem?_getD, List.getElem?_eq_getElem hj] <;> rfl
    have tk : ds1.take (j + 1) = ds1.take j ++ [ds1.getD j .none] := by rw [List.take_add_one, e] <;> rfl
    have few : (acc ++ (ds1.take j).map h).length < 4000 := by
      rw [List.length_append, List.length_map, List.length_take]
      omega
    show g1 _ _ _ _
    simp only [aYes, if_true]
    refine step _ (List.mem_of_getElem? e) (fun c ρ5 => (acc ++ (ds1.take j).map h).length < 4000 ∧ ρ5 = ρ' ∧ (acc ++ (ds1.take j).map h) ++ [c] = acc ++ (ds1.take (j + 1)).map h) ⟨few, rfl, ?_⟩
    rw [tk, List.map_append, List.append_assoc] <;> rfl
  · rintro acc1 ρ' ⟨rfl, rfl⟩
    rw [List.take_length]
    exact last
theorem comp_asc2 {ds : List PyData} {g g1 : AGx} {ft1 : ATx} {fi1 : AIx} {fe : AEx} {vs vs1 : List Nat} {ρ : List A} {R : Po} (F : PyData → List Int) (hn : (ds.flatMap F).length < 4000)
    (step : ∀ d, d ∈ ds → ∀ acc : List Int, acc.length + (F d).length < 4000 → ∀ J : List Int → List A → Prop, J (acc ++ F d) ρ → g (.d d) ρ (fun ρ2 => fi1 ρ2 (fun ds1 ρ4 => compInI ds1 g1 ft1 fe vs1 (wipeA ρ4 vs1) acc fun acc1 ρ5 => J acc1 (wipeA ρ5 vs)) fun _ _ => False) fun _ _ => False)
    (last : AscOf (ds.flatMap F) R (wipeA ρ vs)) : compRunI2 ds g aYes fi1 g1 ft1 fe vs vs1 ρ R := by
  refine ⟨fun i acc ρ' => ρ' = ρ ∧ acc = (ds.take i).flatMap F, ⟨rfl, by simp⟩, ?_, ?_⟩
  · rintro i acc ρ' hi ⟨rfl, rfl⟩
    have e : ds[i]? = some (ds.getD i .none) := by rw [List.getD_eq_getElem?_getD, List.getElem?_eq_getElem hi] <;> rfl
    have tk : ds.take (i + 1) = ds.take i ++ [ds.getD i .none] := by rw [List.take_add_one, e] <;> rfl
    have ef : (ds.take (i + 1)).flatMap F = (ds.take i).flatMap F ++ F (ds.getD i .none) := by rw [tk, List.flatMap_append, List.flatMap_singleton]
    have le : ((ds.take (i + 1)).flatMap F).length ≤ (ds.flatMap F).length := by
      conv => rhs; rw [← List.take_append_drop (i + 1) ds, List.flatMap_append, List.length_append]
      omega
    rw [ef, List.length_append] at le
    simp only [aYes, if_true]
    exact step _ (List.mem_of_getElem? e) _ (by omega) (fun acc1 ρ5 => ρ5 = ρ' ∧ acc1 = (ds.take (i + 1)).flatMap F) ⟨rfl, ef.symm⟩
  · rintro acc ρ' ⟨rfl, rfl⟩
    rw [List.take_length]
    exact last
end Lf
namespace Sx
open PySem PySem.Spec PyProof.Rows L2
abbrev Cf := Ends → Addr → Value → Option Addr → L2.St → Hp → Prop
def Ends.less (D : Ends) (i : Nat) : Ends := { nx := fun σ H => D.nx (σ.set i none) H, rt := D.rt, bk := fun σ H => D.bk (σ.set i none) H, ct := fun σ H => D.ct (σ.set i none) H }
def cfN (i : Nat) (ts : Addr → Value → Option Addr → TS) : Cf := fun D a cls d σ H => ts a cls d (Ends.less D i) (σ.set i (some (.ref a))) H
def cfO (ts : Addr → Value → Option Addr → TS) : Cf := fun D a cls d σ H => ts a cls d D σ H
def Suite (X : Cx) (su : List Stmt) (ts : Addr → Value → Option Addr → TS) : Prop := ∀ (a : Addr) (oe : Obj) (cls : Value) (d : Option Addr) (pn : List (Addr × Obj)), Zc cls d oe → (∃ vs, oe.data = Data.fields vs) → PSs (X.suite a ((a, oe) :: pn)) su (ts a cls d)
inductive RowOk (X : Cx) : List ExceptHandler → List (Value × Cf) → Prop
  | nil : RowOk X [] []
  | bare {x : Str} {c : Value} {ts : Addr → Value → Option Addr → TS} {b : Stmt} {su : List Stmt} {np p : Pos} {hs : List ExceptHandler} {l : List (Value × Cf)} (hc : Names X x c) (hsu : Suite X (b :: su) ts) (r : RowOk X hs l) :
      RowOk X (.ExceptHandler (some (.Name x np)) none (b :: su) p :: hs) ((c, cfO ts) :: l)
  | name {x n : Str} {i : Nat} {c : Value} {ts : Addr → Value → Option Addr → TS} {b : Stmt} {su : List Stmt} {np p : Pos} {hs : List ExceptHandler} {l : List (Value × Cf)} (hN : X.N.Nodup) (hi : X.N[i]? = some n) (hn : X.env.kindOf n = some .local) (hc : Names X x c) (hsu : Suite X (b :: su) ts) (r : RowOk X hs l) :
      RowOk X (.ExceptHandler (some (.Name x np)) (some n) (b :: su) p :: hs) ((c, cfN i ts) :: l)
end Sx
namespace Lf
open PySem PySem.Spec PyProof.Rows L2 Sx
structure Clz where
  sb : Str → Option Bool
  i : Option Nat
  fh : Str → Addr → Option Addr → ASx
def clRun (c : Clz) (E : AE) (N : List A → Prop) (e : Ex) (ρ : List A) : Prop := match c.i with
  | none => ∀ a dd, c.fh e.cls a dd ⟨E.rt, E.bk, E.ct, fun _ _ => False⟩ N ρ
  | some i => ∀ a dd, c.fh e.cls a dd ⟨E.rt, fun ρ2 => E.bk (ρ2.set i .un), fun ρ2 => E.ct (ρ2.set i .un), fun _ _ => False⟩ (fun ρ2 => N (ρ2.set i .un)) (ρ.set i (.sp (.exc a .none dd e)))
def rowZ (E : AE) (N : List A → Prop) : List Clz → Zo
  | [] => E.ex
  | c :: cs => fun e ρ => ∃ b, c.sb e.cls = some b ∧ (b = true → clRun c E N e ρ) ∧ (b = false → rowZ E N cs e ρ)
def aTryRow (cs : List Clz) (fb : ASx) : ASx := fun E N ρ => fb { E with ex := rowZ E N cs } N ρ
inductive RowL (B : Bx) (K : PySem.W.Frag) : List (Value × Cf) → List Clz → Prop
  | nil : RowL B K [] []
  | bare {sb : Str → Option Bool} {cv : Value} {ts : Addr → Value → Option Addr → TS} {fh : Str → Addr → Option Addr → ASx} {l : List (Value × Cf)} {cs : List Clz} (hx : ∀ n b, sb n = some b → PySem.W.exmOne K (B.cn n) cv = some b)
      (lh : ∀ n, sb n = some true → ∀ a dd, LS B K Wno (ts a (B.cn n) dd) (fh n a dd)) (r : RowL B K l cs) : RowL B K ((cv, cfO ts) :: l) (⟨sb, none, fh⟩ :: cs)
  | name {sb : Str → Option Bool} {cv : Value} {i : Nat} {ts : Addr → Value → Option Addr → TS} {fh : Str → Addr → Option Addr → ASx} {l : List (Value × Cf)} {cs : List Clz} (hx : ∀ n b, sb n = some b → PySem.W.exmOne K (B.cn n) cv = some b)
      (lh : ∀ n, sb n = some true → ∀ a dd, LS B K Wno (ts a (B.cn n) dd) (fh n a dd)) (r : RowL B K l cs) : RowL B K ((cv, cfN i ts) :: l) (⟨sb, some i, fh⟩ :: cs)
theorem aTryRow_e (cs : List Clz) (fb : ASx) (E : AE) (N : List A → Prop) (ρ : List A) : aTryRow cs fb E N ρ = fb { E with ex := rowZ E N cs } N ρ := propext ⟨fun h => h, fun h => h⟩
theorem rowZ_n (E : AE) (N : List A → Prop) (e : Ex) (ρ : List A) : rowZ E N [] e ρ = E.ex e ρ := propext ⟨fun h => h, fun h => h⟩
theorem rowZ_c (E : AE) (N : List A → Prop) (c : Clz) (cs : List Clz) (e : Ex) (ρ : List A) : rowZ E N (c :: cs) e ρ = ∃ b, c.sb e.cls = some b ∧ (b = true → clRun c E N e ρ) ∧ (b = false → rowZ E N cs e ρ) := propext ⟨fun h => h, fun h => h⟩
theorem clRun_o (sb : Str → Option Bool) (fh : Str → Addr → Option Addr → ASx) (E : AE) (N : List A → Prop) (e : Ex) (ρ : List A) : clRun ⟨sb, none, fh⟩ E N e ρ = ∀ a dd, fh e.cls a dd ⟨E.rt, E.bk, E.ct, fun _ _ => False⟩ N ρ := propext ⟨fun h => h, fun h => h⟩
theorem clRun_n (sb : Str → Option Bool) (i : Nat) (fh : Str → Addr → Option Addr → ASx) (E : AE) (N : List A → Prop) (e : Ex) (ρ : List A) : clRun ⟨sb, some i, fh⟩ E N e ρ = ∀ a dd, fh e.cls a dd ⟨E.rt, fun ρ2 => E.bk (ρ2.set i .un), fun ρ2 => E.ct (ρ2.set i .un), fun _ _ => False⟩ (fun ρ2 => N (ρ2.set i .un)) (ρ.set i (.sp (.exc a .none dd e))) := propext ⟨fun h => h, fun h => h⟩
end Lf
namespace K24
open PySem PySem.Spec PyProof.Rows L2 Sx Lf
def topS (i : Nat) : Stmt := PySem.Challenge.pw_straylanes_k24_whole_told_for_all_strays.main.body.getD i (.Pass ⟨0, 0, 0, 0⟩)
abbrev s_speaking : Stmt := topS 6
theorem sc_speaking : FnScope ["word", "lane", "item"] ["word"] (defScope s_speaking) := ⟨rfl, rfl, rfl, by decide +kernel, rfl, by decide +kernel, by decide +kernel⟩
abbrev s_picks : Stmt := topS 7
theorem sc_picks : FnScope ["lanes", "many", "found", "lane", "size", "_", "lot"] ["lanes", "many"] (defScope s_picks) := ⟨rfl, rfl, rfl, by decide +kernel, rfl, by decide +kernel, by decide +kernel⟩
abbrev s_rests_of : Stmt := topS 9
theorem sc_rests_of : FnScope ["machine", "number", "modulus"] ["machine", "number"] (defScope s_rests_of) := ⟨rfl, rfl, rfl, by decide +kernel, rfl, by decide +kernel, by decide +kernel⟩
abbrev s_narrowed : Stmt := topS 11
theorem sc_narrowed : FnScope ["row", "modulus", "rest", "common", "off", "part", "skipped", "first", "step", "many"] ["row", "modulus", "rest"] (defScope s_narrowed) := ⟨rfl, rfl, rfl, by decide +kernel, rfl, by decide +kernel, by decide +kernel⟩
abbrev s_inverse_of : Stmt := topS 12
theorem sc_inverse_of : FnScope ["number", "modulus", "ahead", "rest", "ahead_times", "times", "goes"] ["number", "modulus"] (defScope s_inverse_of) := ⟨rfl, rfl, rfl, by decide +kernel, rfl, by decide +kernel, by decide +kernel⟩
abbrev s_tell : Stmt := topS 15
theorem sc_tell : FnScope ["machine", "word", "stretch", "book", "rows", "least", "turn", "first", "step", "many"] ["machine", "word", "stretch", "book"] (defScope s_tell) := ⟨rfl, rfl, rfl, by decide +kernel, rfl, by decide +kernel, by decide +kernel⟩
abbrev s_mended : Stmt := topS 16
theorem sc_mended : FnScope ["machine", "word", "stretch", "book"] ["machine", "word", "stretch", "book"] (defScope s_mended) := ⟨rfl, rfl, rfl, by decide +kernel, rfl, by decide +kernel, by decide +kernel⟩
abbrev s_nearest : Stmt := topS 17
theorem sc_nearest : FnScope ["machine", "word", "stretch", "rows", "lanes", "few", "found", "first", "_"] ["machine", "word", "stretch"] (defScope s_nearest) := ⟨rfl, rfl, rfl, by decide +kernel, rfl, by decide +kernel, by decide +kernel⟩
abbrev s_candidate_rows : Stmt := topS 18
theorem sc_candidate_rows : FnScope ["machine", "word", "stretch", "book"] ["machine", "word", "stretch", "book"] (defScope s_candidate_rows) := ⟨rfl, rfl, rfl, by decide +kernel, rfl, by decide +kernel, by decide +kernel⟩
abbrev s_rows_for : Stmt := topS 19
theorem sc_rows_for : FnScope ["rows", "lots", "found", "lanes", "row", "first", "step", "many"] ["rows", "lots"] (defScope s_rows_for) := ⟨rfl, rfl, rfl, by decide +kernel, rfl, by decide +kernel, by decide +kernel⟩
abbrev s_lots_kept : Stmt := topS 20
theorem sc_lots_kept : FnScope ["word", "book", "lanes", "lot", "lane"] ["word", "book"] (defScope s_lots_kept) := ⟨rfl, rfl, rfl, by decide +kernel, rfl, by decide +kernel, by decide +kernel⟩
abbrev s__law_deck : Stmt := topS 22
theorem sc__law_deck : FnScope ["script", "deck", "cell", "whole", "state"] ["script"] (defScope s__law_deck) := ⟨rfl, rfl, rfl, by decide +kernel, rfl, by decide +kernel, by decide +kernel⟩
abbrev s__law_draw : Stmt := topS 23
theorem sc__law_draw : FnScope ["deck", "many", "one", "two", "whole"] ["deck", "many"] (defScope s__law_draw) := ⟨rfl, rfl, rfl, by decide +kernel, rfl, by decide +kernel, by decide +kernel⟩
abbrev s__law_pick : Stmt := topS 24
theorem sc__law_pick : FnScope ["deck", "items"] ["deck", "items"] (defScope s__law_pick) := ⟨rfl, rfl, rfl, by decide +kernel, rfl, by decide +kernel, by decide +kernel⟩
abbrev s__law_mixed : Stmt := topS 25
theorem sc__law_mixed : FnScope ["deck", "items", "left", "found"] ["deck", "items"] (defScope s__law_mixed) := ⟨rfl, rfl, rfl, by decide +kernel, rfl, by decide +kernel, by decide +kernel⟩
abbrev s__law_divisor : Stmt := topS 26
theorem sc__law_divisor : FnScope ["one", "other"] ["one", "other"] (defScope s__law_divisor) := ⟨rfl, rfl, rfl, by decide +kernel, rfl, by decide +kernel, by decide +kernel⟩
abbrev s__law_span : Stmt := topS 27
theorem sc__law_span : FnScope ["machine", "lanes", "found", "lane"] ["machine", "lanes"] (defScope s__law_span) := ⟨rfl, rfl, rfl, by decide +kernel, rfl, by decide +kernel, by decide +kernel⟩
abbrev s__law_machine : Stmt := topS 28
theorem sc__law_machine : FnScope ["deck", "lanes", "top", "way", "least", "common", "own", "lane"] ["deck", "lanes", "top"] (defScope s__law_machine) := ⟨rfl, rfl, rfl, by decide +kernel, rfl, by decide +kernel, by decide +kernel⟩
abbrev s__law_rests : Stmt := topS 29
theorem sc__law_rests : FnScope ["machine", "number", "modulus"] ["machine", "number"] (defScope s__law_rests) := ⟨rfl, rfl, rfl, by decide +kernel, rfl, by decide +kernel, by decide +kernel⟩
abbrev s__law_astray : Stmt := topS 30
theorem sc__law_astray : FnScope ["machine", "word", "number", "pairs", "lane", "modulus", "rest"] ["machine", "word", "number"] (defScope s__law_astray) := ⟨rfl, rfl, rfl, by decide +kernel, rfl, by decide +kernel, by decide +kernel⟩
abbrev s__law_lot : Stmt := topS 31
theorem sc__law_lot : FnScope ["deck", "lanes", "size"] ["deck", "lanes"] (defScope s__law_lot) := ⟨rfl, rfl, rfl, by decide +kernel, rfl, by decide +kernel, by decide +kernel⟩
abbrev s__law_book : Stmt := topS 32
theorem sc__law_book : FnScope ["deck", "lanes", "found", "turn", "lot"] ["deck", "lanes"] (defScope s__law_book) := ⟨rfl, rfl, rfl, by decide +kernel, rfl, by decide +kernel, by decide +kernel⟩
abbrev s__law_wholes : Stmt := topS 34
theorem sc__law_wholes : FnScope ["book", "lanes", "found", "turn", "fresh", "lot", "lane"] ["book", "lanes"] (defScope s__law_wholes) := ⟨rfl, rfl, rfl, by decide +kernel, rfl, by decide +kernel, by decide +kernel⟩
abbrev s__law_reach : Stmt := topS 35
theorem sc__law_reach : FnScope ["machine", "right", "seen", "still", "one", "lanes", "best", "other", "third", "left", "span", "lane"] ["machine", "right", "seen", "still"] (defScope s__law_reach) := ⟨rfl, rfl, rfl, by decide +kernel, rfl, by decide +kernel, by decide +kernel⟩
abbrev s__law_words : Stmt := topS 36
theorem sc__law_words : FnScope ["deck", "machine", "number", "lot", "still", "most", "found", "lane", "rows", "row", "fresh", "rest"] ["deck", "machine", "number", "lot", "still", "most"] (defScope s__law_words) := ⟨rfl, rfl, rfl, by decide +kernel, rfl, by decide +kernel, by decide +kernel⟩
abbrev s__law_told : Stmt := topS 37
theorem sc__law_told : FnScope ["machine", "word", "stretch", "book", "is_named", "told"] ["machine", "word", "stretch", "book", "is_named"] (defScope s__law_told) := ⟨rfl, rfl, rfl, by decide +kernel, rfl, by decide +kernel, by decide +kernel⟩
abbrev s_law : Stmt := topS 38
theorem sc_law : FnScope ["script", "deck", "asked", "turn", "lanes", "still", "most", "many", "low", "stretch", "number", "machine", "book", "lot", "silent", "due", "word", "kept", "few"] ["script"] (defScope s_law) := ⟨rfl, rfl, rfl, by decide +kernel, rfl, by decide +kernel, by decide +kernel⟩
abbrev s_Unsure___init__ : Stmt := inClass (topS 3) 0
theorem sc_Unsure___init__ : FnScope ["self", "numbers"] ["self", "numbers"] (defScope s_Unsure___init__) := ⟨rfl, rfl, rfl, by decide +kernel, rfl, by decide +kernel, by decide +kernel⟩
abbrev s_AgreeingRows___init__ : Stmt := inClass (topS 13) 0
theorem sc_AgreeingRows___init__ : FnScope ["self", "machine", "word", "stretch", "low", "high"] ["self", "machine", "word", "stretch"] (defScope s_AgreeingRows___init__) := ⟨rfl, rfl, rfl, by decide +kernel, rfl, by decide +kernel, by decide +kernel⟩
abbrev s_AgreeingRows_row : Stmt := inClass (topS 13) 1
theorem sc_AgreeingRows_row : FnScope ["self", "lanes", "found"] ["self", "lanes"] (defScope s_AgreeingRows_row) := ⟨rfl, rfl, rfl, by decide +kernel, rfl, by decide +kernel, by decide +kernel⟩
structure Adr where
  f_speaking : Addr
  d_speaking : FuncData
  f_picks : Addr
  d_picks : FuncData
  f_rests_of : Addr
  d_rests_of : FuncData
  f_narrowed : Addr
  d_narrowed : FuncData
  f_inverse_of : Addr
  d_inverse_of : FuncData
  f_tell : Addr
  d_tell : FuncData
  f_mended : Addr
  d_mended : FuncData
  f_nearest : Addr
  d_nearest : FuncData
  f_candidate_rows : Addr
  d_candidate_rows : FuncData
  f_rows_for : Addr
  d_rows_for : FuncData
  f_lots_kept : Addr
  d_lots_kept : FuncData
  f__law_deck : Addr
  d__law_deck : FuncData
  f__law_draw : Addr
  d__law_draw : FuncData
  f__law_pick : Addr
  d__law_pick : FuncData
  f__law_mixed : Addr
  d__law_mixed : FuncData
  f__law_divisor : Addr
  d__law_divisor : FuncData
  f__law_span : Addr
  d__law_span : FuncData
  f__law_machine : Addr
  d__law_machine : FuncData
  f__law_rests : Addr
  d__law_rests : FuncData
  f__law_astray : Addr
  d__law_astray : FuncData
  f__law_lot : Addr
  d__law_lot : FuncData
  f__law_book : Addr
  d__law_book : FuncData
  f__law_wholes : Addr
  d__law_wholes : FuncData
  f__law_reach : Addr
  d__law_reach : FuncData
  f__law_words : Addr
  d__law_words : FuncData
  f__law_told : Addr
  d__law_told : FuncData
  f_law : Addr
  d_law : FuncData
  f_Unsure___init__ : Addr
  d_Unsure___init__ : FuncData
  f_AgreeingRows___init__ : Addr
  d_AgreeingRows___init__ : FuncData
  f_AgreeingRows_row : Addr
  d_AgreeingRows_row : FuncData
  C_LaneError : Addr
  C_Unsure : Addr
  C_Strayed : Addr
  C_AgreeingRows : Addr
structure Txt (K : PySem.W.Frag) (mg : Str → Option Value) (a : Adr) : Prop where
  speaking : At K mg "speaking" s_speaking ["word"] a.f_speaking a.d_speaking
  picks : At K mg "picks" s_picks ["lanes", "many"] a.f_picks a.d_picks
  rests_of : At K mg "rests_of" s_rests_of ["machine", "number"] a.f_rests_of a.d_rests_of
  narrowed : At K mg "narrowed" s_narrowed ["row", "modulus", "rest"] a.f_narrowed a.d_narrowed
  inverse_of : At K mg "inverse_of" s_inverse_of ["number", "modulus"] a.f_inverse_of a.d_inverse_of
  tell : At K mg "tell" s_tell ["machine", "word", "stretch", "book"] a.f_tell a.d_tell
  mended : At K mg "mended" s_mended ["machine", "word", "stretch", "book"] a.f_mended a.d_mended
  nearest : At K mg "nearest" s_nearest ["machine", "word", "stretch"] a.f_nearest a.d_nearest
  candidate_rows : At K mg "candidate_rows" s_candidate_rows ["machine", "word", "stretch", "book"] a.f_candidate_rows a.d_candidate_rows
  rows_for : At K mg "rows_for" s_rows_for ["rows", "lots"] a.f_rows_for a.d_rows_for
  lots_kept : At K mg "lots_kept" s_lots_kept ["word", "book"] a.f_lots_kept a.d_lots_kept
  _law_deck : At K mg "_law_deck" s__law_deck ["script"] a.f__law_deck a.d__law_deck
  _law_draw : At K mg "_law_draw" s__law_draw ["deck", "many"] a.f__law_draw a.d__law_draw
  _law_pick : At K mg "_law_pick" s__law_pick ["deck", "items"] a.f__law_pick a.d__law_pick
  _law_mixed : At K mg "_law_mixed" s__law_mixed ["deck", "items"] a.f__law_mixed a.d__law_mixed
  _law_divisor : At K mg "_law_divisor" s__law_divisor ["one", "other"] a.f__law_divisor a.d__law_divisor
  _law_span : At K mg "_law_span" s__law_span ["machine", "lanes"] a.f__law_span a.d__law_span
  _law_machine : At K mg "_law_machine" s__law_machine ["deck", "lanes", "top"] a.f__law_machine a.d__law_machine
  _law_rests : At K mg "_law_rests" s__law_rests ["machine", "number"] a.f__law_rests a.d__law_rests
  _law_astray : At K mg "_law_astray" s__law_astray ["machine", "word", "number"] a.f__law_astray a.d__law_astray
  _law_lot : At K mg "_law_lot" s__law_lot ["deck", "lanes"] a.f__law_lot a.d__law_lot
  _law_book : At K mg "_law_book" s__law_book ["deck", "lanes"] a.f__law_book a.d__law_book
  _law_wholes : At K mg "_law_wholes" s__law_wholes ["book", "lanes"] a.f__law_wholes a.d__law_wholes
  _law_reach : At K mg "_law_reach" s__law_reach ["machine", "right", "seen", "still"] a.f__law_reach a.d__law_reach
  _law_words : At K mg "_law_words" s__law_words ["deck", "machine", "number", "lot", "still", "most"] a.f__law_words a.d__law_words
  _law_told : At K mg "_law_told" s__law_told ["machine", "word", "stretch", "book", "is_named"] a.f__law_told a.d__law_told
  law : At K mg "law" s_law ["script"] a.f_law a.d_law
  b_abs : mg "abs" = none
  b_enumerate : mg "enumerate" = none
  b_int : mg "int" = none
  b_isinstance : mg "isinstance" = none
  b_len : mg "len" = none
  b_list : mg "list" = none
  b_max : mg "max" = none
  b_min : mg "min" = none
  b_range : mg "range" = none
  b_repr : mg "repr" = none
  b_reversed : mg "reversed" = none
  b_sorted : mg "sorted" = none
  b_tuple : mg "tuple" = none
  b_zip : mg "zip" = none
  i_gcd : mg "gcd" = some (.builtin "math.gcd")
  Unsure___init__ : AtM K "__init__" "Unsure.__init__" s_Unsure___init__ ["self", "numbers"] a.f_Unsure___init__ a.d_Unsure___init__
  AgreeingRows___init__ : AtM K "__init__" "AgreeingRows.__init__" s_AgreeingRows___init__ ["self", "machine", "word", "stretch"] a.f_AgreeingRows___init__ a.d_AgreeingRows___init__
  AgreeingRows_row : AtM K "row" "AgreeingRows.row" s_AgreeingRows_row ["self", "lanes"] a.f_AgreeingRows_row a.d_AgreeingRows_row
  m_LaneError : mg "LaneError" = some (.ref a.C_LaneError)
  bx_LaneError : PySem.W.subIn K (.ref a.C_LaneError) (.type "BaseException") = some true
  ty_LaneError : PySem.W.typeIn K (.ref a.C_LaneError) = some (.type "type")
  m_Unsure : mg "Unsure" = some (.ref a.C_Unsure)
  kp_Unsure : PySem.W.keepIn K (.ref a.C_Unsure) = true
  bx_Unsure : PySem.W.subIn K (.ref a.C_Unsure) (.type "BaseException") = some true
  ty_Unsure : PySem.W.typeIn K (.ref a.C_Unsure) = some (.type "type")
  ox_Unsure : OexC K a.C_Unsure
  in_Unsure : PySem.W.findIn K (.ref a.C_Unsure) "__init__" = some (some (.ref a.f_Unsure___init__))
  fi_Unsure : PySem.W.typeIn K (.ref a.f_Unsure___init__) = some (.type "function")
  na_Unsure_numbers : PySem.W.findIn K (.ref a.C_Unsure) "numbers" = some none
  xf_Unsure : XfC K a.C_Unsure
  m_Strayed : mg "Strayed" = some (.ref a.C_Strayed)
  kp_Strayed : PySem.W.keepIn K (.ref a.C_Strayed) = true
  bx_Strayed : PySem.W.subIn K (.ref a.C_Strayed) (.type "BaseException") = some true
  ty_Strayed : PySem.W.typeIn K (.ref a.C_Strayed) = some (.type "type")
  xi_Strayed : PySem.W.excIn K a.C_Strayed [.type "ValueError", .type "Exception", .type "BaseException", .type "object"] "ValueError.__new__" = true
  m_AgreeingRows : mg "AgreeingRows" = some (.ref a.C_AgreeingRows)
  cl_AgreeingRows : Cls K a.C_AgreeingRows
  mk_AgreeingRows : Mk K a.C_AgreeingRows a.f_AgreeingRows___init__
  me_AgreeingRows_row : Meth K a.C_AgreeingRows "row" a.f_AgreeingRows_row
  na_AgreeingRows_machine : NoAttr K a.C_AgreeingRows "machine"
  na_AgreeingRows_word : NoAttr K a.C_AgreeingRows "word"
  na_AgreeingRows_known : NoAttr K a.C_AgreeingRows "known"
  ex_Strayed_LaneError : PySem.W.exmOne K (.ref a.C_Strayed) (.ref a.C_LaneError) = some true
  ex_Unsure_LaneError : PySem.W.exmOne K (.ref a.C_Unsure) (.ref a.C_LaneError) = some true
def nmOf (a : Adr) : Str → Value := fun n => if n = "Strayed" then .ref a.C_Strayed else if n = "Unsure" then .ref a.C_Unsure else .none
theorem nm_Strayed (a : Adr) : nmOf a "Strayed" = .ref a.C_Strayed := if_pos rfl
theorem nm_Unsure (a : Adr) : nmOf a "Unsure" = .ref a.C_Unsure := (if_neg (by decide +kernel)).trans <| if_pos rfl
def sb_LaneError : Str → Option Bool := fun n => if n = "Strayed" then some true else if n = "Unsure" then some true else none
theorem sb_LaneError_Strayed : sb_LaneError "Strayed" = some true := if_pos rfl
theorem sb_LaneError_Unsure : sb_LaneError "Unsure" = some true := (if_neg (by decide +kernel)).trans <| if_pos rfl
theorem ex_LaneError {K : PySem.W.Frag} {mg : Str → Option Value} {a : Adr} {B : Bx} (T : Txt K mg a) (hnm : B.cn = nmOf a) : ∀ n b, sb_LaneError n = some b → PySem.W.exmOne K (B.cn n) (.ref a.C_LaneError) = some b := by
  intro n b h
  rw [hnm]
  unfold sb_LaneError at h
  split at h
  · rename_i e
    subst e
    cases h
    rw [nm_Strayed]
    exact T.ex_Strayed_LaneError
  split at h
  · rename_i e
    subst e
    cases h
    rw [nm_Unsure]
    exact T.ex_Unsure_LaneError
  cases h
section
variable {P : Program} {w : World} {K : PySem.W.Frag} {mg : Str → Option Value} {base : Heap} {a : Adr}
def g_mended_book_stretch_word_machine {α : Type} (us ws : List α) : List α := match us, ws with
  | [], [z0, z1, z2, z3] => [z3, z2, z1, z0]
  | _, _ => []
theorem kb_mended_book_stretch_word_machine (T : Txt K mg a) : KBinds K a.d_mended ["machine", "word", "stretch", "book"] ["book", "stretch", "word", "machine"] (g_mended_book_stretch_word_machine (α := Value)) (g_mended_book_stretch_word_machine (α := V)) := by
  refine Sx.Fun.kb T.mended.F (fun _ _ _ _ _ _ us ws hl => ?_) (fun r1 r2 => ?_)
  · unfold g_mended_book_stretch_word_machine at hl ⊢
    split at hl
    · rfl
    · exact absurd hl (by decide)
  · unfold g_mended_book_stretch_word_machine
    cases r1 with
    | nil =>
      cases r2 with
      | nil => exact .nil
      | cons q0 r2 =>
        cases r2 with
        | nil => exact .nil
        | cons q1 r2 =>
          cases r2 with
          | nil => exact .nil
          | cons q2 r2 =>
            cases r2 with
            | nil => exact .nil
            | cons q3 r2 =>
              cases r2 with
              | nil =>
                exact (.cons q3 (.cons q2 (.cons q1 (.cons q0 .nil))))
              | cons _ _ => exact .nil
    | cons _ _ => exact .nil
theorem kw_mended_book_stretch_word_machine : KwOk 0 4 (g_mended_book_stretch_word_machine (α := A)) (g_mended_book_stretch_word_machine (α := V)) := by
  intro as zs vs ws h1 h2 h3 h4
  match as, zs, vs, ws, h1, h2, h3, h4 with
  | [], [z0, z1, z2, z3], [], [w0, w1, w2, w3], _, _, _, _ =>
  refine ⟨rfl, by
    intro a ha
    simp only [g_mended_book_stretch_word_machine, List.mem_cons, List.mem_nil_iff, or_false] at ha ⊢
    rcases ha with rfl | rfl | rfl | rfl <;> simp, fun i hi => ?_⟩
  · match i, hi with
    | 0, _ => exact ⟨3, rfl, rfl⟩
    | 1, _ => exact ⟨2, rfl, rfl⟩
    | 2, _ => exact ⟨1, rfl, rfl⟩
    | 3, _ => exact ⟨0, rfl, rfl⟩
    | i + 4, hi => exact absurd (show i + 4 < 4 from hi) (by omega)
def g_nearest_stretch_word_machine {α : Type} (us ws : List α) : List α := match us, ws with
  | [], [z0, z1, z2] => [z2, z1, z0]
  | _, _ => []
theorem kb_nearest_stretch_word_machine (T : Txt K mg a) : KBinds K a.d_nearest ["machine", "word", "stretch"] ["stretch", "word", "machine"] (g_nearest_stretch_word_machine (α := Value)) (g_nearest_stretch_word_machine (α := V)) := by
  refine Sx.Fun.kb T.nearest.F (fun _ _ _ _ _ _ us ws hl => ?_) (fun r1 r2 => ?_)
  · unfold g_nearest_stretch_word_machine at hl ⊢
    split at hl
    · rfl
    · exact absurd hl (by decide)
  · unfold g_nearest_stretch_word_machine
    cases r1 with
    | nil =>
      cases r2 with
      | nil => exact .nil
      | cons q0 r2 =>
        cases r2 with
        | nil => exact .nil
        | cons q1 r2 =>
          cases r2 with
          | nil => exact .nil
          | cons q2 r2 =>
            cases r2 with
            | nil =>
              exact (.cons q2 (.cons q1 (.cons q0 .nil)))
            | cons _ _ => exact .nil
    | cons _ _ => exact .nil
theorem kw_nearest_stretch_word_machine : KwOk 0 3 (g_nearest_stretch_word_machine (α := A)) (g_nearest_stretch_word_machine (α := V)) := by
  intro as zs vs ws h1 h2 h3 h4
  match as, zs, vs, ws, h1, h2, h3, h4 with
  | [], [z0, z1, z2], [], [w0, w1, w2], _, _, _, _ =>
  refine ⟨rfl, by
    intro a ha
    simp only [g_nearest_stretch_word_machine, List.mem_cons, List.mem_nil_iff, or_false] at ha ⊢
    rcases ha with rfl | rfl | rfl <;> simp, fun i hi => ?_⟩
  · match i, hi with
    | 0, _ => exact ⟨2, rfl, rfl⟩
    | 1, _ => exact ⟨1, rfl, rfl⟩
    | 2, _ => exact ⟨0, rfl, rfl⟩
    | i + 3, hi => exact absurd (show i + 3 < 3 from hi) (by omega)
def g_tell_book_stretch_word_machine {α : Type} (us ws : List α) : List α := match us, ws with
  | [], [z0, z1, z2, z3] => [z3, z2, z1, z0]
  | _, _ => []
theorem kb_tell_book_stretch_word_machine (T : Txt K mg a) : KBinds K a.d_tell ["machine", "word", "stretch", "book"] ["book", "stretch", "word", "machine"] (g_tell_book_stretch_word_machine (α := Value)) (g_tell_book_stretch_word_machine (α := V)) := by
  refine Sx.Fun.kb T.tell.F (fun _ _ _ _ _ _ us ws hl => ?_) (fun r1 r2 => ?_)
  · unfold g_tell_book_stretch_word_machine at hl ⊢
    split at hl
    · rfl
    · exact absurd hl (by decide)
  · unfold g_tell_book_stretch_word_machine
    cases r1 with
    | nil =>
      cases r2 with
      | nil => exact .nil
      | cons q0 r2 =>
        cases r2 with
        | nil => exact .nil
        | cons q1 r2 =>
          cases r2 with
          | nil => exact .nil
          | cons q2 r2 =>
            cases r2 with
            | nil => exact .nil
            | cons q3 r2 =>
              cases r2 with
              | nil =>
                exact (.cons q3 (.cons q2 (.cons q1 (.cons q0 .nil))))
              | cons _ _ => exact .nil
    | cons _ _ => exact .nil
theorem kw_tell_book_stretch_word_machine : KwOk 0 4 (g_tell_book_stretch_word_machine (α := A)) (g_tell_book_stretch_word_machine (α := V)) := by
  intro as zs vs ws h1 h2 h3 h4
  match as, zs, vs, ws, h1, h2, h3, h4 with
  | [], [z0, z1, z2, z3], [], [w0, w1, w2, w3], _, _, _, _ =>
  refine ⟨rfl, by
    intro a ha
    simp only [g_tell_book_stretch_word_machine, List.mem_cons, List.mem_nil_iff, or_false] at ha ⊢
    rcases ha with rfl | rfl | rfl | rfl <;> simp, fun i hi => ?_⟩
  · match i, hi with
    | 0, _ => exact ⟨3, rfl, rfl⟩
    | 1, _ => exact ⟨2, rfl, rfl⟩
    | 2, _ => exact ⟨1, rfl, rfl⟩
    | 3, _ => exact ⟨0, rfl, rfl⟩
    | i + 4, hi => exact absurd (show i + 4 < 4 from hi) (by omega)
end
local macro_rules
  | `(tactic| simp! only [$args,*] $[$loc]?) => if args.getElems.isEmpty then `(tactic| simp only [List.isEmpty_cons,List.isEmpty_nil,ends0,ends1,wipeA,List.map,List.set,List.cons_append,List.nil_append,List.length_cons,List.length_nil,ite_true,ite_false,Bool.not_true,Bool.not_false,Bool.true_and,Bool.and_true,Bool.false_and,Bool.and_false,reduceIte,reduceCtorEq,Bool.false_eq_true,if_true,if_false,Nat.reduceAdd,Nat.reduceLeDiff,ne_eq,not_false_eq_true,eq_self,not_true_eq_false,Nat.reduceSub,Nat.reduceMul,Nat.reduceLT,Nat.reducePow,Int.reduceLE,Int.reduceLT,Int.reduceAdd,Int.reduceSub,Int.reduceMul,Int.reduceNeg,Int.reducePow,Int.reduceToNat,Int.reduceEq,Int.reduceBEq,Option.some.injEq,exists_eq_left',exists_eq_left,true_and,and_true,decide_true,decide_false,Nat.reduceBEq,Bool.or_true,Bool.true_or,Bool.or_false,Bool.false_or,aVar_e,aC_e,aRaw_e,aOp_e,aUn_e,aNot_e,aAnd_e,aOr_e,aChain_e,aTern_e,aNil_e,aCons_e,aTup_e,aLst_e,aB_e,tAndA_e,tOrA_e,tNotA_e,aCB_e,aCall_e,aCallK_e,aSl_e,aNoP_e,aCall0_e,gN_e,aNext_e,aSeq_e,aBrk_e,aCnt_e,aDrop_e,aRet_e,aRetN_e,aIfS_e,aAsg_e,aAug_e,aPar_e,aFor_e,aWhile_e,aYes_e,aIter_e,aEnum_e,aRange1_e,aRange2_e,aZip_e,aZipTL_e,aApp_e,aPopAt_e,aPop_e,aLenV_e,aIxV_e,aEqNilV_e,aTupV_e,aDnew_e,aListRg_e,aComp_e,aZip3T_e,aCallK0_e,gSetV_e,on_d,on_own,bl_b,it_i,ow_o,isOwn_o,seq_t,seq_l,seq_o,lst_l,lst_o,tup_t,same_t,same_l,one_1,fz_d,fz_r,fz_o,look_d,look_r,look_o,unA_0,unA_s,sl_0,sl_s,ons_n,ons_c,gI0_i,gI_i,gU_i,gIsN_n,gNotN_n,isNone_n,isNone_i,isNone_b,isNone_s,isNone_t,isNone_l,gEq_s,gNe_s,gIn_l,gIn_t,gNotIn_l,gNotIn_t,gIx_t,gIx_l,gCat_i,gCat_t,gCat_l,gMul_i,gMul_t,gMul_l,gCut_t,gCut_l,gP_x,intD_n,intD_b,intD_i,intD_s,intD_l,intD_t,intD_d,boolD_n,boolD_b,boolD_i,boolD_s,boolD_l,boolD_t,boolD_d,strD_n,strD_b,strD_i,strD_s,strD_l,strD_t,strD_d,tupD_n,tupD_b,tupD_i,tupD_s,tupD_l,tupD_t,tupD_d,wholeD_n,wholeD_b,wholeD_i,wholeD_s,wholeD_l,wholeD_t,wholeD_d,gLen_1,gTuple_1,gList_1,gInt_i,gInt_b,gAbs_i,gRepr_x,gAll_l,gAny_l,gSum_l,gGcd_i,gSorted_l,cDraw_1,two_1,three_1,cPick_1,gMax2_i,gMin2_i,gEqS_s,isStr_s,gNil_n,gCons_c,gT_t,gL_o,gL_l,at1_0,at2_0,at2_1,at3_0,at3_1,at3_2,cpow_e,cast_lit,abs_lit,aPart_e,gMax1_l,gMax1_t,gMin1_l,gMin1_t,gInS_t,gEqNil_t,MaxR,MinR,aLend_e,argsV_n,argsV_c,dat_d,dat_r,nl_d,gSortedT_l,gLeT_t,aInV_e,aTupRg_e,gRev_t,gStr_i,aRevI_e,aDown_e,aCompV_e,gEq_nl,gNe_nl,gEq_nt,gNe_nt,gNeNil_t,aLendX_e,intd_i,rdAll_n,rdAll_c,rd_d,rd_r,rd_o,gNilL_t,gNilL_f,aLe3_e,gNiS_t,aPar3_e,three_e,gRepF3_t,gLcm_i,aBits_e,aSortSet_e,aComp2_e,aMaxDef_e,aListRg2_e,aDNewT_e,aDNewK_e,aDGetT_e,aDInT_e,gDPutT_e,aDLenT_e,aDListT_e,aDGetK_e,aDInK_e,gDPutK_e,aDLenK_e,aDListK_e,isD_t,isD_k,dtd_o,dkd_o,keyK_i,keyK_s,keyT_t,aRaise_e,aRaise1_e,aTryAs_e,aTry_e,aXf_e,aIsX_e,aMeth_e,aNewRow_e,isRow_r,fz_row,look_row,look_rowL,look_exc,look_dt,look_dk,fz_rowL,fz_exc,aDisp1T_e,aTru_e,aTruV_e,truD_t,truD_l,truD_b,truD_n,truD_i,gEq_i,gNe_i,sb_LaneError_Strayed,sb_LaneError_Unsure,aSetAsc_e,aCompAsc_e,aDGetOrK_e,aDisp1K_e,aLez_e,twoTup_t,aRange2A_e,aDSorted_e,aCompAsc2_e,aTryRow_e,rowZ_n,rowZ_c,clRun_o,clRun_n] $[$loc]?) else `(tactic| simp only [$args,*, List.isEmpty_cons,List.isEmpty_nil,ends0,ends1,wipeA,List.map,List.set,List.cons_append,List.nil_append,List.length_cons,List.length_nil,ite_true,ite_false,Bool.not_true,Bool.not_false,Bool.true_and,Bool.and_true,Bool.false_and,Bool.and_false,reduceIte,reduceCtorEq,Bool.false_eq_true,if_true,if_false,Nat.reduceAdd,Nat.reduceLeDiff,ne_eq,not_false_eq_true,eq_self,not_true_eq_false,Nat.reduceSub,Nat.reduceMul,Nat.reduceLT,Nat.reducePow,Int.reduceLE,Int.reduceLT,Int.reduceAdd,Int.reduceSub,Int.reduceMul,Int.reduceNeg,Int.reducePow,Int.reduceToNat,Int.reduceEq,Int.reduceBEq,Option.some.injEq,exists_eq_left',exists_eq_left,true_and,and_true,decide_true,decide_false,Nat.reduceBEq,Bool.or_true,Bool.true_or,Bool.or_false,Bool.false_or,aVar_e,aC_e,aRaw_e,aOp_e,aUn_e,aNot_e,aAnd_e,aOr_e,aChain_e,aTern_e,aNil_e,aCons_e,aTup_e,aLst_e,aB_e,tAndA_e,tOrA_e,tNotA_e,aCB_e,aCall_e,aCallK_e,aSl_e,aNoP_e,aCall0_e,gN_e,aNext_e,aSeq_e,aBrk_e,aCnt_e,aDrop_e,aRet_e,aRetN_e,aIfS_e,aAsg_e,aAug_e,aPar_e,aFor_e,aWhile_e,aYes_e,aIter_e,aEnum_e,aRange1_e,aRange2_e,aZip_e,aZipTL_e,aApp_e,aPopAt_e,aPop_e,aLenV_e,aIxV_e,aEqNilV_e,aTupV_e,aDnew_e,aListRg_e,aComp_e,aZip3T_e,aCallK0_e,gSetV_e,on_d,on_own,bl_b,it_i,ow_o,isOwn_o,seq_t,seq_l,seq_o,lst_l,lst_o,tup_t,same_t,same_l,one_1,fz_d,fz_r,fz_o,look_d,look_r,look_o,unA_0,unA_s,sl_0,sl_s,ons_n,ons_c,gI0_i,gI_i,gU_i,gIsN_n,gNotN_n,isNone_n,isNone_i,isNone_b,isNone_s,isNone_t,isNone_l,gEq_s,gNe_s,gIn_l,gIn_t,gNotIn_l,gNotIn_t,gIx_t,gIx_l,gCat_i,gCat_t,gCat_l,gMul_i,gMul_t,gMul_l,gCut_t,gCut_l,gP_x,intD_n,intD_b,intD_i,intD_s,intD_l,intD_t,intD_d,boolD_n,boolD_b,boolD_i,boolD_s,boolD_l,boolD_t,boolD_d,strD_n,strD_b,strD_i,strD_s,strD_l,strD_t,strD_d,tupD_n,tupD_b,tupD_i,tupD_s,tupD_l,tupD_t,tupD_d,wholeD_n,wholeD_b,wholeD_i,wholeD_s,wholeD_l,wholeD_t,wholeD_d,gLen_1,gTuple_1,gList_1,gInt_i,gInt_b,gAbs_i,gRepr_x,gAll_l,gAny_l,gSum_l,gGcd_i,gSorted_l,cDraw_1,two_1,three_1,cPick_1,gMax2_i,gMin2_i,gEqS_s,isStr_s,gNil_n,gCons_c,gT_t,gL_o,gL_l,at1_0,at2_0,at2_1,at3_0,at3_1,at3_2,cpow_e,cast_lit,abs_lit,aPart_e,gMax1_l,gMax1_t,gMin1_l,gMin1_t,gInS_t,gEqNil_t,MaxR,MinR,aLend_e,argsV_n,argsV_c,dat_d,dat_r,nl_d,gSortedT_l,gLeT_t,aInV_e,aTupRg_e,gRev_t,gStr_i,aRevI_e,aDown_e,aCompV_e,gEq_nl,gNe_nl,gEq_nt,gNe_nt,gNeNil_t,aLendX_e,intd_i,rdAll_n,rdAll_c,rd_d,rd_r,rd_o,gNilL_t,gNilL_f,aLe3_e,gNiS_t,aPar3_e,three_e,gRepF3_t,gLcm_i,aBits_e,aSortSet_e,aComp2_e,aMaxDef_e,aListRg2_e,aDNewT_e,aDNewK_e,aDGetT_e,aDInT_e,gDPutT_e,aDLenT_e,aDListT_e,aDGetK_e,aDInK_e,gDPutK_e,aDLenK_e,aDListK_e,isD_t,isD_k,dtd_o,dkd_o,keyK_i,keyK_s,keyT_t,aRaise_e,aRaise1_e,aTryAs_e,aTry_e,aXf_e,aIsX_e,aMeth_e,aNewRow_e,isRow_r,fz_row,look_row,look_rowL,look_exc,look_dt,look_dk,fz_rowL,fz_exc,aDisp1T_e,aTru_e,aTruV_e,truD_t,truD_l,truD_b,truD_n,truD_i,gEq_i,gNe_i,sb_LaneError_Strayed,sb_LaneError_Unsure,aSetAsc_e,aCompAsc_e,aDGetOrK_e,aDisp1K_e,aLez_e,twoTup_t,aRange2A_e,aDSorted_e,aCompAsc2_e,aTryRow_e,rowZ_n,rowZ_c,clRun_o,clRun_n] $[$loc]?)
theorem any_int {l : List Int} {a : Int} : ((l.map PyData.int).any fun z => PyData.eqv z (.int a)) = decide (a ∈ l) := by
  induction l with
  | nil => rfl
  | cons b l ih =>
    rw [List.map_cons, List.any_cons, ih]
    show ((b == a) || decide (a ∈ l)) = _
    by_cases h : b = a
    · subst h
      rw [beq_self_eq_true, Bool.true_or]
      exact (decide_eq_true List.mem_cons_self).symm
    · rw [beq_eq_false_iff_ne.mpr h, Bool.false_or]
      exact decide_eq_decide.mpr ⟨fun z => List.mem_cons_of_mem _ z, fun z => (List.mem_cons.mp z).elim (fun e => absurd e.symm h) id⟩
theorem plain_map (l : List Int) : PyData.plainAll (l.map PyData.int) = true := plain_ints fun d hd => by
  obtain ⟨m, _, rfl⟩ := List.mem_map.mp hd
  exact ⟨m, rfl⟩
theorem depth_any (n : Nat) (i : Int) : min n (PyData.int i).depth ≤ 60 := Nat.le_trans (Nat.min_le_right _ _) (Nat.zero_le _)
theorem fm_if {p : Int → Bool} {g : Int → PyData} : ∀ l : List Int, (l.map PyData.int).filterMap (fun d => match d with | .int a => if p a = true then some (g a) else none | _ => none) = (l.filter p).map g
  | [] => rfl
  | a :: l => by
    rw [List.map_cons, List.filterMap_cons, fm_if l]
    cases h : p a with
    | true => rw [List.filter_cons_of_pos h]; simp [h]
    | false => rw [List.filter_cons_of_neg (by rw [h]; decide)]; simp [h]
def Wd (ns : List Int) (ws : List (Option Int)) : Prop := ns.length = ws.length ∧ ns.length ≤ 10 ∧ (∀ m ∈ ns, 2 ≤ m ∧ m ≤ 1000000) ∧ ∀ (i : Nat) q, ws[i]? = some (some q) → 0 ≤ q ∧ q < ns.getD i 0
def mAt (ns : List Int) (i : Nat) : Int := ns.getD i 1
def qAt (ws : List (Option Int)) (i : Nat) : Int := (ws.getD i none).getD 0
def lanesN (ws : List (Option Int)) : List Nat := (List.range ws.length).filter fun i => (ws.getD i none).isSome
def lanesI (ws : List (Option Int)) : List Int := (lanesN ws).map fun i => ((i : Nat) : Int)
def lnD (l : List Nat) : List PyData := l.map fun i => .int (i : Nat)
theorem lanes_in {ws : List (Option Int)} {i : Nat} (h : i ∈ lanesN ws) : i < ws.length ∧ ws[i]? = some (some (qAt ws i)) := by
  obtain ⟨h1, h2⟩ := List.mem_filter.mp h
  have h1 := List.mem_range.mp h1
  refine ⟨h1, ?_⟩
  have e : ws[i]? = some (ws.getD i none) := by rw [List.getD_eq_getElem?_getD, List.getElem?_eq_getElem h1] <;> rfl
  rw [e]
  unfold qAt
  obtain ⟨q, hq⟩ := Option.isSome_iff_exists.mp h2
  rw [hq] <;> rfl
theorem lanes_of {ws : List (Option Int)} {i : Nat} {q : Int} (h : ws[i]? = some (some q)) : i ∈ lanesN ws := by
  have h1 := (List.getElem?_eq_some_iff.mp h).1
  refine List.mem_filter.mpr ⟨List.mem_range.mpr h1, ?_⟩
  rw [List.getD_eq_getElem?_getD, h] <;> rfl
theorem lanes_asc (ws : List (Option Int)) : (lanesN ws).Pairwise (· < ·) := List.Pairwise.filter _ List.pairwise_lt_range
theorem lanesI_asc (ws : List (Option Int)) : (lanesI ws).Pairwise (· < ·) := by
  unfold lanesI
  rw [List.pairwise_map]
  exact (lanes_asc ws).imp fun h => by omega
theorem lanes_len (ws : List (Option Int)) : (lanesN ws).length ≤ ws.length := by
  have := List.length_filter_le (fun i => (ws.getD i none).isSome) (List.range ws.length)
  rw [List.length_range] at this
  exact this
theorem mAt_at {ns : List Int} {i : Nat} (h : i < ns.length) : atI (ns.map PyData.int) (i : Nat) = some (.int (mAt ns i)) := by
  refine atI_nat ?_
  unfold mAt
  rw [List.getElem?_map, List.getD_eq_getElem?_getD, List.getElem?_eq_getElem h] <;> rfl
theorem mAt_in {ns : List Int} {i : Nat} (h : i < ns.length) : mAt ns i ∈ ns := by
  unfold mAt
  rw [List.getD_eq_getElem?_getD, List.getElem?_eq_getElem h]
  exact List.getElem_mem h
theorem wd_at {ns : List Int} {ws : List (Option Int)} (w : Wd ns ws) {i : Nat} (h : i ∈ lanesN ws) : i < ns.length ∧ 2 ≤ mAt ns i ∧ mAt ns i ≤ 1000000 ∧ 0 ≤ qAt ws i ∧ qAt ws i < mAt ns i := by
  obtain ⟨h1, h2⟩ := lanes_in h
  have h3 : i < ns.length := by rw [w.1]; exact h1
  have h4 := w.2.2.1 _ (mAt_in h3)
  have h5 := w.2.2.2 _ _ h2
  have e : ns.getD i 0 = mAt ns i := by
    unfold mAt
    rw [List.getD_eq_getElem?_getD, List.getD_eq_getElem?_getD, List.getElem?_eq_getElem h3] <;> rfl
  rw [e] at h5
  exact ⟨h3, h4.1, h4.2, h5.1, h5.2⟩
theorem rowD_ok {r : Rw} (hr : r.ok) : Wd r.ms r.ws := ⟨hr.1, hr.2.1, hr.2.2.1, hr.2.2.2.1⟩
theorem rest_iff {x q n : Int} (h0 : 0 ≤ q) (h1 : q < n) : x % n = q ↔ n ∣ x - q := by
  have hr : q % n = q := Int.emod_eq_of_lt h0 h1
  constructor
  · intro h
    exact Int.dvd_of_emod_eq_zero (Int.emod_eq_emod_iff_emod_sub_eq_zero.mp (by rw [hr, h]))
  · intro h
    rw [← hr]
    exact Int.emod_eq_emod_iff_emod_sub_eq_zero.mpr (Int.emod_eq_zero_of_dvd h)
theorem mAt_d {ns : List Int} {i : Nat} (h : i < ns.length) (d : Int) : ns.getD i d = mAt ns i := by
  unfold mAt
  rw [List.getD_eq_getElem?_getD, List.getD_eq_getElem?_getD, List.getElem?_eq_getElem h] <;> rfl
theorem opt_list {α : Type} {n : Nat} {p : Nat → Bool} {f : Nat → α} {os : List (Option α)} (hl : os.length = n) (h : ∀ i, i < n → os.getD i none = if p i = true then some (f i) else none) : os.filterMap id = ((List.range n).filter p).map f := by
  have e : os = (List.range n).map fun i => if p i = true then some (f i) else none := by
    refine List.ext_getElem? fun i => ?_
    by_cases hi : i < n
    · have := h i hi
      rw [List.getD_eq_getElem?_getD, List.getElem?_eq_getElem (by omega)] at this
      rw [List.getElem?_eq_getElem (by omega), List.getElem?_map, List.getElem?_range hi]
      exact congrArg some this
    · rw [List.getElem?_eq_none (by omega), List.getElem?_eq_none (by rw [List.length_map, List.length_range]; omega)]
  rw [e, List.filterMap_map]
  have : (id ∘ fun i => if p i = true then some (f i) else none) = fun i => if p i = true then some (f i) else none := rfl
  rw [this]
  clear this e h hl
  induction List.range n with
  | nil => rfl
  | cons a l ih =>
    rw [List.filterMap_cons, List.filter_cons]
    cases p a
    · exact ih
    · show f a :: _ = _
      rw [ih] <;> rfl
theorem oD_s {q : Int} : oD (some q) = .int q := rfl
theorem oD_n : oD none = .none := rfl
theorem oD_at {ws : List (Option Int)} {i : Nat} (h : i < ws.length) : (ws.map oD).getD i .none = oD (ws.getD i none) := by
  rw [List.getD_eq_getElem?_getD, List.getD_eq_getElem?_getD, List.getElem?_map, List.getElem?_eq_getElem h] <;> rfl
theorem div_ok {i j : Int} (h0 : 0 < j) (h : j.natAbs ≤ 10 ^ 130) : CDivW i j := ⟨h0, by
  have : j.natAbs < 2 ^ 500 := Nat.lt_of_le_of_lt h (by decide +kernel)
  have := (Nat.log2_lt (by omega)).mpr this
  omega⟩
theorem fmod_nn {i n : Int} (h : 0 ≤ n) : i.fmod n = i % n := Int.fmod_eq_emod_of_nonneg i h
theorem gcd_pos_i {s n : Int} (h : 1 ≤ n) : 1 ≤ ((Nat.gcd s.natAbs n.natAbs : Nat) : Int) := by
  have : 0 < Nat.gcd s.natAbs n.natAbs := Nat.gcd_pos_of_pos_right _ (by omega)
  omega
theorem gcd_mod (a n : Int) : Int.gcd n (a % n) = Int.gcd n a := by
  have h : a % n = a - n * (a / n) := Int.emod_def a n
  rw [h]
  exact Int.gcd_sub_mul_left_right n a (a / n)
def InvI (a n x y u v : Int) : Prop := ∃ g p q : Int, 1 ≤ x ∧ x ≤ n ∧ 0 ≤ y ∧ y ≤ n ∧ (y = 0 → n = 1) ∧ Int.gcd x y = 1 ∧ n ∣ a * u - x ∧ n ∣ a * v - y ∧ (g = 1 ∨ g = -1) ∧ u = - g * p ∧ v = g * q ∧ 0 ≤ p ∧ 0 ≤ q ∧ p * y + q * x = n
theorem inv_start {a n : Int} (hn : 1 ≤ n) (hg : Int.gcd a n = 1) : InvI a n n (a % n) 0 1 := by
  have h0 := Int.emod_nonneg a (show n ≠ 0 by omega)
  have h1 := Int.emod_lt_of_pos a (show 0 < n by omega)
  refine ⟨1, 0, 1, hn, Int.le_refl _, h0, by omega, fun e => ?_, ?_, ⟨-1, by omega⟩, ?_, .inl rfl, by omega, by omega, by omega, by omega, by omega⟩
  · have hd : n ∣ a := Int.dvd_of_emod_eq_zero e
    have : Int.gcd a n = n.natAbs := by
      rw [Int.gcd_comm]
      exact Int.gcd_eq_left_iff_dvd (by omega) |>.mpr hd |> fun h => by omega
    omega
  · rw [gcd_mod a n, Int.gcd_comm]
    exact hg
  · rw [Int.mul_one]
    exact Int.dvd_self_sub_emod
theorem inv_step {a n x y u v : Int} (h : InvI a n x y u v) (hy : 1 < y) : InvI a n y (x - x / y * y) v (u - x / y * v) ∧ x - x / y * y < y := by
  obtain ⟨g, p, q, h1, h2, h3, h4, h5, h6, h7, h8, h9, h10, h11, h12, h13, h14⟩ := h
  have e : x - x / y * y = x % y := by
    have := Int.mul_ediv_add_emod x y
    rw [Int.mul_comm] at this
    omega
  have r0 := Int.emod_nonneg x (show y ≠ 0 by omega)
  have r1 := Int.emod_lt_of_pos x (show 0 < y by omega)
  have k0 : 0 ≤ x / y := Int.ediv_nonneg (by omega) (by omega)
  rw [e]
  refine ⟨⟨-g, q, p + x / y * q, by omega, h4, r0, by omega, fun z => ?_, ?_, h8, ?_, by omega, ?_, ?_, h13, Int.add_nonneg h12 (Int.mul_nonneg k0 h13), ?_⟩, r1⟩
  · have hd : y ∣ x := Int.dvd_of_emod_eq_zero z
    have : Int.gcd x y = y.natAbs := by
      rw [Int.gcd_comm]
      exact Int.gcd_eq_left_iff_dvd (by omega) |>.mpr hd |> fun h => by omega
    omega
  · rw [gcd_mod x y, Int.gcd_comm]
    exact h6
  · have : a * (u - x / y * v) - x % y = (a * u - x) - x / y * (a * v - y) := by
      rw [← e]
      simp only [Int.mul_sub]
      rw [← Int.mul_assoc a, Int.mul_comm a (x / y), Int.mul_assoc]
      omega
    rw [this]
    exact Int.dvd_sub h7 (Int.dvd_trans h8 (Int.dvd_mul_left _ _))
  · rw [h11]
    rcases h9 with rfl | rfl <;> omega
  · rw [h10, h11]
    rcases h9 with rfl | rfl
    · have : x / y * (1 * q) = x / y * q := by rw [Int.one_mul]
      omega
    · have : x / y * (-1 * q) = -(x / y * q) := by rw [Int.neg_mul, Int.one_mul, Int.mul_neg]
      omega
  · rw [← e, ← h14]
    simp only [Int.mul_sub, Int.add_mul]
    have : x / y * q * y = q * (x / y * y) := by rw [Int.mul_right_comm, Int.mul_comm]
    have : p * y + q * x = q * x + p * y := Int.add_comm _ _
    omega
theorem inv_small {a n x y u v : Int} (h : InvI a n x y u v) : v.natAbs ≤ n.natAbs ∧ 1 ≤ x ∧ x ≤ n ∧ 0 ≤ y := by
  obtain ⟨g, p, q, h1, h2, h3, h4, h5, h6, h7, h8, h9, h10, h11, h12, h13, h14⟩ := h
  have a1 : q ≤ q * x := by
    have := Int.mul_le_mul_of_nonneg_left h1 h13
    omega
  have a2 : 0 ≤ p * y := Int.mul_nonneg h12 h3
  have hq : q ≤ n := by omega
  refine ⟨?_, h1, h2, h3⟩
  rw [h11]
  rcases h9 with rfl | rfl <;> omega
theorem inv_end {a n x y u v : Int} (h : InvI a n x y u v) (hy : ¬ 1 < y) : n ∣ a * v - 1 := by
  obtain ⟨g, p, q, h1, h2, h3, h4, h5, h6, h7, h8, h9, h10, h11, h12, h13, h14⟩ := h
  by_cases e : y = 0
  · rw [h5 e]
    exact Int.one_dvd _
  · have : y = 1 := by omega
    rw [this] at h8
    exact h8
def isLot : PyData → List Int
  | .tuple ds => (intsD ds).getD []
  | _ => []
theorem isLot_tI (l : List Int) : isLot (tI l) = l := by
  show (intsD (l.map PyData.int)).getD [] = l
  rw [Lf.ints_map] <;> rfl
theorem div_okS {i j : Int} (h0 : 0 < j) (h : j.natAbs ≤ 10 ^ 130) : CDivW i j := ⟨h0, by
  have : j.natAbs < 2 ^ 500 := Nat.lt_of_le_of_lt h (by decide +kernel)
  have := (Nat.log2_lt (by omega)).mpr this
  omega⟩
theorem perm_ints {a b : List Int} (h : (a.map PyData.int).Perm (b.map PyData.int)) : a.Perm b := by
  have := h.filterMap fun d => match d with | .int i => some i | _ => none
  have e : ∀ l : List Int, (l.map PyData.int).filterMap (fun d => match d with | .int i => some i | _ => none) = l := fun l => by
    induction l with
    | nil => rfl
    | cons a l ih =>
      rw [List.map_cons, List.filterMap_cons]
      show a :: _ = _
      rw [ih]
  rwa [e, e] at this
theorem cutD_any (xs : List PyData) (k : Nat) : Sx.cutD xs none (some (k : Int)) = xs.take k := by
  unfold Sx.cutD
  rw [HT.sIx_none, show HT.sIx xs.length xs.length (some (k : Int)) = min k xs.length from HT.sIx_nat _ _ k, Nat.sub_zero, List.drop_zero]
  rcases Nat.le_total k xs.length with z | z
  · rw [Nat.min_eq_left z]
  · rw [Nat.min_eq_right z, List.take_length, List.take_of_length_le z]
theorem rI_asc (n : Nat) : (rI n).Pairwise (· < ·) := by
  unfold Lf.rI
  rw [List.pairwise_map]
  exact List.pairwise_lt_range.imp fun h => by omega
theorem asc_same : ∀ {a b : List Int}, a.Pairwise (· < ·) → b.Pairwise (· < ·) → (∀ m, m ∈ a ↔ m ∈ b) → a = b
  | [], [], _, _, _ => rfl
  | [], y :: b, _, _, h => nomatch (h y).mpr List.mem_cons_self
  | x :: a, [], _, _, h => nomatch (h x).mp List.mem_cons_self
  | x :: a, y :: b, h1, h2, h => by
    obtain ⟨g1, g2⟩ := List.pairwise_cons.mp h1
    obtain ⟨g3, g4⟩ := List.pairwise_cons.mp h2
    have e : x = y := by
      rcases List.mem_cons.mp ((h x).mp List.mem_cons_self) with e | e
      · exact e
      · rcases List.mem_cons.mp ((h y).mpr List.mem_cons_self) with e2 | e2
        · exact e2.symm
        · have := g3 x e
          have := g1 y e2
          omega
    subst e
    congr 1
    refine asc_same g2 g4 fun m => ⟨fun hm => ?_, fun hm => ?_⟩
    · rcases List.mem_cons.mp ((h m).mp (List.mem_cons_of_mem _ hm)) with e | e
      · have := g1 m hm
        omega
      · exact e
    · rcases List.mem_cons.mp ((h m).mpr (List.mem_cons_of_mem _ hm)) with e | e
      · have := g3 m hm
        omega
      · exact e
theorem asc_sub {n : Nat} {ns : List Int} (hm : ∀ m ∈ ns, m ∈ rI n) (h1 : ns.Pairwise (· ≤ ·)) (h2 : ns.Nodup) : ns.Sublist (rI n) := by
  have h3 : ns.Pairwise (· < ·) := by
    refine (h1.and h2).imp fun ⟨a, b⟩ => ?_
    omega
  have h4 : ((rI n).filter fun m => decide (m ∈ ns)) = ns := by
    refine asc_same ((rI_asc n).filter _) h3 fun m => ?_
    rw [List.mem_filter, decide_eq_true_eq]
    exact ⟨fun h => h.2, fun h => ⟨hm m h, h⟩⟩
  rw [← h4]
  exact List.filter_sublist
def strN (ns : List Int) (ws : List (Option Int)) (x : Int) : List Nat := (List.range ws.length).filter fun j => match ws.getD j none with
  | none => false
  | some q => q != x % ns.getD j 1
section
variable {P : Program} {w : World} {K : PySem.W.Frag} {mg : Str → Option Value} {base : Heap} {a : Adr}
theorem ok_Unsure___init__ (T : Txt K mg a) : FnOk P w K mg base CX0 2 a.f_Unsure___init__ a.d_Unsure___init__ ["self", "numbers"] (sp1 a.C_Unsure "numbers") := by
  refine T.Unsure___init__.F.ok sc_Unsure___init__ (fun vs H Q E h => ?_) (fun cdv A outer s H vs Q E hr h => ?_)
  · obtain ⟨_, _, rfl, _⟩ := h
    rfl
  · obtain ⟨x, v, rfl, hx, q⟩ := h
    refine ⟨_, pss_one (ps_ost (pv 0) (pv 1)), ?_⟩
    exact ⟨_, rfl, _, rfl, x, a.C_Unsure, rfl, T.ox_Unsure, T.na_Unsure_numbers, .inl ⟨hx, q⟩⟩
end
def c_speaking : V → Ct := fun _ as R _ => match as with
  | [.d w] => ∃ ws : List (Option Int), w = .tuple (ws.map oD) ∧ ws.length ≤ 1000 ∧ R (.d (.tuple (lnD (lanesN ws))))
  | _ => False
def b_speaking (dk : V) : ASx :=
  (aRet (aCB gTuple (aCons (aComp (aEnum (aCons (aVar 0) aNil)) (gT (gCons (gN 1) (gCons (gN 2) gNil))) (aB (aOp (gNotN) (aVar 2) (aC (.none)))) (aVar 1) [1, 2]) aNil)))
theorem l_speaking : ∀ (dk : V) (as : List A) (R : A → Prop) (Z : Ex → Prop), c_speaking dk as R Z → as.length = 1 := by
  intro dk as R Z h
  unfold c_speaking at h
  split at h
  · rfl
  · exact h.elim
theorem h_speaking : ∀ (dk : V) (as : List A) (R : A → Prop) (Z : Ex → Prop), as.length = 1 → c_speaking dk as R Z → b_speaking dk (ends0 R) (fun _ => R (.d .none)) (as ++ unA ((["word", "lane", "item"] : List Str).length - 1)) := by
  intro dk as R Z hl h
  unfold c_speaking at h
  split at h
  · rename_i w
    obtain ⟨ws, rfl, hl, h⟩ := h
    simp! only [b_speaking]
    refine comp_opt (fun i o => o = if (ws.getD i none).isSome = true then some (.int (i : Nat)) else none) (by rw [enumD_len, List.length_map]; omega) (fun i hi J hJ => ?_) fun os hlo ho => ?_
    · rw [enumD_len, List.length_map] at hi
      rw [enumD_at (by rw [List.length_map]; exact hi), oD_at hi]
      have hJ := hJ _ rfl
      cases e : ws.getD i none <;> rw [e] at hJ <;> simp! only [] <;> exact hJ
    · rw [enumD_len, List.length_map] at hlo ho
      simp! only []
      rw [opt_list hlo ho]
      exact h
  · exact h.elim
abbrev sp_speaking (K : PySem.W.Frag) : Sp := SpL K noBox c_speaking
section
variable {P : Program} {w : World} {K : PySem.W.Frag} {mg : Str → Option Value} {base : Heap} {a : Adr}
theorem ok_speaking (T : Txt K mg a) : FnOk P w K mg base CX0 1 a.f_speaking a.d_speaking ["word"] (sp_speaking K) := by
  refine T.speaking.F.ok sc_speaking (fun vs H Q E h => sp_len l_speaking h) (fun cdv A outer s H vs Q E hr h => ?_)
  have hu := hu_of hr
  exact ⟨_, (pss_one (ps_ret (pe_callTy (show CallR _ _ (rTupS K) from call_tuple_of) (by rfl) T.b_tuple (by decide +kernel) (pa_cons (pe_lc (own := [("lane", 1), ("item", 2)]) rfl sc_speaking.nd (show PI _ _ _ (iEnumA K _) from pi_enumA (by rfl) T.b_enumerate (pa_cons (pv 0) pa_nil)) (blkOk_by (N := ["word", "lane", "item"]) (sc := defScope s_speaking) (by decide +kernel)) (fun _ _ _ _ _ => (show PG _ _ (gTup K 2 _) from pg_tup rfl (pgs_cons (pg_name (i := 1) sc_speaking.nd rfl (by first | exact Or.inl rfl | exact Or.inr rfl)) (pgs_cons (pg_name (i := 2) sc_speaking.nd rfl (by first | exact Or.inl rfl | exact Or.inr rfl)) pgs_nil)))) (fun _ _ _ _ _ => (pts_one (pt_cmpR op_notN (pv 2) pe_non (nomark _)))) (fun _ _ _ _ _ => (pv 1))) pa_nil)))),
    run0 (N := ["word", "lane", "item"]) (np := 1) (f := b_speaking) h (sp_len l_speaking h) (fun dk B hb => (show LS B K Wno _ (b_speaking dk) from
      (ls_ret (le_cb cl_tuple (la_cons (le_comp (vs := [1, 2]) (li_enum (la_cons (le_var (i := 0)) la_nil)) (lg_tup (lgs_cons (lg_name (i := 1)) (lgs_cons (lg_name (i := 2)) lgs_nil)) (gC_len (gC_len gN_len))) (tg_tup (tgs_cons (tg_name (by decide)) (tgs_cons (tg_name (by decide)) tgs_nil))) (lt_test (le_op (ol_notN) (le_var (i := 2)) (le_c (y := .none) fun _ => .non))) (le_var (i := 1))) la_nil))))) h_speaking⟩
end
def rowsD (s : List Int) (k : Nat) : List PyData := (List.range (k + 1)).map fun j => .list ((pk s j).map tI)
theorem rows_at {s : List Int} {k j : Nat} (h : j ≤ k) : (rowsD s k)[j]? = some (.list ((pk s j).map tI)) := by
  unfold rowsD
  rw [List.getElem?_map, List.getElem?_range (by omega)] <;> rfl
def midD (a : Int) (s : List Int) (k j : Nat) : List PyData := (List.range (k + 1)).map fun x => .list ((if k - j < x then pk (a :: s) x else pk s x).map tI)
theorem mid_0 (a : Int) (s : List Int) (k : Nat) : midD a s k 0 = rowsD s k := by
  unfold midD rowsD
  refine List.map_congr_left fun x hx => ?_
  have := List.mem_range.mp hx
  rw [if_neg (by omega)]
theorem mid_k (a : Int) (s : List Int) (k : Nat) : midD a s k k = rowsD (a :: s) k := by
  unfold midD rowsD
  refine List.map_congr_left fun x hx => ?_
  cases x with
  | zero => rw [if_neg (by omega), pk_0, pk_0]
  | succ x => rw [if_pos (by omega)]
theorem mid_len (a : Int) (s : List Int) (k j : Nat) : (midD a s k j).length = k + 1 := by unfold midD; rw [List.length_map, List.length_range]
theorem mid_at {a : Int} {s : List Int} {k j x : Nat} (h : x ≤ k - j) (hj : j ≤ k) : (midD a s k j)[x]? = some (.list ((pk s x).map tI)) := by
  unfold midD
  rw [List.getElem?_map, List.getElem?_range (by omega)]
  show some (PyData.list ((if k - j < x then pk (a :: s) x else pk s x).map tI)) = _
  rw [if_neg (by omega)]
theorem mid_set {a : Int} {s : List Int} {k j : Nat} (hj : j < k) : (midD a s k j).set (k - j) (.list ((pk (a :: s) (k - j)).map tI)) = midD a s k (j + 1) := by
  refine List.ext_getElem? fun x => ?_
  rw [List.getElem?_set, mid_len]
  by_cases e : k - j = x
  · rw [if_pos e, if_pos (by omega), ← e]
    unfold midD
    rw [List.getElem?_map, List.getElem?_range (by omega)]
    show _ = some (PyData.list ((if k - (j + 1) < k - j then pk (a :: s) (k - j) else pk s (k - j)).map tI))
    rw [if_pos (by omega)]
  · rw [if_neg e]
    unfold midD
    rw [List.getElem?_map, List.getElem?_map]
    by_cases hx : x < k + 1
    · rw [List.getElem?_range hx]
      show some (PyData.list ((if k - j < x then pk (a :: s) x else pk s x).map tI)) = some (.list ((if k - (j + 1) < x then pk (a :: s) x else pk s x).map tI))
      by_cases q : k - j < x
      · rw [if_pos q, if_pos (by omega)]
      · rw [if_neg q, if_neg (by omega)]
    · rw [List.getElem?_eq_none (by simp; omega)] <;> rfl
def c_picks : V → Ct := fun _ as R _ => match as with
  | [.d x, .d (.int m)] => ∃ (s : List Int) (k : Nat), x = tI s ∧ m = (k : Nat) ∧ s.length ≤ 10 ∧ k ≤ 10 ∧ R (.d (.list ((pk s k).map tI)))
  | _ => False
def b_picks (dk : V) : ASx :=
  (aSeq (aAsg (aOp (gCat) (aLst (aCons (aLst (aCons (aTup aNil) aNil)) aNil)) (aComp (aRange1 (aCons (aVar 1) aNil)) (gN 5) aYes (aLst aNil) [5])) (gN 2))
      (aCut (aFor (aRevI (aCB gTuple (aCons (aVar 0) aNil))) (gN 3) (aFor (aDown (aCons (aVar 1) (aCons (aC (.int 0)) (aCons (aUn (gU fun i => .int (-i)) (aC (.int 1))) aNil)))) (gN 4) (aAsg (aOp (gCat) (aComp (aIter (aIxV 2 (aOp (gI0 fun i j => .int (i - j)) (aVar 4) (aC (.int 1))))) (gN 6) aYes (aOp (gCat) (aTup (aCons (aVar 3) aNil)) (aVar 6)) [6]) (aIxV 2 (aVar 4))) (gSetV 2 (aVar 4)))))
      (aRet (aIxV 2 (aVar 1)))))
theorem l_picks : ∀ (dk : V) (as : List A) (R : A → Prop) (Z : Ex → Prop), c_picks dk as R Z → as.length = 2 := by
  intro dk as R Z h
  unfold c_picks at h
  split at h
  · rfl
  · exact h.elim
theorem h_picks : ∀ (dk : V) (as : List A) (R : A → Prop) (Z : Ex → Prop), as.length = 2 → c_picks dk as R Z → b_picks dk (ends0 R) (fun _ => R (.d .none)) (as ++ unA ((["lanes", "many", "found", "lane", "size", "_", "lot"] : List Str).length - 2)) := by
  intro dk as R Z hl h
  unfold c_picks at h
  split at h
  · rename_i x m
    obtain ⟨s, k, rfl, rfl, hs, hk, h⟩ := h
    simp! only [b_picks, tI]
    refine ⟨by omega, by omega, comp_map (fun _ => .list []) (by rw [rangeD_len]; omega) (fun d hd J hJ => ?_) ?_⟩
    · simp! only []
      exact hJ
    simp! only []
    refine ⟨by rw [List.length_map, rangeD_len]; omega, ?_⟩
    have e0 : PyData.list [.tuple []] :: (rangeD 0 k).map (fun _ => PyData.list []) = rowsD [] k := by
      unfold rangeD rowsD
      rw [List.range_succ_eq_map, List.map_cons, List.map_map, List.map_map]
      rfl
    rw [← Int.toNat_natCast k] at e0
    rw [e0, Int.toNat_natCast]
    refine ⟨fun ρ => ∃ a b c d, ρ = [.d (tI s), .d (.int (k : Nat)), .own (rowsD s k), a, b, c, d], ?_, ?_⟩
    · simp! only []
      refine ⟨fun i ρ => ∃ a b c d, ρ = [.d (tI s), .d (.int (k : Nat)), .own (rowsD (s.drop (s.length - i)) k), a, b, c, d], ⟨_, _, _, _, by rw [Nat.sub_zero, List.drop_length] <;> rfl⟩, ?_, ?_⟩
      · rintro i ρ hi ⟨a, b, c, d, rfl⟩
        rw [List.length_reverse, List.length_map] at hi
        rw [rev_getD (by rw [List.length_map]; exact hi), List.length_map]
        have el : (s.map PyData.int).getD (s.length - 1 - i) .none = .int (s.getD (s.length - 1 - i) 0) := by
          rw [List.getD_eq_getElem?_getD, List.getElem?_map, getD_some 0 (show s.length - 1 - i < s.length by omega)] <;> rfl
        rw [el]
        have ed : s.drop (s.length - (i + 1)) = s.getD (s.length - 1 - i) 0 :: s.drop (s.length - i) := by
          have e1 : s.length - (i + 1) = s.length - 1 - i := by omega
          have e2 : s.length - 1 - i + 1 = s.length - i := by omega
          rw [e1, List.drop_eq_getElem_cons (show s.length - 1 - i < s.length by omega), e2, List.getD_eq_getElem?_getD, List.getElem?_eq_getElem (show s.length - 1 - i < s.length by omega)] <;> rfl
        have hl : (s.drop (s.length - i)).length ≤ 10 := by
          rw [List.length_drop]
          omega
        generalize s.getD (s.length - 1 - i) 0 = q at *
        generalize s.drop (s.length - i) = r at *
        simp! only []
        refine ⟨by omega, fun j ρ => ∃ b c d, ρ = [.d (tI s), .d (.int (k : Nat)), .own (midD q r k j), .d (.int q), b, c, d], ⟨_, _, _, by rw [mid_0]⟩, ?_, ?_⟩
        · rintro j ρ hj ⟨b, c, d, rfl⟩
          rw [downD_len] at hj
          have hj : j < k := by omega
          rw [downD_at (by omega)]
          simp! only []
          have a1 : atI (midD q r k j) ((k : Int) - (j : Nat) - 1) = some (.list ((pk r (k - j - 1)).map tI)) := by
            rw [show (k : Int) - (j : Nat) - 1 = ((k - j - 1 : Nat) : Int) by omega]
            exact atI_nat (mid_at (by omega) (by omega))
          have a2 : atI (midD q r k j) ((k : Int) - (j : Nat)) = some (.list ((pk r (k - j)).map tI)) := by
            rw [show (k : Int) - (j : Nat) = ((k - j : Nat) : Int) by omega]
            exact atI_nat (mid_at (by omega) (by omega))
          have p1 := pk_len r (k - j - 1)
          have p2 := pk_len r (k - j)
          have p3 : 2 ^ r.length ≤ 1024 := (show 2 ^ r.length ≤ 2 ^ 10 from Nat.pow_le_pow_right (by decide) hl)
          refine ⟨_, a1, ?_⟩
          simp! only []
          refine comp_map (fun d => match d with | .tuple ds => .tuple (.int q :: ds) | _ => .none) (by rw [List.length_map]; omega) (fun d hd J hJ => ?_) ?_
          · obtain ⟨l, hl', rfl⟩ := List.mem_map.mp hd
            have := (pk_mem r _ l).mp hl'
            simp! only [tI]
            exact ⟨by rw [List.length_map]; omega, hJ⟩
          · simp! only []
            refine ⟨_, a2, ?_⟩
            simp! only []
            refine ⟨by simp; omega, k - j, ?_, ?_⟩
            · rw [mid_len, show (k : Int) - (j : Nat) = ((k - j : Nat) : Int) by omega]
              have := Vat.ixN_in (n := k + 1) (i := ((k - j : Nat) : Int)) (by omega) (by omega)
              rw [Int.toNat_natCast] at this
              exact this
            · have e3 : ((pk r (k - j - 1)).map tI).map (fun d => match d with | .tuple ds => PyData.tuple (.int q :: ds) | _ => .none) ++ (pk r (k - j)).map tI = (pk (q :: r) (k - j)).map tI := by
                obtain ⟨x, hx⟩ : ∃ x, k - j = x + 1 := ⟨k - j - 1, by omega⟩
                rw [hx, Nat.add_sub_cancel]
                show _ = ((pk r x).map (fun l => q :: l) ++ pk r (x + 1)).map tI
                rw [List.map_append, List.map_map, List.map_map] <;> rfl
              rw [e3, mid_set hj]
              exact ⟨_, _, _, rfl⟩
        · rintro ρ ⟨b, c, d, rfl⟩
          rw [downD_len, show ((k : Int) - 0).toNat = k by omega, mid_k, ed]
          exact ⟨_, _, _, _, rfl⟩
      · rintro ρ ⟨a, b, c, d, rfl⟩
        rw [List.length_reverse, List.length_map, Nat.sub_self, List.drop_zero]
        exact ⟨_, _, _, _, rfl⟩
    · rintro ρ ⟨a, b, c, d, rfl⟩
      simp! only []
      exact ⟨_, atI_nat (rows_at (Nat.le_refl k)), h⟩
  · exact h.elim
abbrev sp_picks (K : PySem.W.Frag) : Sp := SpL K noBox c_picks
section
variable {P : Program} {w : World} {K : PySem.W.Frag} {mg : Str → Option Value} {base : Heap} {a : Adr}
theorem ok_picks (T : Txt K mg a) : FnOk P w K mg base CX0 1 a.f_picks a.d_picks ["lanes", "many"] (sp_picks K) := by
  refine T.picks.F.ok sc_picks (fun vs H Q E h => sp_len l_picks h) (fun cdv A outer s H vs Q E hr h => ?_)
  have hu := hu_of hr
  exact ⟨_, (pss_cons (ps_set (i := 2) sc_picks.nd rfl (by first | exact Or.inl rfl | exact Or.inr rfl) (pe_op (show OpR _ _ (rPlus K) from op_plus) (pe_lst (pa_cons (pe_lst (pa_cons (pe_tup pa_nil) pa_nil)) pa_nil)) (pe_lc (own := [("_", 5)]) rfl sc_picks.nd (pi_range1 rfl T.b_range (pa_cons (pv 1) pa_nil)) (blkOk_by (N := ["lanes", "many", "found", "lane", "size", "_", "lot"]) (sc := defScope s_picks) (by decide +kernel)) (fun _ _ _ _ _ => (pg_name (i := 5) sc_picks.nd rfl (by first | exact Or.inl rfl | exact Or.inr rfl))) (fun _ _ _ _ _ => pts_nil) (fun _ _ _ _ _ => (pe_lst pa_nil)))))
      (pss_cons (ps_for PassesOwn.never rfl (show PI _ _ _ (RT.iRevA K _) from RT.pi_revA (by rfl) T.b_reversed (pe_callTy (show CallR _ _ (rTupS K) from call_tuple_of) (by rfl) T.b_tuple (by decide +kernel) (pa_cons (pv 0) pa_nil))) (pg_name (i := 3) sc_picks.nd rfl (by first | exact Or.inl rfl | exact Or.inr rfl)) (pss_one (ps_for PassesOwn.never rfl (pi_range3 (by rfl) T.b_range (pa_cons (pv 1) (pa_cons pe_int (pa_cons (pe_un un_neg pe_int) pa_nil)))) (pg_name (i := 4) sc_picks.nd rfl (by first | exact Or.inl rfl | exact Or.inr rfl)) (pss_one (ps_asg (pe_op (show OpR _ _ (rPlus K) from op_plus) (pe_lc (own := [("lot", 6)]) rfl sc_picks.nd (show PI _ _ _ (iAny K _) from pi_any (pe_ix (show IxR _ (rIx K) from ix_seq) (pv 2) (pe_op op_sub (pv 4) pe_int) (fun _ _ => rfl))) (blkOk_by (N := ["lanes", "many", "found", "lane", "size", "_", "lot"]) (sc := defScope s_picks) (by decide +kernel)) (fun _ _ _ _ _ => (pg_name (i := 6) sc_picks.nd rfl (by first | exact Or.inl rfl | exact Or.inr rfl))) (fun _ _ _ _ _ => pts_nil) (fun _ _ _ _ _ => (pe_op (show OpR _ _ (rPlus K) from op_plus) (pe_tup (pa_cons (pv 3) pa_nil)) (pv 6)))) (pe_ix (show IxR _ (rIx K) from ix_seq) (pv 2) (pv 4) (fun _ _ => rfl))) (pg_sub (pv 2) (pv 4) set_list))))))
      (pss_one (ps_ret (pe_ix (show IxR _ (rIx K) from ix_seq) (pv 2) (pv 1) (fun _ _ => rfl)))))),
    run0 (N := ["lanes", "many", "found", "lane", "size", "_", "lot"]) (np := 2) (f := b_picks) h (sp_len l_picks h) (fun dk B hb => (show LS B K Wno _ (b_picks dk) from
      (ls_seq (ls_asg (le_op (ol_plus) (le_lst (la_cons (le_lst (la_cons (le_tup la_nil (by decide)) la_nil) (by decide)) la_nil) (by decide)) (le_comp (vs := [5]) (li_range1 (la_cons (le_var (i := 1)) la_nil)) (lg_name (i := 5)) (tg_name (by decide)) lt_yes (le_lst la_nil (by decide)))) (lg_name (i := 2)))
      (ls_cut (ls_for (li_rev (le_cb cl_tuple (la_cons (le_var (i := 0)) la_nil))) (lg_name (i := 3)) (ls_for (li_down (la_cons (le_var (i := 1)) (la_cons (le_c (y := .int 0) fun _ => .int _) (la_cons (le_un (ul_U fun _ _ => .int _) (le_c (y := .int 1) fun _ => .int _)) la_nil)))) (lg_name (i := 4)) (ls_asg (le_op (ol_plus) (le_comp (vs := [6]) (li_any (le_ixV (i := 2) (le_op (ol_I0 fun _ _ _ => .int _) (le_var (i := 4)) (le_c (y := .int 1) fun _ => .int _)))) (lg_name (i := 6)) (tg_name (by decide)) lt_yes (le_op (ol_plus) (le_tup (la_cons (le_var (i := 3)) la_nil) (by decide)) (le_var (i := 6)))) (le_ixV (i := 2) (le_var (i := 4)))) (lg_setV (i := 2) (le_var (i := 4))))))
      (ls_ret (le_ixV (i := 2) (le_var (i := 1)))))))) h_picks⟩
end
def c_rests_of : V → Ct := fun _ as R _ => match as with
  | [.d m, .d x] => ∃ (ns : List Int) (i : Int), m = .tuple (ns.map PyData.int) ∧ x = .int i ∧ ns.length ≤ 100 ∧ (∀ n ∈ ns, 2 ≤ n) ∧ R (.d (.tuple (ns.map fun n => .int (i % n))))
  | _ => False
def b_rests_of (dk : V) : ASx :=
  (aRet (aCB gTuple (aCons (aComp (aIter (aVar 0)) (gN 2) aYes (aOp (gI (fun _ j => j ≠ 0) fun i j => .int (i.fmod j)) (aVar 1) (aVar 2)) [2]) aNil)))
theorem l_rests_of : ∀ (dk : V) (as : List A) (R : A → Prop) (Z : Ex → Prop), c_rests_of dk as R Z → as.length = 2 := by
  intro dk as R Z h
  unfold c_rests_of at h
  split at h
  · rfl
  · exact h.elim
theorem h_rests_of : ∀ (dk : V) (as : List A) (R : A → Prop) (Z : Ex → Prop), as.length = 2 → c_rests_of dk as R Z → b_rests_of dk (ends0 R) (fun _ => R (.d .none)) (as ++ unA ((["machine", "number", "modulus"] : List Str).length - 2)) := by
  intro dk as R Z hl h
  unfold c_rests_of at h
  split at h
  · rename_i m x
    obtain ⟨ns, i, rfl, rfl, l, hn, h⟩ := h
    simp! only [b_rests_of]
    refine comp_map (fun d => match d with | .int n => .int (i % n) | _ => .none) (by rw [List.length_map]; omega) (fun d hd J hJ => ?_) ?_
    · obtain ⟨n, hm, rfl⟩ := List.mem_map.mp hd
      have := hn n hm
      have hJ : J (.int (i % n)) _ := hJ
      simp! only []
      exact ⟨by omega, by rw [fmod_nn (show (0 : Int) ≤ n by omega)]; exact hJ⟩
    · simp! only []
      rw [List.map_map]
      exact h
  · exact h.elim
abbrev sp_rests_of (K : PySem.W.Frag) : Sp := SpL K noBox c_rests_of
section
variable {P : Program} {w : World} {K : PySem.W.Frag} {mg : Str → Option Value} {base : Heap} {a : Adr}
theorem ok_rests_of (T : Txt K mg a) : FnOk P w K mg base CX0 1 a.f_rests_of a.d_rests_of ["machine", "number"] (sp_rests_of K) := by
  refine T.rests_of.F.ok sc_rests_of (fun vs H Q E h => sp_len l_rests_of h) (fun cdv A outer s H vs Q E hr h => ?_)
  have hu := hu_of hr
  exact ⟨_, (pss_one (ps_ret (pe_callTy (show CallR _ _ (rTupS K) from call_tuple_of) (by rfl) T.b_tuple (by decide +kernel) (pa_cons (pe_lc (own := [("modulus", 2)]) rfl sc_rests_of.nd (show PI _ _ _ (iAny K _) from pi_any (pv 0)) (blkOk_by (N := ["machine", "number", "modulus"]) (sc := defScope s_rests_of) (by decide +kernel)) (fun _ _ _ _ _ => (pg_name (i := 2) sc_rests_of.nd rfl (by first | exact Or.inl rfl | exact Or.inr rfl))) (fun _ _ _ _ _ => pts_nil) (fun _ _ _ _ _ => (pe_op op_modN (pv 1) (pv 2)))) pa_nil)))),
    run0 (N := ["machine", "number", "modulus"]) (np := 2) (f := b_rests_of) h (sp_len l_rests_of h) (fun dk B hb => (show LS B K Wno _ (b_rests_of dk) from
      (ls_ret (le_cb cl_tuple (la_cons (le_comp (vs := [2]) (li_any (le_var (i := 0))) (lg_name (i := 2)) (tg_name (by decide)) lt_yes (le_op (ol_I fun _ _ _ => .int _) (le_var (i := 1)) (le_var (i := 2)))) la_nil))))) h_rests_of⟩
end
def c_inverse_of : V → Ct := fun _ as R _ => match as with
  | [.d (.int a), .d (.int n)] => 1 ≤ n ∧ n ≤ 1000000 ∧ a.natAbs ≤ 10 ^ 62 ∧ Int.gcd a n = 1 ∧ ∀ t : Int, n ∣ a * t - 1 → t.natAbs ≤ 1000000 → R (.d (.int t))
  | _ => False
def b_inverse_of (dk : V) : ASx :=
  (aSeq (aPar 2 3 (aCons (aVar 1) (aCons (aOp (gI (fun _ j => j ≠ 0) fun i j => .int (i.fmod j)) (aVar 0) (aVar 1)) aNil)))
      (aSeq (aAsg (aTup (aCons (aC (.int 0)) (aCons (aC (.int 1)) aNil))) (gT (gCons (gN 4) (gCons (gN 5) gNil))))
      (aCut (aWhile (aB (aOp (gI0 fun i j => .bool (decide (j < i))) (aVar 3) (aC (.int 1)))) (aSeq (aAsg (aOp (gI CDivW fun i j => .int (i / j)) (aVar 2) (aVar 3)) (gN 6))
        (aSeq (aPar 2 3 (aCons (aVar 3) (aCons (aOp (gI0 fun i j => .int (i - j)) (aVar 2) (aOp (gMul) (aVar 6) (aVar 3))) aNil)))
        (aPar 4 5 (aCons (aVar 5) (aCons (aOp (gI0 fun i j => .int (i - j)) (aVar 4) (aOp (gMul) (aVar 6) (aVar 5))) aNil))))))
      (aRet (aVar 5)))))
theorem l_inverse_of : ∀ (dk : V) (as : List A) (R : A → Prop) (Z : Ex → Prop), c_inverse_of dk as R Z → as.length = 2 := by
  intro dk as R Z h
  unfold c_inverse_of at h
  split at h
  · rfl
  · exact h.elim
theorem h_inverse_of : ∀ (dk : V) (as : List A) (R : A → Prop) (Z : Ex → Prop), as.length = 2 → c_inverse_of dk as R Z → b_inverse_of dk (ends0 R) (fun _ => R (.d .none)) (as ++ unA ((["number", "modulus", "ahead", "rest", "ahead_times", "times", "goes"] : List Str).length - 2)) := by
  intro dk as R Z hl h
  unfold c_inverse_of at h
  split at h
  · rename_i a n
    obtain ⟨hn, hn6, ha, hg, h⟩ := h
    simp! only [b_inverse_of, fmod_nn (show 0 ≤ n by omega)]
    refine ⟨by omega, fun ρ => ∃ x y u v b : _, InvI a n x y u v ∧ ¬ 1 < y ∧ ρ = [.d (.int a), .d (.int n), .d (.int x), .d (.int y), .d (.int u), .d (.int v), b], ?_, ?_⟩
    · simp! only []
      refine ⟨fun m ρ => ∃ x y u v b : _, m = y.toNat ∧ InvI a n x y u v ∧ ρ = [.d (.int a), .d (.int n), .d (.int x), .d (.int y), .d (.int u), .d (.int v), b], ⟨_, _, _, _, _, _, rfl, inv_start hn hg, rfl⟩, ?_⟩
      rintro m ρ ⟨x, y, u, v, b, rfl, inv, rfl⟩
      simp! only []
      obtain ⟨s1, s2, s3, s4⟩ := inv_small inv
      by_cases hy : 1 < y
      · obtain ⟨inv', lt⟩ := inv_step inv hy
        obtain ⟨t1, t2, t3, t4⟩ := inv_small inv'
        have yn : y ≤ n := t3
        have q0 : 0 ≤ x / y := Int.ediv_nonneg (by omega) (by omega)
        have q1 : x / y ≤ x := Int.ediv_le_self _ (by omega)
        rw [decide_eq_true hy]
        simp! only []
        have p6 : (1000000 : Nat) ≤ 10 ^ 120 := by decide +kernel
        exact ⟨div_ok t2 (Nat.le_trans (show y.natAbs ≤ 1000000 by omega) (by decide +kernel)), bnd_wide (by omega) (by omega), bnd_wide (by omega) (by omega), _, by omega, _, _, _, _, _, rfl, inv', rfl⟩
      · rw [decide_eq_false hy]
        simp! only []
        exact ⟨x, y, u, v, b, inv, hy, rfl⟩
    · rintro ρ ⟨x, y, u, v, b, inv, hy, rfl⟩
      simp! only []
      have := inv_small inv
      exact h _ (inv_end inv hy) (by omega)
  · exact h.elim
abbrev sp_inverse_of (K : PySem.W.Frag) : Sp := SpL K noBox c_inverse_of
section
variable {P : Program} {w : World} {K : PySem.W.Frag} {mg : Str → Option Value} {base : Heap} {a : Adr}
theorem ok_inverse_of (T : Txt K mg a) : FnOk P w K mg base CX0 1 a.f_inverse_of a.d_inverse_of ["number", "modulus"] (sp_inverse_of K) := by
  refine T.inverse_of.F.ok sc_inverse_of (fun vs H Q E h => sp_len l_inverse_of h) (fun cdv A outer s H vs Q E hr h => ?_)
  have hu := hu_of hr
  exact ⟨_, (pss_cons (ps_par (i := 2) (j := 3) (by rfl) sc_inverse_of.nd rfl rfl (by decide) rfl rfl (pa_cons (pv 1) (pa_cons (pe_op op_modN (pv 0) (pv 1)) pa_nil)) (by rfl))
      (pss_cons (ps_asg (pe_tup (pa_cons pe_int (pa_cons pe_int pa_nil))) (show PG _ _ (gTup K 2 _) from pg_tup rfl (pgs_cons (pg_name (i := 4) sc_inverse_of.nd rfl (by first | exact Or.inl rfl | exact Or.inr rfl)) (pgs_cons (pg_name (i := 5) sc_inverse_of.nd rfl (by first | exact Or.inl rfl | exact Or.inr rfl)) pgs_nil))))
      (pss_cons (ps_while PassesOwn.never (pt_cmpR op_gt (pv 3) pe_int (nomark _)) (pss_cons (ps_set (i := 6) sc_inverse_of.nd rfl (by first | exact Or.inl rfl | exact Or.inr rfl) (pe_op op_fdivW (pv 2) (pv 3)))
        (pss_cons (ps_par (i := 2) (j := 3) (by rfl) sc_inverse_of.nd rfl rfl (by decide) rfl rfl (pa_cons (pv 3) (pa_cons (pe_op op_sub (pv 2) (pe_op (show OpR _ _ (rTimes K) from op_times) (pv 6) (pv 3))) pa_nil)) (by rfl))
        (pss_one (ps_par (i := 4) (j := 5) (by rfl) sc_inverse_of.nd rfl rfl (by decide) rfl rfl (pa_cons (pv 5) (pa_cons (pe_op op_sub (pv 4) (pe_op (show OpR _ _ (rTimes K) from op_times) (pv 6) (pv 5))) pa_nil)) (by rfl))))))
      (pss_one (ps_ret (pv 5)))))),
    run0 (N := ["number", "modulus", "ahead", "rest", "ahead_times", "times", "goes"]) (np := 2) (f := b_inverse_of) h (sp_len l_inverse_of h) (fun dk B hb => (show LS B K Wno _ (b_inverse_of dk) from
      (ls_seq (ls_par (la_cons (le_var (i := 1)) (la_cons (le_op (ol_I fun _ _ _ => .int _) (le_var (i := 0)) (le_var (i := 1))) la_nil)) (by decide))
      (ls_seq (ls_asg (le_tup (la_cons (le_c (y := .int 0) fun _ => .int _) (la_cons (le_c (y := .int 1) fun _ => .int _) la_nil)) (by decide)) (lg_tup (lgs_cons (lg_name (i := 4)) (lgs_cons (lg_name (i := 5)) lgs_nil)) (gC_len (gC_len gN_len))))
      (ls_cut (ls_while (lt_test (le_op (ol_I0 fun _ _ _ => .bl _) (le_var (i := 3)) (le_c (y := .int 1) fun _ => .int _))) (ls_seq (ls_asg (le_op (ol_I fun _ _ _ => .int _) (le_var (i := 2)) (le_var (i := 3))) (lg_name (i := 6)))
        (ls_seq (ls_par (la_cons (le_var (i := 3)) (la_cons (le_op (ol_I0 fun _ _ _ => .int _) (le_var (i := 2)) (le_op (ol_times) (le_var (i := 6)) (le_var (i := 3)))) la_nil)) (by decide))
        (ls_par (la_cons (le_var (i := 5)) (la_cons (le_op (ol_I0 fun _ _ _ => .int _) (le_var (i := 4)) (le_op (ol_times) (le_var (i := 6)) (le_var (i := 5)))) la_nil)) (by decide)))))
      (ls_ret (le_var (i := 5)))))))) h_inverse_of⟩
end
abbrev sp__law_deck := K30.sp__law_deck
section
variable {P : Program} {w : World} {K : PySem.W.Frag} {mg : Str → Option Value} {base : Heap} {a : Adr}
theorem ok__law_deck (T : Txt K mg a) : FnOk P w K mg base CX0 1 a.f__law_deck a.d__law_deck ["script"] (sp__law_deck K) := by
  refine T._law_deck.F.ok sc__law_deck (fun vs H Q E h => ?_) (fun cdv A outer s H vs Q E hr h => ?_)
  · obtain ⟨_, _, rfl, _⟩ := h
    rfl
  · have hu := hu_of hr
    obtain ⟨s0, ns, rfl, hS, hlen, q⟩ := h
    have ecut : cutV (ns.map V.int) none (some 63) = ns.map V.int := by
      have h1 : (ns.map V.int).length ≤ 63 := by rw [List.length_map]; exact hlen
      unfold cutV
      rw [HT.sIx_none, show HT.sIx (ns.map V.int).length (ns.map V.int).length (some 63) = min 63 (ns.map V.int).length from HT.sIx_nat _ _ 63, Nat.min_eq_right h1]
      show List.take ((ns.map V.int).length - 0) (List.drop 0 (ns.map V.int)) = ns.map V.int
      rw [List.drop_zero, Nat.sub_zero, List.take_length]
    refine ⟨_, (pss_cons (ps_set (i := 1) sc__law_deck.nd rfl (by first | exact Or.inl rfl | exact Or.inr rfl) (pe_disp (pps_cons pe_str (pe_lst pa_nil) (pps_cons pe_str (pe_op op_add pe_int (pe_callB (show CallR _ _ (rLenS K) from call_len_seq) (by rfl) T.b_len (by decide +kernel) (pa_cons (pe_slice (show SlR _ (rSlL K) from sl_list) (pv 0) po_none (po_some pe_int)) pa_nil))) pps_nil)) (by rfl) (by rfl) (fun z => by cases z) (by decide)))
      (pss_cons (ps_for PassesOwn.never rfl (show PI _ _ _ (iSeq K _) from pi_seq (pe_slice (show SlR _ (rSlL K) from sl_list) (pv 0) po_none (po_some pe_int))) (pg_name (i := 2) sc__law_deck.nd rfl (by first | exact Or.inl rfl | exact Or.inr rfl)) (pss_cons (ps_set (i := 3) sc__law_deck.nd rfl (by first | exact Or.inl rfl | exact Or.inr rfl) (pe_callB call_abs (by rfl) T.b_abs (by decide +kernel) (pa_cons (pv 2) pa_nil)))
        (Evl.pss_cut (ps_if (pt_cmpR op_ge (pv 3) (pe_op op_pow pe_int pe_int) (nomark _)) (pss_one (ps_dput hu (pv 1) pe_str (pe_op (show OpR _ _ rCat from op_cat) (pe_lst (pa_cons (pv 3) pa_nil)) (pe_dget hu (pv 1) pe_str (fun _ _ => rfl))) rfl)) pss_nil)
        (pss_cons (ps_set (i := 4) sc__law_deck.nd rfl (by first | exact Or.inl rfl | exact Or.inr rfl) (pe_op op_add (pe_op op_mul (pe_op op_add (pe_op op_add (pe_op op_add (pe_dget hu (pv 1) pe_str (fun _ _ => rfl)) (pe_op op_mul pe_int (pv 3))) (pe_callTy call_int1 (by rfl) T.b_int (by decide +kernel) (pa_cons (pe_cmpR op_lt (pv 2) pe_int (nomark _)) pa_nil))) pe_int) pe_int) pe_int))
        (pss_one (ps_dput hu (pv 1) pe_str (pe_op op_modN (pe_callTy call_int1 (by rfl) T.b_int (by decide +kernel) (pa_cons (pv 4) pa_nil)) pe_int) rfl))))))
      (pss_one (ps_ret (pv 1))))), ?_⟩
    intro b nb
    refine ⟨Nat.zero_le _, fun g ng => ?_⟩
    have s1 : Same H (upd H b (.dK [])) := same_new nb
    have s2 : Same (upd H b (.dK [])) (upd (upd H b (.dK [])) g (.lst [])) := same_new ng
    have nbg : g ≠ b := (ne_of_none (upd_same (H := H) (a := b) (o := .dK [])) ng).symm
    refine ⟨_, rfl, 63, rfl, s0, ns.map V.int, rfl, L2.Same.seq (s1.trans s2) hS, fun p np => ?_⟩
    have s3 : Same (upd (upd H b (.dK [])) g (.lst [])) (upd (upd (upd H b (.dK [])) g (.lst [])) p (.lst (cutV (ns.map V.int) none (some 63)))) := same_new np
    refine ⟨p, _, rfl, .inl (.of upd_same), _, _, rfl, rfl, s3 _ _ (s2 _ _ upd_same), deckKv g _, rfl, by show 2 ≤ 15; decide, ?_⟩
    generalize (1278624 + (((cutV (ns.map V.int) none (some 63)).length : Nat) : Int)) = st0
    have hb0 : ∀ {H3 : Hp} {x : HO} {c : Addr} {o : HO}, Same H H3 → H c = some o → (upd H3 b x) c = some o := fun s e => by
      rw [upd_ne (ne_of_none e nb)]
      exact s _ _ e
    have sA : Same H (upd (upd (upd H b (.dK [])) g (.lst [])) p (.lst (cutV (ns.map V.int) none (some 63)))) := s1.trans (s2.trans s3)
    have gA : (upd (upd (upd H b (.dK [])) g (.lst [])) p (.lst (cutV (ns.map V.int) none (some 63)))) g = some (.lst ([].map V.int)) := s3 _ _ upd_same
    have nHg : H g = none := s1.free ng
    generalize upd (upd (upd H b (.dK [])) g (.lst [])) p (.lst (cutV (ns.map V.int) none (some 63))) = HA at sA gA ⊢
    have sB : Same H (upd HA b (.dK (deckKv g st0))) := fun c o e => hb0 sA e
    have gB : (upd HA b (.dK (deckKv g st0))) g = some (.lst ([].map V.int)) := by
      rw [upd_ne nbg]
      exact gA
    have bB : (upd HA b (.dK (deckKv g st0))) b = some (.dK (deckKv g st0)) := upd_same
    rw [show mergeK [] (deckKv g st0) = deckKv g st0 from rfl]
    generalize upd HA b (.dK (deckKv g st0)) = HB at sB gB bB ⊢
    clear s1 s2 s3 sA gA ng np
    refine .inl ⟨_, rfl, 63, rfl, s0, ns.map V.int, rfl, L2.Same.seq sB hS, fun p np => ⟨p, rfl, ⟨_, .of upd_same⟩, ?_⟩⟩
    rw [ecut]
    have sC := same_new (o := .lst (ns.map V.int)) np
    have pb : p ≠ b := (ne_of_none bB np).symm
    refine for_list (K := K) (a := p) (xs := ns.map V.int) (fun i σ H' => ∃ (g : Addr) (ms : List Int) (st : Int) (v2 v3 v4 : Option V), σ = [some (.ref s0), some (.ref b), v2, v3, v4] ∧ Same H H' ∧ H g = none ∧ H' g = some (.lst (ms.map V.int)) ∧ ms.length ≤ i ∧ H' b = some (.dK (deckKv g st)) ∧ H' p = some (.lst (ns.map V.int)))
      ⟨g, [], st0, none, none, none, rfl, sB.trans sC, nHg, sC _ _ gB, Nat.le_refl _, sC _ _ bB, upd_same⟩ (fun i σ H' _ ⟨_, _, _, _, _, _, _, _, _, _, _, _, e⟩ => .of e) ?_ ?_
    · rintro i x σ H1 hx ⟨g, ms, st, v2, v3, v4, rfl, s1, ng, eg, hl, eb, ep⟩
      rw [List.getElem?_map] at hx
      obtain ⟨m, hm, rfl⟩ := Option.map_eq_some_iff.mp hx
      refine ⟨_, rfl, m, rfl, ?_⟩
      generalize hwh : (if m < 0 then -m else m) = wh
      refine ⟨fun σ H' => ∃ (g : Addr) (ms : List Int), σ = [some (.ref s0), some (.ref b), some (.int m), some (.int wh), v4] ∧ Same H H' ∧ H g = none ∧ H' g = some (.lst (ms.map V.int)) ∧ ms.length ≤ i + 1 ∧ H' b = some (.dK (deckKv g st)) ∧ H' p = some (.lst (ns.map V.int)), ?_, ?_⟩
      · refine ⟨_, rfl, 10, 18, rfl, rfl, ⟨by decide, by decide, by decide⟩, wh, _, rfl, rfl, _, rfl, ite2 (fun _ => ?_) (fun _ => ⟨g, ms, rfl, s1, ng, eg, by omega, eb, ep⟩)⟩
        refine ⟨_, rfl, by show 1 ≤ sizeLine; decide, fun l nl => ?_⟩
        have t1 := same_new (o := .lst [.int wh]) nl
        refine ⟨_, rfl, b, .ref g, rfl, key_s (t1 _ _ eb) rfl, l, g, _, _, rfl, rfl, upd_same, t1 _ _ eg, ?_, fun z nz => ?_⟩
        · rw [List.length_map]
          exact Nat.le_trans (show 1 + ms.length ≤ 1000 by have := (List.getElem?_eq_some_iff.mp hm).1; omega) (by decide)
        have t2 := same_new (o := .lst ([V.int wh] ++ ms.map V.int)) nz
        have e2 := t2 _ _ (t1 _ _ eb)
        have z1 : z ≠ b := (ne_of_none (t1 _ _ eb) nz).symm
        have nHz : H z = none := (s1.trans t1).free nz
        have ez := upd_same (H := upd H1 l (.lst [.int wh])) (a := z) (o := .lst ([V.int wh] ++ ms.map V.int))
        have e3 := t2 _ _ (t1 _ _ ep)
        have s5 := s1.trans (t1.trans t2)
        generalize upd (upd H1 l (.lst [.int wh])) z (.lst ([V.int wh] ++ ms.map V.int)) = H2 at e2 ez e3 s5 ⊢
        refine ⟨_, rfl, b, _, rfl, DPut.k (k := Sum.inr "deep") e2 (by show 2 < sizeLine; decide), ?_⟩
        refine ⟨z, wh :: ms, rfl, fun c o e => hb0 s5 e, nHz, ?_, by rw [List.length_cons]; omega, upd_same, ?_⟩
        · rw [upd_ne z1]
          exact ez
        · rw [upd_ne pb]
          exact e3
      rintro σ H3 ⟨g, ms, rfl, s1, ng, eg, hl, eb, ep⟩
      refine ⟨_, rfl, b, .int st, rfl, key_s eb rfl, _, rfl, 2, _, rfl, rfl, .inl ⟨by decide, by decide⟩, _, _, rfl, rfl, _, rfl, m, 0, rfl, rfl, .inr ⟨_, rfl, _, _, rfl, rfl, _, 1, rfl, rfl, _, 1181783497276652981, rfl, rfl, .inr ⟨by decide, by decide⟩, _, 521288629, rfl, rfl, ?_⟩⟩
      refine ⟨_, rfl, .inl ⟨_, rfl, _, 2305843009213693951, rfl, rfl, (show (2305843009213693951 : Int) ≠ 0 by decide), _, rfl, b, _, rfl, DPut.k (k := Sum.inr "state") eb (by show 2 < sizeLine; decide), ?_⟩⟩
      have gb : g ≠ b := ne_of eg eb (fun z => nomatch z)
      refine ⟨g, ms, _, _, _, _, rfl, fun c o e => hb0 s1 e, ng, ?_, hl, upd_same, ?_⟩
      · rw [upd_ne gb]
        exact eg
      · rw [upd_ne pb]
        exact ep
    rintro σ H3 ⟨g, ms, st, v2, v3, v4, rfl, s1, ng, eg, hl, eb, ep⟩
    refine ⟨_, rfl, q b g H3 ⟨s1, nb, ng, ⟨ms, eg, ?_⟩, ⟨st, eb⟩⟩⟩
    rw [List.length_map] at hl
    omega
end
abbrev c__law_draw := cDraw
abbrev sp__law_draw (K : PySem.W.Frag) : Sp := SpL K (deckOf boxD) c__law_draw
section
variable {P : Program} {w : World} {K : PySem.W.Frag} {mg : Str → Option Value} {base : Heap} {a : Adr}
theorem ok__law_draw (T : Txt K mg a) : FnOk P w K mg base CX0 1 a.f__law_draw a.d__law_draw ["deck", "many"] (sp__law_draw K) := by
  refine fn_mono (sp := K30.sp__law_draw K) ?_ fun vs H Q E h => draw_of (Pb := fun F H b g => Ds F H b g) (fun _ _ _ _ => Iff.rfl) h
  refine T._law_draw.F.ok sc__law_draw (fun vs H Q E h => ?_) (fun cdv A outer s H vs Q E hr h => ?_)
  · obtain ⟨_, _, _, _, rfl, _⟩ := h
    rfl
  · have hu := hu_of hr
    obtain ⟨H0, b, g, m, rfl, B, hm, q⟩ := h
    obtain ⟨ms, hl, hz⟩ := B.ls
    obtain ⟨st, hd⟩ := B.dc
    have hm0 := hm.1
    refine ⟨_, (pss_cons (ps_if (pt_cmpR op_lt (pv 1) pe_int (nomark _)) (pss_one (ps_ret pe_int)) pss_nil)
      (pss_cons (ps_if (pt_cmpR (show OpR _ _ (rNeD K) from op_neD hr.units) (pe_dget hu (pv 0) pe_str (fun _ _ => rfl)) (pe_lst pa_nil) (nomark _)) (pss_cons (ps_set (i := 4) sc__law_draw.nd rfl (by first | exact Or.inl rfl | exact Or.inr rfl) (show PE _ _ (tBM0 K "list" _ _) from pe_bm0 PySem.F.plainAttrs_list PySem.F.slot_list_pop PySem.F.type_list_pop mt_pop (pe_dget hu (pv 0) pe_str (fun _ _ => rfl))))
        (Evl.pss_cut (ps_if (pt_cmpR op_ge (pv 4) (pv 1) (nomark _)) (pss_one (ps_expr (show PE _ _ (tBM K "list" _ _ _) from pe_bm PySem.F.plainAttrs_list PySem.F.slot_list_append PySem.F.type_list_append mt_append (pe_dget hu (pv 0) pe_str (fun _ _ => rfl)) (pa_cons (pe_op op_fdivW (pv 4) (pv 1)) pa_nil)))) pss_nil)
        (pss_one (ps_ret (pe_op op_modN (pe_callTy call_int1 (by rfl) T.b_int (by decide +kernel) (pa_cons (pv 4) pa_nil)) (pv 1)))))) pss_nil)
      (pss_cons (ps_set (i := 2) sc__law_draw.nd rfl (by first | exact Or.inl rfl | exact Or.inr rfl) (pe_op op_modN (pe_callTy call_int1 (by rfl) T.b_int (by decide +kernel) (pa_cons (pe_op op_add (pe_op op_mul (pe_dget hu (pv 0) pe_str (fun _ _ => rfl)) pe_int) pe_int) pa_nil)) pe_int))
      (pss_cons (ps_dput hu (pv 0) pe_str (pv 2) rfl)
      (pss_cons (ps_set (i := 3) sc__law_draw.nd rfl (by first | exact Or.inl rfl | exact Or.inr rfl) (pe_op op_modN (pe_callTy call_int1 (by rfl) T.b_int (by decide +kernel) (pa_cons (pe_op op_add (pe_op op_add (pe_op op_mul (pv 2) (pv 2)) (pe_op op_mul pe_int (pv 2))) pe_int) pa_nil)) pe_int))
      (pss_one (ps_ret (pe_op op_modN (pe_callTy call_int1 (by rfl) T.b_int (by decide +kernel) (pa_cons (pe_op op_fdivW (pv 3) pe_int) pa_nil)) (pv 1))))))))), ?_⟩
    refine ⟨_, rfl, m, 2, rfl, rfl, _, rfl, ite2 (fun h2 => q 0 H (Int.le_refl _) hm0 B) (fun h2 => ?_)⟩
    refine ⟨_, rfl, b, .ref g, rfl, key_s hd rfl, ?_⟩
    refine ⟨Nat.zero_le _, fun p np => ?_⟩
    have B1 := B.more (same_new (o := .lst []) np)
    have hl1 : (upd H p (.lst [])) g = some (.lst (ms.map V.int)) := same_new np _ _ hl
    have hd1 : (upd H p (.lst [])) b = some (.dK (deckKv g st)) := same_new np _ _ hd
    refine ⟨_, _, .lst (.of hl1) (dpa_ints ms), .lst (.of upd_same) .nil, shaped_ints ms, shaped_ints [], _, rfl, ?_⟩
    rw [eqv_nil_ints]
    have md : ∀ x d : Int, 0 < d → x.fmod d = x % d := fun x d hx => Int.fmod_eq_emod_of_nonneg x (by omega)
    have lo : ∀ x d : Int, 0 < d → 0 ≤ x % d ∧ x % d < d := fun x d hx => ⟨Int.emod_nonneg x (by omega), Int.emod_lt_of_pos x hx⟩
    have fin : ∀ (k : Int) H', Ds H0 H' b g → Q (.int (k.fmod m)) H' := fun k H' B' => by
      rw [md k m hm0]
      exact q _ H' (lo k m hm0).1 (lo k m hm0).2 B'
    rcases List.eq_nil_or_concat ms with hms | ⟨ls, k, hms⟩
    · subst hms
      refine iteF ?_
      refine ⟨_, rfl, b, .int st, rfl, key_s hd1 rfl, st, 1181783497276652981, rfl, rfl, .inr ⟨by decide, by decide⟩, _, _, rfl, rfl, .inl ⟨_, rfl, _, 2305843009213693951, rfl, rfl, (show (2305843009213693951 : Int) ≠ 0 by decide), ?_⟩⟩
      rw [show ∀ x : Int, (fun i j : Int => V.int (i.fmod j)) x 2305843009213693951 = V.int (x % 2305843009213693951) from fun x => congrArg V.int (md x _ (by decide))]
      obtain ⟨l1, u1⟩ := lo (st * 1181783497276652981 + 88172645463325) 2305843009213693951 (by decide)
      generalize (st * 1181783497276652981 + 88172645463325) % 2305843009213693951 = f1 at l1 u1 ⊢
      refine ⟨_, rfl, _, rfl, b, _, rfl, DPut.k (k := Sum.inr "state") hd1 (by show 2 < sizeLine; decide), ?_⟩
      have B2 : Ds H0 (upd (upd H p (.lst [])) b (.dK (deckKv g f1))) b g := by
        refine ⟨fun c x e => ?_, B.nb, B.ng, ⟨[], ?_, hz⟩, ⟨f1, upd_same⟩⟩
        · rw [upd_ne (ne_of_none e B.nb)]
          exact B1.sub c x e
        · rw [upd_ne B.bg.symm]
          exact hl1
      refine ⟨_, rfl, _, rfl, f1, f1, rfl, rfl, .inl ⟨by omega, by omega⟩, _, rfl, 374761393, f1, rfl, rfl, .inl ⟨by decide, by decide⟩, _, _, rfl, rfl, _, 11, rfl, rfl, .inl ⟨_, rfl, _, 2305843009213693921, rfl, rfl, (show (2305843009213693921 : Int) ≠ 0 by decide), ?_⟩⟩
      rw [show ∀ x : Int, (fun i j : Int => V.int (i.fmod j)) x 2305843009213693921 = V.int (x % 2305843009213693921) from fun x => congrArg V.int (md x _ (by decide))]
      generalize (f1 * f1 + 374761393 * f1 + 11) % 2305843009213693921 = f2
      refine ⟨_, rfl, f2, 1048576, rfl, rfl, ⟨by decide, by decide⟩, .inl ⟨_, rfl, _, rfl, _, m, rfl, rfl, by omega, ?_⟩⟩
      exact fin (f2 / 1048576) _ B2
    · rw [List.concat_eq_append] at hms
      subst hms
      have hne : (!(ls ++ [k]).isEmpty) = true := by cases ls <;> rfl
      rw [hne]
      refine iteT ?_
      rw [List.map_append] at hl1
      have hlen : (List.map V.int ls ++ [V.int k])[(List.map V.int ls ++ List.map V.int [k]).length - 1]? = some (V.int k) := by
        simp
      refine ⟨_, rfl, b, .ref g, rfl, key_s hd1 rfl, .inl ⟨rfl, _, .of hl1⟩, g, _, .int k, rfl, rfl, hl1, hlen, ?_⟩
      have hdl : (List.map V.int ls ++ List.map V.int [k]).dropLast = ls.map V.int := by simp
      rw [hdl]
      have hz' : ls.length ≤ 63 := by
        rw [List.length_append, List.length_singleton] at hz
        omega
      have B2 : Ds H0 (upd (upd H p (.lst [])) g (.lst (ls.map V.int))) b g := by
        refine ⟨fun c x e => ?_, B.nb, B.ng, ⟨ls, upd_same, hz'⟩, ⟨st, ?_⟩⟩
        · rw [upd_ne (ne_of_none e B.ng)]
          exact B1.sub c x e
        · rw [upd_ne B.bg]
          exact hd1
      have e2 : (upd (upd H p (.lst [])) g (.lst (ls.map V.int))) g = some (.lst (ls.map V.int)) := upd_same
      have d2 : (upd (upd H p (.lst [])) g (.lst (ls.map V.int))) b = some (.dK (deckKv g st)) := by
        rw [upd_ne B.bg]
        exact hd1
      generalize upd (upd H p (.lst [])) g (.lst (ls.map V.int)) = H2 at B2 e2 d2 ⊢
      refine ⟨fun σ H' => σ[1]? = some (some (.int m)) ∧ σ[4]? = some (some (.int k)) ∧ Ds H0 H' b g, ?_, ?_⟩
      · refine ⟨_, rfl, _, rfl, k, m, rfl, rfl, _, rfl, ite2 (fun _ => ?_) (fun _ => ⟨rfl, rfl, B2⟩)⟩
        refine ⟨_, rfl, b, .ref g, rfl, key_s d2 rfl, .inl ⟨rfl, _, .of e2⟩, _, rfl, _, rfl, k, m, rfl, rfl, hm, ?_⟩
        refine ⟨g, _, _, rfl, rfl, e2, by rw [List.length_map]; exact small1000 (by omega), rfl, rfl, ?_⟩
        refine ⟨fun c x e => ?_, B2.nb, B2.ng, ⟨ls ++ [k / m], ?_, ?_⟩, ⟨st, ?_⟩⟩
        · rw [upd_ne (ne_of_none e B.ng)]
          exact B2.sub c x e
        · rw [upd_same, List.map_append] <;> rfl
        · rw [List.length_append, List.length_singleton] at hz ⊢
          omega
        · rw [upd_ne B.bg]
          exact d2
      · rintro σ H' ⟨e1, e5, B3⟩
        exact ⟨_, e5, .inl ⟨k, rfl, _, e1, k, m, rfl, rfl, by omega, fin k _ B3⟩⟩
end
def c__law_divisor : V → Ct := fun _ as R _ => match as with
  | [.d (.int a), .d (.int b)] => 0 ≤ a ∧ 0 ≤ b ∧ a.natAbs ≤ 10 ^ 120 ∧ b.natAbs ≤ 10 ^ 120 ∧ R (.d (.int (Nat.gcd a.natAbs b.natAbs : Nat)))
  | _ => False
def b__law_divisor (dk : V) : ASx :=
  (aCut (aWhile (aB (aOp (gI0 fun i j => .bool (decide (j < i))) (aVar 1) (aC (.int 0)))) (aPar 0 1 (aCons (aVar 1) (aCons (aOp (gI (fun _ j => j ≠ 0) fun i j => .int (i.fmod j)) (aCB gInt (aCons (aVar 0) aNil)) (aVar 1)) aNil))))
      (aRet (aVar 0)))
theorem l__law_divisor : ∀ (dk : V) (as : List A) (R : A → Prop) (Z : Ex → Prop), c__law_divisor dk as R Z → as.length = 2 := by
  intro dk as R Z h
  unfold c__law_divisor at h
  split at h
  · rfl
  · exact h.elim
theorem h__law_divisor : ∀ (dk : V) (as : List A) (R : A → Prop) (Z : Ex → Prop), as.length = 2 → c__law_divisor dk as R Z → b__law_divisor dk (ends0 R) (fun _ => R (.d .none)) (as ++ unA ((["one", "other"] : List Str).length - 2)) := by
  intro dk as R Z hl h
  unfold c__law_divisor at h
  split at h
  · rename_i a b
    obtain ⟨a0, b0, a1, b1, h⟩ := h
    simp! only [b__law_divisor]
    refine ⟨fun ρ => ρ = [.d (.int (Nat.gcd a.natAbs b.natAbs : Nat)), .d (.int 0)], ?_, ?_⟩
    · simp! only []
      refine ⟨fun m ρ => ∃ x y : Nat, m = y ∧ Nat.gcd x y = Nat.gcd a.natAbs b.natAbs ∧ ρ = [.d (.int x), .d (.int y)], ⟨_, a.natAbs, b.natAbs, rfl, rfl, by rw [show ((a.natAbs : Nat) : Int) = a by omega, show ((b.natAbs : Nat) : Int) = b by omega]⟩, ?_⟩
      rintro m ρ ⟨x, y, rfl, hg, rfl⟩
      simp! only []
      by_cases hy : m = 0
      · subst hy
        rw [show decide ((0 : Int) < ((0 : Nat) : Int)) = false from rfl]
        simp! only []
        rw [Nat.gcd_zero_right] at hg
        rw [hg]
      · rw [decide_eq_true (show (0 : Int) < (m : Nat) by omega)]
        simp! only [fmod_nn (show (0 : Int) ≤ (m : Nat) by omega)]
        refine ⟨by omega, x % m, Nat.mod_lt _ (by omega), m, ?_, ?_⟩
        · rw [← hg, Nat.gcd_comm x m, Nat.gcd_rec m x, Nat.gcd_comm]
        · rw [Int.natCast_emod]
    · rintro ρ rfl
      simp! only []
      exact h
  · exact h.elim
abbrev sp__law_divisor (K : PySem.W.Frag) : Sp := SpL K noBox c__law_divisor
section
variable {P : Program} {w : World} {K : PySem.W.Frag} {mg : Str → Option Value} {base : Heap} {a : Adr}
theorem ok__law_divisor (T : Txt K mg a) : FnOk P w K mg base CX0 1 a.f__law_divisor a.d__law_divisor ["one", "other"] (sp__law_divisor K) := by
  refine T._law_divisor.F.ok sc__law_divisor (fun vs H Q E h => sp_len l__law_divisor h) (fun cdv A outer s H vs Q E hr h => ?_)
  have hu := hu_of hr
  exact ⟨_, (pss_cons (ps_while PassesOwn.never (pt_cmpR op_gt (pv 1) pe_int (nomark _)) (pss_one (ps_par (i := 0) (j := 1) (by rfl) sc__law_divisor.nd rfl rfl (by decide) rfl rfl (pa_cons (pv 1) (pa_cons (pe_op op_modN (pe_callTy (show CallR _ _ rInt1 from call_int1) (by rfl) T.b_int (by decide +kernel) (pa_cons (pv 0) pa_nil)) (pv 1)) pa_nil)) (by rfl))))
      (pss_one (ps_ret (pv 0)))),
    run0 (N := ["one", "other"]) (np := 2) (f := b__law_divisor) h (sp_len l__law_divisor h) (fun dk B hb => (show LS B K Wno _ (b__law_divisor dk) from
      (ls_cut (ls_while (lt_test (le_op (ol_I0 fun _ _ _ => .bl _) (le_var (i := 1)) (le_c (y := .int 0) fun _ => .int _))) (ls_par (la_cons (le_var (i := 1)) (la_cons (le_op (ol_I fun _ _ _ => .int _) (le_cb cl_int (la_cons (le_var (i := 0)) la_nil)) (le_var (i := 1))) la_nil)) (by decide)))
      (ls_ret (le_var (i := 0)))))) h__law_divisor⟩
end
def c__law_rests : V → Ct := fun _ as R _ => match as with
  | [.d m, .d x] => ∃ (ns : List Int) (i : Int), m = .tuple (ns.map PyData.int) ∧ x = .int i ∧ ns.length ≤ 100 ∧ (∀ n ∈ ns, 2 ≤ n) ∧ R (.d (.tuple (ns.map fun n => .int (i % n))))
  | _ => False
def b__law_rests (dk : V) : ASx :=
  (aRet (aCB gTuple (aCons (aComp (aIter (aVar 0)) (gN 2) aYes (aOp (gI (fun _ j => j ≠ 0) fun i j => .int (i.fmod j)) (aCB gInt (aCons (aVar 1) aNil)) (aVar 2)) [2]) aNil)))
theorem l__law_rests : ∀ (dk : V) (as : List A) (R : A → Prop) (Z : Ex → Prop), c__law_rests dk as R Z → as.length = 2 := by
  intro dk as R Z h
  unfold c__law_rests at h
  split at h
  · rfl
  · exact h.elim
theorem h__law_rests : ∀ (dk : V) (as : List A) (R : A → Prop) (Z : Ex → Prop), as.length = 2 → c__law_rests dk as R Z → b__law_rests dk (ends0 R) (fun _ => R (.d .none)) (as ++ unA ((["machine", "number", "modulus"] : List Str).length - 2)) := by
  intro dk as R Z hl h
  unfold c__law_rests at h
  split at h
  · rename_i m x
    obtain ⟨ns, i, rfl, rfl, l, hn, h⟩ := h
    simp! only [b__law_rests]
    refine comp_map (fun d => match d with | .int n => .int (i % n) | _ => .none) (by rw [List.length_map]; omega) (fun d hd J hJ => ?_) ?_
    · obtain ⟨n, hm, rfl⟩ := List.mem_map.mp hd
      have := hn n hm
      simp! only [fmod_nn (show 0 ≤ n by omega)]
      exact ⟨by omega, hJ⟩
    · rw [List.map_map]
      exact h
  · exact h.elim
abbrev sp__law_rests (K : PySem.W.Frag) : Sp := SpL K noBox c__law_rests
section
variable {P : Program} {w : World} {K : PySem.W.Frag} {mg : Str → Option Value} {base : Heap} {a : Adr}
theorem ok__law_rests (T : Txt K mg a) : FnOk P w K mg base CX0 1 a.f__law_rests a.d__law_rests ["machine", "number"] (sp__law_rests K) := by
  refine T._law_rests.F.ok sc__law_rests (fun vs H Q E h => sp_len l__law_rests h) (fun cdv A outer s H vs Q E hr h => ?_)
  have hu := hu_of hr
  exact ⟨_, (pss_one (ps_ret (pe_callTy (show CallR _ _ (rTupS K) from call_tuple_of) (by rfl) T.b_tuple (by decide +kernel) (pa_cons (pe_lc (own := [("modulus", 2)]) rfl sc__law_rests.nd (show PI _ _ _ (iAny K _) from pi_any (pv 0)) (blkOk_by (N := ["machine", "number", "modulus"]) (sc := defScope s__law_rests) (by decide +kernel)) (fun _ _ _ _ _ => (pg_name (i := 2) sc__law_rests.nd rfl (by first | exact Or.inl rfl | exact Or.inr rfl))) (fun _ _ _ _ _ => pts_nil) (fun _ _ _ _ _ => (pe_op op_modN (pe_callTy (show CallR _ _ rInt1 from call_int1) (by rfl) T.b_int (by decide +kernel) (pa_cons (pv 1) pa_nil)) (pv 2)))) pa_nil)))),
    run0 (N := ["machine", "number", "modulus"]) (np := 2) (f := b__law_rests) h (sp_len l__law_rests h) (fun dk B hb => (show LS B K Wno _ (b__law_rests dk) from
      (ls_ret (le_cb cl_tuple (la_cons (le_comp (vs := [2]) (li_any (le_var (i := 0))) (lg_name (i := 2)) (tg_name (by decide)) lt_yes (le_op (ol_I fun _ _ _ => .int _) (le_cb cl_int (la_cons (le_var (i := 1)) la_nil)) (le_var (i := 2)))) la_nil))))) h__law_rests⟩
end
def c__law_astray : V → Ct := fun _ as R _ => match as with
  | [.d m, .d w, .d x] => ∃ (ns : List Int) (ws : List (Option Int)) (i : Int), m = .tuple (ns.map PyData.int) ∧ w = .tuple (ws.map oD) ∧ x = .int i ∧ ns.length = ws.length ∧ ns.length ≤ 100 ∧ (∀ n ∈ ns, 2 ≤ n) ∧ R (.d (.tuple ((strN ns ws i).map fun j => .int (j : Nat))))
  | _ => False
def b__law_astray (dk : V) : ASx :=
  (aSeq (aAsg (aLez (aCons (aVar 0) (aCons (aVar 1) aNil))) (gN 3))
      (aRet (aCB gTuple (aCons (aComp (aIter (aVar 3)) (gT (gCons (gN 4) (gCons (gT (gCons (gN 5) (gCons (gN 6) gNil))) gNil))) (tAndA (aB (aOp (gNotN) (aVar 6) (aC (.none)))) (aB (aOp (gNe) (aVar 6) (aOp (gI (fun _ j => j ≠ 0) fun i j => .int (i.fmod j)) (aCB gInt (aCons (aVar 2) aNil)) (aVar 5))))) (aVar 4) [4, 5, 6]) aNil))))
theorem l__law_astray : ∀ (dk : V) (as : List A) (R : A → Prop) (Z : Ex → Prop), c__law_astray dk as R Z → as.length = 3 := by
  intro dk as R Z h
  unfold c__law_astray at h
  split at h
  · rfl
  · exact h.elim
theorem h__law_astray : ∀ (dk : V) (as : List A) (R : A → Prop) (Z : Ex → Prop), as.length = 3 → c__law_astray dk as R Z → b__law_astray dk (ends0 R) (fun _ => R (.d .none)) (as ++ unA ((["machine", "word", "number", "pairs", "lane", "modulus", "rest"] : List Str).length - 3)) := by
  intro dk as R Z hl h
  unfold c__law_astray at h
  split at h
  · rename_i m w x
    obtain ⟨ns, ws, i, rfl, rfl, rfl, hl, l, hn, h⟩ := h
    simp! only [b__law_astray, List.length_map]
    refine ⟨hl, ?_⟩
    have lz : (ezD 0 (ns.map PyData.int) (ws.map oD)).length = ws.length := by rw [ezD_len, List.length_map, List.length_map, hl, Nat.min_self]
    refine comp_opt (fun i' o => o = if (match ws.getD i' none with | none => false | some q => q != i % ns.getD i' 1) = true then some (.int (i' : Nat)) else none) (by omega) (fun k hk J hJ => ?_) fun os hlo ho => ?_
    · rw [lz] at hk
      have hk1 : k < ns.length := by omega
      rw [ezD_at (by rw [List.length_map]; omega) (by rw [List.length_map]; omega)]
      have en : (ns.map PyData.int).getD k .none = .int (ns.getD k 1) := by
        rw [List.getD_eq_getElem?_getD, List.getElem?_map, List.getD_eq_getElem?_getD, List.getElem?_eq_getElem hk1] <;> rfl
      have hm : 2 ≤ ns.getD k 1 := hn _ (by
        rw [List.getD_eq_getElem?_getD, List.getElem?_eq_getElem hk1]
        exact List.getElem_mem hk1)
      rw [en, oD_at hk]
      have hJ := hJ _ rfl
      generalize ns.getD k 1 = n at hm hJ ⊢
      cases e : ws.getD k none with
      | none =>
        rw [e] at hJ
        simp! only [oD_n]
        exact hJ
      | some q =>
        rw [e] at hJ
        simp! only [oD_s, fmod_nn (show 0 ≤ n by omega)]
        have hJ : J (if (!q == i % n) = true then some (.int (k : Nat)) else none) _ := hJ
        refine ⟨by omega, ?_⟩
        generalize (!q == i % n) = b at hJ ⊢
        cases b <;> exact hJ
    · rw [lz] at hlo ho
      simp! only []
      rw [opt_list (p := fun j => match ws.getD j none with | none => false | some q => q != i % ns.getD j 1) (f := fun j => PyData.int (j : Nat)) hlo fun k hk => ho k hk]
      exact h
  · exact h.elim
abbrev sp__law_astray (K : PySem.W.Frag) : Sp := SpL K noBox c__law_astray
section
variable {P : Program} {w : World} {K : PySem.W.Frag} {mg : Str → Option Value} {base : Heap} {a : Adr}
theorem ok__law_astray (T : Txt K mg a) : FnOk P w K mg base CX0 1 a.f__law_astray a.d__law_astray ["machine", "word", "number"] (sp__law_astray K) := by
  refine T._law_astray.F.ok sc__law_astray (fun vs H Q E h => sp_len l__law_astray h) (fun cdv A outer s H vs Q E hr h => ?_)
  have hu := hu_of hr
  exact ⟨_, (pss_cons (ps_set (i := 3) sc__law_astray.nd rfl (by first | exact Or.inl rfl | exact Or.inr rfl) (show PE _ _ (Ez.tLez K _) from Ez.pe_lez rfl (by rfl) T.b_list (by rfl) T.b_enumerate (by rfl) T.b_zip (pa_cons (pv 0) (pa_cons (pv 1) pa_nil))))
      (pss_one (ps_ret (pe_callTy (show CallR _ _ (rTupS K) from call_tuple_of) (by rfl) T.b_tuple (by decide +kernel) (pa_cons (pe_lc (own := [("lane", 4), ("modulus", 5), ("rest", 6)]) rfl sc__law_astray.nd (show PI _ _ _ (iAny K _) from pi_any (pv 3)) (blkOk_by (N := ["machine", "word", "number", "pairs", "lane", "modulus", "rest"]) (sc := defScope s__law_astray) (by decide +kernel)) (fun _ _ _ _ _ => (show PG _ _ (gTup K 2 _) from pg_tup rfl (pgs_cons (pg_name (i := 4) sc__law_astray.nd rfl (by first | exact Or.inl rfl | exact Or.inr rfl)) (pgs_cons (show PG _ _ (gTup K 2 _) from pg_tup rfl (pgs_cons (pg_name (i := 5) sc__law_astray.nd rfl (by first | exact Or.inl rfl | exact Or.inr rfl)) (pgs_cons (pg_name (i := 6) sc__law_astray.nd rfl (by first | exact Or.inl rfl | exact Or.inr rfl)) pgs_nil))) pgs_nil)))) (fun _ _ _ _ _ => (pts_one (PW.pt (pw_and (pt_cmpR op_notN (pv 6) pe_non (nomark _)) (pw_and1 (pt_cmpR (show OpR _ _ (rNeP K) from op_neP hr.units) (pv 6) (pe_op op_modN (pe_callTy (show CallR _ _ rInt1 from call_int1) (by rfl) T.b_int (by decide +kernel) (pa_cons (pv 2) pa_nil)) (pv 5)) (nomark _))))))) (fun _ _ _ _ _ => (pv 4))) pa_nil))))),
    run0 (N := ["machine", "word", "number", "pairs", "lane", "modulus", "rest"]) (np := 3) (f := b__law_astray) h (sp_len l__law_astray h) (fun dk B hb => (show LS B K Wno _ (b__law_astray dk) from
      (ls_seq (ls_asg (le_lez (la_cons (le_var (i := 0)) (la_cons (le_var (i := 1)) la_nil))) (lg_name (i := 3)))
      (ls_ret (le_cb cl_tuple (la_cons (le_comp (vs := [4, 5, 6]) (li_any (le_var (i := 3))) (lg_tup (lgs_cons (lg_name (i := 4)) (lgs_cons (lg_tup (lgs_cons (lg_name (i := 5)) (lgs_cons (lg_name (i := 6)) lgs_nil)) (gC_len (gC_len gN_len))) lgs_nil)) (gC_len (gCT_len (cl_gT (cls_cons cl_gN (cls_cons cl_gN cls_nil))) gN_len))) (tg_tup (tgs_cons (tg_name (by decide)) (tgs_cons (tg_tup (tgs_cons (tg_name (by decide)) (tgs_cons (tg_name (by decide)) tgs_nil))) tgs_nil))) (lt_and (lt_test (le_op (ol_notN) (le_var (i := 6)) (le_c (y := .none) fun _ => .non))) (lt_test (le_op (ol_ne) (le_var (i := 6)) (le_op (ol_I fun _ _ _ => .int _) (le_cb cl_int (la_cons (le_var (i := 2)) la_nil)) (le_var (i := 5)))))) (le_var (i := 4))) la_nil)))))) h__law_astray⟩
end
def frL (l : List Int) : Int := match l.getLast? with
  | none => 0
  | some x => x + 1
def extL (n : Nat) (l : List Int) : List (List Int) := (List.range ((n : Int) - frL l).toNat).map fun i => l ++ [frL l + ((i : Nat) : Int)]
def wiL (n : Nat) : Nat → List (List Int)
  | 0 => [[]]
  | k + 1 => (wiL n k).flatMap (extL n)
def wholesL (n : Nat) : Bk → List (List Int)
  | .inl k => wiL n k
  | .inr nss => nss
theorem frL_snoc (l : List Int) (x : Int) : frL (l ++ [x]) = x + 1 := by
  unfold frL
  rw [List.getLast?_append] <;> rfl
theorem asc_fr {l : List Int} (h : l.Pairwise (· < ·)) (h0 : ∀ m ∈ l, 0 ≤ m) : 0 ≤ frL l ∧ ∀ m ∈ l, m < frL l := by
  rcases List.eq_nil_or_concat l with rfl | ⟨l', x, rfl⟩
  · exact ⟨Int.le_refl _, fun _ z => nomatch z⟩
  · rw [List.concat_eq_append] at h h0 ⊢
    rw [frL_snoc]
    have := h0 x (List.mem_append_right _ List.mem_cons_self)
    refine ⟨by omega, fun m hm => ?_⟩
    rcases List.mem_append.mp hm with hm | hm
    · have := (List.pairwise_append.mp h).2.2 m hm x List.mem_cons_self
      omega
    · rw [List.mem_singleton.mp hm]
      omega
theorem wiL_in {n : Nat} : ∀ {k : Nat} {l : List Int}, l ∈ wiL n k → l.length = k ∧ l.Pairwise (· < ·) ∧ ∀ m ∈ l, 0 ≤ m ∧ m < n
  | 0, l, h => by
    rw [List.mem_singleton.mp h]
    exact ⟨rfl, List.Pairwise.nil, fun _ z => nomatch z⟩
  | k + 1, l, h => by
    obtain ⟨l', h1, h2⟩ := List.mem_flatMap.mp h
    obtain ⟨g1, g2, g3⟩ := wiL_in h1
    obtain ⟨i, hi, rfl⟩ := List.mem_map.mp h2
    have hi := List.mem_range.mp hi
    obtain ⟨f0, f1⟩ := asc_fr g2 fun m hm => (g3 m hm).1
    refine ⟨by rw [List.length_append, g1] <;> rfl, ?_, fun m hm => ?_⟩
    · refine List.pairwise_append.mpr ⟨g2, List.pairwise_singleton _ _, fun a ha b hb => ?_⟩
      rw [List.mem_singleton.mp hb]
      have := f1 a ha
      omega
    · rcases List.mem_append.mp hm with hm | hm
      · exact g3 m hm
      · rw [List.mem_singleton.mp hm]
        omega
theorem wiL_all {n : Nat} : ∀ {k : Nat} {l : List Int}, l.length = k → l.Pairwise (· < ·) → (∀ m ∈ l, 0 ≤ m ∧ m < n) → l ∈ wiL n k
  | 0, l, h1, _, _ => by
    rw [List.eq_nil_of_length_eq_zero h1]
    exact List.mem_cons_self
  | k + 1, l, h1, h2, h3 => by
    rcases List.eq_nil_or_concat l with rfl | ⟨l', x, rfl⟩
    · exact nomatch h1
    · rw [List.concat_eq_append] at h1 h2 h3 ⊢
      rw [List.length_append, List.length_singleton] at h1
      obtain ⟨p1, _, p3⟩ := List.pairwise_append.mp h2
      have ih := wiL_all (n := n) (Nat.succ.inj h1) p1 fun m hm => h3 m (List.mem_append_left _ hm)
      refine List.mem_flatMap.mpr ⟨l', ih, ?_⟩
      have hx := h3 x (List.mem_append_right _ List.mem_cons_self)
      have fx : frL l' ≤ x := by
        rcases List.eq_nil_or_concat l' with rfl | ⟨l2, y, rfl⟩
        · exact hx.1
        · rw [List.concat_eq_append] at p3 ⊢
          rw [frL_snoc]
          have := p3 y (List.mem_append_right _ List.mem_cons_self) x List.mem_cons_self
          omega
      refine List.mem_map.mpr ⟨(x - frL l').toNat, List.mem_range.mpr (by omega), ?_⟩
      rw [show frL l' + (((x - frL l').toNat : Nat) : Int) = x by omega]
theorem wiL_nodup {n : Nat} : ∀ k : Nat, (wiL n k).Nodup
  | 0 => List.pairwise_singleton _ _
  | k + 1 => by
    have ih := wiL_nodup (n := n) k
    show ((wiL n k).flatMap (extL n)).Nodup
    rw [List.Nodup, List.pairwise_flatMap]
    refine ⟨fun l _ => ?_, ih.imp fun {a b} hab x hx y hy e => ?_⟩
    · unfold extL
      rw [List.pairwise_map]
      refine List.pairwise_lt_range.imp fun {i j} hij e => ?_
      have := List.append_cancel_left e
      injection this with this
      omega
    · obtain ⟨i, _, rfl⟩ := List.mem_map.mp hx
      obtain ⟨j, _, rfl⟩ := List.mem_map.mp hy
      exact hab (List.append_inj' e rfl).1
theorem wiL_len {n : Nat} (k : Nat) : (wiL n k).length ≤ 2 ^ n := by
  have := nodup_len (wiL_nodup (n := n) k) (T := pk (Lf.rI n) k) fun l hl => by
    obtain ⟨h1, h2, h3⟩ := wiL_in hl
    refine (pk_mem _ _ _).mpr ⟨asc_sub (fun m hm => rI_mem.mpr (h3 m hm)) (h2.imp fun h => by omega) (h2.imp fun h => by omega), h1⟩
  refine Nat.le_trans this (Nat.le_trans (pk_len _ _) (Nat.pow_le_pow_right (by decide) ?_))
  unfold Lf.rI
  rw [List.length_map, List.length_range]
  exact Nat.le_refl _
theorem whole_let {n : Nat} {bk : Bk} {L S : List Int} (hn : S.Nodup) (hL : L ∈ wholesL n bk) (hS : ∀ m ∈ S, m ∈ L) : letB bk S = true := by
  cases bk with
  | inl k =>
    have h1 := (wiL_in hL).1
    show decide (S.length ≤ k) = true
    rw [decide_eq_true_eq, ← h1]
    exact nodup_len hn hS
  | inr nss =>
    show (nss.any fun ns => inL S ns) = true
    rw [List.any_eq_true]
    exact ⟨L, hL, inL_iff.mpr hS⟩
theorem fill_up {n : Nat} : ∀ (d : Nat) (S : List Int), S.Pairwise (· < ·) → (∀ m ∈ S, 0 ≤ m ∧ m < n) → S.length + d ≤ n → ∃ L : List Int, L.Pairwise (· < ·) ∧ (∀ m ∈ L, 0 ≤ m ∧ m < n) ∧ L.length = S.length + d ∧ ∀ m ∈ S, m ∈ L
  | 0, S, h1, h2, _ => ⟨S, h1, h2, rfl, fun _ h => h⟩
  | d + 1, S, h1, h2, h3 => by
    obtain ⟨x, hx, nx⟩ : ∃ x ∈ Lf.rI n, x ∉ S := by
      refine Classical.byContradiction fun z => ?_
      have := nodup_len ((rI_asc n).imp fun h => by omega) (T := S) fun y hy => Classical.byContradiction fun q => z ⟨y, hy, q⟩
      unfold Lf.rI at this
      rw [List.length_map, List.length_range] at this
      omega
    have hx := rI_mem.mp hx
    -- the lanes of S and x, ascending
    let T : List Int := (Lf.rI n).filter fun m => decide (m ∈ S ∨ m = x)
    have tm : ∀ m, m ∈ T ↔ m ∈ S ∨ m = x := fun m => by
      rw [List.mem_filter, decide_eq_true_eq, rI_mem]
      refine ⟨fun h => h.2, fun h => ⟨?_, h⟩⟩
      rcases h with h | rfl
      · exact h2 m h
      · exact hx
    have tp : T.Pairwise (· < ·) := (rI_asc n).sublist List.filter_sublist
    have tl : T.length = S.length + 1 := by
      have a := nodup_len (tp.imp fun h => by omega) (T := S ++ [x]) fun m hm => by
        rw [List.mem_append, List.mem_singleton]
        exact (tm m).mp hm
      have b := nodup_len (xs := S ++ [x]) (T := T) (by
        rw [List.nodup_append]
        refine ⟨h1.imp fun h => by omega, List.pairwise_singleton _ _, fun a ha b hb e => ?_⟩
        rw [List.mem_singleton.mp hb] at e
        exact nx (e ▸ ha)) fun m hm => by
          rw [List.mem_append, List.mem_singleton] at hm
          exact (tm m).mpr hm
      rw [List.length_append, List.length_singleton] at a b
      omega
    obtain ⟨L, g1, g2, g3, g4⟩ := fill_up d T tp (fun m hm => (List.mem_filter.mp hm).1 |> rI_mem.mp) (by omega)
    exact ⟨L, g1, g2, by omega, fun m hm => g4 m ((tm m).mpr (.inl hm))⟩
theorem let_whole {n : Nat} {bk : Bk} {S : List Int} (hk : ∀ k, bk = .inl k → k ≤ n) (h1 : S.Pairwise (· < ·)) (h2 : ∀ m ∈ S, 0 ≤ m ∧ m < n) (h : letB bk S = true) : ∃ L ∈ wholesL n bk, ∀ m ∈ S, m ∈ L := by
  cases bk with
  | inl k =>
    have h : decide (S.length ≤ k) = true := h
    rw [decide_eq_true_eq] at h
    have := hk k rfl
    obtain ⟨L, g1, g2, g3, g4⟩ := fill_up (n := n) (k - S.length) S h1 h2 (by omega)
    exact ⟨L, wiL_all (by omega) g1 g2, g4⟩
  | inr nss =>
    have h : (nss.any fun ns => inL S ns) = true := h
    obtain ⟨L, hL, hi⟩ := List.any_eq_true.mp h
    exact ⟨L, hL, inL_iff.mp hi⟩
theorem extL_eq (n : Nat) (l : List Int) : (rangeD (frL l) ((n : Int) - frL l).toNat).map (fun d => match d with | .int i => tI (l ++ [i]) | _ => .none) = (extL n l).map tI := by
  unfold rangeD extL
  rw [List.map_map, List.map_map] <;> rfl
theorem at_last (ds : List PyData) (d : PyData) : atI (ds ++ [d]) (-1) = some d := by
  unfold atI ixN
  rw [if_neg (by decide)]
  simp
  rw [if_pos (by omega), show (-1 + ((ds.length : Int) + 1)).toNat = ds.length by omega]
  simp
def c__law_wholes : V → Ct := fun _ as R _ => match as with
  | [.d b, .d m] => ∃ (bk : Bk) (n : Nat), b = bkD bk ∧ m = .int (n : Nat) ∧ n ≤ 10 ∧ (∀ k, bk = .inl k → k ≤ n) ∧ R (.own ((wholesL n bk).map tI)) ∧ R (.d (.list ((wholesL n bk).map tI)))
  | _ => False
def b__law_wholes (dk : V) : ASx :=
  (aSeq (aIfS (tNotA (aB (aUn (gP intD) (aVar 0)))) (aRet (aCB gList (aCons (aVar 0) aNil))) aNext)
      (aSeq (aAsg (aLst (aCons (aTup aNil) aNil)) (gN 2))
      (aCut (aFor (aRange1 (aCons (aVar 0) aNil)) (gN 3) (aSeq (aAsg (aLst aNil) (gN 4))
        (aCut (aFor (aIter (aVar 2)) (gN 5) (aAsg (aOp (gCat) (aVar 4) (aComp (aRange2 (aCons (aTern (aB (aOp (gNe) (aVar 5) (aTup aNil))) (aOp (gCat) (aOp gIx (aVar 5) (aUn (gU fun i => .int (-i)) (aC (.int 1)))) (aC (.int 1))) (aC (.int 0))) (aCons (aVar 1) aNil))) (gN 6) aYes (aOp (gCat) (aVar 5) (aTup (aCons (aVar 6) aNil))) [6])) (gN 4)))
        (aAsg (aVar 4) (gN 2)))))
      (aRet (aVar 2)))))
theorem l__law_wholes : ∀ (dk : V) (as : List A) (R : A → Prop) (Z : Ex → Prop), c__law_wholes dk as R Z → as.length = 2 := by
  intro dk as R Z h
  unfold c__law_wholes at h
  split at h
  · rfl
  · exact h.elim
theorem h__law_wholes : ∀ (dk : V) (as : List A) (R : A → Prop) (Z : Ex → Prop), as.length = 2 → c__law_wholes dk as R Z → b__law_wholes dk (ends0 R) (fun _ => R (.d .none)) (as ++ unA ((["book", "lanes", "found", "turn", "fresh", "lot", "lane"] : List Str).length - 2)) := by
  intro dk as R Z hl h
  unfold c__law_wholes at h
  split at h
  · rename_i b m
    obtain ⟨bk, n, rfl, rfl, n10, hk, h1, h2⟩ := h
    cases bk with
    | inr nss =>
      simp! only [b__law_wholes, bkD, Lf.intD]
      exact h1
    | inl k =>
      have hk := hk k rfl
      simp! only [b__law_wholes, bkD, Lf.intD]
      have two : ∀ j, (wiL n j).length ≤ 1024 := fun j => Nat.le_trans (wiL_len j) (Nat.le_trans (Nat.pow_le_pow_right (by decide) n10) (by decide))
      refine ⟨fun ρ => ∃ c2 a3 a4 a5 a6, (c2 = .own ((wiL n k).map tI) ∨ c2 = .d (.list ((wiL n k).map tI))) ∧ ρ = [.d (.int (k : Nat)), .d (.int (n : Nat)), c2, a3, a4, a5, a6], ?_, ?_⟩
      · simp! only []
        refine ⟨by omega, by omega, fun i ρ => ∃ c2 a3 a4 a5 a6, (c2 = .own ((wiL n i).map tI) ∨ c2 = .d (.list ((wiL n i).map tI))) ∧ ρ = [.d (.int (k : Nat)), .d (.int (n : Nat)), c2, a3, a4, a5, a6], ⟨_, _, _, _, _, .inl rfl, rfl⟩, ?_, ?_⟩
        · rintro i ρ hi ⟨c2, a3, a4, a5, a6, hc, rfl⟩
          rw [rangeD_len] at hi
          rw [rangeD_at hi]
          have flat : ∀ j, j ≤ (wiL n i).length → (((wiL n i).take j).flatMap (extL n)).length ≤ 1024 := fun j hj => by
            have h := two (i + 1)
            have e : wiL n (i + 1) = ((wiL n i).take j).flatMap (extL n) ++ ((wiL n i).drop j).flatMap (extL n) := by
              show (wiL n i).flatMap (extL n) = _
              rw [← List.flatMap_append, List.take_append_drop]
            rw [e, List.length_append] at h
            omega
          obtain ⟨Lj, hLj⟩ : ∃ Lj : Nat → List PyData, Lj = fun j => (((wiL n i).take j).flatMap (extL n)).map tI := ⟨_, rfl⟩
          have el : ∀ j, j < (wiL n i).length → (wiL n i)[j]? = some ((wiL n i).getD j []) ∧ ((wiL n i).map tI).getD j .none = tI ((wiL n i).getD j []) := fun j hj => by
            have e : (wiL n i)[j]? = some ((wiL n i).getD j []) := by rw [List.getD_eq_getElem?_getD, List.getElem?_eq_getElem hj] <;> rfl
            exact ⟨e, by rw [List.getD_eq_getElem?_getD, List.getElem?_map, e] <;> rfl⟩
          have nx : ∀ j, j < (wiL n i).length → Lj (j + 1) = Lj j ++ (extL n ((wiL n i).getD j [])).map tI := fun j hj => by
            rw [hLj]
            show (((wiL n i).take (j + 1)).flatMap (extL n)).map tI = _
            rw [List.take_add_one, (el j hj).1, List.flatMap_append, List.map_append] <;> simp
          have all : Lj (wiL n i).length = (wiL n (i + 1)).map tI := by
            rw [hLj]
            show (((wiL n i).take (wiL n i).length).flatMap (extL n)).map tI = _
            rw [List.take_length] <;> rfl
          have none : Lj 0 = [] := by
            rw [hLj] <;> rfl
          have few : ∀ j, j ≤ (wiL n i).length → (Lj j).length ≤ 1024 := fun j hj => by
            rw [hLj]
            show ((((wiL n i).take j).flatMap (extL n)).map tI).length ≤ 1024
            rw [List.length_map]
            exact flat j hj
          rcases hc with rfl | rfl
          all_goals
            refine ⟨fun ρ => ∃ c2 c4 a3 a5 a6, (c4 = .own ((wiL n (i + 1)).map tI) ∨ c4 = .d (.list ((wiL n (i + 1)).map tI))) ∧ ρ = [.d (.int (k : Nat)), .d (.int (n : Nat)), c2, a3, c4, a5, a6], ?_, ?_⟩
            · simp! only []
              refine ⟨fun j ρ => ∃ c2 c4 a3 a5 a6, (c4 = .own (Lj j) ∨ c4 = .d (.list (Lj j))) ∧ ρ = [.d (.int (k : Nat)), .d (.int (n : Nat)), c2, a3, c4, a5, a6], ⟨_, _, _, _, _, .inl (by rw [none]), rfl⟩, ?_, ?_⟩
              · rintro j ρ hj ⟨c2, c4, a3, a5, a6, hc, rfl⟩
                rw [List.length_map] at hj
                rw [(el j hj).2]
                generalize hlot : (wiL n i).getD j [] = lot at *
                have ext := extL_eq n lot
                have fewJ := few j (by omega)
                have el0 : (extL n lot).length ≤ 10 := by
                  unfold extL
                  rw [List.length_map, List.length_range]
                  have : 0 ≤ frL lot := by
                    rcases List.eq_nil_or_concat lot with rfl | ⟨l', x, rfl⟩
                    · exact Int.le_refl _
                    · have hm := List.mem_of_getElem? (el j hj).1
                      rw [hlot] at hm
                      obtain ⟨_, g2, g3⟩ := wiL_in hm
                      exact (asc_fr g2 fun m hm => (g3 m hm).1).1
                  omega
                have fr9 : frL lot ≤ 11 := by
                  rcases List.eq_nil_or_concat lot with rfl | ⟨l', x, rfl⟩
                  · decide
                  · have hm := List.mem_of_getElem? (el j hj).1
                    rw [hlot] at hm
                    have g3 := (wiL_in hm).2.2 x (by rw [List.concat_eq_append]; exact List.mem_append_right _ List.mem_cons_self)
                    rw [List.concat_eq_append, frL_snoc]
                    omega
                have fr0 : 0 ≤ frL lot := by
                  rcases List.eq_nil_or_concat lot with rfl | ⟨l', x, rfl⟩
                  · exact Int.le_refl _
                  · have hm := List.mem_of_getElem? (el j hj).1
                    rw [hlot] at hm
                    obtain ⟨_, g2, g3⟩ := wiL_in hm
                    exact (asc_fr g2 fun m hm => (g3 m hm).1).1
                have fin : ∀ (c2 a3 : A), compRun (rangeD (frL lot) ((n : Int) - frL lot).toNat) (gN 6) aYes (aOp gCat (aVar 5) (aTup (aCons (aVar 6) aNil))) [6] [.d (.int (k : Nat)), .d (.int (n : Nat)), c2, a3, .d (.list (Lj j)), .d (.tuple (lot.map PyData.int)), .un] fun y ρ2 => y.on fun dy => gCat (.list (Lj j)) dy fun a => ∃ c2 c4 a3 a5 a6, (c4 = .own (Lj (j + 1)) ∨ c4 = .d (.list (Lj (j + 1)))) ∧ ρ2.set 4 a = [.d (.int (k : Nat)), .d (.int (n : Nat)), c2, a3, c4, a5, a6] := fun c2 a3 => by
                  refine comp_map (fun d => match d with | .int i => tI (lot ++ [i]) | _ => .none) (by rw [rangeD_len]; omega) (fun d hd J hJ => ?_) ?_
                  · obtain ⟨i', _, rfl⟩ := List.mem_map.mp hd
                    have hJ : J (tI (lot ++ [frL lot + ((i' : Nat) : Int)])) _ := hJ
                    simp! only []
                    unfold tI at hJ
                    rw [List.map_append] at hJ
                    have ll : lot.length ≤ 1000000 := by
                      have hm := List.mem_of_getElem? (el j hj).1
                      rw [hlot] at hm
                      have := (wiL_in hm).1
                      omega
                    exact ⟨by rw [List.length_map]; omega, hJ⟩
                  · rw [ext]
                    simp! only []
                    refine ⟨by rw [List.length_map]; omega, _, _, _, _, _, .inl ?_, rfl⟩
                    rw [nx j hj, hlot]
                rcases hc with rfl | rfl <;> simp! only [tI]
                all_goals
                  refine ⟨plain_map _, ?_⟩
                  rcases List.eq_nil_or_concat lot with e | ⟨l', x, e⟩
                  · subst e
                    show if false = true then _ else _
                    rw [if_neg (by decide)]
                    exact ⟨⟨by omega, by omega⟩, fin _ _⟩
                  · rw [List.concat_eq_append] at e
                    subst e
                    rw [show (!((l' ++ [x]).map PyData.int).isEmpty) = true by simp, if_pos rfl]
                    refine ⟨.int x, by rw [List.map_append]; exact at_last _ _, ?_⟩
                    have fx := fin c2 a3
                    rw [frL_snoc] at fx fr9 fr0
                    simp! only []
                    exact ⟨⟨by omega, by omega, by omega, by omega⟩, fx⟩
              · rintro ρ ⟨c2, c4, a3, a5, a6, hc, rfl⟩
                rw [List.length_map, all] at hc
                exact ⟨c2, c4, a3, a5, a6, hc, rfl⟩
            · rintro ρ ⟨c2, c4, a3, a5, a6, hc, rfl⟩
              rcases hc with rfl | rfl <;> simp! only []
              all_goals
                exact ⟨_, _, _, _, _, .inr rfl, rfl⟩
        · rintro ρ ⟨c2, a3, a4, a5, a6, hc, rfl⟩
          rw [rangeD_len, Int.toNat_natCast] at hc
          exact ⟨c2, a3, a4, a5, a6, hc, rfl⟩
      · rintro ρ ⟨c2, a3, a4, a5, a6, hc, rfl⟩
        rcases hc with rfl | rfl <;> simp! only [] <;> assumption
  · exact h.elim
abbrev sp__law_wholes (K : PySem.W.Frag) : Sp := SpL K noBox c__law_wholes
section
variable {P : Program} {w : World} {K : PySem.W.Frag} {mg : Str → Option Value} {base : Heap} {a : Adr}
theorem ok__law_wholes (T : Txt K mg a) : FnOk P w K mg base CX0 1 a.f__law_wholes a.d__law_wholes ["book", "lanes"] (sp__law_wholes K) := by
  refine T._law_wholes.F.ok sc__law_wholes (fun vs H Q E h => sp_len l__law_wholes h) (fun cdv A outer s H vs Q E hr h => ?_)
  have hu := hu_of hr
  exact ⟨_, (pss_cons (ps_if (pt_not (pt_val (pe_callB (show CallR _ _ (rIsi K) from call_isi) (by rfl) T.b_isinstance (by decide +kernel) (pa_cons (pv 0) (pa_cons (pe_bltn (v := .ty "int") rfl T.b_int (by decide +kernel) rfl) pa_nil))))) (pss_one (ps_ret (pe_callTy (show CallR _ _ (Sx.rListS K) from call_list_of) (by rfl) T.b_list (by decide +kernel) (pa_cons (pv 0) pa_nil)))) pss_nil)
      (pss_cons (ps_set (i := 2) sc__law_wholes.nd rfl (by first | exact Or.inl rfl | exact Or.inr rfl) (pe_lst (pa_cons (pe_tup pa_nil) pa_nil)))
      (pss_cons (ps_for PassesOwn.never rfl (pi_range1 rfl T.b_range (pa_cons (pv 0) pa_nil)) (pg_name (i := 3) sc__law_wholes.nd rfl (by first | exact Or.inl rfl | exact Or.inr rfl)) (pss_cons (ps_set (i := 4) sc__law_wholes.nd rfl (by first | exact Or.inl rfl | exact Or.inr rfl) (pe_lst pa_nil))
        (pss_cons (ps_for PassesOwn.never rfl (show PI _ _ _ (iAny K _) from pi_any (pv 2)) (pg_name (i := 5) sc__law_wholes.nd rfl (by first | exact Or.inl rfl | exact Or.inr rfl)) (pss_one (ps_set (i := 4) sc__law_wholes.nd rfl (by first | exact Or.inl rfl | exact Or.inr rfl) (pe_op (show OpR _ _ (rPlus K) from op_plus) (pv 4) (pe_lc (own := [("lane", 6)]) rfl sc__law_wholes.nd (pi_range2 rfl T.b_range (pa_cons (pe_ifExp (pt_cmpR (show OpR _ _ (rNeP K) from op_neP hr.units) (pv 5) (pe_tup pa_nil) (nomark _)) (pe_op (show OpR _ _ (rPlus K) from op_plus) (pe_ix (show IxR _ (rIx K) from ix_seq) (pv 5) (pe_un un_neg pe_int) (fun _ _ => rfl)) pe_int) pe_int) (pa_cons (pv 1) pa_nil))) (blkOk_by (N := ["book", "lanes", "found", "turn", "fresh", "lot", "lane"]) (sc := defScope s__law_wholes) (by decide +kernel)) (fun _ _ _ _ _ => (pg_name (i := 6) sc__law_wholes.nd rfl (by first | exact Or.inl rfl | exact Or.inr rfl))) (fun _ _ _ _ _ => pts_nil) (fun _ _ _ _ _ => (pe_op (show OpR _ _ (rPlus K) from op_plus) (pv 5) (pe_tup (pa_cons (pv 6) pa_nil)))))))))
        (pss_one (ps_set (i := 2) sc__law_wholes.nd rfl (by first | exact Or.inl rfl | exact Or.inr rfl) (pv 4))))))
      (pss_one (ps_ret (pv 2)))))),
    run0 (N := ["book", "lanes", "found", "turn", "fresh", "lot", "lane"]) (np := 2) (f := b__law_wholes) h (sp_len l__law_wholes h) (fun dk B hb => (show LS B K Wno _ (b__law_wholes dk) from
      (ls_seq (ls_if (lt_not (lt_b (le_isi (p := intD) hk_int (le_var (i := 0))))) (ls_ret (le_cb cl_list (la_cons (le_var (i := 0)) la_nil))) ls_next)
      (ls_seq (ls_asg (le_lst (la_cons (le_tup la_nil (by decide)) la_nil) (by decide)) (lg_name (i := 2)))
      (ls_cut (ls_for (li_range1 (la_cons (le_var (i := 0)) la_nil)) (lg_name (i := 3)) (ls_seq (ls_asg (le_lst la_nil (by decide)) (lg_name (i := 4)))
        (ls_cut (ls_for (li_any (le_var (i := 2))) (lg_name (i := 5)) (ls_asg (le_op (ol_plus) (le_var (i := 4)) (le_comp (vs := [6]) (li_range2 (la_cons (le_tern (lt_test (le_op (ol_ne) (le_var (i := 5)) (le_tup la_nil (by decide)))) (le_op (ol_plus) (le_op ol_ix (le_var (i := 5)) (le_un (ul_U fun _ _ => .int _) (le_c (y := .int 1) fun _ => .int _))) (le_c (y := .int 1) fun _ => .int _)) (le_c (y := .int 0) fun _ => .int _)) (la_cons (le_var (i := 1)) la_nil))) (lg_name (i := 6)) (tg_name (by decide)) lt_yes (le_op (ol_plus) (le_var (i := 5)) (le_tup (la_cons (le_var (i := 6)) la_nil) (by decide))))) (lg_name (i := 4))))
        (ls_asg (le_var (i := 4)) (lg_name (i := 2))))))
      (ls_ret (le_var (i := 2)))))))) h__law_wholes⟩
end
theorem nar_main {f s m n q inv : Int} (hs : 1 ≤ s) (hm : 1 ≤ m) (hn : 1 ≤ n) (hi : n / (Nat.gcd s.natAbs n.natAbs : Nat) ∣ s / (Nat.gcd s.natAbs n.natAbs : Nat) * inv - 1) :
    ((q - f) % (Nat.gcd s.natAbs n.natAbs : Nat) ≠ 0 → NarIs f s m n q .none) ∧ ((q - f) % (Nat.gcd s.natAbs n.natAbs : Nat) = 0 →
      (m ≤ (q - f) / (Nat.gcd s.natAbs n.natAbs : Nat) * inv % (n / (Nat.gcd s.natAbs n.natAbs : Nat)) → NarIs f s m n q .none) ∧
      ((q - f) / (Nat.gcd s.natAbs n.natAbs : Nat) * inv % (n / (Nat.gcd s.natAbs n.natAbs : Nat)) < m → NarIs f s m n q (.tuple [.int (f + (q - f) / (Nat.gcd s.natAbs n.natAbs : Nat) * inv % (n / (Nat.gcd s.natAbs n.natAbs : Nat)) * s),
        .int (s * (n / (Nat.gcd s.natAbs n.natAbs : Nat))), .int ((m - 1 - (q - f) / (Nat.gcd s.natAbs n.natAbs : Nat) * inv % (n / (Nat.gcd s.natAbs n.natAbs : Nat))) / (n / (Nat.gcd s.natAbs n.natAbs : Nat)) + 1)]))) := by
  have c0 := gcd_pos_i (s := s) hn
  have cs : ((Nat.gcd s.natAbs n.natAbs : Nat) : Int) ∣ s := by
    have := Int.natCast_dvd_natCast.mpr (Nat.gcd_dvd_left s.natAbs n.natAbs)
    rwa [show ((s.natAbs : Nat) : Int) = s by omega] at this
  have cn : ((Nat.gcd s.natAbs n.natAbs : Nat) : Int) ∣ n := by
    have := Int.natCast_dvd_natCast.mpr (Nat.gcd_dvd_right s.natAbs n.natAbs)
    rwa [show ((n.natAbs : Nat) : Int) = n by omega] at this
  have lc : ((Nat.lcm s.natAbs n.natAbs : Nat) : Int) = s * (n / (Nat.gcd s.natAbs n.natAbs : Nat)) := by
    have e1 : Nat.lcm s.natAbs n.natAbs = s.natAbs * (n.natAbs / Nat.gcd s.natAbs n.natAbs) := by
      rw [Nat.lcm_eq_mul_div, Nat.mul_div_assoc _ (Nat.gcd_dvd_right _ _)]
    rw [e1, Int.natCast_mul, Int.natCast_ediv, show ((s.natAbs : Nat) : Int) = s by omega, show ((n.natAbs : Nat) : Int) = n by omega]
  have unf : ∀ d, NarIs f s m n q d ↔ ((d = .none ∧ ∀ t, 0 ≤ t → t < m → ¬ n ∣ f + t * s - q) ∨
      ∃ t0 m' : Int, d = .tuple [.int (f + t0 * s), .int (s * (n / (Nat.gcd s.natAbs n.natAbs : Nat))), .int m'] ∧ 1 ≤ m' ∧ 0 ≤ t0 ∧ t0 + (m' - 1) * (n / (Nat.gcd s.natAbs n.natAbs : Nat)) < m ∧
        ∀ t, 0 ≤ t → t < m → (n ∣ f + t * s - q ↔ ∃ j : Int, 0 ≤ j ∧ j < m' ∧ t = t0 + j * (n / (Nat.gcd s.natAbs n.natAbs : Nat)))) := fun d => by
    unfold NarIs
    rw [lc]
  generalize hc : ((Nat.gcd s.natAbs n.natAbs : Nat) : Int) = c at *
  obtain ⟨s', es⟩ := cs
  obtain ⟨n', en⟩ := cn
  have hcne : c ≠ 0 := by omega
  have ds : s / c = s' := by rw [es]; exact Int.mul_ediv_cancel_left _ hcne
  have dn : n / c = n' := by rw [en]; exact Int.mul_ediv_cancel_left _ hcne
  rw [ds, dn] at hi
  rw [dn]
  simp only [dn] at unf
  have n1 : 1 ≤ n' := by
    have : 0 < c * n' := by omega
    have := Int.pos_of_mul_pos_left (Int.mul_comm c n' ▸ this) (by omega : 0 < c)
    omega
  refine ⟨fun h => (unf _).mpr (.inl ⟨rfl, fun t _ _ z => h ?_⟩), fun h => ?_⟩
  · have d1 : c ∣ f + t * s - q := Int.dvd_trans ⟨n', en⟩ z
    have d2 : c ∣ q - f := by
      have d3 : c ∣ t * s := Int.dvd_trans ⟨s', es⟩ (Int.dvd_mul_left _ _)
      have : q - f = t * s - (f + t * s - q) := by omega
      rw [this]
      exact Int.dvd_sub d3 d1
    exact Int.emod_eq_zero_of_dvd d2
  · obtain ⟨o, eo⟩ := Int.dvd_of_emod_eq_zero h
    have do' : (q - f) / c = o := by rw [eo]; exact Int.mul_ediv_cancel_left _ hcne
    rw [do']
    have key : ∀ t : Int, n ∣ f + t * s - q ↔ n' ∣ t - o * inv := fun t => by
      have e1 : f + t * s - q = c * (t * s' - o) := by
        rw [Int.mul_sub, ← eo, es]
        have : t * (c * s') = c * (t * s') := by rw [← Int.mul_assoc, Int.mul_comm t c, Int.mul_assoc]
        omega
      rw [e1, en]
      constructor
      · intro z
        have z1 : n' ∣ t * s' - o := Int.dvd_of_mul_dvd_mul_left hcne z
        -- t - o * inv = (t s' - o) * inv - t (s' inv - 1)
        have : t - o * inv = (t * s' - o) * inv - t * (s' * inv - 1) := by
          rw [Int.sub_mul, Int.mul_sub, ← Int.mul_assoc]
          omega
        rw [this]
        exact Int.dvd_sub (Int.dvd_trans z1 (Int.dvd_mul_right _ _)) (Int.dvd_trans hi (Int.dvd_mul_left _ _))
      · intro z
        refine Int.mul_dvd_mul_left c ?_
        have : t * s' - o = (t - o * inv) * s' + o * (s' * inv - 1) := by
          rw [Int.sub_mul, Int.mul_sub, Int.mul_assoc, Int.mul_comm inv s']
          omega
        rw [this]
        exact Int.dvd_add (Int.dvd_trans z (Int.dvd_mul_right _ _)) (Int.dvd_trans hi (Int.dvd_mul_left _ _))
    have k0 := Int.emod_nonneg (o * inv) (show n' ≠ 0 by omega)
    have k1 := Int.emod_lt_of_pos (o * inv) (show 0 < n' by omega)
    have dd : n' ∣ o * inv - o * inv % n' := Int.dvd_self_sub_emod
    generalize hk : o * inv % n' = k at *
    have key2 : ∀ t : Int, n ∣ f + t * s - q ↔ n' ∣ t - k := fun t => by
      rw [key]
      constructor
      · intro z
        have : t - k = (t - o * inv) + (o * inv - k) := by omega
        rw [this]
        exact Int.dvd_add z dd
      · intro z
        have : t - o * inv = (t - k) - (o * inv - k) := by omega
        rw [this]
        exact Int.dvd_sub z dd
    have low : ∀ t, 0 ≤ t → n' ∣ t - k → k ≤ t := fun t t0 z => by
      obtain ⟨j, ej⟩ := z
      by_cases hj : 0 ≤ j
      · have := Int.mul_nonneg (show 0 ≤ n' by omega) hj
        omega
      · have : n' * j ≤ n' * (-1) := Int.mul_le_mul_of_nonneg_left (by omega) (by omega)
        omega
    refine ⟨fun hm' => (unf _).mpr (.inl ⟨rfl, fun t t0 t1 z => ?_⟩), fun hm' => (unf _).mpr (.inr ⟨k, (m - 1 - k) / n' + 1, rfl, ?_, k0, ?_, fun t t0 t1 => ?_⟩)⟩
    · have := low t t0 ((key2 t).mp z)
      omega
    · have := Int.ediv_nonneg (show 0 ≤ m - 1 - k by omega) (show 0 ≤ n' by omega)
      omega
    · have := Int.ediv_mul_le (m - 1 - k) (show n' ≠ 0 by omega)
      have e : (m - 1 - k) / n' + 1 - 1 = (m - 1 - k) / n' := by omega
      rw [e]
      omega
    · rw [key2]
      constructor
      · intro z
        have := low t t0 z
        obtain ⟨j, ej⟩ := z
        refine ⟨j, ?_, ?_, by rw [Int.mul_comm]; omega⟩
        · by_cases hj : 0 ≤ j
          · exact hj
          · have : n' * j ≤ n' * (-1) := Int.mul_le_mul_of_nonneg_left (by omega) (by omega)
            omega
        · have : j ≤ (m - 1 - k) / n' := Int.le_ediv_of_mul_le (by omega) (by rw [Int.mul_comm]; omega)
          omega
      · rintro ⟨j, _, _, rfl⟩
        exact ⟨j, by rw [Int.mul_comm]; omega⟩
abbrev c_narrowed := cNar
def b_narrowed (dk : V) : ASx :=
  (aSeq (aAsg (aVar 0) (gT (gCons (gN 7) (gCons (gN 8) (gCons (gN 9) gNil)))))
      (aSeq (aAsg (aCB gGcd (aCons (aVar 8) (aCons (aVar 1) aNil))) (gN 3))
      (aSeq (aAsg (aOp (gI0 fun i j => .int (i - j)) (aVar 2) (aVar 7)) (gN 4))
      (aSeq (aIfS (aB (aOp (gNe) (aOp (gI (fun _ j => j ≠ 0) fun i j => .int (i.fmod j)) (aVar 4) (aVar 3)) (aC (.int 0)))) (aRet (aC (.none))) aNext)
      (aSeq (aAsg (aOp (gI CDivW fun i j => .int (i / j)) (aVar 1) (aVar 3)) (gN 5))
      (aSeq (aAsg (aOp (gI (fun _ j => j ≠ 0) fun i j => .int (i.fmod j)) (aOp (gMul) (aOp (gI CDivW fun i j => .int (i / j)) (aVar 4) (aVar 3)) (aCall0 (c_inverse_of dk) (aCons (aOp (gI CDivW fun i j => .int (i / j)) (aVar 8) (aVar 3)) (aCons (aVar 5) aNil)))) (aVar 5)) (gN 6))
      (aSeq (aIfS (aB (aOp (gI0 fun i j => .bool (decide (j ≤ i))) (aVar 6) (aVar 9))) (aRet (aC (.none))) aNext)
      (aRet (aTup (aCons (aOp (gCat) (aVar 7) (aOp (gMul) (aVar 6) (aVar 8))) (aCons (aOp (gMul) (aVar 8) (aVar 5)) (aCons (aOp (gCat) (aOp (gI CDivW fun i j => .int (i / j)) (aOp (gI0 fun i j => .int (i - j)) (aOp (gI0 fun i j => .int (i - j)) (aVar 9) (aC (.int 1))) (aVar 6)) (aVar 5)) (aC (.int 1))) aNil))))))))))))
theorem l_narrowed : ∀ (dk : V) (as : List A) (R : A → Prop) (Z : Ex → Prop), c_narrowed dk as R Z → as.length = 3 := len_nar
theorem h_narrowed : ∀ (dk : V) (as : List A) (R : A → Prop) (Z : Ex → Prop), as.length = 3 → c_narrowed dk as R Z → b_narrowed dk (ends0 R) (fun _ => R (.d .none)) (as ++ unA ((["row", "modulus", "rest", "common", "off", "part", "skipped", "first", "step", "many"] : List Str).length - 3)) := by
  intro dk as R Z hl h
  unfold c_narrowed at h
  unfold cNar at h
  split at h
  · rename_i row n q
    obtain ⟨f, s, m, rfl, hs, hs61, hm, hm61, hf, hn, hn6, hq0, hq1, h⟩ := h
    have c0 := gcd_pos_i (s := s) hn
    have cle : ((Nat.gcd s.natAbs n.natAbs : Nat) : Int) ≤ n := by
      have := Nat.le_of_dvd (by omega) (Nat.gcd_dvd_right s.natAbs n.natAbs)
      omega
    have cs : ((Nat.gcd s.natAbs n.natAbs : Nat) : Int) ∣ s := by
      have := Int.natCast_dvd_natCast.mpr (Nat.gcd_dvd_left s.natAbs n.natAbs)
      rwa [show ((s.natAbs : Nat) : Int) = s by omega] at this
    have cn : ((Nat.gcd s.natAbs n.natAbs : Nat) : Int) ∣ n := by
      have := Int.natCast_dvd_natCast.mpr (Nat.gcd_dvd_right s.natAbs n.natAbs)
      rwa [show ((n.natAbs : Nat) : Int) = n by omega] at this
    have main := fun inv => nar_main (f := f) (q := q) (inv := inv) hs hm hn
    have co : Int.gcd (s / (Nat.gcd s.natAbs n.natAbs : Nat)) (n / (Nat.gcd s.natAbs n.natAbs : Nat)) = 1 := by
      have : ((Nat.gcd s.natAbs n.natAbs : Nat) : Int) = ((Int.gcd s n : Nat) : Int) := rfl
      rw [this]
      exact Int.gcd_ediv_gcd_ediv_gcd (by unfold Int.gcd; omega)
    generalize hc : ((Nat.gcd s.natAbs n.natAbs : Nat) : Int) = c at *
    have p1 : 1 ≤ n / c := by
      have := Int.le_ediv_of_mul_le (show 0 < c by omega) (show 1 * c ≤ n by omega)
      omega
    have p2 : n / c ≤ n := Int.ediv_le_self _ (by omega)
    have p3 : 0 ≤ s / c ∧ s / c ≤ s := ⟨Int.ediv_nonneg (by omega) (by omega), Int.ediv_le_self _ (by omega)⟩
    have p4 : ((q - f) / c).natAbs ≤ (q - f).natAbs := Int.natAbs_ediv_le_natAbs _ _
    simp! only [b_narrowed, hc, fmod_nn (show 0 ≤ c by omega), fmod_nn (show 0 ≤ n / c by omega), c_inverse_of]
    have e62 : (10 : Nat) ^ 61 + 1000000 ≤ 10 ^ 62 := by decide +kernel
    have e620 : (10 : Nat) ^ 62 ≤ 10 ^ 120 := by decide +kernel
    have e6 : (1000000 : Nat) ≤ 10 ^ 120 := by decide +kernel
    have e13 : (10 : Nat) ^ 6 ≤ 10 ^ 130 := by decide +kernel
    have i61 : ((10 ^ 61 : Nat) : Int) = 10 ^ 61 := by decide +kernel
    have i62 : ((10 ^ 62 : Nat) : Int) = 10 ^ 62 := by decide +kernel
    have b1 : (q - f).natAbs ≤ 10 ^ 62 := by omega
    have b2 : s.natAbs ≤ 10 ^ 61 := by omega
    have b3 : (s / c).natAbs ≤ 10 ^ 62 := by omega
    refine ⟨by omega, ?_⟩
    by_cases hr : (q - f) % c = 0
    · rw [hr]
      simp! only []
      refine ⟨div_ok (by omega) (by omega), div_ok (by omega) (by omega), div_ok (by omega) (by omega), p1, by omega, b3, co, fun t ht tb => ?_⟩
      have k0 := Int.emod_nonneg ((q - f) / c * t) (show n / c ≠ 0 by omega)
      have k1 := Int.emod_lt_of_pos ((q - f) / c * t) (show 0 < n / c by omega)
      obtain ⟨_, mm⟩ := main t ht
      obtain ⟨m1, m2⟩ := mm hr
      refine ⟨bnd_wide (by omega) (by omega), by omega, ?_⟩
      generalize (q - f) / c * t % (n / c) = k at *
      by_cases hk : m ≤ k
      · rw [decide_eq_true hk]
        simp! only []
        exact h _ (m1 hk)
      · rw [decide_eq_false hk]
        simp! only []
        exact ⟨bnd_wide (by omega) (by omega), bnd_wide (by omega) (by omega), div_ok (by omega) (by omega), h _ (m2 (by omega))⟩
    · have : ((q - f) % c == 0) = false := by simpa using hr
      rw [this]
      simp! only []
      refine h _ (.inl ⟨rfl, fun t _ _ z => hr ?_⟩)
      have d1 : c ∣ f + t * s - q := Int.dvd_trans cn z
      have d2 : c ∣ q - f := by
        have d3 : c ∣ t * s := Int.dvd_trans cs (Int.dvd_mul_left _ _)
        have : q - f = t * s - (f + t * s - q) := by omega
        rw [this]
        exact Int.dvd_sub d3 d1
      exact Int.emod_eq_zero_of_dvd d2
  · exact h.elim
abbrev sp_narrowed (K : PySem.W.Frag) : Sp := SpL K noBox c_narrowed
section
variable {P : Program} {w : World} {K : PySem.W.Frag} {mg : Str → Option Value} {base : Heap} {a : Adr}
theorem ok_narrowed (T : Txt K mg a) : FnOk P w K mg base CX0 2 a.f_narrowed a.d_narrowed ["row", "modulus", "rest"] (sp_narrowed K) := by
  have G_inverse_of : FnOk P w K mg base CX0 1 a.f_inverse_of a.d_inverse_of ["number", "modulus"] (sp_inverse_of K) := ok_inverse_of T
  refine T.narrowed.F.ok sc_narrowed (fun vs H Q E h => sp_len l_narrowed h) (fun cdv A outer s H vs Q E hr h => ?_)
  have hu := hu_of hr
  exact ⟨_, (pss_cons (ps_asg (pv 0) (show PG _ _ (gTup K 3 _) from pg_tup rfl (pgs_cons (pg_name (i := 7) sc_narrowed.nd rfl (by first | exact Or.inl rfl | exact Or.inr rfl)) (pgs_cons (pg_name (i := 8) sc_narrowed.nd rfl (by first | exact Or.inl rfl | exact Or.inr rfl)) (pgs_cons (pg_name (i := 9) sc_narrowed.nd rfl (by first | exact Or.inl rfl | exact Or.inr rfl)) pgs_nil)))))
      (pss_cons (ps_set (i := 3) sc_narrowed.nd rfl (by first | exact Or.inl rfl | exact Or.inr rfl) (pe_callBfun cr_gcd (by rfl) T.i_gcd (pa_cons (pv 8) (pa_cons (pv 1) pa_nil))))
      (pss_cons (ps_set (i := 4) sc_narrowed.nd rfl (by first | exact Or.inl rfl | exact Or.inr rfl) (pe_op op_sub (pv 2) (pv 7)))
      (pss_cons (ps_if (pt_cmpR (show OpR _ _ (rNeP K) from op_neP hr.units) (pe_op op_modN (pv 4) (pv 3)) pe_int (nomark _)) (pss_one (ps_ret pe_non)) pss_nil)
      (pss_cons (ps_set (i := 5) sc_narrowed.nd rfl (by first | exact Or.inl rfl | exact Or.inr rfl) (pe_op op_fdivW (pv 1) (pv 3)))
      (pss_cons (ps_set (i := 6) sc_narrowed.nd rfl (by first | exact Or.inl rfl | exact Or.inr rfl) (pe_op op_modN (pe_op (show OpR _ _ (rTimes K) from op_times) (pe_op op_fdivW (pv 4) (pv 3)) (pe_call G_inverse_of hr (by rfl) T.inverse_of.m T.inverse_of.F.kp T.inverse_of.b .nil pass0 (pa_cons (pe_op op_fdivW (pv 8) (pv 3)) (pa_cons (pv 5) pa_nil)))) (pv 5)))
      (pss_cons (ps_if (pt_cmpR op_ge (pv 6) (pv 9) (nomark _)) (pss_one (ps_ret pe_non)) pss_nil)
      (pss_one (ps_ret (pe_tup (pa_cons (pe_op (show OpR _ _ (rPlus K) from op_plus) (pv 7) (pe_op (show OpR _ _ (rTimes K) from op_times) (pv 6) (pv 8))) (pa_cons (pe_op (show OpR _ _ (rTimes K) from op_times) (pv 8) (pv 5)) (pa_cons (pe_op (show OpR _ _ (rPlus K) from op_plus) (pe_op op_fdivW (pe_op op_sub (pe_op op_sub (pv 9) pe_int) (pv 6)) (pv 5)) pe_int) pa_nil))))))))))))),
    run0 (N := ["row", "modulus", "rest", "common", "off", "part", "skipped", "first", "step", "many"]) (np := 3) (f := b_narrowed) h (sp_len l_narrowed h) (fun dk B hb => (show LS B K Wno _ (b_narrowed dk) from
      (ls_seq (ls_asg (le_var (i := 0)) (lg_tup (lgs_cons (lg_name (i := 7)) (lgs_cons (lg_name (i := 8)) (lgs_cons (lg_name (i := 9)) lgs_nil))) (gC_len (gC_len (gC_len gN_len)))))
      (ls_seq (ls_asg (le_cb cl_gcd (la_cons (le_var (i := 8)) (la_cons (le_var (i := 1)) la_nil))) (lg_name (i := 3)))
      (ls_seq (ls_asg (le_op (ol_I0 fun _ _ _ => .int _) (le_var (i := 2)) (le_var (i := 7))) (lg_name (i := 4)))
      (ls_seq (ls_if (lt_test (le_op (ol_ne) (le_op (ol_I fun _ _ _ => .int _) (le_var (i := 4)) (le_var (i := 3))) (le_c (y := .int 0) fun _ => .int _))) (ls_ret (le_c (y := .none) fun _ => .non)) ls_next)
      (ls_seq (ls_asg (le_op (ol_I fun _ _ _ => .int _) (le_var (i := 1)) (le_var (i := 3))) (lg_name (i := 5)))
      (ls_seq (ls_asg (le_op (ol_I fun _ _ _ => .int _) (le_op (ol_times) (le_op (ol_I fun _ _ _ => .int _) (le_var (i := 4)) (le_var (i := 3))) (le_call0 (dk := dk) (c := c_inverse_of) trivial (la_cons (le_op (ol_I fun _ _ _ => .int _) (le_var (i := 8)) (le_var (i := 3))) (la_cons (le_var (i := 5)) la_nil)))) (le_var (i := 5))) (lg_name (i := 6)))
      (ls_seq (ls_if (lt_test (le_op (ol_I0 fun _ _ _ => .bl _) (le_var (i := 6)) (le_var (i := 9)))) (ls_ret (le_c (y := .none) fun _ => .non)) ls_next)
      (ls_ret (le_tup (la_cons (le_op (ol_plus) (le_var (i := 7)) (le_op (ol_times) (le_var (i := 6)) (le_var (i := 8)))) (la_cons (le_op (ol_times) (le_var (i := 8)) (le_var (i := 5))) (la_cons (le_op (ol_plus) (le_op (ol_I fun _ _ _ => .int _) (le_op (ol_I0 fun _ _ _ => .int _) (le_op (ol_I0 fun _ _ _ => .int _) (le_var (i := 9)) (le_c (y := .int 1) fun _ => .int _)) (le_var (i := 6))) (le_var (i := 5))) (le_c (y := .int 1) fun _ => .int _)) la_nil))) (by decide)))))))))))) h_narrowed⟩
end
def keptL (ws : List (Option Int)) : Bk → List (List Int)
  | .inl k => pk (lanesI ws) ((lanesN ws).length - k)
  | .inr nss => nss.map fun ns => (lanesI ws).filter fun j => decide (j ∉ ns)
def c_lots_kept : V → Ct := fun _ as R _ => match as with
  | [.d w, .d b] => ∃ (ws : List (Option Int)) (bk : Bk), w = .tuple (ws.map oD) ∧ b = bkD bk ∧ ws.length ≤ 10 ∧ (∀ nss, bk = .inr nss → nss.length ≤ 1000) ∧ R (.own ((keptL ws bk).map tI)) ∧ R (.d (.list ((keptL ws bk).map tI)))
  | _ => False
def b_lots_kept (dk : V) : ASx :=
  (aSeq (aAsg (aCall0 (c_speaking dk) (aCons (aVar 0) aNil)) (gN 2))
      (aSeq (aIfS (aB (aUn (gP intD) (aVar 1))) (aRet (aCall0 (c_picks dk) (aCons (aVar 2) (aCons (aCB gMax2 (aCons (aC (.int 0)) (aCons (aOp (gI0 fun i j => .int (i - j)) (aCB gLen (aCons (aVar 2) aNil)) (aVar 1)) aNil))) aNil)))) aNext)
      (aRet (aComp (aIter (aVar 1)) (gN 3) aYes (aCB gTuple (aCons (aComp (aIter (aVar 2)) (gN 4) (aB (aOp (gNotIn) (aVar 4) (aVar 3))) (aVar 4) [4]) aNil)) [3]))))
theorem l_lots_kept : ∀ (dk : V) (as : List A) (R : A → Prop) (Z : Ex → Prop), c_lots_kept dk as R Z → as.length = 2 := by
  intro dk as R Z h
  unfold c_lots_kept at h
  split at h
  · rfl
  · exact h.elim
theorem h_lots_kept : ∀ (dk : V) (as : List A) (R : A → Prop) (Z : Ex → Prop), as.length = 2 → c_lots_kept dk as R Z → b_lots_kept dk (ends0 R) (fun _ => R (.d .none)) (as ++ unA ((["word", "book", "lanes", "lot", "lane"] : List Str).length - 2)) := by
  intro dk as R Z hl h
  unfold c_lots_kept at h
  split at h
  · rename_i w b
    obtain ⟨ws, bk, rfl, rfl, l10, hb, h1, h2⟩ := h
    cases bk with
    | inl k =>
      simp! only [b_lots_kept, bkD, c_speaking, c_picks]
      have el : (lnD (lanesN ws)).length = (lanesN ws).length := List.length_map ..
      have ll := lanes_len ws
      refine ⟨ws, rfl, by omega, lanesI ws, (lanesN ws).length - k, by unfold tI lanesI lnD; rw [List.map_map] <;> rfl, ?_, by unfold lanesI; rw [List.length_map]; omega, by omega, h2⟩
      rw [el]
      split <;> omega
    | inr nss =>
      simp! only [b_lots_kept, bkD, c_speaking]
      have hb := hb nss rfl
      have ll := lanes_len ws
      refine ⟨ws, rfl, by omega, ?_⟩
      have en : lnD (lanesN ws) = (lanesI ws).map PyData.int := by unfold lanesI lnD; rw [List.map_map] <;> rfl
      rw [en]
      have l1 : (lanesI ws).length ≤ 10 := by unfold lanesI; rw [List.length_map]; omega
      refine comp_map (fun d => tI ((lanesI ws).filter fun j => decide (j ∉ isLot d))) (by rw [List.length_map]; omega) (fun d hd J hJ => ?_) ?_
      · obtain ⟨ns, hn, rfl⟩ := List.mem_map.mp hd
        have hJ : J (tI ((lanesI ws).filter fun j => decide (j ∉ isLot (tI ns)))) _ := hJ
        rw [isLot_tI] at hJ
        simp! only []
        refine comp_det (fun d => match d with | .int a => if decide (a ∉ ns) = true then some (.int a) else none | _ => none) (by rw [List.length_map]; omega) (fun d hd J hJ => ?_) ?_
        · obtain ⟨a, ha, rfl⟩ := List.mem_map.mp hd
          have hJ : J (if decide (a ∉ ns) = true then some (.int a) else none) _ := hJ
          simp! only [tI, any_int]
          refine ⟨plain_map ns, rfl, depth_any _ _, ?_⟩
          by_cases hc : a ∈ ns
          · rw [decide_eq_false (fun z => z hc), if_neg (by decide)] at hJ
            simp! only [hc, decide_true]
            exact hJ
          · rw [decide_eq_true hc, if_pos rfl] at hJ
            simp! only [hc, decide_false]
            exact hJ
        · rw [fm_if]
          exact hJ
      · have e : (nss.map tI).map (fun d => tI ((lanesI ws).filter fun j => decide (j ∉ isLot d))) = (keptL ws (.inr nss)).map tI := by
          show _ = (nss.map fun ns => (lanesI ws).filter fun j => decide (j ∉ ns)).map tI
          rw [List.map_map, List.map_map]
          refine List.map_congr_left fun ns _ => ?_
          show tI ((lanesI ws).filter fun j => decide (j ∉ isLot (tI ns))) = _
          rw [isLot_tI] <;> rfl
        rw [e]
        exact h1
  · exact h.elim
abbrev sp_lots_kept (K : PySem.W.Frag) : Sp := SpL K noBox c_lots_kept
section
variable {P : Program} {w : World} {K : PySem.W.Frag} {mg : Str → Option Value} {base : Heap} {a : Adr}
theorem ok_lots_kept (T : Txt K mg a) : FnOk P w K mg base CX0 2 a.f_lots_kept a.d_lots_kept ["word", "book"] (sp_lots_kept K) := by
  have G_speaking : FnOk P w K mg base CX0 1 a.f_speaking a.d_speaking ["word"] (sp_speaking K) := ok_speaking T
  have G_picks : FnOk P w K mg base CX0 1 a.f_picks a.d_picks ["lanes", "many"] (sp_picks K) := ok_picks T
  refine T.lots_kept.F.ok sc_lots_kept (fun vs H Q E h => sp_len l_lots_kept h) (fun cdv A outer s H vs Q E hr h => ?_)
  have hu := hu_of hr
  exact ⟨_, (pss_cons (ps_set (i := 2) sc_lots_kept.nd rfl (by first | exact Or.inl rfl | exact Or.inr rfl) (pe_call G_speaking hr (by rfl) T.speaking.m T.speaking.F.kp T.speaking.b .nil pass0 (pa_cons (pv 0) pa_nil)))
      (pss_cons (ps_if (pt_val (pe_callB (show CallR _ _ (rIsi K) from call_isi) (by rfl) T.b_isinstance (by decide +kernel) (pa_cons (pv 1) (pa_cons (pe_bltn (v := .ty "int") rfl T.b_int (by decide +kernel) rfl) pa_nil)))) (pss_one (ps_ret (pe_call G_picks hr (by rfl) T.picks.m T.picks.F.kp T.picks.b .nil pass0 (pa_cons (pv 2) (pa_cons (pe_callB (show CallR _ _ rMax2 from call_max2 rfl) (by rfl) T.b_max (by decide +kernel) (pa_cons pe_int (pa_cons (pe_op op_sub (pe_callB (show CallR _ _ (Sx.rLenS K) from call_len_seq) (by rfl) T.b_len (by decide +kernel) (pa_cons (pv 2) pa_nil)) (pv 1)) pa_nil))) pa_nil))))) pss_nil)
      (pss_one (ps_ret (pe_lc (own := [("lot", 3)]) rfl sc_lots_kept.nd (show PI _ _ _ (iAny K _) from pi_any (pv 1)) (blkOk_by (N := ["word", "book", "lanes", "lot", "lane"]) (sc := defScope s_lots_kept) (by decide +kernel)) (fun _ _ _ _ _ => (pg_name (i := 3) sc_lots_kept.nd rfl (by first | exact Or.inl rfl | exact Or.inr rfl))) (fun _ _ _ _ _ => pts_nil) (fun _ _ _ _ _ => (pe_callTy (show CallR _ _ (rTupS K) from call_tuple_of) (by rfl) T.b_tuple (by decide +kernel) (pa_cons (pe_lc (own := [("lane", 4)]) rfl sc_lots_kept.nd (show PI _ _ _ (iAny K _) from pi_any (pv 2)) (blkOk_in (N := ["word", "book", "lanes", "lot", "lane"]) rfl (by decide +kernel)) (fun _ _ _ _ _ => (pg_name (i := 4) sc_lots_kept.nd rfl (by first | exact Or.inl rfl | exact Or.inr rfl))) (fun _ _ _ _ _ => (pts_one (pt_cmpR (show OpR _ _ (rInP K true) from op_notInP hr.units) (pv 4) (pv 3) (by rfl)))) (fun _ _ _ _ _ => (pv 4))) pa_nil)))))))),
    run0 (N := ["word", "book", "lanes", "lot", "lane"]) (np := 2) (f := b_lots_kept) h (sp_len l_lots_kept h) (fun dk B hb => (show LS B K Wno _ (b_lots_kept dk) from
      (ls_seq (ls_asg (le_call0 (dk := dk) (c := c_speaking) trivial (la_cons (le_var (i := 0)) la_nil)) (lg_name (i := 2)))
      (ls_seq (ls_if (lt_b (le_isi (p := intD) hk_int (le_var (i := 1)))) (ls_ret (le_call0 (dk := dk) (c := c_picks) trivial (la_cons (le_var (i := 2)) (la_cons (le_cb cl_max2 (la_cons (le_c (y := .int 0) fun _ => .int _) (la_cons (le_op (ol_I0 fun _ _ _ => .int _) (le_cb cl_len (la_cons (le_var (i := 2)) la_nil)) (le_var (i := 1))) la_nil))) la_nil)))) ls_next)
      (ls_ret (le_comp (vs := [3]) (li_any (le_var (i := 1))) (lg_name (i := 3)) (tg_name (by decide)) lt_yes (le_cb cl_tuple (la_cons (le_comp (vs := [4]) (li_any (le_var (i := 2))) (lg_name (i := 4)) (tg_name (by decide)) (lt_test (le_op (ol_notIn) (le_var (i := 4)) (le_var (i := 3)))) (le_var (i := 4))) la_nil)))))))) h_lots_kept⟩
end
def IsNear (r : Rw) (x : Int) : Prop := r.lo ≤ x ∧ x ≤ r.hi ∧ ∀ y, r.lo ≤ y → y ≤ r.hi → (strN r.ms r.ws x).length < (strN r.ms r.ws y).length ∨ ((strN r.ms r.ws x).length = (strN r.ms r.ws y).length ∧ x ≤ y)
abbrev c__law_pick := cPick
def b__law_pick (dk : V) : ASx :=
  (aRet (aOp gIx (aVar 1) (aCall0 (c__law_draw dk) (aCons (aVar 0) (aCons (aCB gLen (aCons (aVar 1) aNil)) aNil)))))
theorem l__law_pick : ∀ (dk : V) (as : List A) (R : A → Prop) (Z : Ex → Prop), c__law_pick dk as R Z → as.length = 2 := len_pick
theorem h__law_pick : ∀ (dk : V) (as : List A) (R : A → Prop) (Z : Ex → Prop), as.length = 2 → c__law_pick dk as R Z → b__law_pick dk (ends0 R) (fun _ => R (.d .none)) (as ++ unA ((["deck", "items"] : List Str).length - 2)) := by
  intro dk as R Z hl h
  unfold c__law_pick at h
  match as, hl with
  | [u, v], _ => exact pick_run (v := dk) h
abbrev sp__law_pick (K : PySem.W.Frag) : Sp := SpL K (deckOf boxD) c__law_pick
section
variable {P : Program} {w : World} {K : PySem.W.Frag} {mg : Str → Option Value} {base : Heap} {a : Adr}
theorem ok__law_pick (T : Txt K mg a) : FnOk P w K mg base CX0 2 a.f__law_pick a.d__law_pick ["deck", "items"] (sp__law_pick K) := by
  have G__law_draw : FnOk P w K mg base CX0 1 a.f__law_draw a.d__law_draw ["deck", "many"] (sp__law_draw K) := ok__law_draw T
  refine T._law_pick.F.ok sc__law_pick (fun vs H Q E h => sp_len l__law_pick h) (fun cdv A outer s H vs Q E hr h => ?_)
  have hu := hu_of hr
  exact ⟨_, (pss_one (ps_ret (pe_ix (show IxR _ (rIx K) from ix_seq) (pv 1) (pe_call G__law_draw hr (by rfl) T._law_draw.m T._law_draw.F.kp T._law_draw.b .nil pass0 (pa_cons (pv 0) (pa_cons (pe_callB (show CallR _ _ (Sx.rLenS K) from call_len_seq) (by rfl) T.b_len (by decide +kernel) (pa_cons (pv 1) pa_nil)) pa_nil))) (fun _ _ => rfl)))),
    run0 (N := ["deck", "items"]) (np := 2) (f := b__law_pick) h (sp_len l__law_pick h) (fun dk B hb => have hdk := hb; (show LS B K Wno _ (b__law_pick dk) from
      (ls_ret (le_op ol_ix (le_var (i := 1)) (le_call0 (dk := dk) (c := c__law_draw) hdk (la_cons (le_var (i := 0)) (la_cons (le_cb cl_len (la_cons (le_var (i := 1)) la_nil)) la_nil))))))) h__law_pick⟩
end
def c__law_mixed : V → Ct := fun dk as R _ => match as with
  | [.raw v, a] => v = dk ∧ a.seq fun xs => PyData.plainAll xs = true ∧ xs.length ≤ 4000 ∧ ∀ ys : List PyData, ys.Perm xs → R (.d (.list ys))
  | _ => False
def b__law_mixed (dk : V) : ASx :=
  (aSeq (aPar 2 3 (aCons (aCB gList (aCons (aVar 1) aNil)) (aCons (aLst aNil) aNil)))
      (aCut (aWhile (aB (aEqNilV true 2)) (aDrop (aApp 3 (aPopAt 2 (aCall0 (c__law_draw dk) (aCons (aVar 0) (aCons (aLenV 2) aNil)))))))
      (aRet (aVar 3))))
theorem l__law_mixed : ∀ (dk : V) (as : List A) (R : A → Prop) (Z : Ex → Prop), c__law_mixed dk as R Z → as.length = 2 := by
  intro dk as R Z h
  unfold c__law_mixed at h
  split at h
  · rfl
  · exact h.elim
theorem h__law_mixed : ∀ (dk : V) (as : List A) (R : A → Prop) (Z : Ex → Prop), as.length = 2 → c__law_mixed dk as R Z → b__law_mixed dk (ends0 R) (fun _ => R (.d .none)) (as ++ unA ((["deck", "items", "left", "found"] : List Str).length - 2)) := by
  intro dk as R Z hl h
  unfold c__law_mixed at h
  split at h
  · rename_i v a
    obtain ⟨rfl, h⟩ := h
    have key : ∀ (a' : A) (xs : List PyData), PyData.plainAll xs = true → xs.length ≤ 4000 → (∀ ys : List PyData, ys.Perm xs → R (.d (.list ys))) → ∀ b1 : A, aCut (aWhile (aB (aEqNilV true 2)) (aDrop (aApp 3 (aPopAt 2 (aCall0 (c__law_draw v) (aCons (aVar 0) (aCons (aLenV 2) aNil))))))) (aRet (aVar 3)) (ends0 R) (fun _ => R (.d .none)) [.raw v, b1, .own xs, .own []] := by
      intro a' xs hp hl h b1
      refine ⟨fun ρ => ∃ ys, ys.Perm xs ∧ ρ = [.raw v, b1, .own [], .own ys], ?_, ?_⟩
      · simp! only []
        refine ⟨fun m ρ => ∃ rest found, ρ = [.raw v, b1, .own rest, .own found] ∧ (found ++ rest).Perm xs ∧ rest.length = m ∧ PyData.plainAll rest = true, ⟨xs.length, xs, [], rfl, List.Perm.refl _, rfl, hp⟩, ?_⟩
        rintro m ρ ⟨rest, found, rfl, pm, hm, pr⟩
        simp! only []
        refine ⟨pr, ?_⟩
        cases rest with
        | nil =>
          simp! only [List.isEmpty_nil]
          rw [List.append_nil] at pm
          exact ⟨found, pm, rfl⟩
        | cons z zs =>
          have hlen := pm.length_eq
          rw [List.length_append] at hlen
          generalize hr : z :: zs = rest at pm hm pr hlen
          have hpos : 0 < rest.length := by rw [← hr]; exact Nat.succ_pos _
          have he : rest.isEmpty = false := by rw [← hr] <;> rfl
          simp! only [he, c__law_draw]
          refine ⟨small_of (by omega) (by omega), fun r r0 r1 => ⟨r0, r1, by omega, by omega, m - 1, by omega, rest.eraseIdx r.toNat, found ++ [rest.getD r.toNat .none], rfl, ?_, ?_, ?_⟩⟩
          · have hk : r.toNat < rest.length := by omega
            rw [List.append_assoc]
            refine List.Perm.trans (List.Perm.append_left found ?_) pm
            have e : rest.getD r.toNat .none = rest[r.toNat] := by rw [List.getD_eq_getElem?_getD, List.getElem?_eq_getElem hk] <;> rfl
            rw [e, List.singleton_append]
            exact erase_perm rest _ hk
          · rw [List.length_eraseIdx_of_lt (by omega)]
            omega
          · exact plain_erase pr _
      · rintro ρ ⟨ys, pm, rfl⟩
        simp! only []
        exact h ys pm
    cases a with
    | d y =>
      cases y with
      | tuple ds =>
        obtain ⟨h1, h2, h3⟩ := h
        simp! only [b__law_mixed, aSeq_e]
        exact key (.d (.tuple ds)) ds h1 h2 h3 _
      | list ds =>
        obtain ⟨h1, h2, h3⟩ := h
        simp! only [b__law_mixed, aSeq_e]
        exact key (.d (.list ds)) ds h1 h2 h3 _
      | none => exact h.elim
      | bool _ => exact h.elim
      | int _ => exact h.elim
      | str _ => exact h.elim
      | dict _ => exact h.elim
    | un => exact h.elim
    | raw _ => exact h.elim
    | sp _ => exact h.elim
    | own ds =>
      obtain ⟨h1, h2, h3⟩ := h
      simp! only [b__law_mixed, aSeq_e]
      exact key (.own ds) ds h1 h2 h3 _
  · exact h.elim
abbrev sp__law_mixed (K : PySem.W.Frag) : Sp := SpL K (deckOf boxD) c__law_mixed
section
variable {P : Program} {w : World} {K : PySem.W.Frag} {mg : Str → Option Value} {base : Heap} {a : Adr}
theorem ok__law_mixed (T : Txt K mg a) : FnOk P w K mg base CX0 2 a.f__law_mixed a.d__law_mixed ["deck", "items"] (sp__law_mixed K) := by
  have G__law_draw : FnOk P w K mg base CX0 1 a.f__law_draw a.d__law_draw ["deck", "many"] (sp__law_draw K) := ok__law_draw T
  refine T._law_mixed.F.ok sc__law_mixed (fun vs H Q E h => sp_len l__law_mixed h) (fun cdv A outer s H vs Q E hr h => ?_)
  have hu := hu_of hr
  exact ⟨_, (pss_cons (ps_par (i := 2) (j := 3) (by rfl) sc__law_mixed.nd rfl rfl (by decide) rfl rfl (pa_cons (pe_callTy (show CallR _ _ (Sx.rListS K) from call_list_of) (by rfl) T.b_list (by decide +kernel) (pa_cons (pv 1) pa_nil)) (pa_cons (pe_lst pa_nil) pa_nil)) (by rfl))
      (pss_cons (ps_while PassesOwn.never (pt_cmpR (show OpR _ _ (rNeP K) from op_neP hr.units) (pv 2) (pe_lst pa_nil) (nomark _)) (pss_one (ps_expr (show PE _ _ (tBM K "list" _ _ _) from pe_bm PySem.F.plainAttrs_list PySem.F.slot_list_append PySem.F.type_list_append mt_append (pv 3) (pa_cons (show PE _ _ (tBM K "list" _ _ _) from pe_bm PySem.F.plainAttrs_list PySem.F.slot_list_pop PySem.F.type_list_pop mt_popAt (pv 2) (pa_cons (pe_call G__law_draw hr (by rfl) T._law_draw.m T._law_draw.F.kp T._law_draw.b .nil pass0 (pa_cons (pv 0) (pa_cons (pe_callB (show CallR _ _ (Sx.rLenS K) from call_len_seq) (by rfl) T.b_len (by decide +kernel) (pa_cons (pv 2) pa_nil)) pa_nil))) pa_nil)) pa_nil)))))
      (pss_one (ps_ret (pv 3))))),
    run0 (N := ["deck", "items", "left", "found"]) (np := 2) (f := b__law_mixed) h (sp_len l__law_mixed h) (fun dk B hb => have hdk := hb; (show LS B K Wno _ (b__law_mixed dk) from
      (ls_seq (ls_par (la_cons (le_cb cl_list (la_cons (le_var (i := 1)) la_nil)) (la_cons (le_lst la_nil (by decide)) la_nil)) (by decide))
      (ls_cut (ls_while (lt_test (le_neNilV (i := 2))) (ls_drop (le_app (i := 3) (le_popAt (i := 2) (le_call0 (dk := dk) (c := c__law_draw) hdk (la_cons (le_var (i := 0)) (la_cons (le_lenV (i := 2)) la_nil)))))))
      (ls_ret (le_var (i := 3))))))) h__law_mixed⟩
end
def spanM (ns : List Int) (L : List Nat) : Nat := L.foldl (fun s l => Nat.lcm s (mAt ns l).natAbs) 1
theorem spanM_succ (ns : List Int) (L : List Nat) {i : Nat} (h : i < L.length) : spanM ns (L.take (i + 1)) = Nat.lcm (spanM ns (L.take i)) (mAt ns (L.getD i 0)).natAbs := by
  unfold spanM
  have e : L[i]? = some (L.getD i 0) := by rw [List.getD_eq_getElem?_getD, List.getElem?_eq_getElem h] <;> rfl
  rw [List.take_add_one, e, List.foldl_append] <;> rfl
theorem spanM_pos {ns : List Int} (hm : ∀ m ∈ ns, 2 ≤ m ∧ m ≤ 1000000) (L : List Nat) (hL : ∀ j ∈ L, j < ns.length) : 0 < spanM ns L ∧ spanM ns L ≤ 1000000 ^ L.length := by
  have key : ∀ k, k ≤ L.length → 0 < spanM ns (L.take k) ∧ spanM ns (L.take k) ≤ 1000000 ^ k := by
    intro k
    induction k with
    | zero => exact fun _ => ⟨by show 0 < 1; decide, by show 1 ≤ 1; decide⟩
    | succ k ih =>
      intro hk
      obtain ⟨h1, h2⟩ := ih (by omega)
      have e : L[k]? = some (L.getD k 0) := by rw [List.getD_eq_getElem?_getD, List.getElem?_eq_getElem (by omega)] <;> rfl
      have hx := hm _ (mAt_in (hL _ (List.mem_of_getElem? e)))
      rw [spanM_succ ns L (by omega)]
      refine ⟨Nat.lcm_pos h1 (by omega), ?_⟩
      refine Nat.le_trans (Nat.div_le_self _ _) ?_
      rw [Nat.pow_succ]
      exact Nat.mul_le_mul h2 (by omega)
  have := key L.length (Nat.le_refl _)
  rwa [List.take_length] at this
theorem lnD_at {L : List Nat} {i : Nat} (h : i < L.length) : (lnD L).getD i .none = .int ((L.getD i 0 : Nat) : Int) := by
  unfold lnD
  rw [List.getD_eq_getElem?_getD, List.getD_eq_getElem?_getD, List.getElem?_map, List.getElem?_eq_getElem h] <;> rfl
theorem lnD_len (L : List Nat) : (lnD L).length = L.length := List.length_map ..
theorem getD_in {L : List Nat} {i : Nat} (h : i < L.length) : L.getD i 0 ∈ L := by
  rw [List.getD_eq_getElem?_getD, List.getElem?_eq_getElem h]
  exact List.getElem_mem h
def c__law_span : V → Ct := fun _ as R _ => match as with
  | [.d m, .d t] => ∃ (ns : List Int) (L : List Nat), m = .tuple (ns.map PyData.int) ∧ (t = .tuple (lnD L) ∨ t = .list (lnD L)) ∧ (∀ m ∈ ns, 2 ≤ m ∧ m ≤ 1000000) ∧ (∀ j ∈ L, j < ns.length) ∧ L.length ≤ 10 ∧ R (.d (.int (spanM ns L : Nat)))
  | _ => False
def b__law_span (dk : V) : ASx :=
  (aSeq (aAsg (aC (.int 1)) (gN 2))
      (aCut (aFor (aIter (aVar 1)) (gN 3) (aAsg (aOp (gI CDivW fun i j => .int (i / j)) (aOp (gMul) (aVar 2) (aOp gIx (aVar 0) (aVar 3))) (aCall0 (c__law_divisor dk) (aCons (aVar 2) (aCons (aOp gIx (aVar 0) (aVar 3)) aNil)))) (gN 2)))
      (aRet (aVar 2))))
theorem l__law_span : ∀ (dk : V) (as : List A) (R : A → Prop) (Z : Ex → Prop), c__law_span dk as R Z → as.length = 2 := by
  intro dk as R Z h
  unfold c__law_span at h
  split at h
  · rfl
  · exact h.elim
theorem h__law_span : ∀ (dk : V) (as : List A) (R : A → Prop) (Z : Ex → Prop), as.length = 2 → c__law_span dk as R Z → b__law_span dk (ends0 R) (fun _ => R (.d .none)) (as ++ unA ((["machine", "lanes", "found", "lane"] : List Str).length - 2)) := by
  intro dk as R Z hl h
  unfold c__law_span at h
  split at h
  · rename_i m t
    obtain ⟨ns, L, rfl, ht, hm, hL, hl, hR⟩ := h
    have e6 : (1000000 : Nat) ^ 10 ≤ 10 ^ 120 := by decide +kernel
    have sp : ∀ i, i ≤ L.length → 0 < spanM ns (L.take i) ∧ spanM ns (L.take i) ≤ 1000000 ^ 10 := fun i hi => by
      obtain ⟨h1, h2⟩ := spanM_pos hm (L.take i) fun j hj => hL j (List.mem_of_mem_take hj)
      exact ⟨h1, Nat.le_trans h2 (Nat.pow_le_pow_right (by decide) (by rw [List.length_take]; omega))⟩
    have run : ∀ ρ0 : A, forRun (lnD L) (gN 3) (aAsg (aOp (gI CDivW fun i j => .int (i / j)) (aOp (gMul) (aVar 2) (aOp gIx (aVar 0) (aVar 3))) (aCall0 (c__law_divisor dk) (aCons (aVar 2) (aCons (aOp gIx (aVar 0) (aVar 3)) aNil)))) (gN 2)) (ends0 R) (fun ρ => ∃ b, ρ = [.d (.tuple (ns.map PyData.int)), ρ0, .d (.int (spanM ns L : Nat)), b]) [.d (.tuple (ns.map PyData.int)), ρ0, .d (.int 1), .un] := by
      intro ρ0
      refine ⟨fun i ρ => ∃ b, ρ = [.d (.tuple (ns.map PyData.int)), ρ0, .d (.int (spanM ns (L.take i) : Nat)), b], ⟨_, rfl⟩, ?_, ?_⟩
      · rintro i ρ hi ⟨b, rfl⟩
        rw [lnD_len] at hi
        have hj := hL _ (getD_in hi)
        have hx := hm _ (mAt_in hj)
        obtain ⟨s0, s1⟩ := sp i (by omega)
        rw [lnD_at hi]
        simp! only [c__law_divisor, mAt_at hj]
        have gp : 0 < Nat.gcd (spanM ns (L.take i)) (mAt ns (L.getD i 0)).natAbs := Nat.gcd_pos_of_pos_left _ s0
        have gl : Nat.gcd (spanM ns (L.take i)) (mAt ns (L.getD i 0)).natAbs ≤ spanM ns (L.take i) := Nat.gcd_le_left _ s0
        have e130 : (10 : Nat) ^ 120 ≤ 10 ^ 130 := by decide +kernel
        refine ⟨bnd_wide (by omega) (by omega), by omega, by omega, by omega, by omega, div_okS (by simpa using gp) (by simp only [Int.natAbs_natCast]; omega), .d (.int (L.getD i 0 : Nat)), ?_⟩
        rw [spanM_succ ns L hi]
        unfold Nat.lcm
        rw [Int.natCast_ediv, Int.natCast_mul, show (((mAt ns (L.getD i 0)).natAbs : Nat) : Int) = mAt ns (L.getD i 0) by omega, Int.natAbs_natCast] <;> rfl
      · rintro ρ ⟨b, rfl⟩
        rw [lnD_len, List.take_length]
        exact ⟨_, rfl⟩
    rcases ht with rfl | rfl
    all_goals
      simp! only [b__law_span]
      refine ⟨_, run _, ?_⟩
      rintro ρ ⟨b, rfl⟩
      simp! only []
      exact hR
  · exact h.elim
abbrev sp__law_span (K : PySem.W.Frag) : Sp := SpL K noBox c__law_span
section
variable {P : Program} {w : World} {K : PySem.W.Frag} {mg : Str → Option Value} {base : Heap} {a : Adr}
theorem ok__law_span (T : Txt K mg a) : FnOk P w K mg base CX0 2 a.f__law_span a.d__law_span ["machine", "lanes"] (sp__law_span K) := by
  have G__law_divisor : FnOk P w K mg base CX0 1 a.f__law_divisor a.d__law_divisor ["one", "other"] (sp__law_divisor K) := ok__law_divisor T
  refine T._law_span.F.ok sc__law_span (fun vs H Q E h => sp_len l__law_span h) (fun cdv A outer s H vs Q E hr h => ?_)
  have hu := hu_of hr
  exact ⟨_, (pss_cons (ps_set (i := 2) sc__law_span.nd rfl (by first | exact Or.inl rfl | exact Or.inr rfl) pe_int)
      (pss_cons (ps_for PassesOwn.never rfl (show PI _ _ _ (iAny K _) from pi_any (pv 1)) (pg_name (i := 3) sc__law_span.nd rfl (by first | exact Or.inl rfl | exact Or.inr rfl)) (pss_one (ps_set (i := 2) sc__law_span.nd rfl (by first | exact Or.inl rfl | exact Or.inr rfl) (pe_op op_fdivW (pe_op (show OpR _ _ (rTimes K) from op_times) (pv 2) (pe_ix (show IxR _ (rIx K) from ix_seq) (pv 0) (pv 3) (fun _ _ => rfl))) (pe_call G__law_divisor hr (by rfl) T._law_divisor.m T._law_divisor.F.kp T._law_divisor.b .nil pass0 (pa_cons (pv 2) (pa_cons (pe_ix (show IxR _ (rIx K) from ix_seq) (pv 0) (pv 3) (fun _ _ => rfl)) pa_nil)))))))
      (pss_one (ps_ret (pv 2))))),
    run0 (N := ["machine", "lanes", "found", "lane"]) (np := 2) (f := b__law_span) h (sp_len l__law_span h) (fun dk B hb => (show LS B K Wno _ (b__law_span dk) from
      (ls_seq (ls_asg (le_c (y := .int 1) fun _ => .int _) (lg_name (i := 2)))
      (ls_cut (ls_for (li_any (le_var (i := 1))) (lg_name (i := 3)) (ls_asg (le_op (ol_I fun _ _ _ => .int _) (le_op (ol_times) (le_var (i := 2)) (le_op ol_ix (le_var (i := 0)) (le_var (i := 3)))) (le_call0 (dk := dk) (c := c__law_divisor) trivial (la_cons (le_var (i := 2)) (la_cons (le_op ol_ix (le_var (i := 0)) (le_var (i := 3))) la_nil)))) (lg_name (i := 2))))
      (ls_ret (le_var (i := 2))))))) h__law_span⟩
end
abbrev sp_AgreeingRows___init__ (K : PySem.W.Frag) (a : Adr) : Sp := spI K a.C_AgreeingRows
abbrev c_AgreeingRows_row : V → Ct := cRow 10
abbrev sp_AgreeingRows_row (K : PySem.W.Frag) (a : Adr) : Sp := SpL K (fun (_ : V) B => RBox K a.C_AgreeingRows B) c_AgreeingRows_row
section
variable {P : Program} {w : World} {K : PySem.W.Frag} {mg : Str → Option Value} {base : Heap} {a : Adr}
theorem ok_AgreeingRows___init__ (T : Txt K mg a) : FnOk P w K mg base CX0 2 a.f_AgreeingRows___init__ a.d_AgreeingRows___init__ ["self", "machine", "word", "stretch"] (sp_AgreeingRows___init__ K a) := by
  refine T.AgreeingRows___init__.F.ok sc_AgreeingRows___init__ (fun vs H Q E h => ?_) (fun cdv A outer s H vs Q E hr h => ?_)
  · obtain ⟨_, _, _, _, _, _, _, rfl, _⟩ := h
    rfl
  · have hu := hu_of hr
    obtain ⟨x, dx, t, m, w, lo, hi, rfl, hx, ht, q⟩ := h
    refine ⟨_, pss_cons (ps_asg (pv 3) (show PG _ _ (gTup K 2 _) from pg_tup rfl (pgs_cons (pg_name (i := 4) sc_AgreeingRows___init__.nd rfl (by first | exact Or.inl rfl | exact Or.inr rfl)) (pgs_cons (pg_name (i := 5) sc_AgreeingRows___init__.nd rfl (by first | exact Or.inl rfl | exact Or.inr rfl)) pgs_nil))))
      (pss_cons (ps_fld (pv 0) (pv 1) rfl) (pss_cons (ps_fld (pv 0) (pv 2) rfl) (pss_one (ps_fld (pv 0) (pe_disp1T hu (pe_tup pa_nil) (pe_tup (pa_cons (pv 4) (pa_cons pe_int (pa_cons (pe_op (show OpR _ _ (rPlus K) from op_plus) (pe_op op_sub (pv 5) (pv 4)) pe_int) pa_nil))))) rfl)))), ?_⟩
    refine ⟨_, rfl, t, _, rfl, ht, rfl, _, _, rfl, _, _, rfl, rfl, ?_⟩
    refine ⟨_, rfl, _, rfl, x, _, dx, _, rfl, hx, T.cl_AgreeingRows, T.na_AgreeingRows_machine, by decide, ?_⟩
    refine ⟨_, rfl, _, rfl, x, _, dx, _, rfl, upd_same, T.cl_AgreeingRows, T.na_AgreeingRows_word, (by decide : (1 : Nat) < 1000), ?_⟩
    intro kd nk
    refine ⟨by decide, fun b nb => ?_⟩
    refine ⟨_, rfl, _, rfl, _, rfl, _, _, rfl, rfl, .inr (.inr ⟨_, _, rfl, rfl, (by decide : (3 : Nat) ≤ sizeLine), fun qq nq => ?_⟩)⟩
    have hn : ∀ {f : Hp} {c d : Addr} {o : HO}, upd f d o c = none → c ≠ d ∧ f c = none := fun {f c d o} e => by
      have : c ≠ d := fun z => by
        rw [z, upd_same] at e
        cases e
      exact ⟨this, by rwa [upd_ne this] at e⟩
    obtain ⟨k1, k2⟩ := hn nk
    obtain ⟨_, k3⟩ := hn k2
    obtain ⟨b0, b1⟩ := hn nb
    obtain ⟨b1, b2⟩ := hn b1
    obtain ⟨_, b3⟩ := hn b2
    obtain ⟨q0, q1⟩ := hn nq
    obtain ⟨q1, q2⟩ := hn q1
    obtain ⟨q3, q4⟩ := hn q2
    obtain ⟨_, q5⟩ := hn q4
    refine ⟨b, [], rfl, .of (by rw [upd_ne (Ne.symm q0), upd_same]; rfl), by rw [upd_ne (Ne.symm q1), upd_ne (Ne.symm b0), upd_same], _, rfl, x, _, dx, [("machine", m), ("word", w)], rfl, by
      rw [upd_ne (Ne.symm k1), upd_ne (Ne.symm q3), upd_ne (Ne.symm b1), upd_ne (Ne.symm k1), upd_same] <;> rfl, T.cl_AgreeingRows, T.na_AgreeingRows_known, (by decide : (2 : Nat) < 1000), ?_⟩
    have e := q kd b qq k3 b3 q5 b0 q1 q0
    refine cast (congrArg (Q V.non) ?_) e
    funext c
    by_cases c1 : c = x
    · rw [c1, upd_same, upd_same]
      rfl
    · rw [upd_ne c1, upd_ne c1]
      by_cases c2 : c = kd
      · rw [c2, upd_same, upd_ne (Ne.symm q1), upd_ne (Ne.symm b0), upd_same]
      · by_cases c3 : c = qq
        · rw [c3, upd_same, upd_ne q1, upd_same]
        · by_cases c4 : c = b
          · rw [upd_ne c3, c4, upd_same, upd_ne b0, upd_ne (Ne.symm q0), upd_same]
          · rw [upd_ne c3, upd_ne c4, upd_ne c2, upd_ne c2, upd_ne c3, upd_ne c4, upd_ne c2, upd_ne c1, upd_ne c1]
theorem ok_row (T : Txt K mg a) : ∀ n, n ≤ 10 → FnOk P w K mg base CX0 (n + 3) a.f_AgreeingRows_row a.d_AgreeingRows_row ["self", "lanes"] (SpL K (fun (_ : V) B => RBox K a.C_AgreeingRows B) (cRow n)) := by
  have step : ∀ (n : Nat) (sp' : Sp), n ≤ 10 → FnOk P w K mg base CX0 (n + 2) a.f_AgreeingRows_row a.d_AgreeingRows_row ["self", "lanes"] sp' → (∀ m, n = m + 1 → sp' = SpL K (fun (_ : V) B => RBox K a.C_AgreeingRows B) (cRow m)) →
      FnOk P w K mg base CX0 (n + 3) a.f_AgreeingRows_row a.d_AgreeingRows_row ["self", "lanes"] (SpL K (fun (_ : V) B => RBox K a.C_AgreeingRows B) (cRow n)) := by
    intro n sp' hn IH hsp
    have G_narrowed : FnOk P w K mg base CX0 2 a.f_narrowed a.d_narrowed ["row", "modulus", "rest"] (sp_narrowed K) := ok_narrowed T
    refine T.AgreeingRows_row.F.ok sc_AgreeingRows_row (fun vs H Q E h => sp_len (len_row n) h) (fun cdv A outer s H vs Q E hr h => ?_)
    have hu := hu_of hr
    refine ⟨_, pss_cons (ps_if (pt_cmpR (op_dninT hu) (pv 1) (pe_fld (pv 0) rfl) (by rfl))
      (pss_cons (ps_set (i := 2) sc_AgreeingRows_row.nd rfl (by first | exact Or.inl rfl | exact Or.inr rfl) (pe_meth (pv 0) T.cl_AgreeingRows T.me_AgreeingRows_row IH hr T.AgreeingRows_row.b .nil pass0 (pa_cons (pe_slice (show L2.SlR _ (rCut K) from sl_cut) (pv 1) po_none (po_some (pe_un un_neg pe_int))) pa_nil)))
        (pss_cons (ps_if (pt_cmpR op_notN (pv 2) pe_non (nomark _)) (pss_one (ps_set (i := 2) sc_AgreeingRows_row.nd rfl (by first | exact Or.inl rfl | exact Or.inr rfl) (pe_call G_narrowed (hr.mono (by omega)) (by rfl) T.narrowed.m T.narrowed.F.kp T.narrowed.b .nil pass0 (pa_cons (pv 2) (pa_cons (pe_ix (show IxR _ (rIx K) from ix_seq) (pe_fld (pv 0) rfl) (pe_ix (show IxR _ (rIx K) from ix_seq) (pv 1) (pe_un un_neg pe_int) (fun _ _ => rfl)) (fun _ _ => rfl)) (pa_cons (pe_ix (show IxR _ (rIx K) from ix_seq) (pe_fld (pv 0) rfl) (pe_ix (show IxR _ (rIx K) from ix_seq) (pv 1) (pe_un un_neg pe_int) (fun _ _ => rfl)) (fun _ _ => rfl)) pa_nil)))))) pss_nil)
        (pss_one (ps_asg (pv 2) (pg_sub (pe_fld (pv 0) rfl) (pv 1) (set_dt hu)))))) pss_nil)
      (pss_one (ps_ret (pe_ix (ix_dt hu) (pe_fld (pv 0) rfl) (pv 1) (fun _ _ => rfl)))), ?_⟩
    refine run0 (N := ["self", "lanes", "found"]) (np := 2) (f := fun _ => fRow n) h (sp_len (len_row n) h) (fun dk B hB => ?_) (fun dk as R Z hl h => ?_)
    · refine ls_row (dk := dk) hB T.cl_AgreeingRows T.na_AgreeingRows_known hn fun m em => ?_
      have := hsp m em
      subst this
      exact ls_seq (ls_asg (le_meth hB row_look (le_var (i := 0)) (la_cons (le_sl sll_cut (le_var (i := 1)) lo_no (lo_some (le_un (ul_U fun _ _ => .int _) (le_c (y := .int 1) fun _ => .int _)))) la_nil)) (lg_name (i := 2)))
        (ls_if (lt_test (le_op (ol_notN) (le_var (i := 2)) (le_c (y := .none) fun _ => .non))) (ls_asg (le_call0 (dk := dk) (c := cNar) trivial (la_cons (le_var (i := 2)) (la_cons (le_op ol_ix (le_rowM hB T.cl_AgreeingRows T.na_AgreeingRows_machine (le_var (i := 0))) (le_op ol_ix (le_var (i := 1)) (le_un (ul_U fun _ _ => .int _) (le_c (y := .int 1) fun _ => .int _)))) (la_cons (le_op ol_ix (le_rowW hB T.cl_AgreeingRows T.na_AgreeingRows_word (le_var (i := 0))) (le_op ol_ix (le_var (i := 1)) (le_un (ul_U fun _ _ => .int _) (le_c (y := .int 1) fun _ => .int _)))) la_nil)))) (lg_name (i := 2))) ls_next)
    · unfold cRow at h
      split at h
      · rename_i r t
        obtain ⟨L, rfl, h1, h2, h3, h4⟩ := h
        exact ⟨r, L, rfl, h1, h2, h3, h4⟩
      · exact h.elim
  intro n
  induction n with
  | zero => exact fun h => step 0 (fun _ _ _ _ => False) h (T.AgreeingRows_row.F.ok sc_AgreeingRows_row (fun vs H Q E h => h.elim) (fun cdv A outer s H vs Q E hr h => h.elim)) fun m em => nomatch em
  | succ n ih => exact fun h => step (n + 1) _ h (ih (by omega)) fun m em => by cases em; rfl
theorem ok_AgreeingRows_row (T : Txt K mg a) : FnOk P w K mg base CX0 13 a.f_AgreeingRows_row a.d_AgreeingRows_row ["self", "lanes"] (sp_AgreeingRows_row K a) := ok_row T 10 (by decide)
end
def c__law_machine : V → Ct := fun dk as R _ => match as with
  | [.raw v, .d m, .d t] => v = dk ∧ ∃ (n : Nat) (top : Int), m = .int (n : Nat) ∧ t = .int top ∧ 1 ≤ n ∧ n ≤ 10 ∧ 4 ≤ top ∧ top ≤ 60 ∧ ∀ ns : List Int, ns.length = n → (∀ x ∈ ns, 2 ≤ x ∧ x ≤ top) → R (.d (.tuple (ns.map PyData.int)))
  | _ => False
def b__law_machine (dk : V) : ASx :=
  (aSeq (aPar 3 4 (aCons (aCall0 (c__law_draw dk) (aCons (aVar 0) (aCons (aC (.int 5)) aNil))) (aCons (aComp (aIter (aTup (aCons (aC (.int 2)) (aCons (aC (.int 3)) (aCons (aC (.int 5)) (aCons (aC (.int 7)) (aCons (aC (.int 11)) aNil))))))) (gN 6) (aB (aOp (gI0 fun i j => .bool (decide (i ≤ j))) (aVar 6) (aVar 2))) (aVar 6) [6]) aNil)))
      (aSeq (aIfS (aB (aOp (gEq) (aVar 3) (aC (.int 0)))) (aRet (aOp (gMul) (aTup (aCons (aOp (gCat) (aC (.int 2)) (aCall0 (c__law_draw dk) (aCons (aVar 0) (aCons (aOp (gI0 fun i j => .int (i - j)) (aVar 2) (aC (.int 1))) aNil)))) aNil)) (aVar 1))) aNext)
      (aSeq (aIfS (aB (aOp (gEq) (aVar 3) (aC (.int 1)))) (aSeq (aAsg (aOp (gCat) (aC (.int 2)) (aCall0 (c__law_draw dk) (aCons (aVar 0) (aCons (aC (.int 2)) aNil)))) (gN 5))
        (aRet (aCB gTuple (aCons (aComp (aRange1 (aCons (aVar 1) aNil)) (gN 7) aYes (aOp (gMul) (aVar 5) (aOp (gCat) (aC (.int 1)) (aCall0 (c__law_draw dk) (aCons (aVar 0) (aCons (aOp (gI CDivW fun i j => .int (i / j)) (aVar 2) (aVar 5)) aNil))))) [7]) aNil)))) aNext)
      (aSeq (aIfS (tAndA (aB (aOp (gEq) (aVar 3) (aC (.int 2)))) (aB (aOp (gI0 fun i j => .bool (decide (i ≤ j))) (aVar 1) (aCB gLen (aCons (aVar 4) aNil))))) (aRet (aCB gTuple (aCons (aSl gCut (aCall0 (c__law_mixed dk) (aCons (aVar 0) (aCons (aVar 4) aNil))) aNoP (aPart (aVar 1))) aNil))) aNext)
      (aRet (aCB gTuple (aCons (aComp (aRange1 (aCons (aVar 1) aNil)) (gN 7) aYes (aOp (gCat) (aC (.int 2)) (aCall0 (c__law_draw dk) (aCons (aVar 0) (aCons (aOp (gI0 fun i j => .int (i - j)) (aVar 2) (aC (.int 1))) aNil)))) [7]) aNil)))))))
theorem l__law_machine : ∀ (dk : V) (as : List A) (R : A → Prop) (Z : Ex → Prop), c__law_machine dk as R Z → as.length = 3 := by
  intro dk as R Z h
  unfold c__law_machine at h
  split at h
  · rfl
  · exact h.elim
theorem h__law_machine : ∀ (dk : V) (as : List A) (R : A → Prop) (Z : Ex → Prop), as.length = 3 → c__law_machine dk as R Z → b__law_machine dk (ends0 R) (fun _ => R (.d .none)) (as ++ unA ((["deck", "lanes", "top", "way", "least", "common", "own", "lane"] : List Str).length - 3)) := by
  intro dk as R Z hl h
  unfold c__law_machine at h
  split at h
  · rename_i v m t
    obtain ⟨rfl, n, top, rfl, rfl, n1, n10, t9, t60, h⟩ := h
    have fin : ∀ ys : List PyData, ys.length = n → (∀ y ∈ ys, ∃ m : Int, y = .int m ∧ 2 ≤ m ∧ m ≤ top) → R (.d (.tuple ys)) := fun ys h1 h3 => by
      obtain ⟨ns, rfl, h4⟩ := ints_of (P := fun m => 2 ≤ m ∧ m ≤ top) h3
      rw [List.length_map] at h1
      exact h ns h1 h4
    simp! only [b__law_machine, c__law_draw]
    refine ⟨small_of (by decide) (by decide), fun way w0 w1 => ?_⟩
    obtain ⟨ls, els⟩ : ∃ ls : List Int, ls = [2, 3, 5, 7, 11].filter fun i => decide (i ≤ top) := ⟨_, rfl⟩
    have lin : ∀ x ∈ ls, 2 ≤ x ∧ x ≤ top := fun x hx => by
      rw [els] at hx
      obtain ⟨h1, h2⟩ := List.mem_filter.mp hx
      have h2 : x ≤ top := of_decide_eq_true h2
      simp only [List.isEmpty_cons,List.isEmpty_nil,ends0,ends1,wipeA,List.map,List.set,List.cons_append,List.nil_append,List.length_cons,List.length_nil,ite_true,ite_false,Bool.not_true,Bool.not_false,Bool.true_and,Bool.and_true,Bool.false_and,Bool.and_false,reduceIte,reduceCtorEq,Bool.false_eq_true,if_true,if_false,Nat.reduceAdd,Nat.reduceLeDiff,ne_eq,not_false_eq_true,eq_self,not_true_eq_false,Nat.reduceSub,Nat.reduceMul,Nat.reduceLT,Nat.reducePow,Int.reduceLE,Int.reduceLT,Int.reduceAdd,Int.reduceSub,Int.reduceMul,Int.reduceNeg,Int.reducePow,Int.reduceToNat,Int.reduceEq,Int.reduceBEq,Option.some.injEq,exists_eq_left',exists_eq_left,true_and,and_true,decide_true,decide_false,Nat.reduceBEq,Bool.or_true,Bool.true_or,Bool.or_false,Bool.false_or,aVar_e,aC_e,aRaw_e,aOp_e,aUn_e,aNot_e,aAnd_e,aOr_e,aChain_e,aTern_e,aNil_e,aCons_e,aTup_e,aLst_e,aB_e,tAndA_e,tOrA_e,tNotA_e,aCB_e,aCall_e,aCallK_e,aSl_e,aNoP_e,aCall0_e,gN_e,aNext_e,aSeq_e,aBrk_e,aCnt_e,aDrop_e,aRet_e,aRetN_e,aIfS_e,aAsg_e,aAug_e,aPar_e,aFor_e,aWhile_e,aYes_e,aIter_e,aEnum_e,aRange1_e,aRange2_e,aZip_e,aZipTL_e,aApp_e,aPopAt_e,aPop_e,aLenV_e,aIxV_e,aEqNilV_e,aTupV_e,aDnew_e,aListRg_e,aComp_e,aZip3T_e,aCallK0_e,gSetV_e,on_d,on_own,bl_b,it_i,ow_o,isOwn_o,seq_t,seq_l,seq_o,lst_l,lst_o,tup_t,same_t,same_l,one_1,fz_d,fz_r,fz_o,look_d,look_r,look_o,unA_0,unA_s,sl_0,sl_s,ons_n,ons_c,gI0_i,gI_i,gU_i,gIsN_n,gNotN_n,isNone_n,isNone_i,isNone_b,isNone_s,isNone_t,isNone_l,gEq_s,gNe_s,gIn_l,gIn_t,gNotIn_l,gNotIn_t,gIx_t,gIx_l,gCat_i,gCat_t,gCat_l,gMul_i,gMul_t,gMul_l,gCut_t,gCut_l,gP_x,intD_n,intD_b,intD_i,intD_s,intD_l,intD_t,intD_d,boolD_n,boolD_b,boolD_i,boolD_s,boolD_l,boolD_t,boolD_d,strD_n,strD_b,strD_i,strD_s,strD_l,strD_t,strD_d,tupD_n,tupD_b,tupD_i,tupD_s,tupD_l,tupD_t,tupD_d,wholeD_n,wholeD_b,wholeD_i,wholeD_s,wholeD_l,wholeD_t,wholeD_d,gLen_1,gTuple_1,gList_1,gInt_i,gInt_b,gAbs_i,gRepr_x,gAll_l,gAny_l,gSum_l,gGcd_i,gSorted_l,cDraw_1,two_1,three_1,cPick_1,gMax2_i,gMin2_i,gEqS_s,isStr_s,gNil_n,gCons_c,gT_t,gL_o,gL_l,at1_0,at2_0,at2_1,at3_0,at3_1,at3_2,cpow_e,cast_lit,abs_lit,aPart_e,gMax1_l,gMax1_t,gMin1_l,gMin1_t,gInS_t,gEqNil_t,MaxR,MinR,aLend_e,argsV_n,argsV_c,dat_d,dat_r,nl_d,gSortedT_l,gLeT_t,aInV_e,aTupRg_e,gRev_t,gStr_i,aRevI_e,aDown_e,aCompV_e,gEq_nl,gNe_nl,gEq_nt,gNe_nt,gNeNil_t,aLendX_e,intd_i,rdAll_n,rdAll_c,rd_d,rd_r,rd_o,gNilL_t,gNilL_f,aLe3_e,gNiS_t,aPar3_e,three_e,gRepF3_t,gLcm_i,aBits_e,aSortSet_e,aComp2_e,aMaxDef_e,aListRg2_e,aDNewT_e,aDNewK_e,aDGetT_e,aDInT_e,gDPutT_e,aDLenT_e,aDListT_e,aDGetK_e,aDInK_e,gDPutK_e,aDLenK_e,aDListK_e,isD_t,isD_k,dtd_o,dkd_o,keyK_i,keyK_s,keyT_t,aRaise_e,aRaise1_e,aTryAs_e,aTry_e,aXf_e,aIsX_e,aMeth_e,aNewRow_e,isRow_r,fz_row,look_row,look_rowL,look_exc,look_dt,look_dk,fz_rowL,fz_exc,aDisp1T_e,aTru_e,aTruV_e,truD_t,truD_l,truD_b,truD_n,truD_i,gEq_i,gNe_i,List.mem_cons,List.not_mem_nil,or_false,forall_eq_or_imp,forall_eq] at h1
      exact ⟨by rcases h1 with rfl | rfl | rfl | rfl | rfl <;> decide, h2⟩
    have ll : ls.length ≤ 5 := by
      rw [els]
      exact List.length_filter_le _ _
    show compRun ([2, 3, 5, 7, 11].map PyData.int) _ _ _ _ _ _
    refine comp_det (fun d => match d with | .int i => if decide (i ≤ top) = true then some d else none | _ => none) (by decide) (fun d hd J hJ => ?_) ?_
    · obtain ⟨i, _, rfl⟩ := List.mem_map.mp hd
      have hJ : J (if decide (i ≤ top) = true then some (.int i) else none) _ := hJ
      simp! only []
      generalize decide (i ≤ top) = b at hJ ⊢
      cases b <;> exact hJ
    have e1 : [PyData.int 2, PyData.int 3, PyData.int 5, PyData.int 7, PyData.int 11].filterMap (fun d => match d with | .int i => if decide (i ≤ top) = true then some d else none | _ => none) = ls.map PyData.int := by
      rw [els]
      show ([2, 3, 5, 7, 11].map PyData.int).filterMap _ = _
      generalize ([2, 3, 5, 7, 11] : List Int) = L
      induction L with
      | nil => rfl
      | cons a L ih =>
        rw [List.map_cons, List.filterMap_cons, List.filter_cons, ih]
        dsimp only
        generalize decide (a ≤ top) = b
        cases b <;> rfl
    rw [show ([2, 3, 5, 7, 11].map PyData.int).filterMap (fun d => match d with | .int i => if decide (i ≤ top) = true then some d else none | _ => none) = ls.map PyData.int from e1]
    simp! only []
    have many : ∀ c4 : A, -4611686018427387904 ≤ ((n : Nat) : Int) ∧ ((n : Nat) : Int) < 4611686018427387904 ∧ compRun (rangeD 0 ((n : Nat) : Int).toNat) (gN 7) aYes (aOp gCat (aC (.int 2)) (aCall0 (cDraw v) (aCons (aVar 0) (aCons (aOp (gI0 fun i j => .int (i - j)) (aVar 2) (aC (.int 1))) aNil)))) [7] [.raw v, .d (.int (n : Nat)), .d (.int top), .d (.int way), c4, .un, .un, .un] fun a ρ1 => a.fz.seq fun ds => R (.d (.tuple ds)) := fun c4 => by
      refine ⟨by omega, by omega, comp_each (fun _ y => ∃ m : Int, y = .int m ∧ 2 ≤ m ∧ m ≤ top) (by rw [rangeD_len]; omega) (fun d hd J hJ => ?_) fun ys hyl hy => ?_⟩
      · simp! only []
        exact ⟨small_of (by omega) (by omega), fun r r0 r1 => hJ _ ⟨_, rfl, by omega, by omega⟩⟩
      · rw [rangeD_len] at hyl hy
        simp! only []
        exact fin ys (by omega) (mem_at (P := fun y => ∃ m : Int, y = .int m ∧ 2 ≤ m ∧ m ≤ top) fun i hi => hy i (by omega))
    by_cases e0 : way = 0
    · subst e0
      simp! only []
      refine ⟨small_of (by omega) (by omega), fun r r0 r1 => ⟨by omega, by omega, ?_⟩⟩
      rw [Int.toNat_natCast]
      have er : (List.replicate n [PyData.int (2 + r)]).flatten = List.replicate n (.int (2 + r)) := by simp
      rw [er]
      exact fin _ (List.length_replicate ..) fun y hy => ⟨2 + r, List.eq_of_mem_replicate hy, by omega, by omega⟩
    have b0 : (way == 0) = false := by simpa using e0
    simp! only [b0]
    by_cases e1' : way = 1
    · subst e1'
      simp! only []
      refine ⟨small_of (by decide) (by decide), fun c c0 c1 => ⟨by omega, by omega, comp_each (fun _ y => ∃ m : Int, y = .int m ∧ 2 ≤ m ∧ m ≤ top) (by rw [rangeD_len]; omega) (fun d hd J hJ => ?_) fun ys hyl hy => ?_⟩⟩
      · simp! only []
        have e2 : (100 : Nat) ≤ 10 ^ 120 := by decide +kernel
        have e3 : (100 : Nat) ≤ 10 ^ 130 := by decide +kernel
        rcases (show c = 0 ∨ c = 1 by omega) with rfl | rfl
        · exact ⟨div_okS (by omega) (by omega), small_of (by omega) (by omega), fun r r0 r1 => ⟨bnd_wide (by omega) (by omega), hJ _ ⟨_, rfl, by omega, by omega⟩⟩⟩
        · exact ⟨div_okS (by omega) (by omega), small_of (by omega) (by omega), fun r r0 r1 => ⟨bnd_wide (by omega) (by omega), hJ _ ⟨_, rfl, by omega, by omega⟩⟩⟩
      · rw [rangeD_len] at hyl hy
        simp! only []
        exact fin ys (by omega) (mem_at (P := fun y => ∃ m : Int, y = .int m ∧ 2 ≤ m ∧ m ≤ top) fun i hi => hy i (by omega))
    have b1 : (way == 1) = false := by simpa using e1'
    simp! only [b1]
    cases b2 : way == 2 with
    | false =>
      simp! only []
      exact many _
    | true =>
      simp! only [List.length_map]
      by_cases z : (n : Int) ≤ (ls.length : Nat)
      · rw [decide_eq_true z]
        simp! only [c__law_mixed]
        have pI : ∀ L : List Int, PyData.plainAll (L.map PyData.int) = true := fun L => by
          induction L with
          | nil => rfl
          | cons a L ih => exact ih
        refine ⟨pI _, by rw [List.length_map]; omega, fun ys pm => ?_⟩
        have ly := pm.length_eq
        rw [List.length_map] at ly
        rw [cutD_any]
        refine fin _ (by rw [List.length_take]; omega) fun y hy => ?_
        obtain ⟨m, hm, rfl⟩ := List.mem_map.mp (pm.mem_iff.mp (List.mem_of_mem_take hy))
        exact ⟨m, rfl, lin m hm⟩
      · rw [decide_eq_false z]
        simp! only []
        exact many _
  · exact h.elim
abbrev sp__law_machine (K : PySem.W.Frag) : Sp := SpL K (deckOf boxD) c__law_machine
section
variable {P : Program} {w : World} {K : PySem.W.Frag} {mg : Str → Option Value} {base : Heap} {a : Adr}
theorem ok__law_machine (T : Txt K mg a) : FnOk P w K mg base CX0 3 a.f__law_machine a.d__law_machine ["deck", "lanes", "top"] (sp__law_machine K) := by
  have G__law_draw : FnOk P w K mg base CX0 1 a.f__law_draw a.d__law_draw ["deck", "many"] (sp__law_draw K) := ok__law_draw T
  have G__law_mixed : FnOk P w K mg base CX0 2 a.f__law_mixed a.d__law_mixed ["deck", "items"] (sp__law_mixed K) := ok__law_mixed T
  refine T._law_machine.F.ok sc__law_machine (fun vs H Q E h => sp_len l__law_machine h) (fun cdv A outer s H vs Q E hr h => ?_)
  have hu := hu_of hr
  exact ⟨_, (pss_cons (ps_par (i := 3) (j := 4) (by rfl) sc__law_machine.nd rfl rfl (by decide) rfl rfl (pa_cons (pe_call G__law_draw (hr.mono (by decide)) (by rfl) T._law_draw.m T._law_draw.F.kp T._law_draw.b .nil pass0 (pa_cons (pv 0) (pa_cons pe_int pa_nil))) (pa_cons (pe_lc (own := [("own", 6)]) rfl sc__law_machine.nd (show PI _ _ _ (iAny K _) from pi_any (pe_tup (pa_cons pe_int (pa_cons pe_int (pa_cons pe_int (pa_cons pe_int (pa_cons pe_int pa_nil))))))) (blkOk_by (N := ["deck", "lanes", "top", "way", "least", "common", "own", "lane"]) (sc := defScope s__law_machine) (by decide +kernel)) (fun _ _ _ _ _ => (pg_name (i := 6) sc__law_machine.nd rfl (by first | exact Or.inl rfl | exact Or.inr rfl))) (fun _ _ _ _ _ => (pts_one (pt_cmpR op_le (pv 6) (pv 2) (nomark _)))) (fun _ _ _ _ _ => (pv 6))) pa_nil)) (by rfl))
      (pss_cons (ps_if (pt_cmpR (show OpR _ _ (rEqP K) from op_eqP hr.units) (pv 3) pe_int (nomark _)) (pss_one (ps_ret (pe_op (show OpR _ _ (rTimes K) from op_times) (pe_tup (pa_cons (pe_op (show OpR _ _ (rPlus K) from op_plus) pe_int (pe_call G__law_draw (hr.mono (by decide)) (by rfl) T._law_draw.m T._law_draw.F.kp T._law_draw.b .nil pass0 (pa_cons (pv 0) (pa_cons (pe_op op_sub (pv 2) pe_int) pa_nil)))) pa_nil)) (pv 1)))) pss_nil)
      (pss_cons (ps_if (pt_cmpR (show OpR _ _ (rEqP K) from op_eqP hr.units) (pv 3) pe_int (nomark _)) (pss_cons (ps_set (i := 5) sc__law_machine.nd rfl (by first | exact Or.inl rfl | exact Or.inr rfl) (pe_op (show OpR _ _ (rPlus K) from op_plus) pe_int (pe_call G__law_draw (hr.mono (by decide)) (by rfl) T._law_draw.m T._law_draw.F.kp T._law_draw.b .nil pass0 (pa_cons (pv 0) (pa_cons pe_int pa_nil)))))
        (pss_one (ps_ret (pe_callTy (show CallR _ _ (rTupS K) from call_tuple_of) (by rfl) T.b_tuple (by decide +kernel) (pa_cons (pe_lc (own := [("lane", 7)]) rfl sc__law_machine.nd (pi_range1 rfl T.b_range (pa_cons (pv 1) pa_nil)) (blkOk_by (N := ["deck", "lanes", "top", "way", "least", "common", "own", "lane"]) (sc := defScope s__law_machine) (by decide +kernel)) (fun _ _ _ _ _ => (pg_name (i := 7) sc__law_machine.nd rfl (by first | exact Or.inl rfl | exact Or.inr rfl))) (fun _ _ _ _ _ => pts_nil) (fun _ _ _ _ _ => (pe_op (show OpR _ _ (rTimes K) from op_times) (pv 5) (pe_op (show OpR _ _ (rPlus K) from op_plus) pe_int (pe_call G__law_draw (hr.mono (by decide)) (by rfl) T._law_draw.m T._law_draw.F.kp T._law_draw.b .nil pass0 (pa_cons (pv 0) (pa_cons (pe_op op_fdivW (pv 2) (pv 5)) pa_nil))))))) pa_nil))))) pss_nil)
      (pss_cons (ps_if (PW.pt (pw_and (pt_cmpR (show OpR _ _ (rEqP K) from op_eqP hr.units) (pv 3) pe_int (nomark _)) (pw_and1 (pt_cmpR op_le (pv 1) (pe_callB (show CallR _ _ (Sx.rLenS K) from call_len_seq) (by rfl) T.b_len (by decide +kernel) (pa_cons (pv 4) pa_nil)) (nomark _))))) (pss_one (ps_ret (pe_callTy (show CallR _ _ (rTupS K) from call_tuple_of) (by rfl) T.b_tuple (by decide +kernel) (pa_cons (pe_slice (show L2.SlR _ (rCut K) from sl_cut) (pe_call G__law_mixed hr (by rfl) T._law_mixed.m T._law_mixed.F.kp T._law_mixed.b .nil pass0 (pa_cons (pv 0) (pa_cons (pv 4) pa_nil))) po_none (po_some (pv 1))) pa_nil)))) pss_nil)
      (pss_one (ps_ret (pe_callTy (show CallR _ _ (rTupS K) from call_tuple_of) (by rfl) T.b_tuple (by decide +kernel) (pa_cons (pe_lc (own := [("lane", 7)]) rfl sc__law_machine.nd (pi_range1 rfl T.b_range (pa_cons (pv 1) pa_nil)) (blkOk_by (N := ["deck", "lanes", "top", "way", "least", "common", "own", "lane"]) (sc := defScope s__law_machine) (by decide +kernel)) (fun _ _ _ _ _ => (pg_name (i := 7) sc__law_machine.nd rfl (by first | exact Or.inl rfl | exact Or.inr rfl))) (fun _ _ _ _ _ => pts_nil) (fun _ _ _ _ _ => (pe_op (show OpR _ _ (rPlus K) from op_plus) pe_int (pe_call G__law_draw (hr.mono (by decide)) (by rfl) T._law_draw.m T._law_draw.F.kp T._law_draw.b .nil pass0 (pa_cons (pv 0) (pa_cons (pe_op op_sub (pv 2) pe_int) pa_nil)))))) pa_nil)))))))),
    run0 (N := ["deck", "lanes", "top", "way", "least", "common", "own", "lane"]) (np := 3) (f := b__law_machine) h (sp_len l__law_machine h) (fun dk B hb => have hdk := hb; (show LS B K Wno _ (b__law_machine dk) from
      (ls_seq (ls_par (la_cons (le_call0 (dk := dk) (c := c__law_draw) hdk (la_cons (le_var (i := 0)) (la_cons (le_c (y := .int 5) fun _ => .int _) la_nil))) (la_cons (le_comp (vs := [6]) (li_any (le_tup (la_cons (le_c (y := .int 2) fun _ => .int _) (la_cons (le_c (y := .int 3) fun _ => .int _) (la_cons (le_c (y := .int 5) fun _ => .int _) (la_cons (le_c (y := .int 7) fun _ => .int _) (la_cons (le_c (y := .int 11) fun _ => .int _) la_nil))))) (by decide))) (lg_name (i := 6)) (tg_name (by decide)) (lt_test (le_op (ol_I0 fun _ _ _ => .bl _) (le_var (i := 6)) (le_var (i := 2)))) (le_var (i := 6))) la_nil)) (by decide))
      (ls_seq (ls_if (lt_test (le_op (ol_eq) (le_var (i := 3)) (le_c (y := .int 0) fun _ => .int _))) (ls_ret (le_op (ol_times) (le_tup (la_cons (le_op (ol_plus) (le_c (y := .int 2) fun _ => .int _) (le_call0 (dk := dk) (c := c__law_draw) hdk (la_cons (le_var (i := 0)) (la_cons (le_op (ol_I0 fun _ _ _ => .int _) (le_var (i := 2)) (le_c (y := .int 1) fun _ => .int _)) la_nil)))) la_nil) (by decide)) (le_var (i := 1)))) ls_next)
      (ls_seq (ls_if (lt_test (le_op (ol_eq) (le_var (i := 3)) (le_c (y := .int 1) fun _ => .int _))) (ls_seq (ls_asg (le_op (ol_plus) (le_c (y := .int 2) fun _ => .int _) (le_call0 (dk := dk) (c := c__law_draw) hdk (la_cons (le_var (i := 0)) (la_cons (le_c (y := .int 2) fun _ => .int _) la_nil)))) (lg_name (i := 5)))
        (ls_ret (le_cb cl_tuple (la_cons (le_comp (vs := [7]) (li_range1 (la_cons (le_var (i := 1)) la_nil)) (lg_name (i := 7)) (tg_name (by decide)) lt_yes (le_op (ol_times) (le_var (i := 5)) (le_op (ol_plus) (le_c (y := .int 1) fun _ => .int _) (le_call0 (dk := dk) (c := c__law_draw) hdk (la_cons (le_var (i := 0)) (la_cons (le_op (ol_I fun _ _ _ => .int _) (le_var (i := 2)) (le_var (i := 5))) la_nil)))))) la_nil)))) ls_next)
      (ls_seq (ls_if (lt_and (lt_test (le_op (ol_eq) (le_var (i := 3)) (le_c (y := .int 2) fun _ => .int _))) (lt_test (le_op (ol_I0 fun _ _ _ => .bl _) (le_var (i := 1)) (le_cb cl_len (la_cons (le_var (i := 4)) la_nil))))) (ls_ret (le_cb cl_tuple (la_cons (le_sl sll_cut (le_call0 (dk := dk) (c := c__law_mixed) hdk (la_cons (le_var (i := 0)) (la_cons (le_var (i := 4)) la_nil))) lo_no (lo_some (le_var (i := 1)))) la_nil))) ls_next)
      (ls_ret (le_cb cl_tuple (la_cons (le_comp (vs := [7]) (li_range1 (la_cons (le_var (i := 1)) la_nil)) (lg_name (i := 7)) (tg_name (by decide)) lt_yes (le_op (ol_plus) (le_c (y := .int 2) fun _ => .int _) (le_call0 (dk := dk) (c := c__law_draw) hdk (la_cons (le_var (i := 0)) (la_cons (le_op (ol_I0 fun _ _ _ => .int _) (le_var (i := 2)) (le_c (y := .int 1) fun _ => .int _)) la_nil))))) la_nil))))))))) h__law_machine⟩
end
def c__law_lot : V → Ct := fun dk as R _ => match as with
  | [.raw v, .d m] => v = dk ∧ ∃ n : Nat, m = .int (n : Nat) ∧ 1 ≤ n ∧ n ≤ 10 ∧ ∀ ns : List Int, ns.Sublist (rI n) → R (.d (tI ns))
  | _ => False
def b__law_lot (dk : V) : ASx :=
  (aSeq (aAsg (aCall0 (c__law_pick dk) (aCons (aVar 0) (aCons (aLst (aCons (aC (.int 0)) (aCons (aC (.int 1)) (aCons (aC (.int 1)) (aCons (aC (.int 2)) (aCons (aCall0 (c__law_draw dk) (aCons (aVar 0) (aCons (aOp (gCat) (aVar 1) (aC (.int 1))) aNil))) aNil)))))) aNil))) (gN 2))
      (aRet (aCB gTuple (aCons (aCB gSorted (aCons (aSl gCut (aCall0 (c__law_mixed dk) (aCons (aVar 0) (aCons (aListRg (aVar 1)) aNil))) aNoP (aPart (aVar 2))) aNil)) aNil))))
theorem l__law_lot : ∀ (dk : V) (as : List A) (R : A → Prop) (Z : Ex → Prop), c__law_lot dk as R Z → as.length = 2 := by
  intro dk as R Z h
  unfold c__law_lot at h
  split at h
  · rfl
  · exact h.elim
theorem h__law_lot : ∀ (dk : V) (as : List A) (R : A → Prop) (Z : Ex → Prop), as.length = 2 → c__law_lot dk as R Z → b__law_lot dk (ends0 R) (fun _ => R (.d .none)) (as ++ unA ((["deck", "lanes", "size"] : List Str).length - 2)) := by
  intro dk as R Z hl h
  unfold c__law_lot at h
  split at h
  · rename_i v m
    obtain ⟨rfl, n, rfl, n1, n10, h⟩ := h
    simp! only [b__law_lot, c__law_draw, c__law_pick, c__law_mixed]
    refine ⟨small_of (by omega) (by omega), fun r r0 r1 x hx => ?_⟩
    obtain ⟨k, rfl, k0, k1⟩ : ∃ k : Nat, x = .int (k : Nat) ∧ 0 ≤ k ∧ k ≤ 10 := by
      simp only [List.isEmpty_cons,List.isEmpty_nil,ends0,ends1,wipeA,List.map,List.set,List.cons_append,List.nil_append,List.length_cons,List.length_nil,ite_true,ite_false,Bool.not_true,Bool.not_false,Bool.true_and,Bool.and_true,Bool.false_and,Bool.and_false,reduceIte,reduceCtorEq,Bool.false_eq_true,if_true,if_false,Nat.reduceAdd,Nat.reduceLeDiff,ne_eq,not_false_eq_true,eq_self,not_true_eq_false,Nat.reduceSub,Nat.reduceMul,Nat.reduceLT,Nat.reducePow,Int.reduceLE,Int.reduceLT,Int.reduceAdd,Int.reduceSub,Int.reduceMul,Int.reduceNeg,Int.reducePow,Int.reduceToNat,Int.reduceEq,Int.reduceBEq,Option.some.injEq,exists_eq_left',exists_eq_left,true_and,and_true,decide_true,decide_false,Nat.reduceBEq,Bool.or_true,Bool.true_or,Bool.or_false,Bool.false_or,aVar_e,aC_e,aRaw_e,aOp_e,aUn_e,aNot_e,aAnd_e,aOr_e,aChain_e,aTern_e,aNil_e,aCons_e,aTup_e,aLst_e,aB_e,tAndA_e,tOrA_e,tNotA_e,aCB_e,aCall_e,aCallK_e,aSl_e,aNoP_e,aCall0_e,gN_e,aNext_e,aSeq_e,aBrk_e,aCnt_e,aDrop_e,aRet_e,aRetN_e,aIfS_e,aAsg_e,aAug_e,aPar_e,aFor_e,aWhile_e,aYes_e,aIter_e,aEnum_e,aRange1_e,aRange2_e,aZip_e,aZipTL_e,aApp_e,aPopAt_e,aPop_e,aLenV_e,aIxV_e,aEqNilV_e,aTupV_e,aDnew_e,aListRg_e,aComp_e,aZip3T_e,aCallK0_e,gSetV_e,on_d,on_own,bl_b,it_i,ow_o,isOwn_o,seq_t,seq_l,seq_o,lst_l,lst_o,tup_t,same_t,same_l,one_1,fz_d,fz_r,fz_o,look_d,look_r,look_o,unA_0,unA_s,sl_0,sl_s,ons_n,ons_c,gI0_i,gI_i,gU_i,gIsN_n,gNotN_n,isNone_n,isNone_i,isNone_b,isNone_s,isNone_t,isNone_l,gEq_s,gNe_s,gIn_l,gIn_t,gNotIn_l,gNotIn_t,gIx_t,gIx_l,gCat_i,gCat_t,gCat_l,gMul_i,gMul_t,gMul_l,gCut_t,gCut_l,gP_x,intD_n,intD_b,intD_i,intD_s,intD_l,intD_t,intD_d,boolD_n,boolD_b,boolD_i,boolD_s,boolD_l,boolD_t,boolD_d,strD_n,strD_b,strD_i,strD_s,strD_l,strD_t,strD_d,tupD_n,tupD_b,tupD_i,tupD_s,tupD_l,tupD_t,tupD_d,wholeD_n,wholeD_b,wholeD_i,wholeD_s,wholeD_l,wholeD_t,wholeD_d,gLen_1,gTuple_1,gList_1,gInt_i,gInt_b,gAbs_i,gRepr_x,gAll_l,gAny_l,gSum_l,gGcd_i,gSorted_l,cDraw_1,two_1,three_1,cPick_1,gMax2_i,gMin2_i,gEqS_s,isStr_s,gNil_n,gCons_c,gT_t,gL_o,gL_l,at1_0,at2_0,at2_1,at3_0,at3_1,at3_2,cpow_e,cast_lit,abs_lit,aPart_e,gMax1_l,gMax1_t,gMin1_l,gMin1_t,gInS_t,gEqNil_t,MaxR,MinR,aLend_e,argsV_n,argsV_c,dat_d,dat_r,nl_d,gSortedT_l,gLeT_t,aInV_e,aTupRg_e,gRev_t,gStr_i,aRevI_e,aDown_e,aCompV_e,gEq_nl,gNe_nl,gEq_nt,gNe_nt,gNeNil_t,aLendX_e,intd_i,rdAll_n,rdAll_c,rd_d,rd_r,rd_o,gNilL_t,gNilL_f,aLe3_e,gNiS_t,aPar3_e,three_e,gRepF3_t,gLcm_i,aBits_e,aSortSet_e,aComp2_e,aMaxDef_e,aListRg2_e,aDNewT_e,aDNewK_e,aDGetT_e,aDInT_e,gDPutT_e,aDLenT_e,aDListT_e,aDGetK_e,aDInK_e,gDPutK_e,aDLenK_e,aDListK_e,isD_t,isD_k,dtd_o,dkd_o,keyK_i,keyK_s,keyT_t,aRaise_e,aRaise1_e,aTryAs_e,aTry_e,aXf_e,aIsX_e,aMeth_e,aNewRow_e,isRow_r,fz_row,look_row,look_rowL,look_exc,look_dt,look_dk,fz_rowL,fz_exc,aDisp1T_e,aTru_e,aTruV_e,truD_t,truD_l,truD_b,truD_n,truD_i,gEq_i,gNe_i,List.mem_cons,List.not_mem_nil,or_false,forall_eq_or_imp,forall_eq] at hx
      rcases hx with rfl | rfl | rfl | rfl | rfl
      · exact ⟨0, rfl, by decide, by decide⟩
      · exact ⟨1, rfl, by decide, by decide⟩
      · exact ⟨1, rfl, by decide, by decide⟩
      · exact ⟨2, rfl, by decide, by decide⟩
      · exact ⟨r.toNat, by rw [show ((r.toNat : Nat) : Int) = r by omega], by omega, by omega⟩
    rw [Int.toNat_natCast, rI_rangeD]
    have pI : ∀ L : List Int, PyData.plainAll (L.map PyData.int) = true := fun L => by
      induction L with
      | nil => rfl
      | cons a L ih => exact ih
    refine ⟨by omega, by omega, pI _, by rw [List.length_map, rI_len]; omega, fun ys pm => ?_⟩
    obtain ⟨zs, rfl, pz⟩ : ∃ zs : List Int, ys = zs.map PyData.int ∧ zs.Perm (rI n) := by
      obtain ⟨zs, rfl, _⟩ := ints_of (P := fun _ => True) (ds := ys) fun d hd => by
        obtain ⟨m, _, rfl⟩ := List.mem_map.mp (pm.mem_iff.mp hd)
        exact ⟨m, rfl, trivial⟩
      exact ⟨zs, rfl, perm_ints pm⟩
    simp! only []
    rw [cutD_any, ← List.map_take]
    refine ⟨_, ints_map _, fun ns' p1 p2 => ?_⟩
    have := h ns' (asc_sub (fun m hm => pz.mem_iff.mp (List.mem_of_mem_take (p1.mem_iff.mp hm))) p2 (p1.nodup_iff.mpr ((pz.nodup_iff.mpr (rI_nodup n)).sublist (List.take_sublist _ _))))
    exact this
  · exact h.elim
abbrev sp__law_lot (K : PySem.W.Frag) : Sp := SpL K (deckOf boxD) c__law_lot
section
variable {P : Program} {w : World} {K : PySem.W.Frag} {mg : Str → Option Value} {base : Heap} {a : Adr}
theorem ok__law_lot (T : Txt K mg a) : FnOk P w K mg base CX0 3 a.f__law_lot a.d__law_lot ["deck", "lanes"] (sp__law_lot K) := by
  have G__law_pick : FnOk P w K mg base CX0 2 a.f__law_pick a.d__law_pick ["deck", "items"] (sp__law_pick K) := ok__law_pick T
  have G__law_draw : FnOk P w K mg base CX0 1 a.f__law_draw a.d__law_draw ["deck", "many"] (sp__law_draw K) := ok__law_draw T
  have G__law_mixed : FnOk P w K mg base CX0 2 a.f__law_mixed a.d__law_mixed ["deck", "items"] (sp__law_mixed K) := ok__law_mixed T
  refine T._law_lot.F.ok sc__law_lot (fun vs H Q E h => sp_len l__law_lot h) (fun cdv A outer s H vs Q E hr h => ?_)
  have hu := hu_of hr
  exact ⟨_, (pss_cons (ps_set (i := 2) sc__law_lot.nd rfl (by first | exact Or.inl rfl | exact Or.inr rfl) (pe_call G__law_pick hr (by rfl) T._law_pick.m T._law_pick.F.kp T._law_pick.b .nil pass0 (pa_cons (pv 0) (pa_cons (pe_lst (pa_cons pe_int (pa_cons pe_int (pa_cons pe_int (pa_cons pe_int (pa_cons (pe_call G__law_draw (hr.mono (by decide)) (by rfl) T._law_draw.m T._law_draw.F.kp T._law_draw.b .nil pass0 (pa_cons (pv 0) (pa_cons (pe_op (show OpR _ _ (rPlus K) from op_plus) (pv 1) pe_int) pa_nil))) pa_nil)))))) pa_nil))))
      (pss_one (ps_ret (pe_callTy (show CallR _ _ (rTupS K) from call_tuple_of) (by rfl) T.b_tuple (by decide +kernel) (pa_cons (pe_callB (show CallR _ _ (rSortedI K) from cr_sortedI) (by rfl) T.b_sorted (by decide +kernel) (pa_cons (pe_slice (show L2.SlR _ (rCut K) from sl_cut) (pe_call G__law_mixed hr (by rfl) T._law_mixed.m T._law_mixed.F.kp T._law_mixed.b .nil pass0 (pa_cons (pv 0) (pa_cons (pe_listRg rfl (by rfl) T.b_list (prg_1 (by rfl) T.b_range (pv 1))) pa_nil))) po_none (po_some (pv 2))) pa_nil)) pa_nil))))),
    run0 (N := ["deck", "lanes", "size"]) (np := 2) (f := b__law_lot) h (sp_len l__law_lot h) (fun dk B hb => have hdk := hb; (show LS B K Wno _ (b__law_lot dk) from
      (ls_seq (ls_asg (le_call0 (dk := dk) (c := c__law_pick) hdk (la_cons (le_var (i := 0)) (la_cons (le_lst (la_cons (le_c (y := .int 0) fun _ => .int _) (la_cons (le_c (y := .int 1) fun _ => .int _) (la_cons (le_c (y := .int 1) fun _ => .int _) (la_cons (le_c (y := .int 2) fun _ => .int _) (la_cons (le_call0 (dk := dk) (c := c__law_draw) hdk (la_cons (le_var (i := 0)) (la_cons (le_op (ol_plus) (le_var (i := 1)) (le_c (y := .int 1) fun _ => .int _)) la_nil))) la_nil))))) (by decide)) la_nil))) (lg_name (i := 2)))
      (ls_ret (le_cb cl_tuple (la_cons (le_cb cl_sorted (la_cons (le_sl sll_cut (le_call0 (dk := dk) (c := c__law_mixed) hdk (la_cons (le_var (i := 0)) (la_cons (le_listRg (le_var (i := 1))) la_nil))) lo_no (lo_some (le_var (i := 2)))) la_nil)) la_nil)))))) h__law_lot⟩
end
def leftN (n : Nat) (L : List Int) : List Nat := (List.range n).filter fun j => decide (((j : Nat) : Int) ∉ L)
def spanT (ns : List Int) (t : List Int × List Int × List Int) : Nat := spanM ns (leftN ns.length (t.1 ++ t.2.1 ++ t.2.2))
def bestD (ns : List Int) (t : List Int × List Int × List Int) : List PyData := [.int (spanT ns t : Nat), tI t.1, tI t.2.1, tI t.2.2]
def ChoiceIs (n : Nat) (bk1 bk2 bk3 : Bk) (t : List Int × List Int × List Int) : Prop := t.1 ∈ wholesL n bk1 ∧ (t.2.1 ∈ wholesL n bk1 ∨ t.2.1 ∈ wholesL n bk2) ∧ t.2.2 ∈ wholesL n bk3
def BestIs (ns : List Int) (bk1 bk2 bk3 : Bk) (t : List Int × List Int × List Int) : Prop := ChoiceIs ns.length bk1 bk2 bk3 t ∧ ∀ t', ChoiceIs ns.length bk1 bk2 bk3 t' → spanT ns t ≤ spanT ns t'
def BestOf (ns : List Int) (S : List Int × List Int × List Int → Prop) (c : A) : Prop := (c = .d .none ∧ ∀ t, ¬ S t) ∨ ∃ t, S t ∧ (c = .own (bestD ns t) ∨ c = .d (.list (bestD ns t))) ∧ ∀ t', S t' → spanT ns t ≤ spanT ns t'
theorem best_congr {ns : List Int} {S S' : List Int × List Int × List Int → Prop} {c : A} (e : ∀ t, S t ↔ S' t) (h : BestOf ns S c) : BestOf ns S' c := by
  rcases h with ⟨h1, h2⟩ | ⟨t, h1, h2, h3⟩
  · exact .inl ⟨h1, fun t ht => h2 t ((e t).mpr ht)⟩
  · exact .inr ⟨t, (e t).mp h1, h2, fun t' h' => h3 t' ((e t').mpr h')⟩
def c__law_reach : V → Ct := fun _ as R _ => match as with
  | [.d m, .d a, .d b, .d c] => ∃ (ns : List Int) (bk1 bk2 bk3 : Bk), m = .tuple (ns.map PyData.int) ∧ a = bkD bk1 ∧ b = bkD bk2 ∧ c = bkD bk3 ∧ ns.length ≤ 10 ∧ (∀ m ∈ ns, 2 ≤ m ∧ m ≤ 1000000) ∧ (∀ bk, (bk = bk1 ∨ bk = bk2 ∨ bk = bk3) → wholesL ns.length bk ≠ [] ∧ (wholesL ns.length bk).length ≤ 1024 ∧ (∀ L ∈ wholesL ns.length bk, L.length ≤ 10) ∧ ∀ k, bk = .inl k → k ≤ ns.length) ∧
    ∀ t, BestIs ns bk1 bk2 bk3 t → R (.own (bestD ns t)) ∧ R (.d (.list (bestD ns t)))
  | _ => False
def b__law_reach (dk : V) : ASx :=
  (aSeq (aPar 5 6 (aCons (aCB gLen (aCons (aVar 0) aNil)) (aCons (aC (.none)) aNil)))
      (aCut (aFor (aIter (aCall0 (c__law_wholes dk) (aCons (aVar 1) (aCons (aVar 5) aNil)))) (gN 4) (aFor (aIter (aOp (gCat) (aCall0 (c__law_wholes dk) (aCons (aVar 1) (aCons (aVar 5) aNil))) (aCall0 (c__law_wholes dk) (aCons (aVar 2) (aCons (aVar 5) aNil))))) (gN 7) (aFor (aIter (aCall0 (c__law_wholes dk) (aCons (aVar 3) (aCons (aVar 5) aNil)))) (gN 8) (aSeq (aAsg (aComp (aRange1 (aCons (aVar 5) aNil)) (gN 11) (aB (aOp (gNotIn) (aVar 11) (aOp (gCat) (aOp (gCat) (aVar 4) (aVar 7)) (aVar 8)))) (aVar 11) [11]) (gN 9))
            (aSeq (aAsg (aCall0 (c__law_span dk) (aCons (aVar 0) (aCons (aVar 9) aNil))) (gN 10))
            (aIfS (tOrA (aB (aOp (gIsN) (aVar 6) (aC (.none)))) (aB (aOp (gI0 fun i j => .bool (decide (i < j))) (aVar 10) (aOp gIx (aVar 6) (aC (.int 0)))))) (aAsg (aLst (aCons (aVar 10) (aCons (aVar 4) (aCons (aVar 7) (aCons (aVar 8) aNil))))) (gN 6)) aNext))))))
      (aRet (aVar 6))))
theorem l__law_reach : ∀ (dk : V) (as : List A) (R : A → Prop) (Z : Ex → Prop), c__law_reach dk as R Z → as.length = 4 := by
  intro dk as R Z h
  unfold c__law_reach at h
  split at h
  · rfl
  · exact h.elim
theorem h__law_reach : ∀ (dk : V) (as : List A) (R : A → Prop) (Z : Ex → Prop), as.length = 4 → c__law_reach dk as R Z → b__law_reach dk (ends0 R) (fun _ => R (.d .none)) (as ++ unA ((["machine", "right", "seen", "still", "one", "lanes", "best", "other", "third", "left", "span", "lane"] : List Str).length - 4)) := by
  intro dk as R Z hl h
  unfold c__law_reach at h
  split at h
  · rename_i m a b c
    obtain ⟨ns, bk1, bk2, bk3, rfl, rfl, rfl, rfl, l10, hn, hw, h⟩ := h
    obtain ⟨n1, s1, q1, k1⟩ := hw bk1 (.inl rfl)
    obtain ⟨n2, s2, q2, k2⟩ := hw bk2 (.inr (.inl rfl))
    obtain ⟨n3, s3, q3, k3⟩ := hw bk3 (.inr (.inr rfl))
    let st : A → A → A → A → A → A → A → List A := fun c4 c6 c7 c8 c9 c10 c11 => [.d (.tuple (ns.map PyData.int)), .d (bkD bk1), .d (bkD bk2), .d (bkD bk3), c4, .d (.int (ns.length : Nat)), c6, c7, c8, c9, c10, c11]
    have at_ : ∀ {W : List (List Int)} {i : Nat}, i < W.length → W[i]? = some (W.getD i []) ∧ (W.map tI).getD i .none = tI (W.getD i []) ∧ W.getD i [] ∈ W := fun {W i} hi => by
      have e : W[i]? = some (W.getD i []) := by rw [List.getD_eq_getElem?_getD, List.getElem?_eq_getElem hi] <;> rfl
      exact ⟨e, by rw [List.getD_eq_getElem?_getD, List.getElem?_map, e] <;> rfl, List.mem_of_getElem? e⟩
    have tk : ∀ {W : List (List Int)} {i : Nat} {x : List Int}, i < W.length → (x ∈ W.take (i + 1) ↔ x ∈ W.take i ∨ x = W.getD i []) := fun {W i x} hi => by
      rw [List.take_add_one, (at_ hi).1, List.mem_append] <;> simp
    obtain ⟨W1, hW1⟩ : ∃ W1, W1 = wholesL ns.length bk1 := ⟨_, rfl⟩
    obtain ⟨W2, hW2⟩ : ∃ W2, W2 = wholesL ns.length bk1 ++ wholesL ns.length bk2 := ⟨_, rfl⟩
    obtain ⟨W3, hW3⟩ : ∃ W3, W3 = wholesL ns.length bk3 := ⟨_, rfl⟩
    -- what has been looked at when so many of each have been gone through
    let S : Nat → Nat → Nat → List Int × List Int × List Int → Prop := fun i j k t => (t.1 ∈ W1.take i ∧ t.2.1 ∈ W2 ∧ t.2.2 ∈ W3) ∨ (t.1 = W1.getD i [] ∧ t.2.1 ∈ W2.take j ∧ t.2.2 ∈ W3) ∨ (t.1 = W1.getD i [] ∧ t.2.1 = W2.getD j [] ∧ t.2.2 ∈ W3.take k)
    have fit : ∀ t, ChoiceIs ns.length bk1 bk2 bk3 t ↔ t.1 ∈ W1 ∧ t.2.1 ∈ W2 ∧ t.2.2 ∈ W3 := fun t => by
      unfold ChoiceIs
      rw [hW1, hW2, hW3, List.mem_append]
    simp! only [b__law_reach, List.length_map]
    refine ⟨fun ρ => ∃ c4 c6 c7 c8 c9 c10 c11, BestOf ns (fun t => t.1 ∈ W1 ∧ t.2.1 ∈ W2 ∧ t.2.2 ∈ W3) c6 ∧ ρ = st c4 c6 c7 c8 c9 c10 c11, ?_, ?_⟩
    · simp! only [c__law_wholes]
      refine ⟨bk1, ns.length, rfl, rfl, l10, k1, ?first, ?first⟩
      rw [← hW1]
      refine ⟨fun i ρ => ∃ c4 c6 c7 c8 c9 c10 c11, BestOf ns (S i 0 0) c6 ∧ ρ = st c4 c6 c7 c8 c9 c10 c11, ⟨_, .d .none, _, _, _, _, _, .inl ⟨rfl, fun t ht => by simp [S] at ht⟩, rfl⟩, ?_, ?_⟩
      · rintro i ρ hi ⟨c4, c6, c7, c8, c9, c10, c11, hB, rfl⟩
        rw [List.length_map] at hi
        obtain ⟨_, e2, hone⟩ := at_ hi
        rw [e2]
        generalize hg : W1.getD i [] = one at *
        show aFor _ _ _ _ _ [_, _, _, _, _, _, _, _, _, _, _, _]
        simp! only [c__law_wholes]
        refine ⟨bk1, ns.length, rfl, rfl, l10, k1, ⟨bk2, ns.length, rfl, rfl, l10, k2, ⟨?b1, ?second⟩, ⟨?b1, ?second⟩⟩, ⟨bk2, ns.length, rfl, rfl, l10, k2, ⟨?b1, ?second⟩, ⟨?b1, ?second⟩⟩⟩
        · rw [List.length_map, List.length_map]
          omega
        rw [← List.map_append, ← hW2]
        refine ⟨fun j ρ => ∃ c6 c7 c8 c9 c10 c11, BestOf ns (S i j 0) c6 ∧ ρ = st (.d (tI one)) c6 c7 c8 c9 c10 c11, ⟨_, _, _, _, _, _, hB, rfl⟩, ?_, ?_⟩
        · rintro j ρ hj ⟨c6, c7, c8, c9, c10, c11, hB, rfl⟩
          rw [List.length_map] at hj
          obtain ⟨_, e2, hother⟩ := at_ hj
          rw [e2]
          generalize hgo : W2.getD j [] = other at *
          show aFor _ _ _ _ _ [_, _, _, _, _, _, _, _, _, _, _, _]
          simp! only [c__law_wholes]
          refine ⟨bk3, ns.length, rfl, rfl, l10, k3, ?third, ?third⟩
          rw [← hW3]
          refine ⟨fun k ρ => ∃ c6 c8 c9 c10 c11, BestOf ns (S i j k) c6 ∧ ρ = st (.d (tI one)) c6 (.d (tI other)) c8 c9 c10 c11, ⟨_, _, _, _, _, hB, rfl⟩, ?_, ?_⟩
          · rintro k ρ hk ⟨c6, c8, c9, c10, c11, hB, rfl⟩
            rw [List.length_map] at hk
            obtain ⟨_, e2, hthird⟩ := at_ hk
            rw [e2]
            generalize hgt : W3.getD k [] = third at *
            show aSeq _ _ _ _ [_, _, _, _, _, _, _, _, _, _, _, _]
            have l1 : one.length ≤ 10 := q1 _ (by rw [← hW1]; exact hone)
            have l2 : other.length ≤ 10 := by
              rw [hW2] at hother
              rcases List.mem_append.mp hother with z | z
              · exact q1 _ z
              · exact q2 _ z
            have l3 : third.length ≤ 10 := q3 _ (by rw [← hW3]; exact hthird)
            have stp : ∀ t, S i j (k + 1) t ↔ S i j k t ∨ t = (one, other, third) := fun t => by
              show (_ ∨ _ ∨ (t.1 = W1.getD i [] ∧ t.2.1 = W2.getD j [] ∧ t.2.2 ∈ W3.take (k + 1))) ↔ (_ ∨ _ ∨ (t.1 = W1.getD i [] ∧ t.2.1 = W2.getD j [] ∧ t.2.2 ∈ W3.take k)) ∨ _
              rw [tk hk, hg, hgo, hgt]
              obtain ⟨x, y, z⟩ := t
              simp only [Prod.mk.injEq]
              constructor
              · rintro (q | q | ⟨q1, q2, q3 | q3⟩)
                · exact .inl (.inl q)
                · exact .inl (.inr (.inl q))
                · exact .inl (.inr (.inr ⟨q1, q2, q3⟩))
                · exact .inr ⟨q1, q2, q3⟩
              · rintro ((q | q | ⟨q1, q2, q3⟩) | ⟨q1, q2, q3⟩)
                · exact .inl q
                · exact .inr (.inl q)
                · exact .inr (.inr ⟨q1, q2, .inl q3⟩)
                · exact .inr (.inr ⟨q1, q2, .inr q3⟩)
            have eL : (rangeD 0 ((ns.length : Nat) : Int).toNat).filterMap (fun d => match d with | .int a => if decide (a ∉ one ++ other ++ third) = true then some d else none | _ => none) = lnD (leftN ns.length (one ++ other ++ third)) := by
              unfold rangeD lnD leftN
              rw [Int.toNat_natCast, List.filterMap_map]
              have e : ((fun d : PyData => match d with | .int a => if decide (a ∉ one ++ other ++ third) = true then some d else none | _ => none) ∘ fun i : Nat => PyData.int (0 + ((i : Nat) : Int))) = fun i : Nat => if decide (((i : Nat) : Int) ∉ one ++ other ++ third) = true then some (.int ((i : Nat) : Int)) else none := by
                funext i
                show (if decide ((0 + ((i : Nat) : Int)) ∉ one ++ other ++ third) = true then some (PyData.int (0 + ((i : Nat) : Int))) else none) = _
                rw [Int.zero_add]
              rw [e]
              generalize List.range ns.length = L
              clear e hk hj hi hB
              induction L with
              | nil => rfl
              | cons a L ih =>
                rw [List.filterMap_cons, List.filter_cons]
                by_cases z : ((a : Nat) : Int) ∉ one ++ other ++ third
                · rw [if_pos (decide_eq_true z), if_pos (decide_eq_true z), List.map_cons, ih]
                · rw [if_neg (by rw [decide_eq_false z]; decide), if_neg (by rw [decide_eq_false z]; decide)]
                  exact ih
            simp! only [tI]
            refine ⟨by omega, by omega, comp_det (fun d => match d with | .int a => if decide (a ∉ one ++ other ++ third) = true then some d else none | _ => none) (by rw [rangeD_len]; omega) (fun d hd J hJ => ?_) ?_⟩
            · obtain ⟨a, _, rfl⟩ := List.mem_map.mp hd
              have hJ : J (if decide ((0 + ((a : Nat) : Int)) ∉ one ++ other ++ third) = true then some (.int (0 + ((a : Nat) : Int))) else none) _ := hJ
              simp! only [← List.map_append, any_int, List.length_map]
              refine ⟨by omega, by rw [List.length_append]; omega, plain_map _, rfl, depth_any _ _, ?_⟩
              by_cases z : (0 + ((a : Nat) : Int)) ∈ one ++ other ++ third
              · rw [decide_eq_false (fun q => q z), if_neg (by decide)] at hJ
                rw [decide_eq_true z]
                simp! only []
                exact hJ
              · rw [decide_eq_true z, if_pos rfl] at hJ
                rw [decide_eq_false z]
                simp! only []
                exact hJ
            · rw [eL]
              have spn : ∀ Q : A → Prop, Q (.d (.int (spanT ns (one, other, third) : Nat))) → c__law_span dk [.d (.tuple (ns.map PyData.int)), .d (.list (lnD (leftN ns.length (one ++ other ++ third))))] Q fun _ => False := fun Q h => by
                refine ⟨ns, _, rfl, .inr rfl, hn, fun j hj => ?_, ?_, h⟩
                · exact List.mem_range.mp (List.mem_filter.mp hj).1
                · have : (leftN ns.length (one ++ other ++ third)).length ≤ (List.range ns.length).length := List.length_filter_le _ _
                  rw [List.length_range] at this
                  omega
              rcases hB with ⟨rfl, no⟩ | ⟨t, ht, hc, hle⟩
              · simp! only []
                refine spn _ ?_
                simp! only [isNone]
                refine ⟨_, _, _, _, _, .inr ⟨(one, other, third), (stp _).mpr (.inr rfl), .inl rfl, fun t' h' => ?_⟩, rfl⟩
                rcases (stp t').mp h' with q | rfl
                · exact absurd q (no t')
                · exact Nat.le_refl _
              · have b0 : atI (bestD ns t) 0 = some (.int (spanT ns t : Nat)) := atI_nat (j := 0) rfl
                rcases hc with rfl | rfl <;> simp! only []
                all_goals
                  refine spn _ ?_
                  simp! only [isNone, b0]
                  by_cases z : ((spanT ns (one, other, third) : Nat) : Int) < (spanT ns t : Nat)
                  · rw [decide_eq_true z]
                    simp! only []
                    refine ⟨_, _, _, _, _, .inr ⟨(one, other, third), (stp _).mpr (.inr rfl), .inl rfl, fun t' h' => ?_⟩, rfl⟩
                    rcases (stp t').mp h' with q | rfl
                    · have := hle t' q
                      omega
                    · exact Nat.le_refl _
                  · rw [decide_eq_false z]
                    simp! only []
                    refine ⟨_, _, _, _, _, .inr ⟨t, (stp _).mpr (.inl ht), .inr rfl, fun t' h' => ?_⟩, rfl⟩
                    rcases (stp t').mp h' with q | rfl
                    · exact hle t' q
                    · omega
          · rintro ρ ⟨c6, c8, c9, c10, c11, hB, rfl⟩
            rw [List.length_map] at hB
            refine ⟨_, _, _, _, _, _, best_congr (fun t => ?_) hB, rfl⟩
            show (_ ∨ (t.1 = W1.getD i [] ∧ t.2.1 ∈ W2.take j ∧ t.2.2 ∈ W3) ∨ (t.1 = W1.getD i [] ∧ t.2.1 = W2.getD j [] ∧ t.2.2 ∈ W3.take W3.length)) ↔ (_ ∨ (t.1 = W1.getD i [] ∧ t.2.1 ∈ W2.take (j + 1) ∧ t.2.2 ∈ W3) ∨ (_ ∧ _ ∧ t.2.2 ∈ W3.take 0))
            rw [List.take_length, tk hj, List.take_zero]
            constructor
            · rintro (q | ⟨q1, q2, q3⟩ | ⟨q1, q2, q3⟩)
              · exact .inl q
              · exact .inr (.inl ⟨q1, .inl q2, q3⟩)
              · exact .inr (.inl ⟨q1, .inr q2, q3⟩)
            · rintro (q | ⟨q1, q2 | q2, q3⟩ | ⟨_, _, q3⟩)
              · exact .inl q
              · exact .inr (.inl ⟨q1, q2, q3⟩)
              · exact .inr (.inr ⟨q1, q2, q3⟩)
              · exact nomatch q3
        · rintro ρ ⟨c6, c7, c8, c9, c10, c11, hB, rfl⟩
          rw [List.length_map] at hB
          refine ⟨_, _, _, _, _, _, _, best_congr (fun t => ?_) hB, rfl⟩
          show ((t.1 ∈ W1.take i ∧ t.2.1 ∈ W2 ∧ t.2.2 ∈ W3) ∨ (t.1 = W1.getD i [] ∧ t.2.1 ∈ W2.take W2.length ∧ t.2.2 ∈ W3) ∨ (_ ∧ _ ∧ t.2.2 ∈ W3.take 0)) ↔ ((t.1 ∈ W1.take (i + 1) ∧ t.2.1 ∈ W2 ∧ t.2.2 ∈ W3) ∨ (_ ∧ t.2.1 ∈ W2.take 0 ∧ _) ∨ (_ ∧ _ ∧ t.2.2 ∈ W3.take 0))
          rw [List.take_length, tk hi, List.take_zero, List.take_zero]
          constructor
          · rintro (⟨q1, q2, q3⟩ | ⟨q1, q2, q3⟩ | ⟨_, _, q3⟩)
            · exact .inl ⟨.inl q1, q2, q3⟩
            · exact .inl ⟨.inr q1, q2, q3⟩
            · exact nomatch q3
          · rintro (⟨q1 | q1, q2, q3⟩ | ⟨_, q2, _⟩ | ⟨_, _, q3⟩)
            · exact .inl ⟨q1, q2, q3⟩
            · exact .inr (.inl ⟨q1, q2, q3⟩)
            · exact nomatch q2
            · exact nomatch q3
      · rintro ρ ⟨c4, c6, c7, c8, c9, c10, c11, hB, rfl⟩
        rw [List.length_map] at hB
        refine ⟨_, _, _, _, _, _, _, best_congr (fun t => ?_) hB, rfl⟩
        show ((t.1 ∈ W1.take W1.length ∧ t.2.1 ∈ W2 ∧ t.2.2 ∈ W3) ∨ (_ ∧ t.2.1 ∈ W2.take 0 ∧ _) ∨ (_ ∧ _ ∧ t.2.2 ∈ W3.take 0)) ↔ _
        rw [List.take_length, List.take_zero, List.take_zero]
        exact ⟨fun q => q.elim id fun q => q.elim (fun q => nomatch q.2.1) fun q => (nomatch q.2.2), .inl⟩
    · rintro ρ ⟨c4, c6, c7, c8, c9, c10, c11, hB, rfl⟩
      show aRet _ _ _ [_, _, _, _, _, _, _, _, _, _, _, _]
      rcases hB with ⟨rfl, no⟩ | ⟨t, ht, hc, hle⟩
      · exfalso
        obtain ⟨a, l, e⟩ := List.exists_cons_of_ne_nil n1
        obtain ⟨b, l', e'⟩ := List.exists_cons_of_ne_nil n3
        exact no (a, a, b) ⟨by rw [hW1, e]; exact List.mem_cons_self, by rw [hW2, e]; exact List.mem_append_left _ List.mem_cons_self, by rw [hW3, e']; exact List.mem_cons_self⟩
      · obtain ⟨r1, r2⟩ := h t ⟨(fit t).mpr ht, fun t' h' => hle t' ((fit t').mp h')⟩
        rcases hc with rfl | rfl <;> simp! only []
        all_goals
          first
          | exact r1
          | exact r2
  · exact h.elim
abbrev sp__law_reach (K : PySem.W.Frag) : Sp := SpL K noBox c__law_reach
section
variable {P : Program} {w : World} {K : PySem.W.Frag} {mg : Str → Option Value} {base : Heap} {a : Adr}
theorem ok__law_reach (T : Txt K mg a) : FnOk P w K mg base CX0 3 a.f__law_reach a.d__law_reach ["machine", "right", "seen", "still"] (sp__law_reach K) := by
  have G__law_wholes : FnOk P w K mg base CX0 1 a.f__law_wholes a.d__law_wholes ["book", "lanes"] (sp__law_wholes K) := ok__law_wholes T
  have G__law_span : FnOk P w K mg base CX0 2 a.f__law_span a.d__law_span ["machine", "lanes"] (sp__law_span K) := ok__law_span T
  refine T._law_reach.F.ok sc__law_reach (fun vs H Q E h => sp_len l__law_reach h) (fun cdv A outer s H vs Q E hr h => ?_)
  have hu := hu_of hr
  exact ⟨_, (pss_cons (ps_par (i := 5) (j := 6) (by rfl) sc__law_reach.nd rfl rfl (by decide) rfl rfl (pa_cons (pe_callB (show CallR _ _ (Sx.rLenS K) from call_len_seq) (by rfl) T.b_len (by decide +kernel) (pa_cons (pv 0) pa_nil)) (pa_cons pe_non pa_nil)) (by rfl))
      (pss_cons (ps_for PassesOwn.never rfl (show PI _ _ _ (iAny K _) from pi_any (pe_call G__law_wholes (hr.mono (by decide)) (by rfl) T._law_wholes.m T._law_wholes.F.kp T._law_wholes.b .nil pass0 (pa_cons (pv 1) (pa_cons (pv 5) pa_nil)))) (pg_name (i := 4) sc__law_reach.nd rfl (by first | exact Or.inl rfl | exact Or.inr rfl)) (pss_one (ps_for PassesOwn.never rfl (show PI _ _ _ (iAny K _) from pi_any (pe_op (show OpR _ _ (rPlus K) from op_plus) (pe_call G__law_wholes (hr.mono (by decide)) (by rfl) T._law_wholes.m T._law_wholes.F.kp T._law_wholes.b .nil pass0 (pa_cons (pv 1) (pa_cons (pv 5) pa_nil))) (pe_call G__law_wholes (hr.mono (by decide)) (by rfl) T._law_wholes.m T._law_wholes.F.kp T._law_wholes.b .nil pass0 (pa_cons (pv 2) (pa_cons (pv 5) pa_nil))))) (pg_name (i := 7) sc__law_reach.nd rfl (by first | exact Or.inl rfl | exact Or.inr rfl)) (pss_one (ps_for PassesOwn.never rfl (show PI _ _ _ (iAny K _) from pi_any (pe_call G__law_wholes (hr.mono (by decide)) (by rfl) T._law_wholes.m T._law_wholes.F.kp T._law_wholes.b .nil pass0 (pa_cons (pv 3) (pa_cons (pv 5) pa_nil)))) (pg_name (i := 8) sc__law_reach.nd rfl (by first | exact Or.inl rfl | exact Or.inr rfl)) (pss_cons (ps_setLc (i := 9) (own := [("lane", 11)]) rfl sc__law_reach.nd rfl rfl (sw_true rfl rfl rfl (by decide +kernel)) (pi_range1 rfl T.b_range (pa_cons (pv 5) pa_nil)) (blkOk_by (N := ["machine", "right", "seen", "still", "one", "lanes", "best", "other", "third", "left", "span", "lane"]) (sc := defScope s__law_reach) (by decide +kernel)) (fun _ _ _ _ _ => (pg_name (i := 11) sc__law_reach.nd rfl (by first | exact Or.inl rfl | exact Or.inr rfl))) (fun _ _ _ _ _ => (pts_one (pt_cmpR (show OpR _ _ (rInP K true) from op_notInP hr.units) (pv 11) (pe_op (show OpR _ _ (rPlus K) from op_plus) (pe_op (show OpR _ _ (rPlus K) from op_plus) (pv 4) (pv 7)) (pv 8)) (by rfl)))) (fun _ _ _ _ _ => (pv 11)))
            (pss_cons (ps_set (i := 10) sc__law_reach.nd rfl (by first | exact Or.inl rfl | exact Or.inr rfl) (pe_call G__law_span hr (by rfl) T._law_span.m T._law_span.F.kp T._law_span.b .nil pass0 (pa_cons (pv 0) (pa_cons (pv 9) pa_nil))))
            (pss_one (ps_if (PW.pt (pw_or (pt_cmpR op_isN (pv 6) pe_non (nomark _)) (pw_or1 (pt_cmpR op_lt (pv 10) (pe_ix (show IxR _ (rIx K) from ix_seq) (pv 6) pe_int (fun _ _ => rfl)) (nomark _))))) (pss_one (ps_set (i := 6) sc__law_reach.nd rfl (by first | exact Or.inl rfl | exact Or.inr rfl) (pe_lst (pa_cons (pv 10) (pa_cons (pv 4) (pa_cons (pv 7) (pa_cons (pv 8) pa_nil))))))) pss_nil)))))))))
      (pss_one (ps_ret (pv 6))))),
    run0 (N := ["machine", "right", "seen", "still", "one", "lanes", "best", "other", "third", "left", "span", "lane"]) (np := 4) (f := b__law_reach) h (sp_len l__law_reach h) (fun dk B hb => (show LS B K Wno _ (b__law_reach dk) from
      (ls_seq (ls_par (la_cons (le_cb cl_len (la_cons (le_var (i := 0)) la_nil)) (la_cons (le_c (y := .none) fun _ => .non) la_nil)) (by decide))
      (ls_cut (ls_for (li_any (le_call0 (dk := dk) (c := c__law_wholes) trivial (la_cons (le_var (i := 1)) (la_cons (le_var (i := 5)) la_nil)))) (lg_name (i := 4)) (ls_for (li_any (le_op (ol_plus) (le_call0 (dk := dk) (c := c__law_wholes) trivial (la_cons (le_var (i := 1)) (la_cons (le_var (i := 5)) la_nil))) (le_call0 (dk := dk) (c := c__law_wholes) trivial (la_cons (le_var (i := 2)) (la_cons (le_var (i := 5)) la_nil))))) (lg_name (i := 7)) (ls_for (li_any (le_call0 (dk := dk) (c := c__law_wholes) trivial (la_cons (le_var (i := 3)) (la_cons (le_var (i := 5)) la_nil)))) (lg_name (i := 8)) (ls_seq (ls_asg (le_comp (vs := [11]) (li_range1 (la_cons (le_var (i := 5)) la_nil)) (lg_name (i := 11)) (tg_name (by decide)) (lt_test (le_op (ol_notIn) (le_var (i := 11)) (le_op (ol_plus) (le_op (ol_plus) (le_var (i := 4)) (le_var (i := 7))) (le_var (i := 8))))) (le_var (i := 11))) (lg_name (i := 9)))
            (ls_seq (ls_asg (le_call0 (dk := dk) (c := c__law_span) trivial (la_cons (le_var (i := 0)) (la_cons (le_var (i := 9)) la_nil))) (lg_name (i := 10)))
            (ls_if (lt_or (lt_test (le_op (ol_isN) (le_var (i := 6)) (le_c (y := .none) fun _ => .non))) (lt_test (le_op (ol_I0 fun _ _ _ => .bl _) (le_var (i := 10)) (le_op ol_ix (le_var (i := 6)) (le_c (y := .int 0) fun _ => .int _))))) (ls_asg (le_lst (la_cons (le_var (i := 10)) (la_cons (le_var (i := 4)) (la_cons (le_var (i := 7)) (la_cons (le_var (i := 8)) la_nil)))) (by decide)) (lg_name (i := 6))) ls_next))))))
      (ls_ret (le_var (i := 6))))))) h__law_reach⟩
end
theorem wd_rests {ns : List Int} (i : Int) (l10 : ns.length ≤ 10) (hn : ∀ m ∈ ns, 2 ≤ m ∧ m ≤ 1000000) : Wd ns (ns.map fun n => some (i % n)) := by
  refine ⟨by rw [List.length_map], l10, hn, fun k q hq => ?_⟩
  rw [List.getElem?_map] at hq
  cases e : ns[k]? with
  | none =>
    rw [e] at hq
    cases hq
  | some n =>
    rw [e] at hq
    cases hq
    have := hn n (List.mem_of_getElem? e)
    rw [List.getD_eq_getElem?_getD, e]
    exact ⟨Int.emod_nonneg _ (by omega), Int.emod_lt_of_pos _ (by omega)⟩
theorem rests_eq (ns : List Int) (i : Int) : (ns.map fun n => PyData.int (i % n)) = (ns.map fun n => some (i % n)).map oD := by rw [List.map_map] <;> rfl
theorem plain_ints (l : List Int) : PyData.plainAll (l.map PyData.int) = true := by
  induction l with
  | nil => rfl
  | cons a l ih => simpa [PyData.plainAll, PyData.plain] using ih
def WordFor (ns : List Int) (x : Int) (L S : List Int) (ws : List (Option Int)) : Prop := Wd ns ws ∧ ∀ j, j < ns.length → (((j : Nat) : Int) ∈ S → ws[j]? = some none) ∧ (((j : Nat) : Int) ∉ S → ∃ q, ws[j]? = some (some q) ∧ (((j : Nat) : Int) ∉ L → q = x % mAt ns j))
def lI (rs : List Int) : PyData := .list (rs.map PyData.int)
def RowFor (ns : List Int) (x : Int) (L rs : List Int) : Prop := rs.length = ns.length ∧ ∀ j, j < ns.length → 0 ≤ rs.getD j 0 ∧ rs.getD j 0 < mAt ns j ∧ (((j : Nat) : Int) ∉ L → rs.getD j 0 = x % mAt ns j)
def c__law_words : V → Ct := fun dk as R _ => match as with
  | [.raw v, .d m, .d x, .d l, .d s, .d t] => v = dk ∧ ∃ (ns : List Int) (i : Int) (L S : List Int) (most : Nat), m = .tuple (ns.map PyData.int) ∧ x = .int i ∧ l = tI L ∧ s = tI S ∧ t = .int (most : Nat) ∧ ns.length ≤ 4 ∧ (∀ n ∈ ns, 2 ≤ n ∧ n ≤ 7) ∧ (∀ a ∈ L, 0 ≤ a ∧ a < ns.length) ∧ L.length ≤ 4 ∧
    ∀ wss : List (List (Option Int)), (∀ ws ∈ wss, WordFor ns i L S ws) → R (.d (.list (wss.map fun ws => .tuple (ws.map oD))))
  | _ => False
def b__law_words (dk : V) : ASx :=
  (aSeq (aAsg (aLst (aCons (aCB gList (aCons (aCall0 (c__law_rests dk) (aCons (aVar 1) (aCons (aVar 2) aNil))) aNil)) aNil)) (gN 6))
      (aCut (aFor (aIter (aVar 3)) (gN 7) (aSeq (aAsg (aLst aNil) (gN 10))
        (aCut (aFor (aIter (aVar 6)) (gN 9) (aAsg (aOp (gCat) (aVar 10) (aComp (aRange1 (aCons (aOp gIx (aVar 1) (aVar 7)) aNil)) (gN 11) aYes (aOp (gCat) (aOp (gCat) (aSl gCut (aVar 9) aNoP (aPart (aVar 7))) (aLst (aCons (aVar 11) aNil))) (aSl gCut (aVar 9) (aPart (aOp (gCat) (aVar 7) (aC (.int 1)))) aNoP)) [11])) (gN 10)))
        (aAsg (aVar 10) (gN 6)))))
      (aSeq (aAsg (aLst aNil) (gN 8))
      (aCut (aFor (aIter (aTern (aB (aOp (gI0 fun i j => .bool (decide (i ≤ j))) (aCB gLen (aCons (aVar 6) aNil)) (aVar 5))) (aVar 6) (aSl gCut (aCall0 (c__law_mixed dk) (aCons (aVar 0) (aCons (aVar 6) aNil))) aNoP (aPart (aVar 5))))) (gN 9) (aDrop (aApp 8 (aCB gTuple (aCons (aComp (aEnum (aCons (aVar 9) aNil)) (gT (gCons (gN 7) (gCons (gN 11) gNil))) aYes (aTern (aB (aOp (gIn) (aVar 7) (aVar 4))) (aC (.none)) (aVar 11)) [7, 11]) aNil)))))
      (aRet (aVar 8))))))
theorem l__law_words : ∀ (dk : V) (as : List A) (R : A → Prop) (Z : Ex → Prop), c__law_words dk as R Z → as.length = 6 := by
  intro dk as R Z h
  unfold c__law_words at h
  split at h
  · rfl
  · exact h.elim
theorem h__law_words : ∀ (dk : V) (as : List A) (R : A → Prop) (Z : Ex → Prop), as.length = 6 → c__law_words dk as R Z → b__law_words dk (ends0 R) (fun _ => R (.d .none)) (as ++ unA ((["deck", "machine", "number", "lot", "still", "most", "found", "lane", "rows", "row", "fresh", "rest"] : List Str).length - 6)) := by
  intro dk as R Z hl h
  unfold c__law_words at h
  split at h
  · rename_i v m x l s t
    obtain ⟨rfl, ns, i, L, S, most, rfl, rfl, rfl, rfl, rfl, l4, hn, hL, lL, h⟩ := h
    have hn6 : ∀ m ∈ ns, 2 ≤ m ∧ m ≤ 1000000 := fun m hm => by have := hn m hm; omega
    let st : A → A → A → A → A → A → List A := fun c6 c7 c8 c9 c10 c11 => [.raw v, .d (.tuple (ns.map PyData.int)), .d (.int i), .d (tI L), .d (tI S), .d (.int (most : Nat)), c6, c7, c8, c9, c10, c11]
    simp! only [b__law_words, c__law_rests]
    refine ⟨ns, i, rfl, rfl, by omega, fun n hm => (hn n hm).1, ?_⟩
    let Fnd : List Int → List (List Int) → A → Prop := fun L' rss c => rss.length ≤ 7 ^ L'.length ∧ (∀ rs ∈ rss, RowFor ns i L' rs) ∧ (c = .own (rss.map lI) ∨ c = .d (.list (rss.map lI)))
    have e0 : (ns.map fun n => PyData.int (i % n)) = (ns.map fun n => i % n).map PyData.int := by rw [List.map_map] <;> rfl
    have row0 : RowFor ns i [] (ns.map fun n => i % n) := by
      refine ⟨List.length_map .., fun j hj => ?_⟩
      have e : (ns.map fun n => i % n).getD j 0 = i % mAt ns j := by
        unfold mAt
        rw [List.getD_eq_getElem?_getD, List.getElem?_map, List.getD_eq_getElem?_getD, List.getElem?_eq_getElem hj] <;> rfl
      have hm := hn _ (mAt_in hj)
      rw [e]
      exact ⟨Int.emod_nonneg _ (by omega), Int.emod_lt_of_pos _ (by omega), fun _ => rfl⟩
    refine ⟨fun ρ => ∃ rss c6 c7 c9 c10 c11, Fnd L rss c6 ∧ ρ = st c6 c7 .un c9 c10 c11, ?_, ?_⟩
    · simp! only [tI]
      refine ⟨fun k ρ => ∃ rss c6 c7 c9 c10 c11, Fnd (L.take k) rss c6 ∧ ρ = st c6 c7 .un c9 c10 c11, ⟨[ns.map fun n => i % n], _, _, _, _, _, ⟨(by show 1 ≤ 1; decide), fun rs hr => by rw [List.mem_singleton.mp hr]; exact row0, .inl (by rw [e0] <;> rfl)⟩, rfl⟩, ?_, ?_⟩
      · rintro k ρ hk ⟨rss, c6, c7, c9, c10, c11, hF, rfl⟩
        rw [List.length_map] at hk
        obtain ⟨f1, f2, f3⟩ := hF
        have ek : L[k]? = some (L.getD k 0) := by rw [List.getD_eq_getElem?_getD, List.getElem?_eq_getElem hk] <;> rfl
        have ed : (L.map PyData.int).getD k .none = .int (L.getD k 0) := by rw [List.getD_eq_getElem?_getD, List.getElem?_map, ek] <;> rfl
        have tk : L.take (k + 1) = L.take k ++ [L.getD k 0] := by rw [List.take_add_one, ek] <;> rfl
        have ha := hL _ (List.mem_of_getElem? ek)
        rw [ed]
        generalize L.getD k 0 = a at *
        obtain ⟨j, rfl⟩ : ∃ j : Nat, a = j := ⟨a.toNat, by omega⟩
        have hj : j < ns.length := by omega
        have hmj := hn _ (mAt_in hj)
        have lk : (L.take k).length = k := by rw [List.length_take]; omega
        rw [lk] at f1
        have p4 : 7 ^ k ≤ 7 ^ 3 := Nat.pow_le_pow_right (by decide) (by omega)
        have p3 : 7 ^ 3 = 343 := by decide
        show gN _ _ [_, _, _, _, _, _, _, _, _, _, _, _] _ _
        simp! only []
        refine ⟨fun ρ => ∃ (gss : List (List Int)) (c6 c7 c9 c10 c11 : A), gss.length ≤ 7 ^ (k + 1) ∧ (∀ rs ∈ gss, RowFor ns i (L.take (k + 1)) rs) ∧ (c10 = .own (gss.map lI) ∨ c10 = .d (.list (gss.map lI))) ∧ ρ = st c6 c7 .un c9 c10 c11, ?_, ?_⟩
        · rcases f3 with rfl | rfl <;> simp! only []
          all_goals
            refine ⟨fun u ρ => ∃ (gss : List (List Int)) (c6 c9 c10 c11 : A), gss.length ≤ 7 * u ∧ (∀ rs ∈ gss, RowFor ns i (L.take (k + 1)) rs) ∧ (c10 = .own (gss.map lI) ∨ c10 = .d (.list (gss.map lI))) ∧ ρ = st c6 (.d (.int (j : Nat))) .un c9 c10 c11, ⟨[], _, _, _, _, Nat.zero_le _, (fun _ z => nomatch z), .inl rfl, rfl⟩, ?_, ?_⟩
            · rintro u ρ hu ⟨gss, c6, c9, c10, c11, g1, g2, g3, rfl⟩
              rw [List.length_map] at hu
              have eu : rss[u]? = some (rss.getD u []) := by rw [List.getD_eq_getElem?_getD, List.getElem?_eq_getElem hu] <;> rfl
              have ed : (rss.map lI).getD u .none = lI (rss.getD u []) := by rw [List.getD_eq_getElem?_getD, List.getElem?_map, eu] <;> rfl
              obtain ⟨r1, r2⟩ := f2 _ (List.mem_of_getElem? eu)
              rw [ed]
              generalize rss.getD u [] = rs at *
              have ej := mAt_at (ns := ns) hj
              show gN _ _ [_, _, _, _, _, _, _, _, _, _, _, _] _ _
              rcases g3 with rfl | rfl <;> simp! only [lI, ej]
              all_goals
                refine ⟨by omega, by omega, comp_map (fun d => match d with | .int q => lI (rs.set j q) | _ => .none) (by rw [rangeD_len]; omega) (fun d hd J hJ => ?_) ?_⟩
                · obtain ⟨q, hq, rfl⟩ := List.mem_map.mp hd
                  have hJ : J (lI (rs.set j (0 + ((q : Nat) : Int)))) _ := hJ
                  have es : (rs.set j (0 + ((q : Nat) : Int))).map PyData.int = (rs.map PyData.int).take j ++ [.int (0 + ((q : Nat) : Int))] ++ (rs.map PyData.int).drop (j + 1) := by
                    rw [List.set_eq_take_append_cons_drop, if_pos (by omega), List.map_append, List.map_cons, List.map_take, List.map_drop, List.append_assoc] <;> rfl
                  rw [show lI (rs.set j (0 + ((q : Nat) : Int))) = .list ((rs.set j (0 + ((q : Nat) : Int))).map PyData.int) from rfl, es] at hJ
                  simp! only [K4.cut_to (show j ≤ (rs.map PyData.int).length by rw [List.length_map]; omega), K4.cut_past (show j < (rs.map PyData.int).length by rw [List.length_map]; omega)]
                  refine ⟨?_, ?_, hJ⟩
                  · rw [List.length_take]
                    omega
                  · rw [List.length_append, List.length_take, List.length_drop, List.length_map]
                    show _ + 1 + _ ≤ _
                    omega
                · have er : (rangeD 0 (mAt ns j).toNat).map (fun d => match d with | .int q => lI (rs.set j q) | _ => .none) = ((List.range (mAt ns j).toNat).map fun q => rs.set j ((q : Nat) : Int)).map lI := by
                    unfold rangeD
                    rw [List.map_map, List.map_map]
                    refine List.map_congr_left fun q _ => ?_
                    show lI (rs.set j (0 + ((q : Nat) : Int))) = _
                    rw [Int.zero_add] <;> rfl
                  rw [er]
                  simp! only []
                  refine ⟨by rw [List.length_map, List.length_map, List.length_map, List.length_range]; omega, gss ++ (List.range (mAt ns j).toNat).map fun q => rs.set j ((q : Nat) : Int), _, _, _, _, ?_, fun r hr => ?_, .inl ?_, rfl⟩
                  · rw [List.length_append, List.length_map, List.length_range]
                    omega
                  · rcases List.mem_append.mp hr with hr | hr
                    · exact g2 r hr
                    · obtain ⟨q, hq, rfl⟩ := List.mem_map.mp hr
                      have hq := List.mem_range.mp hq
                      refine ⟨by rw [List.length_set]; exact r1, fun p hp => ?_⟩
                      obtain ⟨x1, x2, x3⟩ := r2 p hp
                      rw [List.getD_eq_getElem?_getD] at x1 x2 x3 ⊢
                      by_cases z : p = j
                      · subst z
                        rw [List.getElem?_set_self (by omega), tk]
                        show 0 ≤ ((q : Nat) : Int) ∧ ((q : Nat) : Int) < _ ∧ _
                        exact ⟨by omega, by omega, fun g => absurd (List.mem_append_right _ List.mem_cons_self) g⟩
                      · rw [List.getElem?_set_ne (fun e => z e.symm)]
                        exact ⟨x1, x2, fun g => x3 fun g2 => g (by rw [tk]; exact List.mem_append_left _ g2)⟩
                  · rw [List.map_append]
            · rintro ρ ⟨gss, c6, c9, c10, c11, g1, g2, g3, rfl⟩
              rw [List.length_map] at g1
              exact ⟨gss, _, _, _, _, _, by rw [Nat.pow_succ]; omega, g2, g3, rfl⟩
        · rintro ρ ⟨gss, c6, c7, c9, c10, c11, g1, g2, g3, rfl⟩
          show aAsg _ _ _ _ [_, _, _, _, _, _, _, _, _, _, _, _]
          have ll : (L.take (k + 1)).length = k + 1 := by rw [List.length_take]; omega
          rcases g3 with rfl | rfl <;> simp! only []
          all_goals
            exact ⟨gss, _, _, _, _, _, ⟨by rw [ll]; exact g1, g2, .inr rfl⟩, rfl⟩
      · rintro ρ ⟨rss, c6, c7, c9, c10, c11, hF, rfl⟩
        rw [List.length_map, List.take_length] at hF
        exact ⟨rss, _, _, _, _, _, hF, rfl⟩
    · rintro ρ ⟨rss, c6, c7, c9, c10, c11, ⟨f1, f2, f3⟩, rfl⟩
      show aSeq _ _ _ _ [_, _, _, _, _, _, _, _, _, _, _, _]
      simp! only []
      have p4 : 7 ^ L.length ≤ 7 ^ 4 := Nat.pow_le_pow_right (by decide) lL
      have p4' : 7 ^ 4 = 2401 := by decide
      have lp : ∀ l : List (List Int), PyData.plainAll (l.map lI) = true := fun l => by
        induction l with
        | nil => rfl
        | cons a l ih =>
          have : (lI a).plain = true := by
            show PyData.plain (.list _) = true
            rw [PyData.plain]
            exact plain_map a
          simpa [PyData.plainAll, this] using ih
      -- what is made of the rows
      have fin : ∀ (ds : List PyData) (c6 : A), ds.length ≤ 4000 → (∀ d ∈ ds, ∃ rs, d = lI rs ∧ RowFor ns i L rs) → forRun ds (gN 9) (aDrop (aApp 8 (aCB gTuple (aCons (aComp (aEnum (aCons (aVar 9) aNil)) (gT (Lf.gCons (gN 7) (Lf.gCons (gN 11) Lf.gNil))) aYes (aTern (aB (aOp gIn (aVar 7) (aVar 4))) (aC .none) (aVar 11)) [7, 11]) aNil)))) { rt := R, bk := fun _ => False, ct := fun _ => False, ex := fun _ _ => False }
          (fun ρ => ∃ (wss : List (List (Option Int))) (c6 c7 c9 c10 c11 : A), (∀ ws ∈ wss, WordFor ns i L S ws) ∧ ρ = st c6 c7 (.own (wss.map fun ws => .tuple (ws.map oD))) c9 c10 c11) (st c6 c7 (.own []) c9 c10 c11) := fun ds c6 ld hd => by
        refine ⟨fun u ρ => ∃ (wss : List (List (Option Int))) (c7 c9 c11 : A), wss.length = u ∧ (∀ ws ∈ wss, WordFor ns i L S ws) ∧ ρ = st c6 c7 (.own (wss.map fun ws => .tuple (ws.map oD))) c9 c10 c11, ⟨[], _, _, _, rfl, (fun _ z => nomatch z), rfl⟩, ?_, ?_⟩
        · rintro u ρ hu ⟨wss, c7, c9, c11, g1, g2, rfl⟩
          obtain ⟨rs, er, r1, r2⟩ := hd _ (List.mem_of_getElem? (getD_some PyData.none hu))
          rw [er]
          show gN _ _ [_, _, _, _, _, _, _, _, _, _, _, _] _ _
          simp! only [lI]
          obtain ⟨ws, hws⟩ : ∃ ws : List (Option Int), ws = (List.range ns.length).map fun j => if ((j : Nat) : Int) ∈ S then none else some (rs.getD j 0) := ⟨_, rfl⟩
          have ew : (enumD (rs.map PyData.int)).map (fun d => match d with | .tuple [.int l, y] => if l ∈ S then .none else y | _ => .none) = ws.map oD := by
            rw [hws]
            unfold enumD
            rw [List.map_map, List.map_map, List.length_map, r1]
            refine List.map_congr_left fun p hp => ?_
            have hp := List.mem_range.mp hp
            show (if ((p : Nat) : Int) ∈ S then PyData.none else (rs.map PyData.int).getD p .none) = oD (if ((p : Nat) : Int) ∈ S then none else some (rs.getD p 0))
            by_cases z : ((p : Nat) : Int) ∈ S
            · rw [if_pos z, if_pos z] <;> rfl
            · rw [if_neg z, if_neg z, List.getD_eq_getElem?_getD, List.getElem?_map, List.getD_eq_getElem?_getD, List.getElem?_eq_getElem (by omega)] <;> rfl
          refine comp_map (fun d => match d with | .tuple [.int l, y] => if l ∈ S then .none else y | _ => .none) (by rw [enumD_len, List.length_map]; omega) (fun d hd J hJ => ?_) ?_
          · obtain ⟨p, hp, rfl⟩ := List.mem_map.mp hd
            have hJ : J (if ((p : Nat) : Int) ∈ S then PyData.none else (rs.map PyData.int).getD p .none) _ := hJ
            generalize (rs.map PyData.int).getD p .none = y at hJ ⊢
            simp! only [tI, any_int]
            refine ⟨plain_map _, rfl, depth_any _ _, ?_⟩
            by_cases z : ((p : Nat) : Int) ∈ S
            · rw [if_pos z] at hJ
              rw [decide_eq_true z]
              simp! only []
              exact hJ
            · rw [if_neg z] at hJ
              rw [decide_eq_false z]
              simp! only []
              exact hJ
          · rw [ew]
            simp! only []
            refine ⟨by rw [List.length_map]; omega, wss ++ [ws], _, _, _, by rw [List.length_append, g1] <;> rfl, fun w hw => ?_, by rw [List.map_append] <;> rfl⟩
            rcases List.mem_append.mp hw with hw | hw
            · exact g2 w hw
            · rw [List.mem_singleton.mp hw]
              have at_ : ∀ p, p < ns.length → ws[p]? = some (if ((p : Nat) : Int) ∈ S then none else some (rs.getD p 0)) := fun p hp => by
                rw [hws, List.getElem?_map, List.getElem?_range hp] <;> rfl
              refine ⟨⟨by rw [hws, List.length_map, List.length_range], by omega, hn6, fun p q hq => ?_⟩, fun p hp => ⟨fun z => by rw [at_ p hp, if_pos z], fun z => ⟨_, by rw [at_ p hp, if_neg z], (r2 p hp).2.2⟩⟩⟩
              have hp : p < ns.length := by
                have := (List.getElem?_eq_some_iff.mp hq).1
                rw [hws, List.length_map, List.length_range] at this
                exact this
              rw [at_ p hp] at hq
              by_cases z : ((p : Nat) : Int) ∈ S
              · rw [if_pos z] at hq
                cases hq
              · rw [if_neg z] at hq
                cases hq
                rw [mAt_d hp]
                exact ⟨(r2 p hp).1, (r2 p hp).2.1⟩
        · rintro ρ ⟨wss, c7, c9, c11, g1, g2, rfl⟩
          exact ⟨wss, _, _, _, _, _, g2, rfl⟩
      have fr : ∀ d ∈ rss.map lI, ∃ rs, d = lI rs ∧ RowFor ns i L rs := fun d hd => by
        obtain ⟨rs, hr, rfl⟩ := List.mem_map.mp hd
        exact ⟨rs, rfl, f2 rs hr⟩
      have fl : (rss.map lI).length ≤ 4000 := by
        rw [List.length_map]
        omega
      refine ⟨fun ρ => ∃ (wss : List (List (Option Int))) (c6 c7 c9 c10 c11 : A), (∀ ws ∈ wss, WordFor ns i L S ws) ∧ ρ = st c6 c7 (.own (wss.map fun ws => .tuple (ws.map oD))) c9 c10 c11, ?_, ?_⟩
      · rcases f3 with rfl | rfl <;> simp! only [c__law_mixed]
        all_goals
          by_cases z : ((rss.map lI).length : Int) ≤ (most : Nat)
          · rw [decide_eq_true z, if_pos rfl]
            exact fin _ _ fl fr
          · rw [decide_eq_false z, if_neg (by decide)]
            exact ⟨lp rss, fl, fun ys p => fin _ _ (Nat.le_trans (K4.cut_len _ _ _) (by rw [p.length_eq]; exact fl)) fun d hd => fr d (p.mem_iff.mp (List.mem_of_mem_drop (List.mem_of_mem_take hd)))⟩
      · rintro ρ ⟨wss, c6, c7, c9, c10, c11, hw, rfl⟩
        show aRet _ _ _ [_, _, _, _, _, _, _, _, _, _, _, _]
        simp! only []
        exact h wss hw
  · exact h.elim
abbrev sp__law_words (K : PySem.W.Frag) : Sp := SpL K (deckOf boxD) c__law_words
section
variable {P : Program} {w : World} {K : PySem.W.Frag} {mg : Str → Option Value} {base : Heap} {a : Adr}
theorem ok__law_words (T : Txt K mg a) : FnOk P w K mg base CX0 3 a.f__law_words a.d__law_words ["deck", "machine", "number", "lot", "still", "most"] (sp__law_words K) := by
  have G__law_rests : FnOk P w K mg base CX0 1 a.f__law_rests a.d__law_rests ["machine", "number"] (sp__law_rests K) := ok__law_rests T
  have G__law_mixed : FnOk P w K mg base CX0 2 a.f__law_mixed a.d__law_mixed ["deck", "items"] (sp__law_mixed K) := ok__law_mixed T
  refine T._law_words.F.ok sc__law_words (fun vs H Q E h => sp_len l__law_words h) (fun cdv A outer s H vs Q E hr h => ?_)
  have hu := hu_of hr
  exact ⟨_, (pss_cons (ps_set (i := 6) sc__law_words.nd rfl (by first | exact Or.inl rfl | exact Or.inr rfl) (pe_lst (pa_cons (pe_callTy (show CallR _ _ (Sx.rListS K) from call_list_of) (by rfl) T.b_list (by decide +kernel) (pa_cons (pe_call G__law_rests (hr.mono (by decide)) (by rfl) T._law_rests.m T._law_rests.F.kp T._law_rests.b .nil pass0 (pa_cons (pv 1) (pa_cons (pv 2) pa_nil))) pa_nil)) pa_nil)))
      (pss_cons (ps_for PassesOwn.never rfl (show PI _ _ _ (iAny K _) from pi_any (pv 3)) (pg_name (i := 7) sc__law_words.nd rfl (by first | exact Or.inl rfl | exact Or.inr rfl)) (pss_cons (ps_set (i := 10) sc__law_words.nd rfl (by first | exact Or.inl rfl | exact Or.inr rfl) (pe_lst pa_nil))
        (pss_cons (ps_for PassesOwn.never rfl (show PI _ _ _ (iAny K _) from pi_any (pv 6)) (pg_name (i := 9) sc__law_words.nd rfl (by first | exact Or.inl rfl | exact Or.inr rfl)) (pss_one (ps_set (i := 10) sc__law_words.nd rfl (by first | exact Or.inl rfl | exact Or.inr rfl) (pe_op (show OpR _ _ (rPlus K) from op_plus) (pv 10) (pe_lc (own := [("rest", 11)]) rfl sc__law_words.nd (pi_range1 rfl T.b_range (pa_cons (pe_ix (show IxR _ (rIx K) from ix_seq) (pv 1) (pv 7) (fun _ _ => rfl)) pa_nil)) (blkOk_by (N := ["deck", "machine", "number", "lot", "still", "most", "found", "lane", "rows", "row", "fresh", "rest"]) (sc := defScope s__law_words) (by decide +kernel)) (fun _ _ _ _ _ => (pg_name (i := 11) sc__law_words.nd rfl (by first | exact Or.inl rfl | exact Or.inr rfl))) (fun _ _ _ _ _ => pts_nil) (fun _ _ _ _ _ => (pe_op (show OpR _ _ (rPlus K) from op_plus) (pe_op (show OpR _ _ (rPlus K) from op_plus) (pe_slice (show L2.SlR _ (rCut K) from sl_cut) (pv 9) po_none (po_some (pv 7))) (pe_lst (pa_cons (pv 11) pa_nil))) (pe_slice (show L2.SlR _ (rCut K) from sl_cut) (pv 9) (po_some (pe_op (show OpR _ _ (rPlus K) from op_plus) (pv 7) pe_int)) po_none))))))))
        (pss_one (ps_set (i := 6) sc__law_words.nd rfl (by first | exact Or.inl rfl | exact Or.inr rfl) (pv 10))))))
      (pss_cons (ps_set (i := 8) sc__law_words.nd rfl (by first | exact Or.inl rfl | exact Or.inr rfl) (pe_lst pa_nil))
      (pss_cons (ps_for PassesOwn.never rfl (show PI _ _ _ (iAny K _) from pi_any (pe_ifExp (pt_cmpR op_le (pe_callB (show CallR _ _ (Sx.rLenS K) from call_len_seq) (by rfl) T.b_len (by decide +kernel) (pa_cons (pv 6) pa_nil)) (pv 5) (nomark _)) (pv 6) (pe_slice (show L2.SlR _ (rCut K) from sl_cut) (pe_call G__law_mixed hr (by rfl) T._law_mixed.m T._law_mixed.F.kp T._law_mixed.b .nil pass0 (pa_cons (pv 0) (pa_cons (pv 6) pa_nil))) po_none (po_some (pv 5))))) (pg_name (i := 9) sc__law_words.nd rfl (by first | exact Or.inl rfl | exact Or.inr rfl)) (pss_one (ps_expr (show PE _ _ (tBM K "list" _ _ _) from pe_bm PySem.F.plainAttrs_list PySem.F.slot_list_append PySem.F.type_list_append mt_append (pv 8) (pa_cons (pe_callTy (show CallR _ _ (rTupS K) from call_tuple_of) (by rfl) T.b_tuple (by decide +kernel) (pa_cons (pe_lc (own := [("lane", 7), ("rest", 11)]) rfl sc__law_words.nd (show PI _ _ _ (iEnumA K _) from pi_enumA (by rfl) T.b_enumerate (pa_cons (pv 9) pa_nil)) (blkOk_by (N := ["deck", "machine", "number", "lot", "still", "most", "found", "lane", "rows", "row", "fresh", "rest"]) (sc := defScope s__law_words) (by decide +kernel)) (fun _ _ _ _ _ => (show PG _ _ (gTup K 2 _) from pg_tup rfl (pgs_cons (pg_name (i := 7) sc__law_words.nd rfl (by first | exact Or.inl rfl | exact Or.inr rfl)) (pgs_cons (pg_name (i := 11) sc__law_words.nd rfl (by first | exact Or.inl rfl | exact Or.inr rfl)) pgs_nil)))) (fun _ _ _ _ _ => pts_nil) (fun _ _ _ _ _ => (pe_ifExp (pt_cmpR (show OpR _ _ (rInP K false) from op_inP hr.units) (pv 7) (pv 4) (by rfl)) pe_non (pv 11)))) pa_nil)) pa_nil)))))
      (pss_one (ps_ret (pv 8))))))),
    run0 (N := ["deck", "machine", "number", "lot", "still", "most", "found", "lane", "rows", "row", "fresh", "rest"]) (np := 6) (f := b__law_words) h (sp_len l__law_words h) (fun dk B hb => have hdk := hb; (show LS B K Wno _ (b__law_words dk) from
      (ls_seq (ls_asg (le_lst (la_cons (le_cb cl_list (la_cons (le_call0 (dk := dk) (c := c__law_rests) trivial (la_cons (le_var (i := 1)) (la_cons (le_var (i := 2)) la_nil))) la_nil)) la_nil) (by decide)) (lg_name (i := 6)))
      (ls_cut (ls_for (li_any (le_var (i := 3))) (lg_name (i := 7)) (ls_seq (ls_asg (le_lst la_nil (by decide)) (lg_name (i := 10)))
        (ls_cut (ls_for (li_any (le_var (i := 6))) (lg_name (i := 9)) (ls_asg (le_op (ol_plus) (le_var (i := 10)) (le_comp (vs := [11]) (li_range1 (la_cons (le_op ol_ix (le_var (i := 1)) (le_var (i := 7))) la_nil)) (lg_name (i := 11)) (tg_name (by decide)) lt_yes (le_op (ol_plus) (le_op (ol_plus) (le_sl sll_cut (le_var (i := 9)) lo_no (lo_some (le_var (i := 7)))) (le_lst (la_cons (le_var (i := 11)) la_nil) (by decide))) (le_sl sll_cut (le_var (i := 9)) (lo_some (le_op (ol_plus) (le_var (i := 7)) (le_c (y := .int 1) fun _ => .int _))) lo_no)))) (lg_name (i := 10))))
        (ls_asg (le_var (i := 10)) (lg_name (i := 6))))))
      (ls_seq (ls_asg (le_lst la_nil (by decide)) (lg_name (i := 8)))
      (ls_cut (ls_for (li_any (le_tern (lt_test (le_op (ol_I0 fun _ _ _ => .bl _) (le_cb cl_len (la_cons (le_var (i := 6)) la_nil)) (le_var (i := 5)))) (le_var (i := 6)) (le_sl sll_cut (le_call0 (dk := dk) (c := c__law_mixed) hdk (la_cons (le_var (i := 0)) (la_cons (le_var (i := 6)) la_nil))) lo_no (lo_some (le_var (i := 5)))))) (lg_name (i := 9)) (ls_drop (le_app (i := 8) (le_cb cl_tuple (la_cons (le_comp (vs := [7, 11]) (li_enum (la_cons (le_var (i := 9)) la_nil)) (lg_tup (lgs_cons (lg_name (i := 7)) (lgs_cons (lg_name (i := 11)) lgs_nil)) (gC_len (gC_len gN_len))) (tg_tup (tgs_cons (tg_name (by decide)) (tgs_cons (tg_name (by decide)) tgs_nil))) lt_yes (le_tern (lt_test (le_op (ol_in) (le_var (i := 7)) (le_var (i := 4)))) (le_c (y := .none) fun _ => .non) (le_var (i := 11)))) la_nil)))))
      (ls_ret (le_var (i := 8))))))))) h__law_words⟩
end
def c__law_book : V → Ct := fun dk as R _ => match as with
  | [.raw v, .d (.int w)] => v = dk ∧ 1 ≤ w ∧ w ≤ 10 ∧ ∀ d, Book w.toNat d → R (.d d)
  | _ => False
def b__law_book (dk : V) : ASx :=
  (aSeq (aIfS (aB (aOp (gEq) (aCall0 (c__law_draw dk) (aCons (aVar 0) (aCons (aC (.int 2)) aNil))) (aC (.int 0)))) (aRet (aTern (aB (aOp (gI0 fun i j => .bool (decide (j < i))) (aVar 1) (aC (.int 1)))) (aCall0 (c__law_pick dk) (aCons (aVar 0) (aCons (aLst (aCons (aC (.int 0)) (aCons (aC (.int 1)) (aCons (aC (.int 1)) (aCons (aC (.int 2)) (aCons (aVar 1) (aCons (aCall0 (c__law_draw dk) (aCons (aVar 0) (aCons (aOp (gCat) (aVar 1) (aC (.int 1))) aNil))) aNil))))))) aNil))) (aCall0 (c__law_draw dk) (aCons (aVar 0) (aCons (aC (.int 2)) aNil))))) aNext)
      (aSeq (aAsg (aLst aNil) (gN 2))
      (aCut (aFor (aRange1 (aCons (aOp (gCat) (aC (.int 1)) (aCall0 (c__law_draw dk) (aCons (aVar 0) (aCons (aC (.int 4)) aNil)))) aNil)) (gN 3) (aSeq (aAsg (aCall0 (c__law_lot dk) (aCons (aVar 0) (aCons (aVar 1) aNil))) (gN 4))
        (aIfS (aB (aInV true 2 (aVar 4))) (aDrop (aApp 2 (aVar 4))) aNext)))
      (aRet (aCB gTuple (aCons (aCB gSortedT (aCons (aVar 2) aNil)) aNil))))))
theorem l__law_book : ∀ (dk : V) (as : List A) (R : A → Prop) (Z : Ex → Prop), c__law_book dk as R Z → as.length = 2 := by
  intro dk as R Z h
  unfold c__law_book at h
  split at h
  · rfl
  · exact h.elim
theorem h__law_book : ∀ (dk : V) (as : List A) (R : A → Prop) (Z : Ex → Prop), as.length = 2 → c__law_book dk as R Z → b__law_book dk (ends0 R) (fun _ => R (.d .none)) (as ++ unA ((["deck", "lanes", "found", "turn", "lot"] : List Str).length - 2)) := by
  intro dk as R Z hl h
  unfold c__law_book at h
  split at h
  · rename_i v w
    obtain ⟨rfl, w0, w1, h⟩ := h
    simp! only [b__law_book, c__law_draw, c__law_pick]
    refine ⟨small_of (by decide) (by decide), fun r r0 r1 => ?_⟩
    have fin : ∀ i : Int, 0 ≤ i → i ≤ w → R (.d (.int i)) := fun i h0 h1 => h _ (.inl ⟨i.toNat, by rw [Int.toNat_of_nonneg h0], by omega⟩)
    cases z : r == 0 with
    | true =>
      simp! only []
      by_cases z1 : (1 : Int) < w
      · rw [decide_eq_true z1]
        simp! only []
        refine ⟨small_of (by omega) (by omega), fun q q0 q1 => ?_⟩
        simp only [List.isEmpty_cons,List.isEmpty_nil,ends0,ends1,wipeA,List.map,List.set,List.cons_append,List.nil_append,List.length_cons,List.length_nil,ite_true,ite_false,Bool.not_true,Bool.not_false,Bool.true_and,Bool.and_true,Bool.false_and,Bool.and_false,reduceIte,reduceCtorEq,Bool.false_eq_true,if_true,if_false,Nat.reduceAdd,Nat.reduceLeDiff,ne_eq,not_false_eq_true,eq_self,not_true_eq_false,Nat.reduceSub,Nat.reduceMul,Nat.reduceLT,Nat.reducePow,Int.reduceLE,Int.reduceLT,Int.reduceAdd,Int.reduceSub,Int.reduceMul,Int.reduceNeg,Int.reducePow,Int.reduceToNat,Int.reduceEq,Int.reduceBEq,Option.some.injEq,exists_eq_left',exists_eq_left,true_and,and_true,decide_true,decide_false,Nat.reduceBEq,Bool.or_true,Bool.true_or,Bool.or_false,Bool.false_or,aVar_e,aC_e,aRaw_e,aOp_e,aUn_e,aNot_e,aAnd_e,aOr_e,aChain_e,aTern_e,aNil_e,aCons_e,aTup_e,aLst_e,aB_e,tAndA_e,tOrA_e,tNotA_e,aCB_e,aCall_e,aCallK_e,aSl_e,aNoP_e,aCall0_e,gN_e,aNext_e,aSeq_e,aBrk_e,aCnt_e,aDrop_e,aRet_e,aRetN_e,aIfS_e,aAsg_e,aAug_e,aPar_e,aFor_e,aWhile_e,aYes_e,aIter_e,aEnum_e,aRange1_e,aRange2_e,aZip_e,aZipTL_e,aApp_e,aPopAt_e,aPop_e,aLenV_e,aIxV_e,aEqNilV_e,aTupV_e,aDnew_e,aListRg_e,aComp_e,aZip3T_e,aCallK0_e,gSetV_e,on_d,on_own,bl_b,it_i,ow_o,isOwn_o,seq_t,seq_l,seq_o,lst_l,lst_o,tup_t,same_t,same_l,one_1,fz_d,fz_r,fz_o,look_d,look_r,look_o,unA_0,unA_s,sl_0,sl_s,ons_n,ons_c,gI0_i,gI_i,gU_i,gIsN_n,gNotN_n,isNone_n,isNone_i,isNone_b,isNone_s,isNone_t,isNone_l,gEq_s,gNe_s,gIn_l,gIn_t,gNotIn_l,gNotIn_t,gIx_t,gIx_l,gCat_i,gCat_t,gCat_l,gMul_i,gMul_t,gMul_l,gCut_t,gCut_l,gP_x,intD_n,intD_b,intD_i,intD_s,intD_l,intD_t,intD_d,boolD_n,boolD_b,boolD_i,boolD_s,boolD_l,boolD_t,boolD_d,strD_n,strD_b,strD_i,strD_s,strD_l,strD_t,strD_d,tupD_n,tupD_b,tupD_i,tupD_s,tupD_l,tupD_t,tupD_d,wholeD_n,wholeD_b,wholeD_i,wholeD_s,wholeD_l,wholeD_t,wholeD_d,gLen_1,gTuple_1,gList_1,gInt_i,gInt_b,gAbs_i,gRepr_x,gAll_l,gAny_l,gSum_l,gGcd_i,gSorted_l,cDraw_1,two_1,three_1,cPick_1,gMax2_i,gMin2_i,gEqS_s,isStr_s,gNil_n,gCons_c,gT_t,gL_o,gL_l,at1_0,at2_0,at2_1,at3_0,at3_1,at3_2,cpow_e,cast_lit,abs_lit,aPart_e,gMax1_l,gMax1_t,gMin1_l,gMin1_t,gInS_t,gEqNil_t,MaxR,MinR,aLend_e,argsV_n,argsV_c,dat_d,dat_r,nl_d,gSortedT_l,gLeT_t,aInV_e,aTupRg_e,gRev_t,gStr_i,aRevI_e,aDown_e,aCompV_e,gEq_nl,gNe_nl,gEq_nt,gNe_nt,gNeNil_t,aLendX_e,intd_i,rdAll_n,rdAll_c,rd_d,rd_r,rd_o,gNilL_t,gNilL_f,aLe3_e,gNiS_t,aPar3_e,three_e,gRepF3_t,gLcm_i,aBits_e,aSortSet_e,aComp2_e,aMaxDef_e,aListRg2_e,aDNewT_e,aDNewK_e,aDGetT_e,aDInT_e,gDPutT_e,aDLenT_e,aDListT_e,aDGetK_e,aDInK_e,gDPutK_e,aDLenK_e,aDListK_e,isD_t,isD_k,dtd_o,dkd_o,keyK_i,keyK_s,keyT_t,aRaise_e,aRaise1_e,aTryAs_e,aTry_e,aXf_e,aIsX_e,aMeth_e,aNewRow_e,isRow_r,fz_row,look_row,look_rowL,look_exc,look_dt,look_dk,fz_rowL,fz_exc,aDisp1T_e,aTru_e,aTruV_e,truD_t,truD_l,truD_b,truD_n,truD_i,gEq_i,gNe_i,List.mem_cons,List.not_mem_nil,or_false,forall_eq_or_imp,forall_eq]
        refine ⟨?_, ?_, ?_, ?_, ?_, ?_⟩ <;> apply fin <;> omega
      · rw [decide_eq_false z1]
        simp! only []
        exact ⟨small_of (by decide) (by decide), fun q q0 q1 => fin q q0 (by omega)⟩
    | false =>
      simp! only []
      refine ⟨fun ρ => ∃ (nss : List (List Int)) (a b : A), ρ = [.raw v, .d (.int w), .own (nss.map tI), a, b] ∧ 1 ≤ nss.length ∧ nss.length ≤ 4 ∧ nss.Nodup ∧ ∀ ns ∈ nss, ns.Sublist (Lf.rI w.toNat), ?_, ?_⟩
      · simp! only []
        refine ⟨small_of (by decide) (by decide), fun q q0 q1 => ⟨by omega, by omega, fun i ρ => ∃ (nss : List (List Int)) (a b : A), ρ = [.raw v, .d (.int w), .own (nss.map tI), a, b] ∧ (0 < i → 1 ≤ nss.length) ∧ nss.length ≤ i ∧ nss.Nodup ∧ ∀ ns ∈ nss, ns.Sublist (Lf.rI w.toNat), ⟨[], _, _, rfl, fun z => absurd z (by decide), Nat.le_refl _, List.nodup_nil, fun ns z => nomatch z⟩, ?_, ?_⟩⟩
        · rintro i ρ hi ⟨nss, a, b, rfl, n1, n2, n3, n4⟩
          rw [rangeD_len] at hi
          rw [rangeD_at hi]
          simp! only [c__law_lot]
          refine ⟨w.toNat, by rw [Int.toNat_of_nonneg (by omega)], by omega, by omega, fun ns hn => ?_⟩
          have hany : (nss.map tI).any (fun z => PyData.eqv z (tI ns)) = decide (ns ∈ nss) := any_tI
          simp! only [hany]
          refine ⟨plainAll_tI nss, plain_tI ns, Nat.le_trans (Nat.min_le_right _ _) (Nat.le_trans (depth_tI ns) (by decide)), ?_⟩
          by_cases hm : ns ∈ nss
          · simp! only [hm, decide_true]
            exact ⟨nss, _, _, rfl, fun _ => List.length_pos_of_mem hm, by omega, n3, n4⟩
          · simp! only [hm, decide_false]
            refine ⟨by rw [List.length_map]; omega, nss ++ [ns], _, _, by rw [List.map_append] <;> rfl, fun _ => by simp, by simp; omega, ?_, fun m hm' => ?_⟩
            · rw [List.nodup_append]
              refine ⟨n3, by simp, fun a ha b hb => ?_⟩
              rw [List.mem_singleton.mp hb]
              rintro rfl
              exact hm ha
            · rcases List.mem_append.mp hm' with z | z
              · exact n4 m z
              · rw [List.mem_singleton.mp z]
                exact hn
        · rintro ρ ⟨nss, a, b, rfl, n1, n2, n3, n4⟩
          rw [rangeD_len] at n1 n2
          exact ⟨nss, _, _, rfl, n1 (by omega), by omega, n3, n4⟩
      · rintro ρ ⟨nss, a, b, rfl, n1, n2, n3, n4⟩
        simp! only []
        refine ⟨_, rfl, fun mss hp hs => ?_⟩
        have := hp.length_eq
        exact h _ (.inr ⟨mss, rfl, by omega, by omega, hp.nodup_iff.mpr n3, hs, fun ns hn => n4 ns (hp.mem_iff.mp hn)⟩)
  · exact h.elim
abbrev sp__law_book (K : PySem.W.Frag) : Sp := SpL K (deckOf boxD) c__law_book
section
variable {P : Program} {w : World} {K : PySem.W.Frag} {mg : Str → Option Value} {base : Heap} {a : Adr}
theorem ok__law_book (T : Txt K mg a) : FnOk P w K mg base CX0 4 a.f__law_book a.d__law_book ["deck", "lanes"] (sp__law_book K) := by
  have G__law_draw : FnOk P w K mg base CX0 1 a.f__law_draw a.d__law_draw ["deck", "many"] (sp__law_draw K) := ok__law_draw T
  have G__law_lot : FnOk P w K mg base CX0 3 a.f__law_lot a.d__law_lot ["deck", "lanes"] (sp__law_lot K) := ok__law_lot T
  have G__law_pick : FnOk P w K mg base CX0 2 a.f__law_pick a.d__law_pick ["deck", "items"] (sp__law_pick K) := ok__law_pick T
  refine T._law_book.F.ok sc__law_book (fun vs H Q E h => sp_len l__law_book h) (fun cdv A outer s H vs Q E hr h => ?_)
  have hu := hu_of hr
  exact ⟨_, (pss_cons (ps_if (pt_cmpR (show OpR _ _ (rEqP K) from op_eqP hr.units) (pe_call G__law_draw (hr.mono (by decide)) (by rfl) T._law_draw.m T._law_draw.F.kp T._law_draw.b .nil pass0 (pa_cons (pv 0) (pa_cons pe_int pa_nil))) pe_int (nomark _)) (pss_one (ps_ret (pe_ifExp (pt_cmpR op_gt (pv 1) pe_int (nomark _)) (pe_call G__law_pick (hr.mono (by decide)) (by rfl) T._law_pick.m T._law_pick.F.kp T._law_pick.b .nil pass0 (pa_cons (pv 0) (pa_cons (pe_lst (pa_cons pe_int (pa_cons pe_int (pa_cons pe_int (pa_cons pe_int (pa_cons (pv 1) (pa_cons (pe_call G__law_draw (hr.mono (by decide)) (by rfl) T._law_draw.m T._law_draw.F.kp T._law_draw.b .nil pass0 (pa_cons (pv 0) (pa_cons (pe_op (show OpR _ _ (rPlus K) from op_plus) (pv 1) pe_int) pa_nil))) pa_nil))))))) pa_nil))) (pe_call G__law_draw (hr.mono (by decide)) (by rfl) T._law_draw.m T._law_draw.F.kp T._law_draw.b .nil pass0 (pa_cons (pv 0) (pa_cons pe_int pa_nil)))))) pss_nil)
      (pss_cons (ps_set (i := 2) sc__law_book.nd rfl (by first | exact Or.inl rfl | exact Or.inr rfl) (pe_lst pa_nil))
      (pss_cons (ps_for PassesOwn.never rfl (pi_range1 rfl T.b_range (pa_cons (pe_op (show OpR _ _ (rPlus K) from op_plus) pe_int (pe_call G__law_draw (hr.mono (by decide)) (by rfl) T._law_draw.m T._law_draw.F.kp T._law_draw.b .nil pass0 (pa_cons (pv 0) (pa_cons pe_int pa_nil)))) pa_nil)) (pg_name (i := 3) sc__law_book.nd rfl (by first | exact Or.inl rfl | exact Or.inr rfl)) (pss_cons (ps_set (i := 4) sc__law_book.nd rfl (by first | exact Or.inl rfl | exact Or.inr rfl) (pe_call G__law_lot hr (by rfl) T._law_lot.m T._law_lot.F.kp T._law_lot.b .nil pass0 (pa_cons (pv 0) (pa_cons (pv 1) pa_nil))))
        (pss_one (ps_if (pt_cmpR (show OpR _ _ (rInP K true) from op_notInP hr.units) (pv 4) (pv 2) (by rfl)) (pss_one (ps_expr (show PE _ _ (tBM K "list" _ _ _) from pe_bm PySem.F.plainAttrs_list PySem.F.slot_list_append PySem.F.type_list_append mt_append (pv 2) (pa_cons (pv 4) pa_nil)))) pss_nil))))
      (pss_one (ps_ret (pe_callTy (show CallR _ _ (rTupS K) from call_tuple_of) (by rfl) T.b_tuple (by decide +kernel) (pa_cons (pe_callB (show CallR _ _ (TpS.rSortedT K) from TpS.cr_sortedT hr.units) (by rfl) T.b_sorted (by decide +kernel) (pa_cons (pv 2) pa_nil)) pa_nil))))))),
    run0 (N := ["deck", "lanes", "found", "turn", "lot"]) (np := 2) (f := b__law_book) h (sp_len l__law_book h) (fun dk B hb => have hdk := hb; (show LS B K Wno _ (b__law_book dk) from
      (ls_seq (ls_if (lt_test (le_op (ol_eq) (le_call0 (dk := dk) (c := c__law_draw) hdk (la_cons (le_var (i := 0)) (la_cons (le_c (y := .int 2) fun _ => .int _) la_nil))) (le_c (y := .int 0) fun _ => .int _))) (ls_ret (le_tern (lt_test (le_op (ol_I0 fun _ _ _ => .bl _) (le_var (i := 1)) (le_c (y := .int 1) fun _ => .int _))) (le_call0 (dk := dk) (c := c__law_pick) hdk (la_cons (le_var (i := 0)) (la_cons (le_lst (la_cons (le_c (y := .int 0) fun _ => .int _) (la_cons (le_c (y := .int 1) fun _ => .int _) (la_cons (le_c (y := .int 1) fun _ => .int _) (la_cons (le_c (y := .int 2) fun _ => .int _) (la_cons (le_var (i := 1)) (la_cons (le_call0 (dk := dk) (c := c__law_draw) hdk (la_cons (le_var (i := 0)) (la_cons (le_op (ol_plus) (le_var (i := 1)) (le_c (y := .int 1) fun _ => .int _)) la_nil))) la_nil)))))) (by decide)) la_nil))) (le_call0 (dk := dk) (c := c__law_draw) hdk (la_cons (le_var (i := 0)) (la_cons (le_c (y := .int 2) fun _ => .int _) la_nil))))) ls_next)
      (ls_seq (ls_asg (le_lst la_nil (by decide)) (lg_name (i := 2)))
      (ls_cut (ls_for (li_range1 (la_cons (le_op (ol_plus) (le_c (y := .int 1) fun _ => .int _) (le_call0 (dk := dk) (c := c__law_draw) hdk (la_cons (le_var (i := 0)) (la_cons (le_c (y := .int 4) fun _ => .int _) la_nil)))) la_nil)) (lg_name (i := 3)) (ls_seq (ls_asg (le_call0 (dk := dk) (c := c__law_lot) hdk (la_cons (le_var (i := 0)) (la_cons (le_var (i := 1)) la_nil))) (lg_name (i := 4)))
        (ls_if (lt_test (le_inV (neg := true) (i := 2) (le_var (i := 4)))) (ls_drop (le_app (i := 2) (le_var (i := 4)))) ls_next)))
      (ls_ret (le_cb cl_tuple (la_cons (le_cb cl_sortedT (la_cons (le_var (i := 2)) la_nil)) la_nil)))))))) h__law_book⟩
end
def RowsOk (r : Rw) (lots : List (List Int)) (ks : List (List Int)) : Prop := (∀ k ∈ ks, ∃ f s m : Int, k = [f, s, m] ∧ 1 ≤ m ∧ 1 ≤ s ∧ r.lo ≤ f ∧ f + (m - 1) * s ≤ r.hi ∧ (m = 1 → s = 1)) ∧
  ∀ x, r.lo ≤ x → x ≤ r.hi → ((∃ L ∈ lots, r.agr L x) ↔ ∃ f s m t : Int, [f, s, m] ∈ ks ∧ 0 ≤ t ∧ t < m ∧ x = f + t * s)
theorem rows_nil {r : Rw} : RowsOk r [] [] := ⟨fun k hk => (nomatch hk), fun x _ _ => ⟨fun ⟨L, h, _⟩ => (nomatch h), fun ⟨_, _, _, _, h, _⟩ => (nomatch h)⟩⟩
theorem rows_none {r : Rw} {lots : List (List Int)} {ks : List (List Int)} {L : List Int} (h : RowsOk r lots ks) (h0 : ∀ x, r.lo ≤ x → x ≤ r.hi → ¬ r.agr L x) : RowsOk r (lots ++ [L]) ks := by
  refine ⟨h.1, fun x h1 h2 => ?_⟩
  rw [← h.2 x h1 h2]
  constructor
  · rintro ⟨K, hK, ha⟩
    rcases List.mem_append.mp hK with hK | hK
    · exact ⟨K, hK, ha⟩
    · rw [List.mem_singleton.mp hK] at ha
      exact absurd ha (h0 x h1 h2)
  · rintro ⟨K, hK, ha⟩
    exact ⟨K, List.mem_append_left _ hK, ha⟩
theorem rows_some {r : Rw} {lots : List (List Int)} {ks ks' : List (List Int)} {L : List Int} {f s m : Int} (h : RowsOk r lots ks) (hk : ∀ k, k ∈ ks' ↔ k = [f, s, m] ∨ k ∈ ks) (m1 : 1 ≤ m) (s1 : 1 ≤ s) (f1 : r.lo ≤ f) (f2 : f + (m - 1) * s ≤ r.hi) (ms : m = 1 → s = 1)
    (hx : ∀ x, r.lo ≤ x → x ≤ r.hi → (r.agr L x ↔ ∃ t : Int, 0 ≤ t ∧ t < m ∧ x = f + t * s)) : RowsOk r (lots ++ [L]) ks' := by
  refine ⟨fun k q => ?_, fun x h1 h2 => ?_⟩
  · rcases (hk k).mp q with rfl | q
    · exact ⟨f, s, m, rfl, m1, s1, f1, f2, ms⟩
    · exact h.1 k q
  constructor
  · rintro ⟨K, hK, ha⟩
    rcases List.mem_append.mp hK with hK | hK
    · obtain ⟨f', s', m', t, q, r'⟩ := (h.2 x h1 h2).mp ⟨K, hK, ha⟩
      exact ⟨f', s', m', t, (hk _).mpr (.inr q), r'⟩
    · rw [List.mem_singleton.mp hK] at ha
      obtain ⟨t, q⟩ := (hx x h1 h2).mp ha
      exact ⟨f, s, m, t, (hk _).mpr (.inl rfl), q⟩
  · rintro ⟨f', s', m', t, q, r'⟩
    rcases (hk _).mp q with e | q
    · injection e with e1 e
      injection e with e2 e
      injection e with e3 e
      subst e1 e2 e3
      exact ⟨L, List.mem_append_right _ (List.mem_singleton.mpr rfl), (hx x h1 h2).mpr ⟨t, r'⟩⟩
    · obtain ⟨K, hK, ha⟩ := (h.2 x h1 h2).mpr ⟨f', s', m', t, q, r'⟩
      exact ⟨K, List.mem_append_left _ hK, ha⟩
theorem put_keys {kvs : List (List Int × PyData)} {k : List Int} {v : PyData} (x : List Int) : x ∈ (putD kvs k v).map (·.1) ↔ x = k ∨ x ∈ kvs.map (·.1) := by
  unfold putD
  split
  · rename_i hs
    have e : (kvs.map fun x => if x.1 = k then (x.1, v) else x).map (·.1) = kvs.map (·.1) := by
      rw [List.map_map]
      refine List.map_congr_left fun y _ => ?_
      show (if y.1 = k then (y.1, v) else y).1 = y.1
      split <;> rfl
    rw [e]
    constructor
    · exact .inr
    · rintro (rfl | h)
      · unfold valD at hs
        rw [Option.isSome_map, List.find?_isSome] at hs
        obtain ⟨y, hy, e⟩ := hs
        exact List.mem_map.mpr ⟨y, hy, by simpa using e⟩
      · exact h
  · rw [List.map_append, List.mem_append]
    constructor
    · rintro (h | h)
      · exact .inr h
      · exact .inl (by simpa using h)
    · rintro (rfl | h)
      · exact .inr (by simp)
      · exact .inl h
theorem put_lenT {kvs : List (List Int × PyData)} {k : List Int} {v : PyData} : (putD kvs k v).length ≤ kvs.length + 1 := by
  unfold putD
  split
  · rw [List.length_map]
    omega
  · rw [List.length_append, List.length_singleton]
    exact Nat.le_refl _
def IsCand (r : Rw) (bk : Bk) (x : Int) : Prop := r.lo ≤ x ∧ x ≤ r.hi ∧ ∃ L ∈ keptL r.ws bk, r.agr L x
theorem str_iff {r : Rw} (hr : r.ok) {x : Int} {j : Nat} : j ∈ strN r.ms r.ws x ↔ j ∈ lanesN r.ws ∧ ¬ mAt r.ms j ∣ x - qAt r.ws j := by
  unfold strN
  rw [List.mem_filter, List.mem_range]
  have wd := rowD_ok hr
  constructor
  · rintro ⟨h1, h2⟩
    cases e : r.ws.getD j none with
    | none =>
      rw [e] at h2
      cases h2
    | some q =>
      rw [e] at h2
      have h2 : (q != x % r.ms.getD j 1) = true := h2
      have hj : j ∈ lanesN r.ws := List.mem_filter.mpr ⟨List.mem_range.mpr h1, by rw [e] <;> rfl⟩
      refine ⟨hj, fun d => ?_⟩
      obtain ⟨g1, g2, g3, g4, g5⟩ := wd_at wd hj
      have := (rest_iff g4 g5).mpr d
      have eq : qAt r.ws j = q := by unfold qAt; rw [e] <;> rfl
      have em : r.ms.getD j 1 = mAt r.ms j := rfl
      rw [em, this, eq] at h2
      simp at h2
  · rintro ⟨hj, d⟩
    obtain ⟨g1, g2, g3, g4, g5⟩ := wd_at wd hj
    refine ⟨(lanes_in hj).1, ?_⟩
    have e : r.ws.getD j none = some (qAt r.ws j) := by rw [List.getD_eq_getElem?_getD, (lanes_in hj).2] <;> rfl
    rw [e]
    show (qAt r.ws j != x % mAt r.ms j) = true
    rw [bne_iff_ne]
    intro z
    exact d ((rest_iff g4 g5).mp z.symm)
theorem agr_sub {r : Rw} {L : List Int} {x : Int} (hL : ∀ l ∈ L, l ∈ lanesI r.ws) : r.agr L x ↔ ∀ i : Nat, (i : Int) ∈ L → mAt r.ms i ∣ x - qAt r.ws i := by
  constructor
  · intro h i hi
    obtain ⟨j, hj, e⟩ := List.mem_map.mp (hL _ hi)
    have e : j = i := by omega
    subst e
    exact h _ hi (qAt r.ws j) (by rw [Int.toNat_natCast]; exact (lanes_in hj).2)
  · intro h l hl q hq
    obtain ⟨j, hj, rfl⟩ := List.mem_map.mp (hL _ hl)
    rw [Int.toNat_natCast] at hq ⊢
    have := h j hl
    rw [(lanes_in hj).2] at hq
    cases hq
    exact this
theorem cand_let {r : Rw} {bk : Bk} (hr : r.ok) {x : Int} : (∃ L ∈ keptL r.ws bk, r.agr L x) ↔ letB bk ((strN r.ms r.ws x).map fun j => ((j : Nat) : Int)) = true := by
  have mS : ∀ l : Int, l ∈ ((strN r.ms r.ws x).map fun j => ((j : Nat) : Int)) ↔ ∃ j : Nat, l = j ∧ j ∈ lanesN r.ws ∧ ¬ mAt r.ms j ∣ x - qAt r.ws j := fun l => by
    rw [List.mem_map]
    constructor
    · rintro ⟨j, hj, rfl⟩
      exact ⟨j, rfl, (str_iff hr).mp hj⟩
    · rintro ⟨j, rfl, hj⟩
      exact ⟨j, (str_iff hr).mpr hj, rfl⟩
  cases bk with
  | inr nss =>
    show (∃ L ∈ nss.map fun ns => (lanesI r.ws).filter fun j => decide (j ∉ ns), r.agr L x) ↔ (nss.any fun ns => inL _ ns) = true
    rw [List.any_eq_true]
    have key : ∀ ns : List Int, r.agr ((lanesI r.ws).filter fun j => decide (j ∉ ns)) x ↔ inL ((strN r.ms r.ws x).map fun j => ((j : Nat) : Int)) ns = true := fun ns => by
      rw [agr_sub (fun l hl => (List.mem_filter.mp hl).1), inL_iff]
      constructor
      · intro h l hl
        obtain ⟨j, rfl, hj, hd⟩ := (mS l).mp hl
        refine Classical.byContradiction fun z => hd (h j ?_)
        exact List.mem_filter.mpr ⟨List.mem_map.mpr ⟨j, hj, rfl⟩, decide_eq_true z⟩
      · intro h i hi
        obtain ⟨h1, h2⟩ := List.mem_filter.mp hi
        have h2 : (i : Int) ∉ ns := of_decide_eq_true h2
        obtain ⟨j, hj, e⟩ := List.mem_map.mp h1
        have e : j = i := by omega
        subst e
        exact Classical.byContradiction fun z => h2 (h _ ((mS _).mpr ⟨j, rfl, hj, z⟩))
    constructor
    · rintro ⟨L, hL, ha⟩
      obtain ⟨ns, hn, rfl⟩ := List.mem_map.mp hL
      exact ⟨ns, hn, (key ns).mp ha⟩
    · rintro ⟨ns, hn, hi⟩
      exact ⟨_, List.mem_map.mpr ⟨ns, hn, rfl⟩, (key ns).mpr hi⟩
  | inl k =>
    show (∃ L ∈ pk (lanesI r.ws) ((lanesN r.ws).length - k), r.agr L x) ↔ decide (((strN r.ms r.ws x).map fun j => ((j : Nat) : Int)).length ≤ k) = true
    rw [decide_eq_true_eq]
    have nI : (lanesI r.ws).Nodup := (lanesI_asc _).imp fun h => by omega
    have lI : (lanesI r.ws).length = (lanesN r.ws).length := List.length_map ..
    have nS : ((strN r.ms r.ws x).map fun j => ((j : Nat) : Int)).Nodup := by
      rw [List.Nodup, List.pairwise_map]
      exact (List.Pairwise.filter _ List.pairwise_lt_range).imp fun h => by omega
    have sI : ∀ l ∈ ((strN r.ms r.ws x).map fun j => ((j : Nat) : Int)), l ∈ lanesI r.ws := fun l hl => by
      obtain ⟨j, rfl, hj, _⟩ := (mS l).mp hl
      exact List.mem_map.mpr ⟨j, hj, rfl⟩
    generalize hS : ((strN r.ms r.ws x).map fun j => ((j : Nat) : Int)) = S at mS nS sI ⊢
    constructor
    · rintro ⟨L, hL, ha⟩
      obtain ⟨h1, h2⟩ := (pk_mem _ _ _).mp hL
      have ha := (agr_sub fun l hl => h1.mem hl).mp ha
      have nd : (L ++ S).Nodup := by
        rw [List.nodup_append]
        refine ⟨nI.sublist h1, nS, fun a haL b hb e => ?_⟩
        subst e
        obtain ⟨j, rfl, _, hd⟩ := (mS a).mp hb
        exact hd (ha j haL)
      have := nodup_len nd (T := lanesI r.ws) fun y hy => (List.mem_append.mp hy).elim (fun z => h1.mem z) (sI y)
      have := nodup_len nS (T := lanesI r.ws) sI
      rw [List.length_append] at *
      omega
    · intro hk
      let A : List Int := (lanesI r.ws).filter fun l => decide (l ∉ S)
      have hA : A.Sublist (lanesI r.ws) := List.filter_sublist
      have le := nodup_len nI (T := A ++ S) fun y hy => by
        rw [List.mem_append]
        by_cases z : y ∈ S
        · exact .inr z
        · exact .inl (List.mem_filter.mpr ⟨hy, decide_eq_true z⟩)
      rw [List.length_append] at le
      refine ⟨A.take ((lanesN r.ws).length - k), (pk_mem _ _ _).mpr ⟨(List.take_sublist _ _).trans hA, by rw [List.length_take]; omega⟩, ?_⟩
      refine (agr_sub fun l hl => hA.mem (List.mem_of_mem_take hl)).mpr fun i hi => ?_
      obtain ⟨h1, h2⟩ := List.mem_filter.mp (List.mem_of_mem_take hi)
      have h2 : (i : Int) ∉ S := of_decide_eq_true h2
      obtain ⟨j, hj, e⟩ := List.mem_map.mp h1
      have e : j = i := by omega
      subst e
      exact Classical.byContradiction fun z => h2 ((mS _).mpr ⟨j, rfl, hj, z⟩)
def c_rows_for : V → Ct := fun _ as R _ => match as with
  | [.sp (.row r), a] => ∃ lots : List (List Int), (a = .own (lots.map tI) ∨ a = .d (.list (lots.map tI))) ∧ r.ok ∧ lots.length ≤ 2000 ∧ (∀ L ∈ lots, L.length ≤ 10 ∧ L.Pairwise (· < ·) ∧ ∀ l ∈ L, r.lane l) ∧ ∀ ks, RowsOk r lots ks → ks.length ≤ lots.length → R (.own (ks.map tI))
  | _ => False
def b_rows_for (dk : V) : ASx :=
  (aSeq (aAsg aDNewT (gN 2))
      (aCut (aFor (aIter (aVar 1)) (gN 3) (aSeq (aAsg (aMeth (c_AgreeingRows_row dk) (aVar 0) (aCons (aVar 3) aNil)) (gN 4))
        (aIfS (aB (aOp (gNotN) (aVar 4) (aC (.none)))) (aSeq (aAsg (aVar 4) (gT (gCons (gN 5) (gCons (gN 6) (gCons (gN 7) gNil)))))
          (aAsg (aC (.bool true)) (gDPutT 2 (aTup (aCons (aVar 5) (aCons (aTern (aB (aOp (gI0 fun i j => .bool (decide (j < i))) (aVar 7) (aC (.int 1)))) (aVar 6) (aC (.int 1))) (aCons (aVar 7) aNil))))))) aNext)))
      (aRet (aDListT 2))))
theorem l_rows_for : ∀ (dk : V) (as : List A) (R : A → Prop) (Z : Ex → Prop), c_rows_for dk as R Z → as.length = 2 := by
  intro dk as R Z h
  unfold c_rows_for at h
  split at h
  · rfl
  · exact h.elim
theorem h_rows_for : ∀ (dk : V) (as : List A) (R : A → Prop) (Z : Ex → Prop), as.length = 2 → c_rows_for dk as R Z → b_rows_for dk (ends0 R) (fun _ => R (.d .none)) (as ++ unA ((["rows", "lots", "found", "lanes", "row", "first", "step", "many"] : List Str).length - 2)) := by
  intro dk as R Z hl h
  unfold c_rows_for at h
  split at h
  · rename_i r a
    obtain ⟨lots, ha, hr, hl, hL, h⟩ := h
    have one : ∀ (b1 : A), forRun (lots.map tI) (gN 3) (aSeq (aAsg (aMeth (c_AgreeingRows_row dk) (aVar 0) (aCons (aVar 3) aNil)) (gN 4)) (aIfS (aB (aOp gNotN (aVar 4) (aC .none))) (aSeq (aAsg (aVar 4) (gT (Lf.gCons (gN 5) (Lf.gCons (gN 6) (Lf.gCons (gN 7) Lf.gNil))))) (aAsg (aC (.bool true)) (gDPutT 2 (aTup (aCons (aVar 5) (aCons (aTern (aB (aOp (gI0 fun i j => .bool (decide (j < i))) (aVar 7) (aC (.int 1)))) (aVar 6) (aC (.int 1))) (aCons (aVar 7) aNil))))))) aNext)) { rt := R, bk := fun _ => False, ct := fun _ => False, ex := fun _ _ => False } (fun ρ => ∃ kvs : List (List Int × PyData), RowsOk r lots (kvs.map (·.1)) ∧ kvs.length ≤ lots.length ∧ ∃ a3 a4 a5 a6 a7, ρ = [.sp (.row r), b1, .sp (.dt kvs), a3, a4, a5, a6, a7]) [.sp (.row r), b1, .sp (.dt []), .un, .un, .un, .un, .un] := fun b1 => by
      refine ⟨fun i ρ => ∃ kvs : List (List Int × PyData), RowsOk r (lots.take i) (kvs.map (·.1)) ∧ kvs.length ≤ i ∧ ∃ a3 a4 a5 a6 a7, ρ = [.sp (.row r), b1, .sp (.dt kvs), a3, a4, a5, a6, a7], ⟨[], rows_nil, Nat.le_refl _, ⟨_, _, _, _, _, rfl⟩⟩, ?_, ?_⟩
      · rintro i ρ hi ⟨kvs, hk, hkl, a3, a4, a5, a6, a7, rfl⟩
        rw [List.length_map] at hi
        have el : lots[i]? = some (lots.getD i []) := by
          rw [List.getD_eq_getElem?_getD, List.getElem?_eq_getElem hi] <;> rfl
        have eg : (lots.map tI).getD i .none = tI (lots.getD i []) := by
          rw [List.getD_eq_getElem?_getD, List.getElem?_map, el] <;> rfl
        have tk : lots.take (i + 1) = lots.take i ++ [lots.getD i []] := by
          rw [List.take_add_one, el] <;> rfl
        obtain ⟨c1, c2, c3⟩ := hL _ (List.mem_of_getElem? el)
        rw [eg]
        generalize lots.getD i [] = L at c1 c2 c3 tk ⊢
        have sp := Rw.span_pos hr L c3
        unfold tI
        simp! only []
        refine ⟨L, rfl, c1, c2, c3, fun d hd => ?_⟩
        have hd' := hd
        rcases hd with ⟨rfl, h0⟩ | ⟨f, m, rfl, m1, f1, f2, hx⟩
        · simp! only []
          exact ⟨kvs, by rw [tk]; exact rows_none hk h0, by omega, ⟨_, _, _, _, _, rfl⟩⟩
        · simp! only []
          have e1 : ∀ a b c : Int, intsD [.int a, .int b, .int c] = some [a, b, c] := fun a b c => ints_map [a, b, c]
          by_cases z : (1 : Int) < m
          · rw [decide_eq_true z]
            simp! only []
            exact ⟨_, e1 _ _ _, by omega, _, by rw [tk]; exact rows_some hk (fun k => put_keys k) m1 (by omega) f1 f2 (by omega) hx, Nat.le_trans put_lenT (by omega), ⟨_, _, _, _, _, rfl⟩⟩
          · rw [decide_eq_false z]
            simp! only []
            have m1' : m = 1 := by omega
            subst m1'
            have rr : ∀ x, r.lo ≤ x → x ≤ r.hi → (r.agr L x ↔ ∃ t : Int, 0 ≤ t ∧ t < 1 ∧ x = f + t * 1) := fun x h1 h2 => by
              rw [hx x h1 h2]
              constructor
              · rintro ⟨t, t0, t1, e⟩
                have e0 : t = 0 := by omega
                rw [e0, Int.zero_mul] at e
                exact ⟨0, by decide, by decide, by omega⟩
              · rintro ⟨t, t0, t1, e⟩
                exact ⟨0, by decide, by decide, by rw [Int.zero_mul]; omega⟩
            exact ⟨_, e1 _ _ _, by omega, _, by rw [tk]; exact rows_some hk (fun k => put_keys k) m1 (Int.le_refl _) f1 (by omega) (fun _ => rfl) rr, Nat.le_trans put_lenT (by omega), ⟨_, _, _, _, _, rfl⟩⟩
      · rintro ρ ⟨kvs, hk, hkl, a3, a4, a5, a6, a7, rfl⟩
        rw [List.length_map, List.take_length] at hk
        rw [List.length_map] at hkl
        exact ⟨kvs, hk, hkl, ⟨_, _, _, _, _, rfl⟩⟩
    have fin : ∀ b1 : A, ∀ ρ, (∃ kvs : List (List Int × PyData), RowsOk r lots (kvs.map (·.1)) ∧ kvs.length ≤ lots.length ∧ ∃ a3 a4 a5 a6 a7, ρ = [.sp (.row r), b1, .sp (.dt kvs), a3, a4, a5, a6, a7]) → aRet (aDListT 2) { rt := R, bk := fun _ => False, ct := fun _ => False, ex := fun _ _ => False } (fun _ => R (.d .none)) ρ := by
      rintro b1 ρ ⟨kvs, hk, hkl, a3, a4, a5, a6, a7, rfl⟩
      simp! only []
      have := h _ hk (by rw [List.length_map]; exact hkl)
      rw [List.map_map] at this
      exact this
    rcases ha with rfl | rfl <;> simp! only [b_rows_for]
    all_goals
      refine ⟨_, ?_, fin (.d (.list (lots.map tI)))⟩
      simp! only []
      exact one _
  · exact h.elim
abbrev sp_rows_for (K : PySem.W.Frag) (a : Adr) : Sp := SpL K (fun (dk : V) (B : Bx) => RBox K a.C_AgreeingRows B) c_rows_for
section
variable {P : Program} {w : World} {K : PySem.W.Frag} {mg : Str → Option Value} {base : Heap} {a : Adr}
theorem ok_rows_for (T : Txt K mg a) : FnOk P w K mg base CX0 14 a.f_rows_for a.d_rows_for ["rows", "lots"] (sp_rows_for K a) := by
  have G_AgreeingRows_row : FnOk P w K mg base CX0 13 a.f_AgreeingRows_row a.d_AgreeingRows_row ["self", "lanes"] (sp_AgreeingRows_row K a) := ok_AgreeingRows_row T
  refine T.rows_for.F.ok sc_rows_for (fun vs H Q E h => sp_len l_rows_for h) (fun cdv A outer s H vs Q E hr h => ?_)
  have hu := hu_of hr
  exact ⟨_, (pss_cons (ps_set (i := 2) sc_rows_for.nd rfl (by first | exact Or.inl rfl | exact Or.inr rfl) pe_dnewTO)
      (pss_cons (ps_for PassesOwn.never rfl (show PI _ _ _ (iAny K _) from pi_any (pv 1)) (pg_name (i := 3) sc_rows_for.nd rfl (by first | exact Or.inl rfl | exact Or.inr rfl)) (pss_cons (ps_set (i := 4) sc_rows_for.nd rfl (by first | exact Or.inl rfl | exact Or.inr rfl) (pe_meth (pv 0) T.cl_AgreeingRows T.me_AgreeingRows_row G_AgreeingRows_row (hr.mono (by decide)) T.AgreeingRows_row.b .nil pass0 (pa_cons (pv 3) pa_nil)))
        (pss_one (ps_if (pt_cmpR op_notN (pv 4) pe_non (nomark _)) (pss_cons (ps_asg (pv 4) (show PG _ _ (gTup K 3 _) from pg_tup rfl (pgs_cons (pg_name (i := 5) sc_rows_for.nd rfl (by first | exact Or.inl rfl | exact Or.inr rfl)) (pgs_cons (pg_name (i := 6) sc_rows_for.nd rfl (by first | exact Or.inl rfl | exact Or.inr rfl)) (pgs_cons (pg_name (i := 7) sc_rows_for.nd rfl (by first | exact Or.inl rfl | exact Or.inr rfl)) pgs_nil)))))
          (pss_one (ps_asg pe_bl (pg_sub (pv 2) (pe_tup (pa_cons (pv 5) (pa_cons (pe_ifExp (pt_cmpR op_gt (pv 7) pe_int (nomark _)) (pv 6) pe_int) (pa_cons (pv 7) pa_nil)))) (show PSet _ (rDPutT K) from set_dt hu))))) pss_nil))))
      (pss_one (ps_ret (pe_callTy (show CallR _ _ (rDListT K) from cr_dlistT rfl) (by rfl) T.b_list (by decide +kernel) (pa_cons (pv 2) pa_nil)))))),
    run0 (N := ["rows", "lots", "found", "lanes", "row", "first", "step", "many"]) (np := 2) (f := b_rows_for) h (sp_len l_rows_for h) (fun dk B hb => have hrb := hb; (show LS B K Wno _ (b_rows_for dk) from
      (ls_seq (ls_asg le_dnewT (lg_name (i := 2)))
      (ls_cut (ls_for (li_any (le_var (i := 1))) (lg_name (i := 3)) (ls_seq (ls_asg (le_meth (dk := dk) (c := c_AgreeingRows_row) hrb row_look (le_var (i := 0)) (la_cons (le_var (i := 3)) la_nil)) (lg_name (i := 4)))
        (ls_if (lt_test (le_op (ol_notN) (le_var (i := 4)) (le_c (y := .none) fun _ => .non))) (ls_seq (ls_asg (le_var (i := 4)) (lg_tup (lgs_cons (lg_name (i := 5)) (lgs_cons (lg_name (i := 6)) (lgs_cons (lg_name (i := 7)) lgs_nil))) (gC_len (gC_len (gC_len gN_len)))))
          (ls_asg (le_c (y := .bool true) fun _ => .bl _) (lg_dputT (i := 2) (le_tup (la_cons (le_var (i := 5)) (la_cons (le_tern (lt_test (le_op (ol_I0 fun _ _ _ => .bl _) (le_var (i := 7)) (le_c (y := .int 1) fun _ => .int _))) (le_var (i := 6)) (le_c (y := .int 1) fun _ => .int _)) (la_cons (le_var (i := 7)) la_nil))) (by decide))))) ls_next)))
      (ls_ret (le_dlistT (i := 2))))))) h_rows_for⟩
end
def c_nearest : V → Ct := fun _ as R _ => match as with
  | [.d m, .d w, .d e] => ∃ r : Rw, m = .tuple (r.ms.map PyData.int) ∧ w = .tuple (r.ws.map oD) ∧ e = .tuple [.int r.lo, .int r.hi] ∧ r.ok ∧ ∀ x, IsNear r x → R (.d (.tuple [.int ((strN r.ms r.ws x).length : Nat), .int x]))
  | _ => False
def b_nearest (dk : V) : ASx :=
  (aSeq (aPar 3 4 (aCons (aNewRow (aCons (aVar 0) (aCons (aVar 1) (aCons (aVar 2) aNil)))) (aCons (aCall0 (c_speaking dk) (aCons (aVar 1) aNil)) aNil)))
      (aSeq (aPar 5 6 (aCons (aC (.int 0)) (aCons (aCall0 (c_rows_for dk) (aCons (aVar 3) (aCons (aLst (aCons (aVar 4) aNil)) aNil))) aNil)))
      (aCut (aWhile (tNotA (aTru (aVar 6))) (aSeq (aAug 5 (fun i j => i + j) (aC (.int 1)))
        (aAsg (aCall0 (c_rows_for dk) (aCons (aVar 3) (aCons (aCall0 (c_picks dk) (aCons (aVar 4) (aCons (aOp (gI0 fun i j => .int (i - j)) (aCB gLen (aCons (aVar 4) aNil)) (aVar 5)) aNil))) aNil))) (gN 6))))
      (aRet (aTup (aCons (aVar 5) (aCons (aCB gMin1 (aCons (aComp (aIter (aVar 6)) (gT (gCons (gN 7) (gCons (gN 8) (gCons (gN 8) gNil)))) aYes (aVar 7) [7, 8, 8]) aNil)) aNil)))))))
theorem l_nearest : ∀ (dk : V) (as : List A) (R : A → Prop) (Z : Ex → Prop), c_nearest dk as R Z → as.length = 3 := by
  intro dk as R Z h
  unfold c_nearest at h
  split at h
  · rfl
  · exact h.elim
theorem h_nearest : ∀ (dk : V) (as : List A) (R : A → Prop) (Z : Ex → Prop), as.length = 3 → c_nearest dk as R Z → b_nearest dk (ends0 R) (fun _ => R (.d .none)) (as ++ unA ((["machine", "word", "stretch", "rows", "lanes", "few", "found", "first", "_"] : List Str).length - 3)) := by
  intro dk as R Z hl h
  unfold c_nearest at h
  split at h
  · rename_i m w e
    obtain ⟨r, rfl, rfl, rfl, hr, h⟩ := h
    have l10 : r.ws.length ≤ 10 := by rw [← hr.1]; exact hr.2.1
    have pkI : ∀ (l : List Int) (L : List Int), L ∈ pk l l.length ↔ L ∈ [l] := fun l L => by
      rw [pk_mem, List.mem_singleton]
      exact ⟨fun ⟨h1, h2⟩ => h1.eq_of_length h2, fun e => e ▸ ⟨List.Sublist.refl _, rfl⟩⟩
    have rowI : ∀ {l m : List (List Int)} {ks}, (∀ L, L ∈ l ↔ L ∈ m) → RowsOk r l ks → RowsOk r m ks := fun {l m ks} e h => ⟨h.1, fun x h1 h2 => by
      rw [← h.2 x h1 h2]
      exact ⟨fun ⟨L, hL, ha⟩ => ⟨L, (e L).mpr hL, ha⟩, fun ⟨L, hL, ha⟩ => ⟨L, (e L).mp hL, ha⟩⟩⟩
    have letK : ∀ (k : Nat) (y : Int), (∃ L ∈ pk (lanesI r.ws) ((lanesN r.ws).length - k), r.agr L y) ↔ (strN r.ms r.ws y).length ≤ k := fun k y => by
      have := cand_let (bk := .inl k) hr (x := y)
      refine this.trans ?_
      show decide (((strN r.ms r.ws y).map fun j => ((j : Nat) : Int)).length ≤ k) = true ↔ _
      rw [decide_eq_true_eq, List.length_map]
    have lL : (lanesN r.ws).length ≤ 10 := Nat.le_trans (lanes_len _) l10
    have lI : (lanesI r.ws).length = (lanesN r.ws).length := List.length_map ..
    have lk : ∀ k, (pk (lanesI r.ws) k).length ≤ 2000 := fun k => Nat.le_trans (pk_len _ _) (Nat.le_trans (Nat.pow_le_pow_right (by decide) (show _ ≤ 10 by omega)) (by decide))
    have okL : ∀ k, ∀ L ∈ pk (lanesI r.ws) k, L.length ≤ 10 ∧ L.Pairwise (· < ·) ∧ ∀ l ∈ L, r.lane l := fun k L hL => by
      have hs := ((pk_mem _ _ _).mp hL).1
      refine ⟨Nat.le_trans hs.length_le (by omega), (lanesI_asc _).sublist hs, fun l hl => ?_⟩
      obtain ⟨i, hi, rfl⟩ := List.mem_map.mp (hs.mem hl)
      exact ⟨by omega, _, (lanes_in hi).2⟩
    have lnI : lnD (lanesN r.ws) = (lanesI r.ws).map PyData.int := by
      unfold lnD lanesI
      rw [List.map_map] <;> rfl
    simp! only [b_nearest, c_speaking, c_rows_for]
    refine ⟨r, rfl, hr, r.ws, rfl, by omega, [lanesI r.ws], .inr (by rw [lnI] <;> rfl), hr, (by show 1 ≤ 2000; decide), fun L hL => ?_, fun ks hk hkl => ?_⟩
    · exact okL (lanesI r.ws).length L ((pkI _ _).mpr hL)
    have hkl : ks.length ≤ 1 := hkl
    refine ⟨fun ρ => ∃ (k : Nat) (ks : List (List Int)) (a7 a8 : A), k ≤ 10 ∧ RowsOk r (pk (lanesI r.ws) ((lanesN r.ws).length - k)) ks ∧ ks.length ≤ 2000 ∧ ks ≠ [] ∧ (∀ y, r.lo ≤ y → y ≤ r.hi → k ≤ (strN r.ms r.ws y).length) ∧ ρ = [.d (.tuple (r.ms.map PyData.int)), .d (.tuple (r.ws.map oD)), .d (.tuple [.int r.lo, .int r.hi]), .sp (.row r), .d (.tuple (lnD (lanesN r.ws))), .d (.int (k : Nat)), .d (.list (ks.map tI)), a7, a8], ?_, ?_⟩
    · refine ⟨fun m ρ => ∃ (k : Nat) (ks : List (List Int)) (a7 a8 : A) (c6 : A), k + m = (lanesN r.ws).length ∧ RowsOk r (pk (lanesI r.ws) ((lanesN r.ws).length - k)) ks ∧ ks.length ≤ 2000 ∧ (∀ y, r.lo ≤ y → y ≤ r.hi → k ≤ (strN r.ms r.ws y).length) ∧ (c6 = .own (ks.map tI) ∨ c6 = .d (.list (ks.map tI))) ∧ ρ = [.d (.tuple (r.ms.map PyData.int)), .d (.tuple (r.ws.map oD)), .d (.tuple [.int r.lo, .int r.hi]), .sp (.row r), .d (.tuple (lnD (lanesN r.ws))), .d (.int (k : Nat)), c6, a7, a8], ?_, ?_⟩
      · refine ⟨_, 0, ks, _, _, _, Nat.zero_add _, ?_, by omega, fun y _ _ => Nat.zero_le _, .inl rfl, rfl⟩
        rw [Nat.sub_zero, ← lI]
        exact rowI (fun L => (pkI _ L).symm) hk
      · rintro m ρ ⟨k, ks, a7, a8, c6, hkm, hk, hkl, hmin, hc, rfl⟩
        have nx : (ks.map tI).isEmpty = true → 0 < m := fun e => by
          have e : ks = [] := by
            cases ks with
            | nil => rfl
            | cons _ _ => exact nomatch e
          subst e
          refine Nat.pos_of_ne_zero fun z => ?_
          have hlo := hr.2.2.2.2.1
          have := (hk.2 r.lo (Int.le_refl _) hlo).mp ((letK k r.lo).mpr ?_)
          · obtain ⟨_, _, _, _, z, _⟩ := this
            exact nomatch z
          · have n := nodup_len (xs := strN r.ms r.ws r.lo) (T := lanesN r.ws) (List.Pairwise.filter _ (List.pairwise_lt_range.imp fun h => by omega)) fun y hy => ((str_iff hr).mp hy).1
            omega
        rcases hc with rfl | rfl <;> simp! only [c_rows_for, c_picks]
        all_goals
          cases hE : (ks.map tI).isEmpty with
          | true =>
            have m0 := nx hE
            simp! only [Bool.not_true, Bool.not_false]
            refine ⟨lanesI r.ws, (lanesN r.ws).length - (k + 1), by rw [lnI] <;> rfl, by rw [lnI, List.length_map, lI]; omega, by omega, by omega, pk (lanesI r.ws) ((lanesN r.ws).length - (k + 1)), .inr rfl, hr, lk _, okL _, fun ks' hk' hkl' => ⟨m - 1, by omega, k + 1, ks', a7, a8, _, by omega, hk', Nat.le_trans hkl' (lk _), fun y y1 y2 => ?_, .inl rfl, by rw [Int.natCast_add] <;> rfl⟩⟩
            have := hmin y y1 y2
            by_cases e : (strN r.ms r.ws y).length ≤ k
            · have := (hk.2 y y1 y2).mp ((letK k y).mpr e)
              obtain ⟨f, s, m', t, z, _⟩ := this
              have : ks = [] := by
                cases ks with
                | nil => rfl
                | cons _ _ => exact nomatch hE
              rw [this] at z
              exact nomatch z
            · omega
          | false =>
            simp! only [Bool.not_true, Bool.not_false]
            refine ⟨k, ks, a7, a8, by omega, hk, hkl, fun e => ?_, hmin, rfl⟩
            rw [e] at hE
            exact nomatch hE
    · rintro ρ ⟨k, ks, a7, a8, k10, hk, hkl, hne, hmin, rfl⟩
      simp! only []
      have hne' : ks ≠ [] := hne
      obtain ⟨fs, hfs⟩ : ∃ fs : List Int, fs = ks.map fun l => l.getD 0 0 := ⟨_, rfl⟩
      have ef : (ks.map tI).map (fun d => match d with | .tuple (x :: _) => x | _ => .none) = fs.map PyData.int := by
        rw [hfs, List.map_map, List.map_map]
        refine List.map_congr_left fun l hl => ?_
        obtain ⟨f, s, m, rfl, _⟩ := hk.1 l hl
        rfl
      refine comp_map (fun d => match d with | .tuple (x :: _) => x | _ => .none) (by rw [List.length_map]; omega) (fun d hd J hJ => ?_) ?_
      · obtain ⟨l, hl, rfl⟩ := List.mem_map.mp hd
        obtain ⟨f, s, m, rfl, _⟩ := hk.1 l hl
        show gT _ (.d (.tuple [.int f, .int s, .int m])) _ _ _
        have hJ : J (.int f) _ := hJ
        simp! only []
        exact hJ
      · rw [ef]
        have nf : fs ≠ [] := by
          rw [hfs]
          intro z
          exact hne' (List.map_eq_nil_iff.mp z)
        simp! only []
        refine ⟨fs, Lf.ints_map fs, List.length_pos_iff.mpr nf, fun m hm hle => ?_⟩
        have row : ∀ {f s mm : Int}, [f, s, mm] ∈ ks → f ∈ fs ∧ 1 ≤ mm ∧ 1 ≤ s ∧ r.lo ≤ f ∧ f + (mm - 1) * s ≤ r.hi := fun {f s mm} hm => by
          obtain ⟨f', s', m', e, h1, h2, h3, h4, _⟩ := hk.1 _ hm
          injection e with e1 e
          injection e with e2 e
          injection e with e3 e
          subst e1 e2 e3
          exact ⟨by rw [hfs]; exact List.mem_map.mpr ⟨_, hm, rfl⟩, h1, h2, h3, h4⟩
        rw [hfs] at hm
        obtain ⟨l, hl', e⟩ := List.mem_map.mp hm
        obtain ⟨f, s, mm, rfl, m1, s1, f1, f2, _⟩ := hk.1 l hl'
        obtain rfl : f = m := e
        have := Int.mul_nonneg (show 0 ≤ mm - 1 by omega) (show 0 ≤ s by omega)
        have hx := (letK k f).mp ((hk.2 f f1 (by omega)).mpr ⟨f, s, mm, 0, hl', by decide, by omega, by omega⟩)
        have hx2 := hmin f f1 (by omega)
        have := h f ⟨f1, by omega, fun y y1 y2 => by
          have := hmin y y1 y2
          by_cases z : (strN r.ms r.ws y).length ≤ k
          · refine .inr ⟨by omega, ?_⟩
            obtain ⟨f', s', m', t, g1, g2, g3, g4⟩ := (hk.2 y y1 y2).mp ((letK k y).mpr z)
            obtain ⟨q1, q2, q3, _⟩ := row g1
            have := hle f' q1
            have := Int.mul_nonneg g2 (show 0 ≤ s' by omega)
            omega
          · exact .inl (by omega)⟩
        rwa [show (strN r.ms r.ws f).length = k by omega] at this
  · exact h.elim
abbrev sp_nearest (K : PySem.W.Frag) (a : Adr) : Sp := SpL K (fun (dk : V) (B : Bx) => RBox K a.C_AgreeingRows B) c_nearest
section
variable {P : Program} {w : World} {K : PySem.W.Frag} {mg : Str → Option Value} {base : Heap} {a : Adr}
theorem ok_nearest (T : Txt K mg a) : FnOk P w K mg base CX0 15 a.f_nearest a.d_nearest ["machine", "word", "stretch"] (sp_nearest K a) := by
  have G_AgreeingRows___init__ : FnOk P w K mg base CX0 2 a.f_AgreeingRows___init__ a.d_AgreeingRows___init__ ["self", "machine", "word", "stretch"] (sp_AgreeingRows___init__ K a) := ok_AgreeingRows___init__ T
  have G_speaking : FnOk P w K mg base CX0 1 a.f_speaking a.d_speaking ["word"] (sp_speaking K) := ok_speaking T
  have G_rows_for : FnOk P w K mg base CX0 14 a.f_rows_for a.d_rows_for ["rows", "lots"] (sp_rows_for K a) := ok_rows_for T
  have G_picks : FnOk P w K mg base CX0 1 a.f_picks a.d_picks ["lanes", "many"] (sp_picks K) := ok_picks T
  refine T.nearest.F.ok sc_nearest (fun vs H Q E h => sp_len l_nearest h) (fun cdv A outer s H vs Q E hr h => ?_)
  have hu := hu_of hr
  exact ⟨_, (pss_cons (ps_par (i := 3) (j := 4) (by rfl) sc_nearest.nd rfl rfl (by decide) rfl rfl (pa_cons (pe_ghost (pe_make T.mk_AgreeingRows G_AgreeingRows___init__ (hr.mono (by decide)) rfl T.m_AgreeingRows T.AgreeingRows___init__.b .nil pass0 (pa_cons (pv 0) (pa_cons (pv 1) (pa_cons (pv 2) pa_nil))))) (pa_cons (pe_call G_speaking (hr.mono (by decide)) (by rfl) T.speaking.m T.speaking.F.kp T.speaking.b .nil pass0 (pa_cons (pv 1) pa_nil)) pa_nil)) (by rfl))
      (pss_cons (ps_par (i := 5) (j := 6) (by rfl) sc_nearest.nd rfl rfl (by decide) rfl rfl (pa_cons pe_int (pa_cons (pe_call G_rows_for hr (by rfl) T.rows_for.m T.rows_for.F.kp T.rows_for.b .nil pass0 (pa_cons (pv 3) (pa_cons (pe_lst (pa_cons (pv 4) pa_nil)) pa_nil))) pa_nil)) (by rfl))
      (pss_cons (ps_while PassesOwn.never (pt_not (show PT _ _ (tTru K _) from pt_truth (pv 6) (by intro _; rfl))) (pss_cons (ps_aug (i := 5) sc_nearest.nd rfl (by first | exact Or.inl rfl | exact Or.inr rfl) pe_int ip_add)
        (pss_one (ps_set (i := 6) sc_nearest.nd rfl (by first | exact Or.inl rfl | exact Or.inr rfl) (pe_call G_rows_for hr (by rfl) T.rows_for.m T.rows_for.F.kp T.rows_for.b .nil pass0 (pa_cons (pv 3) (pa_cons (pe_call G_picks (hr.mono (by decide)) (by rfl) T.picks.m T.picks.F.kp T.picks.b .nil pass0 (pa_cons (pv 4) (pa_cons (pe_op op_sub (pe_callB (show CallR _ _ (Sx.rLenS K) from call_len_seq) (by rfl) T.b_len (by decide +kernel) (pa_cons (pv 4) pa_nil)) (pv 5)) pa_nil))) pa_nil)))))))
      (pss_one (ps_ret (pe_tup (pa_cons (pv 5) (pa_cons (pe_callB (show CallR _ _ (rMinS K) from cr_minS rfl hr.units) (by rfl) T.b_min (by decide +kernel) (pa_cons (pe_lc (own := [("first", 7), ("_", 8), ("_", 8)]) rfl sc_nearest.nd (show PI _ _ _ (iAny K _) from pi_any (pv 6)) (blkOk_by (N := ["machine", "word", "stretch", "rows", "lanes", "few", "found", "first", "_"]) (sc := defScope s_nearest) (by decide +kernel)) (fun _ _ _ _ _ => (show PG _ _ (gTup K 3 _) from pg_tup rfl (pgs_cons (pg_name (i := 7) sc_nearest.nd rfl (by first | exact Or.inl rfl | exact Or.inr rfl)) (pgs_cons (pg_name (i := 8) sc_nearest.nd rfl (by first | exact Or.inl rfl | exact Or.inr rfl)) (pgs_cons (pg_name (i := 8) sc_nearest.nd rfl (by first | exact Or.inl rfl | exact Or.inr rfl)) pgs_nil))))) (fun _ _ _ _ _ => pts_nil) (fun _ _ _ _ _ => (pv 7))) pa_nil)) pa_nil)))))))),
    run0 (N := ["machine", "word", "stretch", "rows", "lanes", "few", "found", "first", "_"]) (np := 3) (f := b_nearest) h (sp_len l_nearest h) (fun dk B hb => have hrb := hb; (show LS B K Wno _ (b_nearest dk) from
      (ls_seq (ls_par (la_cons (le_newRow hrb (la_cons (le_var (i := 0)) (la_cons (le_var (i := 1)) (la_cons (le_var (i := 2)) la_nil)))) (la_cons (le_call0 (dk := dk) (c := c_speaking) trivial (la_cons (le_var (i := 1)) la_nil)) la_nil)) (by decide))
      (ls_seq (ls_par (la_cons (le_c (y := .int 0) fun _ => .int _) (la_cons (le_call0 (dk := dk) (c := c_rows_for) hrb (la_cons (le_var (i := 3)) (la_cons (le_lst (la_cons (le_var (i := 4)) la_nil) (by decide)) la_nil))) la_nil)) (by decide))
      (ls_cut (ls_while (lt_not (lt_tru (le_var (i := 6)))) (ls_seq (ls_aug (le_c (y := .int 1) fun _ => .int _))
        (ls_asg (le_call0 (dk := dk) (c := c_rows_for) hrb (la_cons (le_var (i := 3)) (la_cons (le_call0 (dk := dk) (c := c_picks) trivial (la_cons (le_var (i := 4)) (la_cons (le_op (ol_I0 fun _ _ _ => .int _) (le_cb cl_len (la_cons (le_var (i := 4)) la_nil)) (le_var (i := 5))) la_nil))) la_nil))) (lg_name (i := 6)))))
      (ls_ret (le_tup (la_cons (le_var (i := 5)) (la_cons (le_cb cl_min1 (la_cons (le_comp (vs := [7, 8, 8]) (li_any (le_var (i := 6))) (lg_tup (lgs_cons (lg_name (i := 7)) (lgs_cons (lg_name (i := 8)) (lgs_cons (lg_name (i := 8)) lgs_nil))) (gC_len (gC_len (gC_len gN_len)))) (tg_tup (tgs_cons (tg_name (by decide)) (tgs_cons (tg_name (by decide)) (tgs_cons (tg_name (by decide)) tgs_nil)))) lt_yes (le_var (i := 7))) la_nil)) la_nil)) (by decide)))))))) h_nearest⟩
end
def c_candidate_rows : V → Ct := fun _ as R _ => match as with
  | [.d m, .d w, .d e, .d b] => ∃ (r : Rw) (bk : Bk), m = .tuple (r.ms.map PyData.int) ∧ w = .tuple (r.ws.map oD) ∧ e = .tuple [.int r.lo, .int r.hi] ∧ b = bkD bk ∧ r.ok ∧ (∀ nss, bk = .inr nss → nss.length ≤ 1000) ∧ ∀ ks, RowsOk r (keptL r.ws bk) ks → ks.length ≤ 1024 → R (.own (ks.map tI))
  | _ => False
def b_candidate_rows (dk : V) : ASx :=
  (aRet (aCall0 (c_rows_for dk) (aCons (aNewRow (aCons (aVar 0) (aCons (aVar 1) (aCons (aVar 2) aNil)))) (aCons (aCall0 (c_lots_kept dk) (aCons (aVar 1) (aCons (aVar 3) aNil))) aNil))))
theorem l_candidate_rows : ∀ (dk : V) (as : List A) (R : A → Prop) (Z : Ex → Prop), c_candidate_rows dk as R Z → as.length = 4 := by
  intro dk as R Z h
  unfold c_candidate_rows at h
  split at h
  · rfl
  · exact h.elim
theorem h_candidate_rows : ∀ (dk : V) (as : List A) (R : A → Prop) (Z : Ex → Prop), as.length = 4 → c_candidate_rows dk as R Z → b_candidate_rows dk (ends0 R) (fun _ => R (.d .none)) (as ++ unA ((["machine", "word", "stretch", "book"] : List Str).length - 4)) := by
  intro dk as R Z hl h
  unfold c_candidate_rows at h
  split at h
  · rename_i m w e b
    obtain ⟨r, bk, rfl, rfl, rfl, rfl, hr, hb, h⟩ := h
    simp! only [b_candidate_rows, c_rows_for, c_lots_kept]
    have l10 : r.ws.length ≤ 10 := by rw [← hr.1]; exact hr.2.1
    have sub : ∀ L ∈ keptL r.ws bk, L.Sublist (lanesI r.ws) := fun L hL => by
      cases bk with
      | inl k => exact ((pk_mem _ _ _).mp hL).1
      | inr nss =>
        obtain ⟨ns, _, rfl⟩ := List.mem_map.mp hL
        exact List.filter_sublist
    have ll : (lanesI r.ws).length ≤ 10 := by
      unfold lanesI
      rw [List.length_map]
      exact Nat.le_trans (lanes_len _) l10
    have kl : (keptL r.ws bk).length ≤ 1024 := by
      cases bk with
      | inl k =>
        refine Nat.le_trans (pk_len _ _) (Nat.le_trans (Nat.pow_le_pow_right (by decide) ll) (by decide))
      | inr nss =>
        show (nss.map _).length ≤ 1024
        rw [List.length_map]
        have := hb nss rfl
        omega
    have ok : ∀ L ∈ keptL r.ws bk, L.length ≤ 10 ∧ L.Pairwise (· < ·) ∧ ∀ l ∈ L, r.lane l := fun L hL => by
      have hs := sub L hL
      refine ⟨Nat.le_trans hs.length_le ll, (lanesI_asc _).sublist hs, fun l hl => ?_⟩
      obtain ⟨i, hi, rfl⟩ := List.mem_map.mp (hs.mem hl)
      exact ⟨by omega, _, (lanes_in hi).2⟩
    exact ⟨r, rfl, hr, r.ws, bk, rfl, rfl, l10, hb, ⟨keptL r.ws bk, by first | exact .inl rfl | exact .inr rfl | exact rfl, hr, Nat.le_trans kl (by decide), ok, fun ks h1 h2 => h ks h1 (Nat.le_trans h2 kl)⟩, ⟨keptL r.ws bk, by first | exact .inl rfl | exact .inr rfl | exact rfl, hr, Nat.le_trans kl (by decide), ok, fun ks h1 h2 => h ks h1 (Nat.le_trans h2 kl)⟩⟩
  · exact h.elim
abbrev sp_candidate_rows (K : PySem.W.Frag) (a : Adr) : Sp := SpL K (fun (dk : V) (B : Bx) => RBox K a.C_AgreeingRows B) c_candidate_rows
section
variable {P : Program} {w : World} {K : PySem.W.Frag} {mg : Str → Option Value} {base : Heap} {a : Adr}
theorem ok_candidate_rows (T : Txt K mg a) : FnOk P w K mg base CX0 15 a.f_candidate_rows a.d_candidate_rows ["machine", "word", "stretch", "book"] (sp_candidate_rows K a) := by
  have G_AgreeingRows___init__ : FnOk P w K mg base CX0 2 a.f_AgreeingRows___init__ a.d_AgreeingRows___init__ ["self", "machine", "word", "stretch"] (sp_AgreeingRows___init__ K a) := ok_AgreeingRows___init__ T
  have G_rows_for : FnOk P w K mg base CX0 14 a.f_rows_for a.d_rows_for ["rows", "lots"] (sp_rows_for K a) := ok_rows_for T
  have G_lots_kept : FnOk P w K mg base CX0 2 a.f_lots_kept a.d_lots_kept ["word", "book"] (sp_lots_kept K) := ok_lots_kept T
  refine T.candidate_rows.F.ok sc_candidate_rows (fun vs H Q E h => sp_len l_candidate_rows h) (fun cdv A outer s H vs Q E hr h => ?_)
  have hu := hu_of hr
  exact ⟨_, (pss_one (ps_ret (pe_call G_rows_for hr (by rfl) T.rows_for.m T.rows_for.F.kp T.rows_for.b .nil pass0 (pa_cons (pe_ghost (pe_make T.mk_AgreeingRows G_AgreeingRows___init__ (hr.mono (by decide)) rfl T.m_AgreeingRows T.AgreeingRows___init__.b .nil pass0 (pa_cons (pv 0) (pa_cons (pv 1) (pa_cons (pv 2) pa_nil))))) (pa_cons (pe_call G_lots_kept (hr.mono (by decide)) (by rfl) T.lots_kept.m T.lots_kept.F.kp T.lots_kept.b .nil pass0 (pa_cons (pv 1) (pa_cons (pv 3) pa_nil))) pa_nil))))),
    run0 (N := ["machine", "word", "stretch", "book"]) (np := 4) (f := b_candidate_rows) h (sp_len l_candidate_rows h) (fun dk B hb => have hrb := hb; (show LS B K Wno _ (b_candidate_rows dk) from
      (ls_ret (le_call0 (dk := dk) (c := c_rows_for) hrb (la_cons (le_newRow hrb (la_cons (le_var (i := 0)) (la_cons (le_var (i := 1)) (la_cons (le_var (i := 2)) la_nil)))) (la_cons (le_call0 (dk := dk) (c := c_lots_kept) trivial (la_cons (le_var (i := 1)) (la_cons (le_var (i := 3)) la_nil))) la_nil)))))) h_candidate_rows⟩
end
def NoCand (r : Rw) (bk : Bk) : Prop := ∀ x, ¬ IsCand r bk x
def OneCand (r : Rw) (bk : Bk) (x : Int) : Prop := IsCand r bk x ∧ ∀ y, IsCand r bk y → y = x
def TwoCand (r : Rw) (bk : Bk) (x y : Int) : Prop := IsCand r bk x ∧ IsCand r bk y ∧ x < y ∧ ∀ z, IsCand r bk z → z = x ∨ y ≤ z
def c_tell : V → Ct := fun _ as R Z => match as with
  | [.d m, .d w, .d e, .d b] => ∃ (r : Rw) (bk : Bk), m = .tuple (r.ms.map PyData.int) ∧ w = .tuple (r.ws.map oD) ∧ e = .tuple [.int r.lo, .int r.hi] ∧ b = bkD bk ∧ r.ok ∧ (∀ nss, bk = .inr nss → nss.length ≤ 1000) ∧
    (NoCand r bk → Z ⟨"Strayed", []⟩) ∧ (∀ x, OneCand r bk x → R (.d (.int x))) ∧ (∀ x y, TwoCand r bk x y → Z ⟨"Unsure", [("numbers", .tuple [.int x, .int y])]⟩)
  | _ => False
def b_tell (dk : V) : ASx :=
  (aSeq (aAsg (aCall0 (c_candidate_rows dk) (aCons (aVar 0) (aCons (aVar 1) (aCons (aVar 2) (aCons (aVar 3) aNil))))) (gN 4))
      (aSeq (aAsg (aSl gCut (aCompAsc2 (aIter (aVar 4)) (gT (gCons (gN 7) (gCons (gN 8) (gCons (gN 9) gNil)))) aYes (aRange1 (aCons (aCB gMin2 (aCons (aVar 9) (aCons (aC (.int 2)) aNil))) aNil)) (gN 6) aYes (aOp (gCat) (aVar 7) (aOp (gMul) (aVar 6) (aVar 8))) [7, 8, 9, 6] [6]) aNoP (aPart (aC (.int 2)))) (gN 5))
      (aSeq (aIfS (aB (aOp (gEq) (aCB gLen (aCons (aVar 5) aNil)) (aC (.int 0)))) (aRaise "Strayed") aNext)
      (aSeq (aIfS (aB (aOp (gEq) (aCB gLen (aCons (aVar 5) aNil)) (aC (.int 2)))) (aRaise1 "Unsure" "numbers" (aCB gTuple (aCons (aVar 5) aNil))) aNext)
      (aRet (aOp gIx (aVar 5) (aC (.int 0))))))))
theorem l_tell : ∀ (dk : V) (as : List A) (R : A → Prop) (Z : Ex → Prop), c_tell dk as R Z → as.length = 4 := by
  intro dk as R Z h
  unfold c_tell at h
  split at h
  · rfl
  · exact h.elim
theorem h_tell : ∀ (dk : V) (as : List A) (R : A → Prop) (Z : Ex → Prop), as.length = 4 → c_tell dk as R Z → b_tell dk (ends1 R Z) (fun _ => R (.d .none)) (as ++ unA ((["machine", "word", "stretch", "book", "rows", "least", "turn", "first", "step", "many"] : List Str).length - 4)) := by
  intro dk as R Z hl h
  unfold c_tell at h
  split at h
  · rename_i m w e b
    obtain ⟨r, bk, rfl, rfl, rfl, rfl, hr, hb, h0, h1, h2⟩ := h
    simp! only [b_tell, c_candidate_rows]
    refine ⟨r, bk, rfl, rfl, rfl, rfl, hr, hb, fun ks hk hkl => ?_⟩
    have hr6 := hr.2.2.2.2.2.1
    have hr7 := hr.2.2.2.2.2.2
    have e60 : ((4 * 10 ^ 60 : Nat) : Int) ≤ 10 ^ 61 := by decide +kernel
    have e61 : (10 ^ 61 : Nat) ≤ 10 ^ 120 := by decide +kernel
    -- the rows
    have row : ∀ {f s mm : Int}, [f, s, mm] ∈ ks → 1 ≤ mm ∧ 1 ≤ s ∧ r.lo ≤ f ∧ f + (mm - 1) * s ≤ r.hi ∧ (mm = 1 → s = 1) := fun {f s mm} hm => by
      obtain ⟨f', s', m', e, q⟩ := hk.1 _ hm
      injection e with e1 e
      injection e with e2 e
      injection e with e3 e
      subst e1 e2 e3
      exact q
    have inC : ∀ {f s mm t : Int}, [f, s, mm] ∈ ks → 0 ≤ t → t < mm → IsCand r bk (f + t * s) := fun {f s mm t} hm t0 t1 => by
      obtain ⟨m1, s1, f1, f2, _⟩ := row hm
      have q1 : 0 ≤ t * s := Int.mul_nonneg t0 (by omega)
      have q2 : t * s ≤ (mm - 1) * s := Int.mul_le_mul_of_nonneg_right (by omega) (by omega)
      exact ⟨by omega, by omega, (hk.2 _ (by omega) (by omega)).mpr ⟨f, s, mm, t, hm, t0, t1, rfl⟩⟩
    obtain ⟨F, hF⟩ : ∃ F : PyData → List Int, F = fun d => match d with | .tuple [.int f, .int s, .int mm] => (List.range (if (2 : Int) < mm then 2 else mm).toNat).map fun t => f + ((t : Nat) : Int) * s | _ => [] := ⟨_, rfl⟩
    have F3 : ∀ f s mm : Int, F (.tuple [.int f, .int s, .int mm]) = (List.range (if (2 : Int) < mm then 2 else mm).toNat).map fun t => f + ((t : Nat) : Int) * s := fun f s mm => by rw [hF]
    have Fl : ∀ l ∈ ks, (F (tI l)).length ≤ 2 := fun l hl => by
      obtain ⟨f, s, mm, rfl, m1, _⟩ := hk.1 l hl
      show (F (.tuple [.int f, .int s, .int mm])).length ≤ 2
      rw [F3, List.length_map, List.length_range]
      split <;> omega
    have few : ((ks.map tI).flatMap F).length < 4000 := by
      have key : ∀ l : List (List Int), (∀ k ∈ l, (F (tI k)).length ≤ 2) → ((l.map tI).flatMap F).length ≤ 2 * l.length := fun l => by
        induction l with
        | nil => exact fun _ => Nat.zero_le _
        | cons a l ih =>
          intro h
          rw [List.map_cons, List.flatMap_cons, List.length_append, List.length_cons]
          have := h a List.mem_cons_self
          have := ih fun k hk => h k (List.mem_cons_of_mem _ hk)
          omega
      have := key ks Fl
      omega
    have inS : ∀ k, k ∈ (ks.map tI).flatMap F ↔ ∃ f s mm t : Int, [f, s, mm] ∈ ks ∧ 0 ≤ t ∧ t < mm ∧ t < 2 ∧ k = f + t * s := fun k => by
      rw [List.mem_flatMap]
      constructor
      · rintro ⟨d, hd, hk'⟩
        obtain ⟨l, hl, rfl⟩ := List.mem_map.mp hd
        obtain ⟨f, s, mm, rfl, m1, _⟩ := hk.1 l hl
        have hk' : k ∈ F (.tuple [.int f, .int s, .int mm]) := hk'
        rw [F3] at hk'
        obtain ⟨t, ht, rfl⟩ := List.mem_map.mp hk'
        have ht := List.mem_range.mp ht
        refine ⟨f, s, mm, t, hl, by omega, ?_, ?_, rfl⟩ <;> split at ht <;> omega
      · rintro ⟨f, s, mm, t, hl, t0, t1, t2, rfl⟩
        refine ⟨tI [f, s, mm], List.mem_map.mpr ⟨_, hl, rfl⟩, ?_⟩
        show _ ∈ F (.tuple [.int f, .int s, .int mm])
        rw [F3]
        refine List.mem_map.mpr ⟨t.toNat, List.mem_range.mpr (by split <;> omega), ?_⟩
        rw [show ((t.toNat : Nat) : Int) = t by omega]
    refine comp_asc2 F few (fun d hd acc hacc J hJ => ?_) ?_
    · obtain ⟨l, hl, rfl⟩ := List.mem_map.mp hd
      obtain ⟨f, s, mm, rfl, m1, s1, f1, f2, ms⟩ := hk.1 l hl
      show gT _ (.d (.tuple [.int f, .int s, .int mm])) _ _ _
      have hJ : J (acc ++ F (.tuple [.int f, .int s, .int mm])) _ := hJ
      have hacc : acc.length + (F (.tuple [.int f, .int s, .int mm])).length < 4000 := hacc
      rw [F3] at hJ hacc
      rw [List.length_map, List.length_range] at hacc
      simp! only []
      have n2 : (if (2 : Int) < mm then 2 else mm) ≤ 2 ∧ 1 ≤ (if (2 : Int) < mm then 2 else mm) ∧ (if (2 : Int) < mm then 2 else mm) ≤ mm := by split <;> omega
      generalize (if (2 : Int) < mm then 2 else mm) = n at hJ hacc n2
      refine ⟨by omega, by omega, comp_in (fun d => match d with | .int t => f + t * s | _ => 0) (by rw [rangeD_len]; omega) (fun d hd J' hJ' => ?_) ?_⟩
      · obtain ⟨t, ht, rfl⟩ := List.mem_map.mp hd
        have ht := List.mem_range.mp ht
        rw [Int.zero_add] at hJ' ⊢
        have hJ' : J' (f + ((t : Nat) : Int) * s) _ := hJ'
        simp! only []
        have sB : s ≤ 10 ^ 61 := by
          by_cases z : mm = 1
          · rw [ms z]
            decide +kernel
          · have : 1 * s ≤ (mm - 1) * s := Int.mul_le_mul_of_nonneg_right (by omega) (by omega)
            omega
        exact ⟨bnd_wide (by omega) (by omega), hJ'⟩
      · have e : (rangeD 0 n.toNat).map (fun d => match d with | .int t => f + t * s | _ => 0) = (List.range n.toNat).map fun t => f + ((t : Nat) : Int) * s := by
          unfold rangeD
          rw [List.map_map]
          refine List.map_congr_left fun t _ => ?_
          show f + (0 + ((t : Nat) : Int)) * s = _
          rw [Int.zero_add]
        rw [e]
        simp! only []
        exact hJ
    · intro ms hp hm
      simp! only []
      have cut : ∀ l : List PyData, Sx.cutD l none (some 2) = l.take 2 := fun l => cutD_any l 2
      rw [cut]
      have hm : ∀ k, k ∈ ms ↔ ∃ f s mm t : Int, [f, s, mm] ∈ ks ∧ 0 ≤ t ∧ t < mm ∧ t < 2 ∧ k = f + t * s := fun k => (hm k).trans (inS k)
      have mC : ∀ k ∈ ms, IsCand r bk k := fun k hk' => by
        obtain ⟨f, s, mm, t, g1, g2, g3, _, rfl⟩ := (hm k).mp hk'
        exact inC g1 g2 g3
      have hd : ∀ {f s mm : Int}, [f, s, mm] ∈ ks → f ∈ ms := fun {f s mm} h => (hm f).mpr ⟨f, s, mm, 0, h, by decide, by have := row h; omega, by decide, by omega⟩
      have nx : ∀ {f s mm : Int}, [f, s, mm] ∈ ks → 2 ≤ mm → f + s ∈ ms := fun {f s mm} h h2 => (hm _).mpr ⟨f, s, mm, 1, h, by decide, by omega, by decide, by omega⟩
      have cR : ∀ z, IsCand r bk z → ∃ f s mm t : Int, [f, s, mm] ∈ ks ∧ 0 ≤ t ∧ t < mm ∧ z = f + t * s := fun z hz => (hk.2 z hz.1 hz.2.1).mp hz.2.2
      rcases ms with _ | ⟨x, _ | ⟨y, l⟩⟩
      · have no : NoCand r bk := fun z hz => by
          obtain ⟨f, s, mm, t, g1, _⟩ := cR z hz
          exact nomatch hd g1
        show if ((0 : Int) == 0) = true then _ else _
        rw [if_pos (by decide)]
        exact h0 no
      · have one : OneCand r bk x := ⟨mC x List.mem_cons_self, fun z hz => by
          obtain ⟨f, s, mm, t, g1, g2, g3, rfl⟩ := cR z hz
          have h1 := List.mem_singleton.mp (hd g1)
          obtain ⟨q1, q2, _⟩ := row g1
          by_cases m2 : 2 ≤ mm
          · have := List.mem_singleton.mp (nx g1 m2)
            omega
          · have : t = 0 := by omega
            rw [this]
            omega⟩
        show if ((1 : Int) == 0) = true then _ else if ((1 : Int) == 2) = true then _ else _
        rw [if_neg (by decide), if_neg (by decide)]
        exact ⟨_, atI_nat (j := 0) rfl, h1 x one⟩
      · obtain ⟨p1, p2⟩ := List.pairwise_cons.mp hp
        have xy := p1 y List.mem_cons_self
        have p3 := (List.pairwise_cons.mp p2).1
        have le : ∀ z ∈ x :: y :: l, z = x ∨ y ≤ z := fun z hz => by
          rcases List.mem_cons.mp hz with e | hz
          · exact .inl e
          rcases List.mem_cons.mp hz with e | hz
          · exact .inr (by omega)
          · exact .inr (by have := p3 z hz; omega)
        have two : TwoCand r bk x y := ⟨mC x List.mem_cons_self, mC y (List.mem_cons_of_mem _ List.mem_cons_self), xy, fun z hz => by
          obtain ⟨f, s, mm, t, g1, g2, g3, rfl⟩ := cR z hz
          obtain ⟨q1, q2, _⟩ := row g1
          have h1 := le _ (hd g1)
          by_cases t0 : t = 0
          · rw [t0]
            rcases h1 with h1 | h1 <;> omega
          · have h2 := le _ (nx g1 (by omega))
            have : 1 * s ≤ t * s := Int.mul_le_mul_of_nonneg_right (by omega) (by omega)
            omega⟩
        show if ((2 : Int) == 0) = true then _ else if ((2 : Int) == 2) = true then _ else _
        rw [if_neg (by decide), if_pos (by decide)]
        exact h2 x y two
  · exact h.elim
abbrev sp_tell (K : PySem.W.Frag) (a : Adr) : Sp := SpL K (fun (dk : V) (B : Bx) => B.cn = nmOf a ∧ RBox K a.C_AgreeingRows B) c_tell
section
variable {P : Program} {w : World} {K : PySem.W.Frag} {mg : Str → Option Value} {base : Heap} {a : Adr}
theorem ok_tell (T : Txt K mg a) : FnOk P w K mg base (L2.CX P w) 16 a.f_tell a.d_tell ["machine", "word", "stretch", "book"] (sp_tell K a) := by
  have G_Unsure___init__ : FnOk P w K mg base CX0 2 a.f_Unsure___init__ a.d_Unsure___init__ ["self", "numbers"] (sp1 a.C_Unsure "numbers") := ok_Unsure___init__ T
  have G_candidate_rows : FnOk P w K mg base CX0 15 a.f_candidate_rows a.d_candidate_rows ["machine", "word", "stretch", "book"] (sp_candidate_rows K a) := ok_candidate_rows T
  refine L2.Fun.okX T.tell.F sc_tell (fun vs H Q E h => sp_len l_tell h) (fun cdv A outer s H vs Q E hr h => ?_)
  have hu := hu_of hr
  exact ⟨_, (pss_cons (ps_set (i := 4) sc_tell.nd rfl (by first | exact Or.inl rfl | exact Or.inr rfl) (pe_call G_candidate_rows hr (by rfl) T.candidate_rows.m T.candidate_rows.F.kp T.candidate_rows.b .nil pass0 (pa_cons (pv 0) (pa_cons (pv 1) (pa_cons (pv 2) (pa_cons (pv 3) pa_nil))))))
      (pss_cons (ps_set (i := 5) sc_tell.nd rfl (by first | exact Or.inl rfl | exact Or.inr rfl) (pe_slice (show L2.SlR _ (rCut K) from sl_cut) (pe_callB (show CallR _ _ (rSetAsc _) from cr_setAsc rfl) (by rfl) T.b_sorted (by decide +kernel) (pa_cons (pe_si2 (own := [("first", 7), ("step", 8), ("many", 9), ("turn", 6)]) (vs1 := [6]) rfl sc_tell.nd (show PI _ _ _ (iAny K _) from pi_any (pv 4)) (blkOk_by (N := ["machine", "word", "stretch", "book", "rows", "least", "turn", "first", "step", "many"]) (sc := defScope s_tell) (by decide +kernel)) (by decide) (fun _ _ _ _ _ => (show PG _ _ (gTup K 3 _) from pg_tup rfl (pgs_cons (pg_name (i := 7) sc_tell.nd rfl (by first | exact Or.inl rfl | exact Or.inr rfl)) (pgs_cons (pg_name (i := 8) sc_tell.nd rfl (by first | exact Or.inl rfl | exact Or.inr rfl)) (pgs_cons (pg_name (i := 9) sc_tell.nd rfl (by first | exact Or.inl rfl | exact Or.inr rfl)) pgs_nil))))) (fun _ _ _ _ _ => pts_nil) (fun _ _ _ _ _ => (pi_range1 rfl T.b_range (pa_cons (pe_callB (show CallR _ _ rMin2 from call_min2 rfl) (by rfl) T.b_min (by decide +kernel) (pa_cons (pv 9) (pa_cons pe_int pa_nil))) pa_nil))) (fun _ _ _ _ _ => (pg_name (i := 6) sc_tell.nd rfl (by first | exact Or.inl rfl | exact Or.inr rfl))) (fun _ _ _ _ _ => pts_nil) (fun _ _ _ _ _ => (pe_op (show OpR _ _ (rPlus K) from op_plus) (pv 7) (pe_op (show OpR _ _ (rTimes K) from op_times) (pv 6) (pv 8))))) pa_nil)) po_none (po_some pe_int)))
      (pss_cons (ps_if (pt_cmpR (show OpR _ _ (rEqP K) from op_eqP hr.units) (pe_callB (show CallR _ _ (Sx.rLenS K) from call_len_seq) (by rfl) T.b_len (by decide +kernel) (pa_cons (pv 5) pa_nil)) pe_int (nomark _)) (pss_one (ps_raise rfl (takes_of rfl rfl rfl rfl) (pmk_own0 PySem.F.excBase_ValueError T.xi_Strayed T.m_Strayed T.kp_Strayed (raises_own T.bx_Strayed T.ty_Strayed) rfl))) pss_nil)
      (pss_cons (ps_if (pt_cmpR (show OpR _ _ (rEqP K) from op_eqP hr.units) (pe_callB (show CallR _ _ (Sx.rLenS K) from call_len_seq) (by rfl) T.b_len (by decide +kernel) (pa_cons (pv 5) pa_nil)) pe_int (nomark _)) (pss_one (ps_raise rfl (takes_of rfl rfl rfl rfl) (pmk_oex (CX := CX0) T.ox_Unsure T.in_Unsure T.fi_Unsure G_Unsure___init__ (hr.mono (by decide)) T.Unsure___init__.b .nil pass0 rfl T.m_Unsure (pa_cons (pe_callTy (show CallR _ _ (rTupS K) from call_tuple_of) (by rfl) T.b_tuple (by decide +kernel) (pa_cons (pv 5) pa_nil)) pa_nil)))) pss_nil)
      (pss_one (ps_ret (pe_ix (show IxR _ (rIx K) from ix_seq) (pv 5) pe_int (fun _ _ => rfl)))))))),
    run1 (N := ["machine", "word", "stretch", "book", "rows", "least", "turn", "first", "step", "many"]) (np := 4) (f := b_tell) h (sp_len l_tell h) (fun dk B hb => have hnm := hb.1; have hrb := hb.2; (show LS B K (fun c d _ H => E c d H) _ (b_tell dk) from
      (ls_seq (ls_asg (le_call0 (dk := dk) (c := c_candidate_rows) hrb (la_cons (le_var (i := 0)) (la_cons (le_var (i := 1)) (la_cons (le_var (i := 2)) (la_cons (le_var (i := 3)) la_nil))))) (lg_name (i := 4)))
      (ls_seq (ls_asg (le_sl sll_cut (le_compAsc2 (vs := [7, 8, 9, 6]) (vs1 := [6]) (by decide) (li_any (le_var (i := 4))) (lg_tup (lgs_cons (lg_name (i := 7)) (lgs_cons (lg_name (i := 8)) (lgs_cons (lg_name (i := 9)) lgs_nil))) (gC_len (gC_len (gC_len gN_len)))) (tg_tup (tgs_cons (tg_name (by decide)) (tgs_cons (tg_name (by decide)) (tgs_cons (tg_name (by decide)) tgs_nil)))) lt_yes (li_range1 (la_cons (le_cb cl_min2 (la_cons (le_var (i := 9)) (la_cons (le_c (y := .int 2) fun _ => .int _) la_nil))) la_nil)) (lg_name (i := 6)) (tg_name (by decide)) lt_yes (le_op (ol_plus) (le_var (i := 7)) (le_op (ol_times) (le_var (i := 6)) (le_var (i := 8))))) lo_no (lo_some (le_c (y := .int 2) fun _ => .int _))) (lg_name (i := 5)))
      (ls_seq (ls_if (lt_test (le_op (ol_eq) (le_cb cl_len (la_cons (le_var (i := 5)) la_nil)) (le_c (y := .int 0) fun _ => .int _))) (ls_raise (C := a.C_Strayed) (nm := "Strayed") (by rw [hnm]; exact nm_Strayed a)) ls_next)
      (ls_seq (ls_if (lt_test (le_op (ol_eq) (le_cb cl_len (la_cons (le_var (i := 5)) la_nil)) (le_c (y := .int 2) fun _ => .int _))) (ls_raise1 (C := a.C_Unsure) (nm := "Unsure") (f := "numbers") (by rw [hnm]; exact nm_Unsure a) (le_cb cl_tuple (la_cons (le_var (i := 5)) la_nil))) ls_next)
      (ls_ret (le_op ol_ix (le_var (i := 5)) (le_c (y := .int 0) fun _ => .int _))))))))) h_tell⟩
end
def c_mended : V → Ct := fun _ as R Z => match as with
  | [.d m, .d w, .d e, .d b] => ∃ (r : Rw) (bk : Bk), m = .tuple (r.ms.map PyData.int) ∧ w = .tuple (r.ws.map oD) ∧ e = .tuple [.int r.lo, .int r.hi] ∧ b = bkD bk ∧ r.ok ∧ (∀ nss, bk = .inr nss → nss.length ≤ 1000) ∧
    (NoCand r bk → Z ⟨"Strayed", []⟩) ∧ (∀ x, OneCand r bk x → R (.d (.tuple (r.ms.map fun n => .int (x % n))))) ∧ (∀ x y, TwoCand r bk x y → Z ⟨"Unsure", [("numbers", .tuple [.int x, .int y])]⟩)
  | _ => False
def b_mended (dk : V) : ASx :=
  (aRet (aCall0 (c_rests_of dk) (aCons (aVar 0) (aCons (aCall (c_tell dk) (aCons (aVar 0) (aCons (aVar 1) (aCons (aVar 2) (aCons (aVar 3) aNil))))) aNil))))
theorem l_mended : ∀ (dk : V) (as : List A) (R : A → Prop) (Z : Ex → Prop), c_mended dk as R Z → as.length = 4 := by
  intro dk as R Z h
  unfold c_mended at h
  split at h
  · rfl
  · exact h.elim
theorem h_mended : ∀ (dk : V) (as : List A) (R : A → Prop) (Z : Ex → Prop), as.length = 4 → c_mended dk as R Z → b_mended dk (ends1 R Z) (fun _ => R (.d .none)) (as ++ unA ((["machine", "word", "stretch", "book"] : List Str).length - 4)) := by
  intro dk as R Z hl h
  unfold c_mended at h
  split at h
  · rename_i m w e b
    obtain ⟨r, bk, rfl, rfl, rfl, rfl, hr, hb, h0, h1, h2⟩ := h
    simp! only [b_mended, c_tell, c_rests_of]
    refine ⟨r, bk, rfl, rfl, rfl, rfl, hr, hb, h0, fun x hx => ⟨r.ms, x, rfl, rfl, ?_, fun n hn => (hr.2.2.1 n hn).1, h1 x hx⟩, h2⟩
    have := hr.2.1
    omega
  · exact h.elim
abbrev sp_mended (K : PySem.W.Frag) (a : Adr) : Sp := SpL K (fun (dk : V) (B : Bx) => B.cn = nmOf a ∧ RBox K a.C_AgreeingRows B) c_mended
section
variable {P : Program} {w : World} {K : PySem.W.Frag} {mg : Str → Option Value} {base : Heap} {a : Adr}
theorem ok_mended (T : Txt K mg a) : FnOk P w K mg base (L2.CX P w) 17 a.f_mended a.d_mended ["machine", "word", "stretch", "book"] (sp_mended K a) := by
  have G_rests_of : FnOk P w K mg base CX0 1 a.f_rests_of a.d_rests_of ["machine", "number"] (sp_rests_of K) := ok_rests_of T
  have G_tell : FnOk P w K mg base (L2.CX P w) 16 a.f_tell a.d_tell ["machine", "word", "stretch", "book"] (sp_tell K a) := ok_tell T
  refine L2.Fun.okX T.mended.F sc_mended (fun vs H Q E h => sp_len l_mended h) (fun cdv A outer s H vs Q E hr h => ?_)
  have hu := hu_of hr
  exact ⟨_, (pss_one (ps_ret (pe_call G_rests_of (hr.mono (by decide)) (by rfl) T.rests_of.m T.rests_of.F.kp T.rests_of.b .nil pass0 (pa_cons (pv 0) (pa_cons (pe_callS G_tell hr (by rfl) T.tell.m T.tell.F.kp T.tell.b (fun σ => passAt (takes_of rfl rfl rfl rfl) σ) (pa_cons (pv 0) (pa_cons (pv 1) (pa_cons (pv 2) (pa_cons (pv 3) pa_nil))))) pa_nil))))),
    run1 (N := ["machine", "word", "stretch", "book"]) (np := 4) (f := b_mended) h (sp_len l_mended h) (fun dk B hb => have hnm := hb.1; have hrb := hb.2; (show LS B K (fun c d _ H => E c d H) _ (b_mended dk) from
      (ls_ret (le_call0 (dk := dk) (c := c_rests_of) trivial (la_cons (le_var (i := 0)) (la_cons (le_callX (dk := dk) (c := c_tell) ⟨hnm, hrb⟩ (la_cons (le_var (i := 0)) (la_cons (le_var (i := 1)) (la_cons (le_var (i := 2)) (la_cons (le_var (i := 3)) la_nil))))) la_nil)))))) h_mended⟩
end
theorem mods_Ok {ns : List Int} (h : ns.length ≤ 10) (hn : ∀ n ∈ ns, 2 ≤ n ∧ n ≤ 1000000) : Ok 11 1 (.tuple (ns.map PyData.int)) := by
  refine ((okAll_all (n := 1) (k := 0) fun d hd => ?_).tup).ge (by rw [List.length_map]; omega) (by decide)
  obtain ⟨m, hm, rfl⟩ := List.mem_map.mp hd
  have := hn m hm
  have e6 : (1000000 : Nat) ≤ 10 ^ 120 := by decide +kernel
  exact Ok.small (by omega)
theorem word_Ok {ns : List Int} {ws : List (Option Int)} (wd : Wd ns ws) : Ok 11 1 (.tuple (ws.map oD)) := by
  have l10 : ws.length ≤ 10 := by rw [← wd.1]; exact wd.2.1
  refine ((okAll_all (n := 1) (k := 0) fun d hd => ?_).tup).ge (by rw [List.length_map]; omega) (by decide)
  obtain ⟨o, ho, rfl⟩ := List.mem_map.mp hd
  cases o with
  | none => exact ⟨rfl, Nat.le_refl _, Nat.zero_le _⟩
  | some q =>
    obtain ⟨i, hi, e⟩ := List.mem_iff_getElem.mp ho
    have hq : ws[i]? = some (some q) := by rw [List.getElem?_eq_getElem hi, e]
    have h2 := wd_at wd (lanes_of hq)
    have e6 : (1000000 : Nat) ≤ 10 ^ 120 := by decide +kernel
    have : qAt ws i = q := by unfold qAt; rw [List.getD_eq_getElem?_getD, hq] <;> rfl
    exact Ok.small (by omega)
theorem lots_Ok {n : Nat} {mss : List (List Int)} (h : ∀ l ∈ mss, l.Sublist (Lf.rI n)) (hn : n ≤ 10) : Ok (mss.length * 11 + 1) 3 (.tuple (mss.map tI)) := by
  have a := okAll_all (n := 11) (k := 2) (ds := mss.map tI) fun d hd => by
    obtain ⟨l, hl, rfl⟩ := List.mem_map.mp hd
    exact tI_ok (h l hl) hn
  rw [List.length_map] at a
  exact a.tup.ge (by omega) (by omega)
theorem book_Ok {w : Nat} {d : PyData} (h : Book w d) (hw : w ≤ 10) : Ok 70 4 d := by
  rcases h with ⟨i, rfl, hi⟩ | ⟨nss, rfl, h1, h2, h3, h4, h5⟩
  · have big : (1000 : Nat) ≤ 10 ^ 120 := by decide +kernel
    exact (Ok.small (k := 1) (show ((i : Nat) : Int).natAbs ≤ 10 ^ 120 by omega)).ge (by decide) (by decide)
  · exact (lots_Ok (n := w) h5 hw).ge (by omega) (by decide)
theorem kept_Ok {ns : List Int} {ws : List (Option Int)} {lo hi : Int} {d : PyData} (w : Wd ns ws) (h1 : lo.natAbs ≤ 10 ^ 61) (h2 : hi.natAbs ≤ 10 ^ 61) (hb : Ok 70 4 d) : Ok 300 5 (.list [.tuple (ns.map PyData.int), .tuple (ws.map oD), .tuple [.int lo, .int hi], d]) := by
  have e : (10 ^ 61 : Nat) ≤ 10 ^ 120 := by decide +kernel
  refine ((okAll_all (n := 70) (k := 4) fun x hx => ?_).lst).ge (by show 1 + 4 * 70 ≤ 300; decide) (by decide)
  rcases List.mem_cons.mp hx with rfl | hx
  · exact (mods_Ok w.2.1 w.2.2.1).ge (by decide) (by decide)
  rcases List.mem_cons.mp hx with rfl | hx
  · exact (word_Ok w).ge (by decide) (by decide)
  rcases List.mem_cons.mp hx with rfl | hx
  · refine ((okAll_all (n := 1) (k := 0) (ds := [.int lo, .int hi]) fun y hy => ?_).tup).ge (by show 1 + 2 * 1 ≤ 70; decide) (by decide)
    rcases List.mem_cons.mp hy with rfl | hy
    · exact Ok.small (by omega)
    · rw [List.mem_singleton.mp hy]
      exact Ok.small (by omega)
  · rw [List.mem_singleton.mp hx]
    exact hb
theorem rw_ok {ns : List Int} {ws : List (Option Int)} {lo hi : Int} (w : Wd ns ws) (h1 : lo.natAbs ≤ 2 * 10 ^ 60) (h2 : lo ≤ hi) (h3 : hi - lo ≤ 100000) : (⟨ns, ws, lo, hi⟩ : Rw).ok := by
  have e : (100000 : Nat) ≤ 10 ^ 60 := by decide +kernel
  exact ⟨w.1, w.2.1, w.2.2.1, w.2.2.2, h2, by show lo.natAbs ≤ _; omega, by show hi.natAbs ≤ _; omega⟩
theorem book_bk {w : Nat} {d : PyData} (h : Book w d) : ∃ bk : Bk, d = bkD bk ∧ ∀ nss, bk = .inr nss → nss.length ≤ 1000 := by
  rcases h with ⟨i, rfl, hi⟩ | ⟨nss, rfl, h1, h2, _⟩
  · exact ⟨.inl i, rfl, fun _ e => nomatch e⟩
  · exact ⟨.inr nss, rfl, fun _ e => by cases e; omega⟩
theorem spanM_dvd {ns : List Int} {N : Nat} : ∀ (L : List Nat), (∀ j ∈ L, (mAt ns j).natAbs ∣ N) → spanM ns L ∣ N := by
  have key : ∀ (L : List Nat) (s : Nat), s ∣ N → (∀ j ∈ L, (mAt ns j).natAbs ∣ N) → L.foldl (fun s l => Nat.lcm s (mAt ns l).natAbs) s ∣ N := by
    intro L
    induction L with
    | nil => exact fun s h _ => h
    | cons a L ih => exact fun s h h2 => ih _ (Nat.lcm_dvd h (h2 a List.mem_cons_self)) fun j hj => h2 j (List.mem_cons_of_mem _ hj)
  exact fun L h => key L 1 (Nat.one_dvd _) h
theorem spanM_int {ns : List Int} {L : List Nat} {z : Int} (h : ∀ j ∈ L, mAt ns j ∣ z) : ((spanM ns L : Nat) : Int) ∣ z := by
  have := spanM_dvd (ns := ns) (N := z.natAbs) L fun j hj => Int.natAbs_dvd_natAbs.mpr (h j hj)
  exact Int.natAbs_dvd_natAbs.mp (by rw [Int.natAbs_natCast]; exact this)
theorem str_nodup (ns : List Int) (ws : List (Option Int)) (x : Int) : ((strN ns ws x).map fun j => ((j : Nat) : Int)).Pairwise (· < ·) := by
  rw [List.pairwise_map]
  exact (List.Pairwise.filter _ List.pairwise_lt_range).imp fun h => by omega
theorem apart {ns : List Int} {ws : List (Option Int)} {x y lo hi : Int} {L L' S : List Int} (ho : (⟨ns, ws, lo, hi⟩ : Rw).ok) (hs : ∀ j, j < ns.length → ((j : Nat) : Int) ∉ S → j ∈ lanesN ws)
    (hx : ∀ m ∈ (strN ns ws x).map fun j => ((j : Nat) : Int), m ∈ L) (hy : ∀ m ∈ (strN ns ws y).map fun j => ((j : Nat) : Int), m ∈ L') : ((spanT ns (L, L', S) : Nat) : Int) ∣ y - x := by
  refine spanM_int fun j hj => ?_
  obtain ⟨h1, h2⟩ := List.mem_filter.mp hj
  have h1 := List.mem_range.mp h1
  have h2 := of_decide_eq_true h2
  simp only [List.mem_append, not_or] at h2
  obtain ⟨⟨n1, n2⟩, n3⟩ := h2
  have sp := hs j h1 n3
  have ag : ∀ {z : Int} {T : List Int}, (∀ m ∈ (strN ns ws z).map fun j => ((j : Nat) : Int), m ∈ T) → ((j : Nat) : Int) ∉ T → mAt ns j ∣ z - qAt ws j := fun {z T} h n => Classical.byContradiction fun q => n (h _ (List.mem_map.mpr ⟨j, (str_iff ho).mpr ⟨sp, q⟩, rfl⟩))
  have := Int.dvd_sub (ag hy n2) (ag hx n1)
  rwa [show y - qAt ws j - (x - qAt ws j) = y - x by omega] at this
theorem small_dvd {s z : Int} (h : s ∣ z) (h1 : z.natAbs < s.natAbs) : z = 0 := by
  have := Nat.le_of_dvd (n := z.natAbs) (m := s.natAbs)
  refine Classical.byContradiction fun q => ?_
  have := this (by omega) (Int.natAbs_dvd_natAbs.mpr h)
  omega
theorem one_for {ns : List Int} {ws : List (Option Int)} {x lo hi : Int} {L S : List Int} {bk bk3 : Bk} {t : List Int × List Int × List Int} (ho : (⟨ns, ws, lo, hi⟩ : Rw).ok) (hk : ∀ k, bk = .inl k → k ≤ ns.length) (hL : L ∈ wholesL ns.length bk) (hS : S ∈ wholesL ns.length bk3)
    (hw : WordFor ns x L S ws) (h1 : lo ≤ x) (h2 : x ≤ hi) (hb : BestIs ns bk bk bk3 t) (hm : hi - lo < (spanT ns t : Nat)) : OneCand ⟨ns, ws, lo, hi⟩ bk x := by
  obtain ⟨w, hw⟩ := hw
  have sp : ∀ j, j < ns.length → ((j : Nat) : Int) ∉ S → j ∈ lanesN ws := fun j hj n => by
    obtain ⟨q, hq, _⟩ := (hw j hj).2 n
    exact lanes_of hq
  have sx : ∀ m ∈ (strN ns ws x).map fun j => ((j : Nat) : Int), m ∈ L := fun m hm => by
    obtain ⟨j, hj, rfl⟩ := List.mem_map.mp hm
    obtain ⟨g1, g2⟩ := (str_iff ho).mp hj
    have g1 : j ∈ lanesN ws := g1
    have g2 : ¬ mAt ns j ∣ x - qAt ws j := g2
    have hjn := (wd_at w g1).1
    have nS : ((j : Nat) : Int) ∉ S := fun z => by
      have := (hw j hjn).1 z
      rw [(lanes_in g1).2] at this
      cases this
    refine Classical.byContradiction fun nL => g2 ?_
    obtain ⟨q, hq, he⟩ := (hw j hjn).2 nS
    rw [(lanes_in g1).2] at hq
    cases hq
    rw [he nL]
    exact ⟨x / mAt ns j, by have := Int.emod_add_mul_ediv x (mAt ns j); omega⟩
  have nd : ∀ z, ((strN ns ws z).map fun j => ((j : Nat) : Int)).Nodup := fun z => (str_nodup ns ws z).imp fun h => by omega
  refine ⟨⟨h1, h2, (cand_let ho).mpr (whole_let (nd x) hL sx)⟩, fun y hy => ?_⟩
  obtain ⟨y1, y2, y3⟩ := hy
  have y1 : lo ≤ y := y1
  have y2 : y ≤ hi := y2
  obtain ⟨L', hL', sy⟩ := let_whole (n := ns.length) hk (str_nodup ns ws y) (fun m hm => by
    obtain ⟨j, hj, rfl⟩ := List.mem_map.mp hm
    have := (wd_at w ((str_iff ho).mp hj).1).1
    exact ⟨by omega, by omega⟩) ((cand_let ho).mp y3)
  have d := apart ho sp sx sy
  have := hb.2 (L, L', S) ⟨hL, .inl hL', hS⟩
  have := small_dvd d (by rw [Int.natAbs_natCast]; omega)
  omega
def c__law_told : V → Ct := fun _ as R _ => match as with
  | [.d m, .d w, .d e, .d b, .d n] => ∃ (r : Rw) (bk : Bk) (t : Bool) (x : Int), m = .tuple (r.ms.map PyData.int) ∧ w = .tuple (r.ws.map oD) ∧ e = .tuple [.int r.lo, .int r.hi] ∧ b = bkD bk ∧ n = .bool t ∧ r.ok ∧ (∀ nss, bk = .inr nss → nss.length ≤ 1000) ∧ OneCand r bk x ∧ R (.own [.int x, .tuple (r.ms.map fun n => .int (x % n))])
  | _ => False
def b__law_told (dk : V) : ASx :=
  (aTry sb_LaneError (aSeq (aIfS (aB (aVar 4)) (aSeq (aAsg (aCallK (c_tell dk) g_tell_book_stretch_word_machine aNil (aCons (aVar 3) (aCons (aVar 2) (aCons (aVar 1) (aCons (aVar 0) aNil))))) (gN 5))
          (aRet (aLst (aCons (aVar 5) (aCons (aCallK (c_mended dk) g_mended_book_stretch_word_machine aNil (aCons (aVar 3) (aCons (aVar 2) (aCons (aVar 1) (aCons (aVar 0) aNil))))) aNil))))) aNext)
        (aRet (aLst (aCons (aCall (c_tell dk) (aCons (aVar 0) (aCons (aVar 1) (aCons (aVar 2) (aCons (aVar 3) aNil))))) (aCons (aCall (c_mended dk) (aCons (aVar 0) (aCons (aVar 1) (aCons (aVar 2) (aCons (aVar 3) aNil))))) aNil))))) (aRet (aLst (aCons (aC (.str "refused")) aNil))))
theorem l__law_told : ∀ (dk : V) (as : List A) (R : A → Prop) (Z : Ex → Prop), c__law_told dk as R Z → as.length = 5 := by
  intro dk as R Z h
  unfold c__law_told at h
  split at h
  · rfl
  · exact h.elim
theorem h__law_told : ∀ (dk : V) (as : List A) (R : A → Prop) (Z : Ex → Prop), as.length = 5 → c__law_told dk as R Z → b__law_told dk (ends0 R) (fun _ => R (.d .none)) (as ++ unA ((["machine", "word", "stretch", "book", "is_named", "told"] : List Str).length - 5)) := by
  intro dk as R Z hl h
  unfold c__law_told at h
  split at h
  · rename_i m w e b n
    obtain ⟨r, bk, t, x, rfl, rfl, rfl, rfl, rfl, hr, hb, hx, hR⟩ := h
    have no : ¬ NoCand r bk := fun z => z x hx.1
    have tw : ∀ a b, ¬ TwoCand r bk a b := fun a b z => by
      have := hx.2 a z.1
      have := hx.2 b z.2.1
      have := z.2.2.1
      omega
    cases t <;> simp! only [b__law_told, c_tell, c_mended, g_tell_book_stretch_word_machine, g_mended_book_stretch_word_machine]
    all_goals
      refine ⟨r, bk, rfl, rfl, rfl, rfl, hr, hb, fun q => absurd q no, fun y hy => ?_, fun a b q => absurd q (tw a b)⟩
      rw [hx.2 y hy.1]
      refine ⟨r, bk, rfl, rfl, rfl, rfl, hr, hb, fun q => absurd q no, fun y hy => ?_, fun a b q => absurd q (tw a b)⟩
      rw [hx.2 y hy.1]
      exact hR
  · exact h.elim
abbrev sp__law_told (K : PySem.W.Frag) (a : Adr) : Sp := SpL K (fun (dk : V) (B : Bx) => B.cn = nmOf a ∧ RBox K a.C_AgreeingRows B) c__law_told
section
variable {P : Program} {w : World} {K : PySem.W.Frag} {mg : Str → Option Value} {base : Heap} {a : Adr}
theorem ok__law_told (T : Txt K mg a) : FnOk P w K mg base CX0 18 a.f__law_told a.d__law_told ["machine", "word", "stretch", "book", "is_named"] (sp__law_told K a) := by
  have G_tell : FnOk P w K mg base (L2.CX P w) 16 a.f_tell a.d_tell ["machine", "word", "stretch", "book"] (sp_tell K a) := ok_tell T
  have G_mended : FnOk P w K mg base (L2.CX P w) 17 a.f_mended a.d_mended ["machine", "word", "stretch", "book"] (sp_mended K a) := ok_mended T
  refine T._law_told.F.ok sc__law_told (fun vs H Q E h => sp_len l__law_told h) (fun cdv A outer s H vs Q E hr h => ?_)
  have hu := hu_of hr
  exact ⟨_, (pss_one (ps_tryOnly rfl rfl ⟨rfl, by decide, .inl T.m_LaneError⟩ takes0 (fun W pn xe tk _ => (pss_cons (ps_if (pt_val (pv 4)) (pss_cons (ps_set (i := 5) sc__law_told.nd rfl (by first | exact Or.inl rfl | exact Or.inr rfl) (pe_callKsS G_tell (hr.mono (by decide)) (by rfl) T.tell.m T.tell.F.kp (kb_tell_book_stretch_word_machine T) (fun σ => passAt tk σ) (pk_cons (pv 3) (pk_cons (pv 2) (pk_cons (pv 1) (pk_cons (pv 0) pk_nil))))))
          (pss_one (ps_ret (pe_lst (pa_cons (pv 5) (pa_cons (pe_callKsS G_mended hr (by rfl) T.mended.m T.mended.F.kp (kb_mended_book_stretch_word_machine T) (fun σ => passAt tk σ) (pk_cons (pv 3) (pk_cons (pv 2) (pk_cons (pv 1) (pk_cons (pv 0) pk_nil))))) pa_nil)))))) pss_nil)
        (pss_one (ps_ret (pe_lst (pa_cons (pe_callS G_tell (hr.mono (by decide)) (by rfl) T.tell.m T.tell.F.kp T.tell.b (fun σ => passAt tk σ) (pa_cons (pv 0) (pa_cons (pv 1) (pa_cons (pv 2) (pa_cons (pv 3) pa_nil))))) (pa_cons (pe_callS G_mended hr (by rfl) T.mended.m T.mended.F.kp T.mended.b (fun σ => passAt tk σ) (pa_cons (pv 0) (pa_cons (pv 1) (pa_cons (pv 2) (pa_cons (pv 3) pa_nil))))) pa_nil))))))) (fun ax oe cls d pn hz hf => (pss_one (ps_ret (pe_lst (pa_cons pe_str pa_nil))))))),
    run0 (N := ["machine", "word", "stretch", "book", "is_named", "told"]) (np := 5) (f := b__law_told) h (sp_len l__law_told h) (fun dk B hb => have hnm := hb.1; have hrb := hb.2; (show LS B K Wno _ (b__law_told dk) from
      (ls_try (sb := sb_LaneError) (ex_LaneError T hnm) (fun W1 => (ls_seq (ls_if (lt_b (le_var (i := 4))) (ls_seq (ls_asg (le_callKX (dk := dk) (c := c_tell) ⟨hnm, hrb⟩ kw_tell_book_stretch_word_machine la_nil (la_cons (le_var (i := 3)) (la_cons (le_var (i := 2)) (la_cons (le_var (i := 1)) (la_cons (le_var (i := 0)) la_nil))))) (lg_name (i := 5)))
          (ls_ret (le_lst (la_cons (le_var (i := 5)) (la_cons (le_callKX (dk := dk) (c := c_mended) ⟨hnm, hrb⟩ kw_mended_book_stretch_word_machine la_nil (la_cons (le_var (i := 3)) (la_cons (le_var (i := 2)) (la_cons (le_var (i := 1)) (la_cons (le_var (i := 0)) la_nil))))) la_nil)) (by decide)))) ls_next)
        (ls_ret (le_lst (la_cons (le_callX (dk := dk) (c := c_tell) ⟨hnm, hrb⟩ (la_cons (le_var (i := 0)) (la_cons (le_var (i := 1)) (la_cons (le_var (i := 2)) (la_cons (le_var (i := 3)) la_nil))))) (la_cons (le_callX (dk := dk) (c := c_mended) ⟨hnm, hrb⟩ (la_cons (le_var (i := 0)) (la_cons (le_var (i := 1)) (la_cons (le_var (i := 2)) (la_cons (le_var (i := 3)) la_nil))))) la_nil)) (by decide))))) (fun ax cc dd => (ls_ret (le_lst (la_cons (le_c (y := .str "refused") fun _ => .str _) la_nil) (by decide))))))) h__law_told⟩
end
theorem wholes_fine {n : Nat} {d : PyData} {bk : Bk} (n1 : 1 ≤ n) (n10 : n ≤ 10) (hb : Book n d) (e : d = bkD bk) : wholesL n bk ≠ [] ∧ (wholesL n bk).length ≤ 1024 ∧ (∀ L ∈ wholesL n bk, L.length ≤ 10) ∧ (∀ L ∈ wholesL n bk, ∀ a ∈ L, 0 ≤ a ∧ a < n) ∧ (∀ L ∈ wholesL n bk, L.length ≤ n) ∧ ∀ k, bk = .inl k → k ≤ n := by
  subst e
  have num : ∀ k, k ≤ n → wiL n k ≠ [] ∧ (wiL n k).length ≤ 1024 ∧ (∀ L ∈ wiL n k, L.length ≤ 10) ∧ (∀ L ∈ wiL n k, ∀ a ∈ L, 0 ≤ a ∧ a < n) ∧ (∀ L ∈ wiL n k, L.length ≤ n) := fun k hk => by
    refine ⟨fun z => ?_, Nat.le_trans (wiL_len k) (Nat.le_trans (Nat.pow_le_pow_right (by decide) n10) (by decide)), fun L hL => by rw [(wiL_in hL).1]; omega, fun L hL => (wiL_in hL).2.2, fun L hL => by rw [(wiL_in hL).1]; omega⟩
    obtain ⟨L, g1, g2, g3, _⟩ := fill_up (n := n) k [] List.Pairwise.nil (fun _ z => nomatch z) (by show 0 + k ≤ n; omega)
    have := wiL_all (n := n) (k := k) (by rw [g3]; exact Nat.zero_add _) g1 g2
    rw [z] at this
    exact nomatch this
  cases bk with
  | inl k =>
    rcases hb with ⟨i, e, hi⟩ | ⟨nss, e, _⟩
    · have e : PyData.int (k : Nat) = .int (i : Nat) := e
      injection e with e
      obtain rfl : k = i := by omega
      obtain ⟨a, b, c, d, f⟩ := num k hi
      exact ⟨a, b, c, d, f, fun k' e => by cases e; exact hi⟩
    · exact nomatch e
  | inr nss =>
    rcases hb with ⟨i, e, hi⟩ | ⟨nss', e, h1, h2, h3, h4, h5⟩
    · exact nomatch e
    · have e : PyData.tuple (nss.map tI) = .tuple (nss'.map tI) := e
      injection e with e
      have : nss = nss' := by
        have := congrArg (List.map isLot) e
        rw [List.map_map, List.map_map] at this
        have id_ : (isLot ∘ tI) = id := funext fun l => isLot_tI l
        rwa [id_, List.map_id, List.map_id] at this
      subst this
      have le : ∀ L ∈ nss, L.length ≤ n := fun L hL => by
        have := (h5 L hL).length_le
        unfold Lf.rI at this
        rwa [List.length_map, List.length_range] at this
      refine ⟨fun z => ?_, by show nss.length ≤ 1024; omega, fun L hL => by have := le L hL; omega, fun L hL a ha => rI_mem.mp ((h5 L hL).mem ha), le, fun _ z => nomatch z⟩
      have z : nss = [] := z
      rw [z] at h1
      exact absurd h1 (by decide)
def b_law (dk : V) : ASx :=
  (aCut (aAsg (aC (.int 0)) (gN 2))
      (aCut (aFor (aRange1 (aCons (aC (.int 4)) aNil)) (gN 3) (aCut (aAsg (aOp (gCat) (aC (.int 1)) (aCall0 (c__law_draw dk) (aCons (aVar 1) (aCons (aTern (aB (aOp (gI0 fun i j => .bool (decide (i < j))) (aVar 3) (aC (.int 2)))) (aC (.int 3)) (aC (.int 4))) aNil)))) (gN 4))
        (aCut (aPar 11 12 (aCons (aCall0 (c__law_machine dk) (aCons (aVar 1) (aCons (aVar 4) (aCons (aTern (aB (aOp (gI0 fun i j => .bool (decide (i < j))) (aVar 3) (aC (.int 2)))) (aC (.int 5)) (aC (.int 7))) aNil)))) (aCons (aCall0 (c__law_book dk) (aCons (aVar 1) (aCons (aVar 4) aNil))) aNil)))
        (aCut (aAsg (aCall0 (c__law_pick dk) (aCons (aVar 1) (aCons (aLst (aCons (aC (.int 0)) (aCons (aC (.int 0)) (aCons (aC (.int 1)) (aCons (aCall0 (c__law_book dk) (aCons (aVar 1) (aCons (aVar 4) aNil))) aNil))))) aNil))) (gN 5))
        (aCut (aAsg (aOp gIx (aCall0 (c__law_reach dk) (aCons (aVar 11) (aCons (aVar 12) (aCons (aVar 12) (aCons (aVar 5) aNil))))) (aC (.int 0))) (gN 6))
        (aCut (aAsg (aCall0 (c__law_pick dk) (aCons (aVar 1) (aCons (aLst (aCons (aVar 6) (aCons (aVar 6) (aCons (aOp (gCat) (aC (.int 1)) (aCall0 (c__law_draw dk) (aCons (aVar 1) (aCons (aVar 6) aNil)))) aNil)))) aNil))) (gN 7))
        (aCut (aAsg (aCall0 (c__law_pick dk) (aCons (aVar 1) (aCons (aLst (aCons (aC (.int 0)) (aCons (aUn (gU fun i => .int (-i)) (aCall0 (c__law_draw dk) (aCons (aVar 1) (aCons (aC (.int 99)) aNil)))) (aCons (aOp (gI0 fun i j => .int (i - j)) (aOp (gI CPow fun i j => .int (i ^ j.toNat)) (aC (.int 10)) (aC (.int 60))) (aVar 7)) (aCons (aUn (gU fun i => .int (-i)) (aOp (gI CPow fun i j => .int (i ^ j.toNat)) (aC (.int 10)) (aC (.int 60)))) (aCons (aCall0 (c__law_draw dk) (aCons (aVar 1) (aCons (aOp (gI CPow fun i j => .int (i ^ j.toNat)) (aC (.int 10)) (aC (.int 9))) aNil))) aNil)))))) aNil))) (gN 8))
        (aCut (aAsg (aTup (aCons (aVar 8) (aCons (aOp (gI0 fun i j => .int (i - j)) (aOp (gCat) (aVar 8) (aVar 7)) (aC (.int 1))) aNil))) (gN 9))
        (aFor (aIter (aSl gCut (aLst (aCons (aOp (gCat) (aVar 8) (aCall0 (c__law_draw dk) (aCons (aVar 1) (aCons (aVar 7) aNil)))) (aCons (aCall0 (c__law_pick dk) (aCons (aVar 1) (aCons (aLst (aCons (aVar 8) (aCons (aOp (gI0 fun i j => .int (i - j)) (aOp (gCat) (aVar 8) (aVar 7)) (aC (.int 1))) aNil))) aNil))) aNil))) (aPart (aOp (gI CDivW fun i j => .int (i / j)) (aVar 3) (aC (.int 2)))) aNoP)) (gN 10) (aCut (aAsg (aCall0 (c__law_pick dk) (aCons (aVar 1) (aCons (aCall0 (c__law_wholes dk) (aCons (aVar 12) (aCons (aVar 4) aNil))) aNil))) (gN 13))
          (aCut (aAsg (aCall0 (c__law_pick dk) (aCons (aVar 1) (aCons (aCall0 (c__law_wholes dk) (aCons (aVar 5) (aCons (aVar 4) aNil))) aNil))) (gN 14))
          (aCut (aAsg (aLst (aCons (aVar 10) (aCons (aCall0 (c__law_rests dk) (aCons (aVar 11) (aCons (aVar 10) aNil))) aNil))) (gN 15))
          (aFor (aIter (aCall0 (c__law_words dk) (aCons (aVar 1) (aCons (aVar 11) (aCons (aVar 10) (aCons (aVar 13) (aCons (aVar 14) (aCons (aTern (aB (aOp (gI0 fun i j => .bool (decide (i < j))) (aVar 3) (aC (.int 2)))) (aC (.int 25)) (aC (.int 9))) aNil)))))))) (gN 16) (aCut (aPar 2 17 (aCons (aOp (gCat) (aVar 2) (aC (.int 1))) (aCons (aCB gRepr (aCons (aLst (aCons (aVar 11) (aCons (aVar 16) (aCons (aVar 9) (aCons (aVar 12) aNil))))) aNil)) aNil)))
            (aCut (aIfS (aB (aOp (gNe) (aCB gRepr (aCons (aCall0 (c__law_told dk) (aCons (aVar 11) (aCons (aVar 16) (aCons (aVar 9) (aCons (aVar 12) (aCons (aOp (gEq) (aVar 2) (aC (.int 3))) aNil)))))) aNil)) (aCB gRepr (aCons (aVar 15) aNil)))) (aRet (aC (.bool false))) aNext)
            (aCut (aIfS (aB (aOp (gEq) (aVar 2) (aC (.int 5)))) (aAsg (aCallK0 (c_nearest dk) g_nearest_stretch_word_machine aNil (aCons (aVar 9) (aCons (aVar 16) (aCons (aVar 11) aNil)))) (gN 18)) (aAsg (aCall0 (c_nearest dk) (aCons (aVar 11) (aCons (aVar 16) (aCons (aVar 9) aNil)))) (gN 18)))
            (aIfS (tOrA (aB (aOp (gI0 fun i j => .bool (decide (j < i))) (aOp gIx (aVar 18) (aC (.int 0))) (aCB gLen (aCons (aCall0 (c__law_astray dk) (aCons (aVar 11) (aCons (aVar 16) (aCons (aVar 10) aNil)))) aNil)))) (aB (aOp (gNe) (aCB gRepr (aCons (aLst (aCons (aVar 11) (aCons (aVar 16) (aCons (aVar 9) (aCons (aVar 12) aNil))))) aNil)) (aVar 17)))) (aRet (aC (.bool false))) aNext)))))))))))))))))
      (aRet (aC (.bool true)))))
theorem h_law (dk : V) : b_law dk (ends0 fun a => a = .d (.bool true)) (fun _ => False) (.un :: .raw dk :: unA 17) := by
  unfold b_law
  have e60 : (10000000000 : Nat) ≤ 10 ^ 60 := by decide +kernel
  let st : A → A → A → A → A → A → A → A → A → A → A → A → A → A → A → A → A → List A := fun c2 c3 c4 c5 c6 c7 c8 c9 c10 c11 c12 c13 c14 c15 c16 c17 c18 => [.un, .raw dk, c2, c3, c4, c5, c6, c7, c8, c9, c10, c11, c12, c13, c14, c15, c16, c17, c18]
  let Any : List A → Prop := fun ρ => ∃ (a : Int) (c3 c4 c5 c6 c7 c8 c9 c10 c11 c12 c13 c14 c15 c16 c17 c18 : A), ρ = st (.d (.int a)) c3 c4 c5 c6 c7 c8 c9 c10 c11 c12 c13 c14 c15 c16 c17 c18
  refine ⟨fun ρ => Any ρ, ?_, ?_⟩
  · simp! only []
    exact ⟨0, ⟨_, _, _, _, _, _, _, _, _, _, _, _, _, _, _, _, rfl⟩⟩
  rintro ρ ⟨a, a3, a4, a5, a6, a7, a8, a9, a10, a11, a12, a13, a14, a15, a16, a17, a18, rfl⟩
  refine ⟨fun ρ => Any ρ, ?_, ?_⟩
  · show aFor _ _ _ _ _ [_, _, _, _, _, _, _, _, _, _, _, _, _, _, _, _, _, _, _]
    simp! only []
    refine ⟨fun _ ρ => Any ρ, ⟨a, ⟨_, _, _, _, _, _, _, _, _, _, _, _, _, _, _, _, rfl⟩⟩, ?_, fun _ h => h⟩
    rintro i ρ hi ⟨a, a3, a4, a5, a6, a7, a8, a9, a10, a11, a12, a13, a14, a15, a16, a17, a18, rfl⟩
    rw [rangeD_len] at hi
    rw [rangeD_at hi]
    show gN _ _ [_, _, _, _, _, _, _, _, _, _, _, _, _, _, _, _, _, _, _] _ _
    simp! only []
    -- lanes
    refine ⟨fun ρ => ∃ n : Nat, 1 ≤ n ∧ n ≤ 4 ∧ ρ = st (.d (.int a)) (.d (.int (0 + (i : Nat)))) (.d (.int (n : Nat))) a5 a6 a7 a8 a9 a10 a11 a12 a13 a14 a15 a16 a17 a18, ?_, ?_⟩
    · simp! only [c__law_draw]
      generalize decide ((0 : Int) + ((i : Nat) : Int) < 2) = c
      cases c <;> simp! only []
      all_goals
        refine ⟨small_of (by decide) (by decide), fun r r0 r1 => ⟨(1 + r).toNat, by omega, by omega, ?_⟩⟩
        rw [show (((1 + r).toNat : Nat) : Int) = 1 + r by omega]
    rintro ρ ⟨n, n1, n4, rfl⟩
    -- machine, book
    refine ⟨fun ρ => ∃ (ns : List Int) (d : PyData), ns.length = n ∧ (∀ x ∈ ns, 2 ≤ x ∧ x ≤ 7) ∧ Book n d ∧ ρ = st (.d (.int a)) (.d (.int (0 + (i : Nat)))) (.d (.int (n : Nat))) a5 a6 a7 a8 a9 a10 (.d (.tuple (ns.map PyData.int))) (.d d) a13 a14 a15 a16 a17 a18, ?_, ?_⟩
    · show aPar _ _ _ _ _ [_, _, _, _, _, _, _, _, _, _, _, _, _, _, _, _, _, _, _]
      simp! only [c__law_machine, c__law_book]
      generalize decide ((0 : Int) + ((i : Nat) : Int) < 2) = c
      cases c <;> simp! only []
      · exact ⟨n, 7, rfl, rfl, n1, by omega, by decide, by decide, fun ns hl hn => ⟨by omega, by omega, fun d hd => ⟨ns, d, hl, hn, hd, rfl⟩⟩⟩
      · exact ⟨n, 5, rfl, rfl, n1, by omega, by decide, by decide, fun ns hl hn => ⟨by omega, by omega, fun d hd => ⟨ns, d, hl, fun x hx => by have := hn x hx; omega, hd, rfl⟩⟩⟩
    rintro ρ ⟨ns, d, hl, hn, hd, rfl⟩
    have hn6 : ∀ m ∈ ns, 2 ≤ m ∧ m ≤ 1000000 := fun m hm => by have := hn m hm; omega
    -- still
    refine ⟨fun ρ => ∃ d3 : PyData, Book n d3 ∧ ρ = st (.d (.int a)) (.d (.int (0 + (i : Nat)))) (.d (.int (n : Nat))) (.d d3) a6 a7 a8 a9 a10 (.d (.tuple (ns.map PyData.int))) (.d d) a13 a14 a15 a16 a17 a18, ?_, ?_⟩
    · show aAsg _ _ _ _ [_, _, _, _, _, _, _, _, _, _, _, _, _, _, _, _, _, _, _]
      simp! only [c__law_pick, c__law_book]
      refine ⟨by omega, by omega, fun d3 hd3 x hx => ?_⟩
      simp only [List.isEmpty_cons,List.isEmpty_nil,ends0,ends1,wipeA,List.map,List.set,List.cons_append,List.nil_append,List.length_cons,List.length_nil,ite_true,ite_false,Bool.not_true,Bool.not_false,Bool.true_and,Bool.and_true,Bool.false_and,Bool.and_false,reduceIte,reduceCtorEq,Bool.false_eq_true,if_true,if_false,Nat.reduceAdd,Nat.reduceLeDiff,ne_eq,not_false_eq_true,eq_self,not_true_eq_false,Nat.reduceSub,Nat.reduceMul,Nat.reduceLT,Nat.reducePow,Int.reduceLE,Int.reduceLT,Int.reduceAdd,Int.reduceSub,Int.reduceMul,Int.reduceNeg,Int.reducePow,Int.reduceToNat,Int.reduceEq,Int.reduceBEq,Option.some.injEq,exists_eq_left',exists_eq_left,true_and,and_true,decide_true,decide_false,Nat.reduceBEq,Bool.or_true,Bool.true_or,Bool.or_false,Bool.false_or,aVar_e,aC_e,aRaw_e,aOp_e,aUn_e,aNot_e,aAnd_e,aOr_e,aChain_e,aTern_e,aNil_e,aCons_e,aTup_e,aLst_e,aB_e,tAndA_e,tOrA_e,tNotA_e,aCB_e,aCall_e,aCallK_e,aSl_e,aNoP_e,aCall0_e,gN_e,aNext_e,aSeq_e,aBrk_e,aCnt_e,aDrop_e,aRet_e,aRetN_e,aIfS_e,aAsg_e,aAug_e,aPar_e,aFor_e,aWhile_e,aYes_e,aIter_e,aEnum_e,aRange1_e,aRange2_e,aZip_e,aZipTL_e,aApp_e,aPopAt_e,aPop_e,aLenV_e,aIxV_e,aEqNilV_e,aTupV_e,aDnew_e,aListRg_e,aComp_e,aZip3T_e,aCallK0_e,gSetV_e,on_d,on_own,bl_b,it_i,ow_o,isOwn_o,seq_t,seq_l,seq_o,lst_l,lst_o,tup_t,same_t,same_l,one_1,fz_d,fz_r,fz_o,look_d,look_r,look_o,unA_0,unA_s,sl_0,sl_s,ons_n,ons_c,gI0_i,gI_i,gU_i,gIsN_n,gNotN_n,isNone_n,isNone_i,isNone_b,isNone_s,isNone_t,isNone_l,gEq_s,gNe_s,gIn_l,gIn_t,gNotIn_l,gNotIn_t,gIx_t,gIx_l,gCat_i,gCat_t,gCat_l,gMul_i,gMul_t,gMul_l,gCut_t,gCut_l,gP_x,intD_n,intD_b,intD_i,intD_s,intD_l,intD_t,intD_d,boolD_n,boolD_b,boolD_i,boolD_s,boolD_l,boolD_t,boolD_d,strD_n,strD_b,strD_i,strD_s,strD_l,strD_t,strD_d,tupD_n,tupD_b,tupD_i,tupD_s,tupD_l,tupD_t,tupD_d,wholeD_n,wholeD_b,wholeD_i,wholeD_s,wholeD_l,wholeD_t,wholeD_d,gLen_1,gTuple_1,gList_1,gInt_i,gInt_b,gAbs_i,gRepr_x,gAll_l,gAny_l,gSum_l,gGcd_i,gSorted_l,cDraw_1,two_1,three_1,cPick_1,gMax2_i,gMin2_i,gEqS_s,isStr_s,gNil_n,gCons_c,gT_t,gL_o,gL_l,at1_0,at2_0,at2_1,at3_0,at3_1,at3_2,cpow_e,cast_lit,abs_lit,aPart_e,gMax1_l,gMax1_t,gMin1_l,gMin1_t,gInS_t,gEqNil_t,MaxR,MinR,aLend_e,argsV_n,argsV_c,dat_d,dat_r,nl_d,gSortedT_l,gLeT_t,aInV_e,aTupRg_e,gRev_t,gStr_i,aRevI_e,aDown_e,aCompV_e,gEq_nl,gNe_nl,gEq_nt,gNe_nt,gNeNil_t,aLendX_e,intd_i,rdAll_n,rdAll_c,rd_d,rd_r,rd_o,gNilL_t,gNilL_f,aLe3_e,gNiS_t,aPar3_e,three_e,gRepF3_t,gLcm_i,aBits_e,aSortSet_e,aComp2_e,aMaxDef_e,aListRg2_e,aDNewT_e,aDNewK_e,aDGetT_e,aDInT_e,gDPutT_e,aDLenT_e,aDListT_e,aDGetK_e,aDInK_e,gDPutK_e,aDLenK_e,aDListK_e,isD_t,isD_k,dtd_o,dkd_o,keyK_i,keyK_s,keyT_t,aRaise_e,aRaise1_e,aTryAs_e,aTry_e,aXf_e,aIsX_e,aMeth_e,aNewRow_e,isRow_r,fz_row,look_row,look_rowL,look_exc,look_dt,look_dk,fz_rowL,fz_exc,aDisp1T_e,aTru_e,aTruV_e,truD_t,truD_l,truD_b,truD_n,truD_i,gEq_i,gNe_i,List.mem_cons,List.not_mem_nil,or_false,forall_eq_or_imp,forall_eq] at hx
      rcases hx with rfl | rfl | rfl | rfl
      · exact ⟨_, .inl ⟨0, rfl, by omega⟩, rfl⟩
      · exact ⟨_, .inl ⟨0, rfl, by omega⟩, rfl⟩
      · exact ⟨_, .inl ⟨1, rfl, n1⟩, rfl⟩
      · exact ⟨_, hd3, rfl⟩
    rintro ρ ⟨d3, hd3, rfl⟩
    have hB := book_Ok hd (by omega)
    obtain ⟨bk, rfl, hbk⟩ := book_bk hd
    obtain ⟨bk3, rfl, hbk3⟩ := book_bk hd3
    obtain ⟨w1, w2, w3, w4, w5, w6⟩ := wholes_fine n1 (by omega) hd rfl
    obtain ⟨v1, v2, v3, v4, v5, v6⟩ := wholes_fine n1 (by omega) hd3 rfl
    -- most
    refine ⟨fun ρ => ∃ t, BestIs ns bk bk bk3 t ∧ ρ = st (.d (.int a)) (.d (.int (0 + (i : Nat)))) (.d (.int (n : Nat))) (.d (bkD bk3)) (.d (.int (spanT ns t : Nat))) a7 a8 a9 a10 (.d (.tuple (ns.map PyData.int))) (.d (bkD bk)) a13 a14 a15 a16 a17 a18, ?_, ?_⟩
    · show aAsg _ _ _ _ [_, _, _, _, _, _, _, _, _, _, _, _, _, _, _, _, _, _, _]
      simp! only [c__law_reach]
      refine ⟨ns, bk, bk, bk3, rfl, rfl, rfl, rfl, by omega, hn6, fun b hb => ?_, fun t ht => ?_⟩
      · rw [hl]
        rcases hb with rfl | rfl | rfl
        · exact ⟨w1, w2, w3, w6⟩
        · exact ⟨w1, w2, w3, w6⟩
        · exact ⟨v1, v2, v3, v6⟩
      · have b0 : atI (bestD ns t) 0 = some (.int (spanT ns t : Nat)) := atI_nat (j := 0) rfl
        simp! only [b0]
        exact ⟨⟨t, ht, rfl⟩, ⟨t, ht, rfl⟩⟩
    rintro ρ ⟨t, ht, rfl⟩
    have inR : ∀ j ∈ leftN ns.length (t.1 ++ t.2.1 ++ t.2.2), j < ns.length := fun j hj => List.mem_range.mp (List.mem_filter.mp hj).1
    have sd : spanT ns t ∣ 420 := spanM_dvd _ fun j hj => by
      have := hn _ (mAt_in (inR j hj))
      obtain ⟨q, eq⟩ : ∃ q, q = (mAt ns j).natAbs := ⟨_, rfl⟩
      rw [← eq]
      have : q = 2 ∨ q = 3 ∨ q = 4 ∨ q = 5 ∨ q = 6 ∨ q = 7 := by omega
      rcases this with rfl | rfl | rfl | rfl | rfl | rfl <;> decide
    have s1 : 1 ≤ spanT ns t := (spanM_pos hn6 _ inR).1
    have s420 := Nat.le_of_dvd (by decide) sd
    -- many
    refine ⟨fun ρ => ∃ many : Int, 1 ≤ many ∧ many ≤ (spanT ns t : Nat) ∧ ρ = st (.d (.int a)) (.d (.int (0 + (i : Nat)))) (.d (.int (n : Nat))) (.d (bkD bk3)) (.d (.int (spanT ns t : Nat))) (.d (.int many)) a8 a9 a10 (.d (.tuple (ns.map PyData.int))) (.d (bkD bk)) a13 a14 a15 a16 a17 a18, ?_, ?_⟩
    · show aAsg _ _ _ _ [_, _, _, _, _, _, _, _, _, _, _, _, _, _, _, _, _, _, _]
      simp! only [c__law_pick, c__law_draw]
      refine ⟨small_of (by omega) (by omega), fun r r0 r1 x hx => ?_⟩
      simp only [List.isEmpty_cons,List.isEmpty_nil,ends0,ends1,wipeA,List.map,List.set,List.cons_append,List.nil_append,List.length_cons,List.length_nil,ite_true,ite_false,Bool.not_true,Bool.not_false,Bool.true_and,Bool.and_true,Bool.false_and,Bool.and_false,reduceIte,reduceCtorEq,Bool.false_eq_true,if_true,if_false,Nat.reduceAdd,Nat.reduceLeDiff,ne_eq,not_false_eq_true,eq_self,not_true_eq_false,Nat.reduceSub,Nat.reduceMul,Nat.reduceLT,Nat.reducePow,Int.reduceLE,Int.reduceLT,Int.reduceAdd,Int.reduceSub,Int.reduceMul,Int.reduceNeg,Int.reducePow,Int.reduceToNat,Int.reduceEq,Int.reduceBEq,Option.some.injEq,exists_eq_left',exists_eq_left,true_and,and_true,decide_true,decide_false,Nat.reduceBEq,Bool.or_true,Bool.true_or,Bool.or_false,Bool.false_or,aVar_e,aC_e,aRaw_e,aOp_e,aUn_e,aNot_e,aAnd_e,aOr_e,aChain_e,aTern_e,aNil_e,aCons_e,aTup_e,aLst_e,aB_e,tAndA_e,tOrA_e,tNotA_e,aCB_e,aCall_e,aCallK_e,aSl_e,aNoP_e,aCall0_e,gN_e,aNext_e,aSeq_e,aBrk_e,aCnt_e,aDrop_e,aRet_e,aRetN_e,aIfS_e,aAsg_e,aAug_e,aPar_e,aFor_e,aWhile_e,aYes_e,aIter_e,aEnum_e,aRange1_e,aRange2_e,aZip_e,aZipTL_e,aApp_e,aPopAt_e,aPop_e,aLenV_e,aIxV_e,aEqNilV_e,aTupV_e,aDnew_e,aListRg_e,aComp_e,aZip3T_e,aCallK0_e,gSetV_e,on_d,on_own,bl_b,it_i,ow_o,isOwn_o,seq_t,seq_l,seq_o,lst_l,lst_o,tup_t,same_t,same_l,one_1,fz_d,fz_r,fz_o,look_d,look_r,look_o,unA_0,unA_s,sl_0,sl_s,ons_n,ons_c,gI0_i,gI_i,gU_i,gIsN_n,gNotN_n,isNone_n,isNone_i,isNone_b,isNone_s,isNone_t,isNone_l,gEq_s,gNe_s,gIn_l,gIn_t,gNotIn_l,gNotIn_t,gIx_t,gIx_l,gCat_i,gCat_t,gCat_l,gMul_i,gMul_t,gMul_l,gCut_t,gCut_l,gP_x,intD_n,intD_b,intD_i,intD_s,intD_l,intD_t,intD_d,boolD_n,boolD_b,boolD_i,boolD_s,boolD_l,boolD_t,boolD_d,strD_n,strD_b,strD_i,strD_s,strD_l,strD_t,strD_d,tupD_n,tupD_b,tupD_i,tupD_s,tupD_l,tupD_t,tupD_d,wholeD_n,wholeD_b,wholeD_i,wholeD_s,wholeD_l,wholeD_t,wholeD_d,gLen_1,gTuple_1,gList_1,gInt_i,gInt_b,gAbs_i,gRepr_x,gAll_l,gAny_l,gSum_l,gGcd_i,gSorted_l,cDraw_1,two_1,three_1,cPick_1,gMax2_i,gMin2_i,gEqS_s,isStr_s,gNil_n,gCons_c,gT_t,gL_o,gL_l,at1_0,at2_0,at2_1,at3_0,at3_1,at3_2,cpow_e,cast_lit,abs_lit,aPart_e,gMax1_l,gMax1_t,gMin1_l,gMin1_t,gInS_t,gEqNil_t,MaxR,MinR,aLend_e,argsV_n,argsV_c,dat_d,dat_r,nl_d,gSortedT_l,gLeT_t,aInV_e,aTupRg_e,gRev_t,gStr_i,aRevI_e,aDown_e,aCompV_e,gEq_nl,gNe_nl,gEq_nt,gNe_nt,gNeNil_t,aLendX_e,intd_i,rdAll_n,rdAll_c,rd_d,rd_r,rd_o,gNilL_t,gNilL_f,aLe3_e,gNiS_t,aPar3_e,three_e,gRepF3_t,gLcm_i,aBits_e,aSortSet_e,aComp2_e,aMaxDef_e,aListRg2_e,aDNewT_e,aDNewK_e,aDGetT_e,aDInT_e,gDPutT_e,aDLenT_e,aDListT_e,aDGetK_e,aDInK_e,gDPutK_e,aDLenK_e,aDListK_e,isD_t,isD_k,dtd_o,dkd_o,keyK_i,keyK_s,keyT_t,aRaise_e,aRaise1_e,aTryAs_e,aTry_e,aXf_e,aIsX_e,aMeth_e,aNewRow_e,isRow_r,fz_row,look_row,look_rowL,look_exc,look_dt,look_dk,fz_rowL,fz_exc,aDisp1T_e,aTru_e,aTruV_e,truD_t,truD_l,truD_b,truD_n,truD_i,gEq_i,gNe_i,List.mem_cons,List.not_mem_nil,or_false,forall_eq_or_imp,forall_eq] at hx
      rcases hx with rfl | rfl | rfl
      · exact ⟨_, by omega, by omega, rfl⟩
      · exact ⟨_, by omega, by omega, rfl⟩
      · exact ⟨_, by omega, by omega, rfl⟩
    rintro ρ ⟨many, m1, m2, rfl⟩
    -- low
    refine ⟨fun ρ => ∃ low : Int, low.natAbs ≤ 10 ^ 60 ∧ ρ = st (.d (.int a)) (.d (.int (0 + (i : Nat)))) (.d (.int (n : Nat))) (.d (bkD bk3)) (.d (.int (spanT ns t : Nat))) (.d (.int many)) (.d (.int low)) a9 a10 (.d (.tuple (ns.map PyData.int))) (.d (bkD bk)) a13 a14 a15 a16 a17 a18, ?_, ?_⟩
    · show aAsg _ _ _ _ [_, _, _, _, _, _, _, _, _, _, _, _, _, _, _, _, _, _, _]
      simp! only [c__law_pick, c__law_draw]
      refine ⟨small_of (by decide) (by decide), fun r r0 r1 => ⟨small_of (by decide) (by decide), fun q q0 q1 x hx => ?_⟩⟩
      simp only [List.isEmpty_cons,List.isEmpty_nil,ends0,ends1,wipeA,List.map,List.set,List.cons_append,List.nil_append,List.length_cons,List.length_nil,ite_true,ite_false,Bool.not_true,Bool.not_false,Bool.true_and,Bool.and_true,Bool.false_and,Bool.and_false,reduceIte,reduceCtorEq,Bool.false_eq_true,if_true,if_false,Nat.reduceAdd,Nat.reduceLeDiff,ne_eq,not_false_eq_true,eq_self,not_true_eq_false,Nat.reduceSub,Nat.reduceMul,Nat.reduceLT,Nat.reducePow,Int.reduceLE,Int.reduceLT,Int.reduceAdd,Int.reduceSub,Int.reduceMul,Int.reduceNeg,Int.reducePow,Int.reduceToNat,Int.reduceEq,Int.reduceBEq,Option.some.injEq,exists_eq_left',exists_eq_left,true_and,and_true,decide_true,decide_false,Nat.reduceBEq,Bool.or_true,Bool.true_or,Bool.or_false,Bool.false_or,aVar_e,aC_e,aRaw_e,aOp_e,aUn_e,aNot_e,aAnd_e,aOr_e,aChain_e,aTern_e,aNil_e,aCons_e,aTup_e,aLst_e,aB_e,tAndA_e,tOrA_e,tNotA_e,aCB_e,aCall_e,aCallK_e,aSl_e,aNoP_e,aCall0_e,gN_e,aNext_e,aSeq_e,aBrk_e,aCnt_e,aDrop_e,aRet_e,aRetN_e,aIfS_e,aAsg_e,aAug_e,aPar_e,aFor_e,aWhile_e,aYes_e,aIter_e,aEnum_e,aRange1_e,aRange2_e,aZip_e,aZipTL_e,aApp_e,aPopAt_e,aPop_e,aLenV_e,aIxV_e,aEqNilV_e,aTupV_e,aDnew_e,aListRg_e,aComp_e,aZip3T_e,aCallK0_e,gSetV_e,on_d,on_own,bl_b,it_i,ow_o,isOwn_o,seq_t,seq_l,seq_o,lst_l,lst_o,tup_t,same_t,same_l,one_1,fz_d,fz_r,fz_o,look_d,look_r,look_o,unA_0,unA_s,sl_0,sl_s,ons_n,ons_c,gI0_i,gI_i,gU_i,gIsN_n,gNotN_n,isNone_n,isNone_i,isNone_b,isNone_s,isNone_t,isNone_l,gEq_s,gNe_s,gIn_l,gIn_t,gNotIn_l,gNotIn_t,gIx_t,gIx_l,gCat_i,gCat_t,gCat_l,gMul_i,gMul_t,gMul_l,gCut_t,gCut_l,gP_x,intD_n,intD_b,intD_i,intD_s,intD_l,intD_t,intD_d,boolD_n,boolD_b,boolD_i,boolD_s,boolD_l,boolD_t,boolD_d,strD_n,strD_b,strD_i,strD_s,strD_l,strD_t,strD_d,tupD_n,tupD_b,tupD_i,tupD_s,tupD_l,tupD_t,tupD_d,wholeD_n,wholeD_b,wholeD_i,wholeD_s,wholeD_l,wholeD_t,wholeD_d,gLen_1,gTuple_1,gList_1,gInt_i,gInt_b,gAbs_i,gRepr_x,gAll_l,gAny_l,gSum_l,gGcd_i,gSorted_l,cDraw_1,two_1,three_1,cPick_1,gMax2_i,gMin2_i,gEqS_s,isStr_s,gNil_n,gCons_c,gT_t,gL_o,gL_l,at1_0,at2_0,at2_1,at3_0,at3_1,at3_2,cpow_e,cast_lit,abs_lit,aPart_e,gMax1_l,gMax1_t,gMin1_l,gMin1_t,gInS_t,gEqNil_t,MaxR,MinR,aLend_e,argsV_n,argsV_c,dat_d,dat_r,nl_d,gSortedT_l,gLeT_t,aInV_e,aTupRg_e,gRev_t,gStr_i,aRevI_e,aDown_e,aCompV_e,gEq_nl,gNe_nl,gEq_nt,gNe_nt,gNeNil_t,aLendX_e,intd_i,rdAll_n,rdAll_c,rd_d,rd_r,rd_o,gNilL_t,gNilL_f,aLe3_e,gNiS_t,aPar3_e,three_e,gRepF3_t,gLcm_i,aBits_e,aSortSet_e,aComp2_e,aMaxDef_e,aListRg2_e,aDNewT_e,aDNewK_e,aDGetT_e,aDInT_e,gDPutT_e,aDLenT_e,aDListT_e,aDGetK_e,aDInK_e,gDPutK_e,aDLenK_e,aDListK_e,isD_t,isD_k,dtd_o,dkd_o,keyK_i,keyK_s,keyT_t,aRaise_e,aRaise1_e,aTryAs_e,aTry_e,aXf_e,aIsX_e,aMeth_e,aNewRow_e,isRow_r,fz_row,look_row,look_rowL,look_exc,look_dt,look_dk,fz_rowL,fz_exc,aDisp1T_e,aTru_e,aTruV_e,truD_t,truD_l,truD_b,truD_n,truD_i,gEq_i,gNe_i,List.mem_cons,List.not_mem_nil,or_false,forall_eq_or_imp,forall_eq] at hx
      rcases hx with rfl | rfl | rfl | rfl | rfl
      · exact ⟨_, by decide +kernel, rfl⟩
      · exact ⟨_, by omega, rfl⟩
      · exact ⟨_, by omega, rfl⟩
      · exact ⟨_, by decide +kernel, rfl⟩
      · exact ⟨_, by omega, rfl⟩
    rintro ρ ⟨low, hlow, rfl⟩
    -- stretch
    refine ⟨fun ρ => ρ = st (.d (.int a)) (.d (.int (0 + (i : Nat)))) (.d (.int (n : Nat))) (.d (bkD bk3)) (.d (.int (spanT ns t : Nat))) (.d (.int many)) (.d (.int low)) (.d (.tuple [.int low, .int (low + many - 1)])) a10 (.d (.tuple (ns.map PyData.int))) (.d (bkD bk)) a13 a14 a15 a16 a17 a18, ?_, ?_⟩
    · show aAsg _ _ _ _ [_, _, _, _, _, _, _, _, _, _, _, _, _, _, _, _, _, _, _]
      simp! only []
      rfl
    rintro ρ rfl
    let St : List A → Prop := fun ρ => ∃ (a : Int) (c10 c13 c14 c15 c16 c17 c18 : A), ρ = st (.d (.int a)) (.d (.int (0 + (i : Nat)))) (.d (.int (n : Nat))) (.d (bkD bk3)) (.d (.int (spanT ns t : Nat))) (.d (.int many)) (.d (.int low)) (.d (.tuple [.int low, .int (low + many - 1)])) c10 (.d (.tuple (ns.map PyData.int))) (.d (bkD bk)) c13 c14 c15 c16 c17 c18
    show aFor _ _ _ _ _ [_, _, _, _, _, _, _, _, _, _, _, _, _, _, _, _, _, _, _]
    simp! only [c__law_pick, c__law_draw]
    refine ⟨small_of (by omega) (by omega), fun r r0 r1 x hx => ⟨div_okS (by decide) (by decide +kernel), ?_⟩⟩
    have hx : ∃ y, x = .int y ∧ low ≤ y ∧ y ≤ low + many - 1 := by
      simp only [List.isEmpty_cons,List.isEmpty_nil,ends0,ends1,wipeA,List.map,List.set,List.cons_append,List.nil_append,List.length_cons,List.length_nil,ite_true,ite_false,Bool.not_true,Bool.not_false,Bool.true_and,Bool.and_true,Bool.false_and,Bool.and_false,reduceIte,reduceCtorEq,Bool.false_eq_true,if_true,if_false,Nat.reduceAdd,Nat.reduceLeDiff,ne_eq,not_false_eq_true,eq_self,not_true_eq_false,Nat.reduceSub,Nat.reduceMul,Nat.reduceLT,Nat.reducePow,Int.reduceLE,Int.reduceLT,Int.reduceAdd,Int.reduceSub,Int.reduceMul,Int.reduceNeg,Int.reducePow,Int.reduceToNat,Int.reduceEq,Int.reduceBEq,Option.some.injEq,exists_eq_left',exists_eq_left,true_and,and_true,decide_true,decide_false,Nat.reduceBEq,Bool.or_true,Bool.true_or,Bool.or_false,Bool.false_or,aVar_e,aC_e,aRaw_e,aOp_e,aUn_e,aNot_e,aAnd_e,aOr_e,aChain_e,aTern_e,aNil_e,aCons_e,aTup_e,aLst_e,aB_e,tAndA_e,tOrA_e,tNotA_e,aCB_e,aCall_e,aCallK_e,aSl_e,aNoP_e,aCall0_e,gN_e,aNext_e,aSeq_e,aBrk_e,aCnt_e,aDrop_e,aRet_e,aRetN_e,aIfS_e,aAsg_e,aAug_e,aPar_e,aFor_e,aWhile_e,aYes_e,aIter_e,aEnum_e,aRange1_e,aRange2_e,aZip_e,aZipTL_e,aApp_e,aPopAt_e,aPop_e,aLenV_e,aIxV_e,aEqNilV_e,aTupV_e,aDnew_e,aListRg_e,aComp_e,aZip3T_e,aCallK0_e,gSetV_e,on_d,on_own,bl_b,it_i,ow_o,isOwn_o,seq_t,seq_l,seq_o,lst_l,lst_o,tup_t,same_t,same_l,one_1,fz_d,fz_r,fz_o,look_d,look_r,look_o,unA_0,unA_s,sl_0,sl_s,ons_n,ons_c,gI0_i,gI_i,gU_i,gIsN_n,gNotN_n,isNone_n,isNone_i,isNone_b,isNone_s,isNone_t,isNone_l,gEq_s,gNe_s,gIn_l,gIn_t,gNotIn_l,gNotIn_t,gIx_t,gIx_l,gCat_i,gCat_t,gCat_l,gMul_i,gMul_t,gMul_l,gCut_t,gCut_l,gP_x,intD_n,intD_b,intD_i,intD_s,intD_l,intD_t,intD_d,boolD_n,boolD_b,boolD_i,boolD_s,boolD_l,boolD_t,boolD_d,strD_n,strD_b,strD_i,strD_s,strD_l,strD_t,strD_d,tupD_n,tupD_b,tupD_i,tupD_s,tupD_l,tupD_t,tupD_d,wholeD_n,wholeD_b,wholeD_i,wholeD_s,wholeD_l,wholeD_t,wholeD_d,gLen_1,gTuple_1,gList_1,gInt_i,gInt_b,gAbs_i,gRepr_x,gAll_l,gAny_l,gSum_l,gGcd_i,gSorted_l,cDraw_1,two_1,three_1,cPick_1,gMax2_i,gMin2_i,gEqS_s,isStr_s,gNil_n,gCons_c,gT_t,gL_o,gL_l,at1_0,at2_0,at2_1,at3_0,at3_1,at3_2,cpow_e,cast_lit,abs_lit,aPart_e,gMax1_l,gMax1_t,gMin1_l,gMin1_t,gInS_t,gEqNil_t,MaxR,MinR,aLend_e,argsV_n,argsV_c,dat_d,dat_r,nl_d,gSortedT_l,gLeT_t,aInV_e,aTupRg_e,gRev_t,gStr_i,aRevI_e,aDown_e,aCompV_e,gEq_nl,gNe_nl,gEq_nt,gNe_nt,gNeNil_t,aLendX_e,intd_i,rdAll_n,rdAll_c,rd_d,rd_r,rd_o,gNilL_t,gNilL_f,aLe3_e,gNiS_t,aPar3_e,three_e,gRepF3_t,gLcm_i,aBits_e,aSortSet_e,aComp2_e,aMaxDef_e,aListRg2_e,aDNewT_e,aDNewK_e,aDGetT_e,aDInT_e,gDPutT_e,aDLenT_e,aDListT_e,aDGetK_e,aDInK_e,gDPutK_e,aDLenK_e,aDListK_e,isD_t,isD_k,dtd_o,dkd_o,keyK_i,keyK_s,keyT_t,aRaise_e,aRaise1_e,aTryAs_e,aTry_e,aXf_e,aIsX_e,aMeth_e,aNewRow_e,isRow_r,fz_row,look_row,look_rowL,look_exc,look_dt,look_dk,fz_rowL,fz_exc,aDisp1T_e,aTru_e,aTruV_e,truD_t,truD_l,truD_b,truD_n,truD_i,gEq_i,gNe_i,List.mem_cons,List.not_mem_nil,or_false,forall_eq_or_imp,forall_eq] at hx
      rcases hx with rfl | rfl
      · exact ⟨_, rfl, by omega, by omega⟩
      · exact ⟨_, rfl, by omega, by omega⟩
    have hN : ∀ d ∈ Sx.cutD [PyData.int (low + r), x] (some ((0 + ((i : Nat) : Int)) / 2)) none, ∃ y, d = .int y ∧ low ≤ y ∧ y ≤ low + many - 1 := fun d hd => by
      have hd := List.mem_of_mem_drop (List.mem_of_mem_take hd)
      simp only [List.isEmpty_cons,List.isEmpty_nil,ends0,ends1,wipeA,List.map,List.set,List.cons_append,List.nil_append,List.length_cons,List.length_nil,ite_true,ite_false,Bool.not_true,Bool.not_false,Bool.true_and,Bool.and_true,Bool.false_and,Bool.and_false,reduceIte,reduceCtorEq,Bool.false_eq_true,if_true,if_false,Nat.reduceAdd,Nat.reduceLeDiff,ne_eq,not_false_eq_true,eq_self,not_true_eq_false,Nat.reduceSub,Nat.reduceMul,Nat.reduceLT,Nat.reducePow,Int.reduceLE,Int.reduceLT,Int.reduceAdd,Int.reduceSub,Int.reduceMul,Int.reduceNeg,Int.reducePow,Int.reduceToNat,Int.reduceEq,Int.reduceBEq,Option.some.injEq,exists_eq_left',exists_eq_left,true_and,and_true,decide_true,decide_false,Nat.reduceBEq,Bool.or_true,Bool.true_or,Bool.or_false,Bool.false_or,aVar_e,aC_e,aRaw_e,aOp_e,aUn_e,aNot_e,aAnd_e,aOr_e,aChain_e,aTern_e,aNil_e,aCons_e,aTup_e,aLst_e,aB_e,tAndA_e,tOrA_e,tNotA_e,aCB_e,aCall_e,aCallK_e,aSl_e,aNoP_e,aCall0_e,gN_e,aNext_e,aSeq_e,aBrk_e,aCnt_e,aDrop_e,aRet_e,aRetN_e,aIfS_e,aAsg_e,aAug_e,aPar_e,aFor_e,aWhile_e,aYes_e,aIter_e,aEnum_e,aRange1_e,aRange2_e,aZip_e,aZipTL_e,aApp_e,aPopAt_e,aPop_e,aLenV_e,aIxV_e,aEqNilV_e,aTupV_e,aDnew_e,aListRg_e,aComp_e,aZip3T_e,aCallK0_e,gSetV_e,on_d,on_own,bl_b,it_i,ow_o,isOwn_o,seq_t,seq_l,seq_o,lst_l,lst_o,tup_t,same_t,same_l,one_1,fz_d,fz_r,fz_o,look_d,look_r,look_o,unA_0,unA_s,sl_0,sl_s,ons_n,ons_c,gI0_i,gI_i,gU_i,gIsN_n,gNotN_n,isNone_n,isNone_i,isNone_b,isNone_s,isNone_t,isNone_l,gEq_s,gNe_s,gIn_l,gIn_t,gNotIn_l,gNotIn_t,gIx_t,gIx_l,gCat_i,gCat_t,gCat_l,gMul_i,gMul_t,gMul_l,gCut_t,gCut_l,gP_x,intD_n,intD_b,intD_i,intD_s,intD_l,intD_t,intD_d,boolD_n,boolD_b,boolD_i,boolD_s,boolD_l,boolD_t,boolD_d,strD_n,strD_b,strD_i,strD_s,strD_l,strD_t,strD_d,tupD_n,tupD_b,tupD_i,tupD_s,tupD_l,tupD_t,tupD_d,wholeD_n,wholeD_b,wholeD_i,wholeD_s,wholeD_l,wholeD_t,wholeD_d,gLen_1,gTuple_1,gList_1,gInt_i,gInt_b,gAbs_i,gRepr_x,gAll_l,gAny_l,gSum_l,gGcd_i,gSorted_l,cDraw_1,two_1,three_1,cPick_1,gMax2_i,gMin2_i,gEqS_s,isStr_s,gNil_n,gCons_c,gT_t,gL_o,gL_l,at1_0,at2_0,at2_1,at3_0,at3_1,at3_2,cpow_e,cast_lit,abs_lit,aPart_e,gMax1_l,gMax1_t,gMin1_l,gMin1_t,gInS_t,gEqNil_t,MaxR,MinR,aLend_e,argsV_n,argsV_c,dat_d,dat_r,nl_d,gSortedT_l,gLeT_t,aInV_e,aTupRg_e,gRev_t,gStr_i,aRevI_e,aDown_e,aCompV_e,gEq_nl,gNe_nl,gEq_nt,gNe_nt,gNeNil_t,aLendX_e,intd_i,rdAll_n,rdAll_c,rd_d,rd_r,rd_o,gNilL_t,gNilL_f,aLe3_e,gNiS_t,aPar3_e,three_e,gRepF3_t,gLcm_i,aBits_e,aSortSet_e,aComp2_e,aMaxDef_e,aListRg2_e,aDNewT_e,aDNewK_e,aDGetT_e,aDInT_e,gDPutT_e,aDLenT_e,aDListT_e,aDGetK_e,aDInK_e,gDPutK_e,aDLenK_e,aDListK_e,isD_t,isD_k,dtd_o,dkd_o,keyK_i,keyK_s,keyT_t,aRaise_e,aRaise1_e,aTryAs_e,aTry_e,aXf_e,aIsX_e,aMeth_e,aNewRow_e,isRow_r,fz_row,look_row,look_rowL,look_exc,look_dt,look_dk,fz_rowL,fz_exc,aDisp1T_e,aTru_e,aTruV_e,truD_t,truD_l,truD_b,truD_n,truD_i,gEq_i,gNe_i,List.mem_cons,List.not_mem_nil,or_false,forall_eq_or_imp,forall_eq] at hd
      rcases hd with rfl | rfl
      · exact ⟨_, rfl, by omega, by omega⟩
      · exact hx
    generalize Sx.cutD [PyData.int (low + r), x] (some ((0 + ((i : Nat) : Int)) / 2)) none = Ns at hN
    refine ⟨fun _ ρ => St ρ, ⟨a, ⟨_, _, _, _, _, _, _, rfl⟩⟩, ?_, ?_⟩
    · rintro k ρ hk ⟨a, c10, c13, c14, c15, c16, c17, c18, rfl⟩
      obtain ⟨y, ey, y1, y2⟩ := hN _ (List.mem_of_getElem? (getD_some PyData.none hk))
      rw [ey]
      show gN _ _ [_, _, _, _, _, _, _, _, _, _, _, _, _, _, _, _, _, _, _] _ _
      simp! only []
      refine ⟨fun ρ => ∃ L ∈ wholesL n bk, ρ = st (.d (.int a)) (.d (.int (0 + (i : Nat)))) (.d (.int (n : Nat))) (.d (bkD bk3)) (.d (.int (spanT ns t : Nat))) (.d (.int many)) (.d (.int low)) (.d (.tuple [.int low, .int (low + many - 1)])) (.d (.int y)) (.d (.tuple (ns.map PyData.int))) (.d (bkD bk)) (.d (tI L)) c14 c15 c16 c17 c18, ?_, ?_⟩
      · simp! only [c__law_pick, c__law_wholes]
        refine ⟨bk, n, rfl, rfl, by omega, w6, ?pa, ?pa⟩
        exact ⟨fun z => w1 (List.map_eq_nil_iff.mp z), by rw [List.length_map]; omega, fun x hx => by obtain ⟨L, hL, rfl⟩ := List.mem_map.mp hx; exact ⟨L, hL, rfl⟩⟩
      rintro ρ ⟨L, hL, rfl⟩
      refine ⟨fun ρ => ∃ S ∈ wholesL n bk3, ρ = st (.d (.int a)) (.d (.int (0 + (i : Nat)))) (.d (.int (n : Nat))) (.d (bkD bk3)) (.d (.int (spanT ns t : Nat))) (.d (.int many)) (.d (.int low)) (.d (.tuple [.int low, .int (low + many - 1)])) (.d (.int y)) (.d (.tuple (ns.map PyData.int))) (.d (bkD bk)) (.d (tI L)) (.d (tI S)) c15 c16 c17 c18, ?_, ?_⟩
      · show aAsg _ _ _ _ [_, _, _, _, _, _, _, _, _, _, _, _, _, _, _, _, _, _, _]
        simp! only [c__law_pick, c__law_wholes]
        refine ⟨bk3, n, rfl, rfl, by omega, v6, ?pb, ?pb⟩
        exact ⟨fun z => v1 (List.map_eq_nil_iff.mp z), by rw [List.length_map]; omega, fun x hx => by obtain ⟨L, hL, rfl⟩ := List.mem_map.mp hx; exact ⟨L, hL, rfl⟩⟩
      rintro ρ ⟨S, hS, rfl⟩
      have e0 := rests_eq ns y
      refine ⟨fun ρ => ρ = st (.d (.int a)) (.d (.int (0 + (i : Nat)))) (.d (.int (n : Nat))) (.d (bkD bk3)) (.d (.int (spanT ns t : Nat))) (.d (.int many)) (.d (.int low)) (.d (.tuple [.int low, .int (low + many - 1)])) (.d (.int y)) (.d (.tuple (ns.map PyData.int))) (.d (bkD bk)) (.d (tI L)) (.d (tI S)) (.own [.int y, .tuple (ns.map fun n => .int (y % n))]) c16 c17 c18, ?_, ?_⟩
      · show aAsg _ _ _ _ [_, _, _, _, _, _, _, _, _, _, _, _, _, _, _, _, _, _, _]
        simp! only [c__law_rests]
        exact ⟨ns, y, rfl, rfl, by omega, fun m hm => (hn m hm).1, rfl⟩
      rintro ρ rfl
      let D : List PyData := [.int y, .tuple (ns.map fun n => .int (y % n))]
      let Sw : List A → Prop := fun ρ => ∃ (a : Int) (c15 c16 c17 c18 : A), (c15 = .own D ∨ c15 = .d (.list D)) ∧ ρ = st (.d (.int a)) (.d (.int (0 + (i : Nat)))) (.d (.int (n : Nat))) (.d (bkD bk3)) (.d (.int (spanT ns t : Nat))) (.d (.int many)) (.d (.int low)) (.d (.tuple [.int low, .int (low + many - 1)])) (.d (.int y)) (.d (.tuple (ns.map PyData.int))) (.d (bkD bk)) (.d (tI L)) (.d (tI S)) c15 c16 c17 c18
      show aFor _ _ _ _ _ [_, _, _, _, _, _, _, _, _, _, _, _, _, _, _, _, _, _, _]
      have wrd : ∀ (Q : A → Prop) (q : Nat), (∀ wss : List (List (Option Int)), (∀ ws ∈ wss, WordFor ns y L S ws) → Q (.d (.list (wss.map fun ws => .tuple (ws.map oD))))) → c__law_words dk [.raw dk, .d (.tuple (ns.map PyData.int)), .d (.int y), .d (tI L), .d (tI S), .d (.int (q : Nat))] Q fun _ => False := fun Q q h => ⟨rfl, ns, y, L, S, q, rfl, rfl, rfl, rfl, rfl, by omega, hn, by rw [hl]; exact w4 L hL, by have := w5 L hL; omega, h⟩
      let W : Int → A → A → A → A → List A := fun a c15 c16 c17 c18 => st (.d (.int a)) (.d (.int (0 + (i : Nat)))) (.d (.int (n : Nat))) (.d (bkD bk3)) (.d (.int (spanT ns t : Nat))) (.d (.int many)) (.d (.int low)) (.d (.tuple [.int low, .int (low + many - 1)])) (.d (.int y)) (.d (.tuple (ns.map PyData.int))) (.d (bkD bk)) (.d (tI L)) (.d (tI S)) c15 c16 c17 c18
      have sD : Shows (.list D) := by
        refine ((okAll_all (n := 12) (k := 2) fun d hd => ?_).lst).shows (by show 1 + 2 * 12 ≤ 50000; decide) (by decide)
        rcases List.mem_cons.mp hd with rfl | hd
        · exact (Ok.small (k := 1) (show y.natAbs ≤ 10 ^ 120 by have e : (2 * 10 ^ 60 : Nat) ≤ 10 ^ 120 := by decide +kernel
                                                                omega)).ge (by decide) (by decide)
        · rw [List.mem_singleton.mp hd, e0]
          exact (word_Ok (wd_rests y (by omega) hn6)).ge (by decide) (by decide)
      obtain ⟨K, hK⟩ : ∃ K : List (Option Int) → Str, ∀ ws, K ws = (PyData.list [.tuple (ns.map PyData.int), .tuple (ws.map oD), .tuple [.int low, .int (low + many - 1)], bkD bk]).shown := ⟨_, fun _ => rfl⟩
      simp! only []
      generalize decide ((0 : Int) + ((i : Nat) : Int) < 2) = cc
      cases cc <;> simp! only []
      all_goals
        refine wrd _ _ fun wss hw => ?_
        simp! only []
        refine ⟨fun _ ρ => Sw ρ, ⟨a, _, c16, c17, c18, .inl rfl, rfl⟩, ?_, ?_⟩
        · rintro u ρ hu ⟨a, c15, c16, c17, c18, hD, rfl⟩
          obtain ⟨ws, hws, ew⟩ := List.mem_map.mp (List.mem_of_getElem? (getD_some PyData.none hu))
          rw [← ew]
          have hW := hw ws hws
          have w := hW.1
          have ho : (⟨ns, ws, low, low + many - 1⟩ : Rw).ok := rw_ok w (by omega) (by omega) (by omega)
          have one : OneCand ⟨ns, ws, low, low + many - 1⟩ bk y := one_for ho (by rw [hl]; exact w6) (by rw [hl]; exact hL) (by rw [hl]; exact hS) hW y1 y2 ht (by omega)
          have sK := (kept_Ok (lo := low) (hi := low + many - 1) w (by omega) (by omega) hB).shows (by decide) (by decide)
          show gN _ _ [_, _, _, _, _, _, _, _, _, _, _, _, _, _, _, _, _, _, _] _ _
          simp! only []
          refine ⟨fun ρ => ρ = W (a + 1) c15 (.d (.tuple (ws.map oD))) (.d (.str (K ws))) c18, ?_, ?_⟩
          · simp! only []
            exact ⟨sK, by rw [← hK]⟩
          rintro ρ rfl
          refine ⟨fun ρ => ∃ c15, (c15 = .own D ∨ c15 = .d (.list D)) ∧ ρ = W (a + 1) c15 (.d (.tuple (ws.map oD))) (.d (.str (K ws))) c18, ?_, ?_⟩
          · show aIfS _ _ _ _ _ [_, _, _, _, _, _, _, _, _, _, _, _, _, _, _, _, _, _, _]
            rcases hD with rfl | rfl <;> simp! only [c__law_told]
            all_goals
              refine ⟨⟨ns, ws, low, low + many - 1⟩, bk, _, y, rfl, rfl, rfl, rfl, rfl, ho, hbk, one, ?_⟩
              simp! only []
              refine ⟨sD, sD, ?_⟩
              rw [if_neg (show ¬ ((!((PyData.list D).shown == (PyData.list D).shown)) = true) by rw [beq_self_eq_true]; decide)]
              exact ⟨_, .inr rfl, rfl⟩
          rintro ρ ⟨c15, hD, rfl⟩
          refine ⟨fun ρ => ∃ z, IsNear ⟨ns, ws, low, low + many - 1⟩ z ∧ ρ = W (a + 1) c15 (.d (.tuple (ws.map oD))) (.d (.str (K ws))) (.d (.tuple [.int ((strN ns ws z).length : Nat), .int z])), ?_, ?_⟩
          · show aIfS _ _ _ _ _ [_, _, _, _, _, _, _, _, _, _, _, _, _, _, _, _, _, _, _]
            simp! only [c_nearest, g_nearest_stretch_word_machine]
            split
            all_goals
              exact ⟨⟨ns, ws, low, low + many - 1⟩, rfl, rfl, rfl, ho, fun z hz => ⟨z, hz, rfl⟩⟩
          rintro ρ ⟨z, hz, rfl⟩
          show aIfS _ _ _ _ _ [_, _, _, _, _, _, _, _, _, _, _, _, _, _, _, _, _, _, _]
          simp! only [c__law_astray]
          refine ⟨ns, ws, y, rfl, rfl, rfl, w.1, by omega, fun n hm => (hn n hm).1, ?_⟩
          have hz' := hz.2.2 y y1 y2
          have hz' : (strN ns ws z).length < (strN ns ws y).length ∨ ((strN ns ws z).length = (strN ns ws y).length ∧ z ≤ y) := hz'
          simp! only [List.length_map]
          rw [decide_eq_false (by omega), if_neg (by decide), ← hK]
          refine ⟨sK, ?_⟩
          rw [if_neg (show ¬ ((!(K ws == K ws)) = true) by rw [beq_self_eq_true]; decide)]
          exact ⟨_, _, _, _, _, hD, rfl⟩
        · rintro ρ ⟨a, c15, c16, c17, c18, hD, rfl⟩
          exact ⟨a, ⟨_, _, _, _, _, _, _, rfl⟩⟩
    · rintro ρ ⟨a, c10, c13, c14, c15, c16, c17, c18, rfl⟩
      exact ⟨a, ⟨_, _, _, _, _, _, _, _, _, _, _, _, _, _, _, _, rfl⟩⟩
  rintro ρ ⟨a, a3, a4, a5, a6, a7, a8, a9, a10, a11, a12, a13, a14, a15, a16, a17, a18, rfl⟩
  show aRet _ _ _ [_, _, _, _, _, _, _, _, _, _, _, _, _, _, _, _, _, _, _]
  simp! only []
section
variable {P : Program} {w : World} {K : PySem.W.Frag} {mg : Str → Option Value} {base : Heap} {a : Adr}
theorem ok_law (T : Txt K mg a) : FnG P w K mg base CX0 19 a.f_law a.d_law ["script"] (sp_law K) := by
  have G__law_deck : FnOk P w K mg base CX0 1 a.f__law_deck a.d__law_deck ["script"] (sp__law_deck K) := ok__law_deck T
  have G__law_pick : FnOk P w K mg base CX0 2 a.f__law_pick a.d__law_pick ["deck", "items"] (sp__law_pick K) := ok__law_pick T
  have G__law_draw : FnOk P w K mg base CX0 1 a.f__law_draw a.d__law_draw ["deck", "many"] (sp__law_draw K) := ok__law_draw T
  have G__law_machine : FnOk P w K mg base CX0 3 a.f__law_machine a.d__law_machine ["deck", "lanes", "top"] (sp__law_machine K) := ok__law_machine T
  have G__law_book : FnOk P w K mg base CX0 4 a.f__law_book a.d__law_book ["deck", "lanes"] (sp__law_book K) := ok__law_book T
  have G__law_reach : FnOk P w K mg base CX0 3 a.f__law_reach a.d__law_reach ["machine", "right", "seen", "still"] (sp__law_reach K) := ok__law_reach T
  have G__law_words : FnOk P w K mg base CX0 3 a.f__law_words a.d__law_words ["deck", "machine", "number", "lot", "still", "most"] (sp__law_words K) := ok__law_words T
  have G__law_wholes : FnOk P w K mg base CX0 1 a.f__law_wholes a.d__law_wholes ["book", "lanes"] (sp__law_wholes K) := ok__law_wholes T
  have G__law_rests : FnOk P w K mg base CX0 1 a.f__law_rests a.d__law_rests ["machine", "number"] (sp__law_rests K) := ok__law_rests T
  have G_nearest : FnOk P w K mg base CX0 15 a.f_nearest a.d_nearest ["machine", "word", "stretch"] (sp_nearest K a) := ok_nearest T
  have G__law_told : FnOk P w K mg base CX0 18 a.f__law_told a.d__law_told ["machine", "word", "stretch", "book", "is_named"] (sp__law_told K a) := ok__law_told T
  have G__law_astray : FnOk P w K mg base CX0 1 a.f__law_astray a.d__law_astray ["machine", "word", "number"] (sp__law_astray K) := ok__law_astray T
  refine Sx.okG T.law.F sc_law (fun vs H Q E h => ?_) (fun cdv A outer s H vs Q E hg hr h => ?_)
  · obtain ⟨_, _, rfl, _⟩ := h
    rfl
  · have hu := hu_of hr
    obtain ⟨s0, ns0, rfl, hS, hlen, q⟩ := h
    refine ⟨_, (pss_cons (ps_set (i := 1) sc_law.nd rfl (by first | exact Or.inl rfl | exact Or.inr rfl) (pe_call G__law_deck (hr.mono (by decide)) (by rfl) T._law_deck.m T._law_deck.F.kp T._law_deck.b .nil pass0 (pa_cons (pv 0) pa_nil)))
      (pss_cons (ps_set (i := 2) sc_law.nd rfl (by first | exact Or.inl rfl | exact Or.inr rfl) pe_int)
      (pss_cons (ps_for PassesOwn.never rfl (pi_range1 rfl T.b_range (pa_cons pe_int pa_nil)) (pg_name (i := 3) sc_law.nd rfl (by first | exact Or.inl rfl | exact Or.inr rfl)) (pss_cons (ps_set (i := 4) sc_law.nd rfl (by first | exact Or.inl rfl | exact Or.inr rfl) (pe_op (show OpR _ _ (rPlus K) from op_plus) pe_int (pe_call G__law_draw (hr.mono (by decide)) (by rfl) T._law_draw.m T._law_draw.F.kp T._law_draw.b .nil pass0 (pa_cons (pv 1) (pa_cons (pe_ifExp (pt_cmpR op_lt (pv 3) pe_int (nomark _)) pe_int pe_int) pa_nil)))))
        (pss_cons (ps_par (i := 11) (j := 12) (by rfl) sc_law.nd rfl rfl (by decide) rfl rfl (pa_cons (pe_call G__law_machine (hr.mono (by decide)) (by rfl) T._law_machine.m T._law_machine.F.kp T._law_machine.b .nil pass0 (pa_cons (pv 1) (pa_cons (pv 4) (pa_cons (pe_ifExp (pt_cmpR op_lt (pv 3) pe_int (nomark _)) pe_int pe_int) pa_nil)))) (pa_cons (pe_call G__law_book (hr.mono (by decide)) (by rfl) T._law_book.m T._law_book.F.kp T._law_book.b .nil pass0 (pa_cons (pv 1) (pa_cons (pv 4) pa_nil))) pa_nil)) (by rfl))
        (pss_cons (ps_set (i := 5) sc_law.nd rfl (by first | exact Or.inl rfl | exact Or.inr rfl) (pe_call G__law_pick (hr.mono (by decide)) (by rfl) T._law_pick.m T._law_pick.F.kp T._law_pick.b .nil pass0 (pa_cons (pv 1) (pa_cons (pe_lst (pa_cons pe_int (pa_cons pe_int (pa_cons pe_int (pa_cons (pe_call G__law_book (hr.mono (by decide)) (by rfl) T._law_book.m T._law_book.F.kp T._law_book.b .nil pass0 (pa_cons (pv 1) (pa_cons (pv 4) pa_nil))) pa_nil))))) pa_nil))))
        (pss_cons (ps_set (i := 6) sc_law.nd rfl (by first | exact Or.inl rfl | exact Or.inr rfl) (pe_ix (show IxR _ (rIx K) from ix_seq) (pe_call G__law_reach (hr.mono (by decide)) (by rfl) T._law_reach.m T._law_reach.F.kp T._law_reach.b .nil pass0 (pa_cons (pv 11) (pa_cons (pv 12) (pa_cons (pv 12) (pa_cons (pv 5) pa_nil))))) pe_int (fun _ _ => rfl)))
        (pss_cons (ps_set (i := 7) sc_law.nd rfl (by first | exact Or.inl rfl | exact Or.inr rfl) (pe_call G__law_pick (hr.mono (by decide)) (by rfl) T._law_pick.m T._law_pick.F.kp T._law_pick.b .nil pass0 (pa_cons (pv 1) (pa_cons (pe_lst (pa_cons (pv 6) (pa_cons (pv 6) (pa_cons (pe_op (show OpR _ _ (rPlus K) from op_plus) pe_int (pe_call G__law_draw (hr.mono (by decide)) (by rfl) T._law_draw.m T._law_draw.F.kp T._law_draw.b .nil pass0 (pa_cons (pv 1) (pa_cons (pv 6) pa_nil)))) pa_nil)))) pa_nil))))
        (pss_cons (ps_set (i := 8) sc_law.nd rfl (by first | exact Or.inl rfl | exact Or.inr rfl) (pe_call G__law_pick (hr.mono (by decide)) (by rfl) T._law_pick.m T._law_pick.F.kp T._law_pick.b .nil pass0 (pa_cons (pv 1) (pa_cons (pe_lst (pa_cons pe_int (pa_cons (pe_un un_neg (pe_call G__law_draw (hr.mono (by decide)) (by rfl) T._law_draw.m T._law_draw.F.kp T._law_draw.b .nil pass0 (pa_cons (pv 1) (pa_cons pe_int pa_nil)))) (pa_cons (pe_op op_sub (pe_op op_pow pe_int pe_int) (pv 7)) (pa_cons (pe_un un_neg (pe_op op_pow pe_int pe_int)) (pa_cons (pe_call G__law_draw (hr.mono (by decide)) (by rfl) T._law_draw.m T._law_draw.F.kp T._law_draw.b .nil pass0 (pa_cons (pv 1) (pa_cons (pe_op op_pow pe_int pe_int) pa_nil))) pa_nil)))))) pa_nil))))
        (pss_cons (ps_set (i := 9) sc_law.nd rfl (by first | exact Or.inl rfl | exact Or.inr rfl) (pe_tup (pa_cons (pv 8) (pa_cons (pe_op op_sub (pe_op (show OpR _ _ (rPlus K) from op_plus) (pv 8) (pv 7)) pe_int) pa_nil))))
        (pss_one (ps_for PassesOwn.never rfl (show PI _ _ _ (iAny K _) from pi_any (pe_slice (show L2.SlR _ (rCut K) from sl_cut) (pe_lst (pa_cons (pe_op (show OpR _ _ (rPlus K) from op_plus) (pv 8) (pe_call G__law_draw (hr.mono (by decide)) (by rfl) T._law_draw.m T._law_draw.F.kp T._law_draw.b .nil pass0 (pa_cons (pv 1) (pa_cons (pv 7) pa_nil)))) (pa_cons (pe_call G__law_pick (hr.mono (by decide)) (by rfl) T._law_pick.m T._law_pick.F.kp T._law_pick.b .nil pass0 (pa_cons (pv 1) (pa_cons (pe_lst (pa_cons (pv 8) (pa_cons (pe_op op_sub (pe_op (show OpR _ _ (rPlus K) from op_plus) (pv 8) (pv 7)) pe_int) pa_nil))) pa_nil))) pa_nil))) (po_some (pe_op op_fdivW (pv 3) pe_int)) po_none)) (pg_name (i := 10) sc_law.nd rfl (by first | exact Or.inl rfl | exact Or.inr rfl)) (pss_cons (ps_set (i := 13) sc_law.nd rfl (by first | exact Or.inl rfl | exact Or.inr rfl) (pe_call G__law_pick (hr.mono (by decide)) (by rfl) T._law_pick.m T._law_pick.F.kp T._law_pick.b .nil pass0 (pa_cons (pv 1) (pa_cons (pe_call G__law_wholes (hr.mono (by decide)) (by rfl) T._law_wholes.m T._law_wholes.F.kp T._law_wholes.b .nil pass0 (pa_cons (pv 12) (pa_cons (pv 4) pa_nil))) pa_nil))))
          (pss_cons (ps_set (i := 14) sc_law.nd rfl (by first | exact Or.inl rfl | exact Or.inr rfl) (pe_call G__law_pick (hr.mono (by decide)) (by rfl) T._law_pick.m T._law_pick.F.kp T._law_pick.b .nil pass0 (pa_cons (pv 1) (pa_cons (pe_call G__law_wholes (hr.mono (by decide)) (by rfl) T._law_wholes.m T._law_wholes.F.kp T._law_wholes.b .nil pass0 (pa_cons (pv 5) (pa_cons (pv 4) pa_nil))) pa_nil))))
          (pss_cons (ps_set (i := 15) sc_law.nd rfl (by first | exact Or.inl rfl | exact Or.inr rfl) (pe_lst (pa_cons (pv 10) (pa_cons (pe_call G__law_rests (hr.mono (by decide)) (by rfl) T._law_rests.m T._law_rests.F.kp T._law_rests.b .nil pass0 (pa_cons (pv 11) (pa_cons (pv 10) pa_nil))) pa_nil))))
          (pss_one (ps_for PassesOwn.never rfl (show PI _ _ _ (iAny K _) from pi_any (pe_call G__law_words (hr.mono (by decide)) (by rfl) T._law_words.m T._law_words.F.kp T._law_words.b .nil pass0 (pa_cons (pv 1) (pa_cons (pv 11) (pa_cons (pv 10) (pa_cons (pv 13) (pa_cons (pv 14) (pa_cons (pe_ifExp (pt_cmpR op_lt (pv 3) pe_int (nomark _)) pe_int pe_int) pa_nil)))))))) (pg_name (i := 16) sc_law.nd rfl (by first | exact Or.inl rfl | exact Or.inr rfl)) (pss_cons (ps_par (i := 2) (j := 17) (by rfl) sc_law.nd rfl rfl (by decide) rfl rfl (pa_cons (pe_op (show OpR _ _ (rPlus K) from op_plus) (pv 2) pe_int) (pa_cons (pe_callB (show CallR _ _ (rShowD K) from call_showD hg hr.units) (by rfl) T.b_repr (by decide +kernel) (pa_cons (pe_lst (pa_cons (pv 11) (pa_cons (pv 16) (pa_cons (pv 9) (pa_cons (pv 12) pa_nil))))) pa_nil)) pa_nil)) (by rfl))
            (pss_cons (ps_if (pt_cmpR (show OpR _ _ (rNeP K) from op_neP hr.units) (pe_callB (show CallR _ _ (rShowD K) from call_showD hg hr.units) (by rfl) T.b_repr (by decide +kernel) (pa_cons (pe_call G__law_told hr (by rfl) T._law_told.m T._law_told.F.kp T._law_told.b .nil pass0 (pa_cons (pv 11) (pa_cons (pv 16) (pa_cons (pv 9) (pa_cons (pv 12) (pa_cons (pe_cmpR (show OpR _ _ (rEqP K) from op_eqP hr.units) (pv 2) pe_int (nomark _)) pa_nil)))))) pa_nil)) (pe_callB (show CallR _ _ (rShowD K) from call_showD hg hr.units) (by rfl) T.b_repr (by decide +kernel) (pa_cons (pv 15) pa_nil)) (nomark _)) (pss_one (ps_ret pe_bl)) pss_nil)
            (pss_cons (ps_if (pt_cmpR (show OpR _ _ (rEqP K) from op_eqP hr.units) (pv 2) pe_int (nomark _)) (pss_one (ps_set (i := 18) sc_law.nd rfl (by first | exact Or.inl rfl | exact Or.inr rfl) (pe_callKs G_nearest (hr.mono (by decide)) (by rfl) T.nearest.m T.nearest.F.kp (kb_nearest_stretch_word_machine T) pass0 (pk_cons (pv 9) (pk_cons (pv 16) (pk_cons (pv 11) pk_nil)))))) (pss_one (ps_set (i := 18) sc_law.nd rfl (by first | exact Or.inl rfl | exact Or.inr rfl) (pe_call G_nearest (hr.mono (by decide)) (by rfl) T.nearest.m T.nearest.F.kp T.nearest.b .nil pass0 (pa_cons (pv 11) (pa_cons (pv 16) (pa_cons (pv 9) pa_nil)))))))
            (pss_one (ps_if (PW.pt (pw_or (pt_cmpR op_gt (pe_ix (show IxR _ (rIx K) from ix_seq) (pv 18) pe_int (fun _ _ => rfl)) (pe_callB (show CallR _ _ (Sx.rLenS K) from call_len_seq) (by rfl) T.b_len (by decide +kernel) (pa_cons (pe_call G__law_astray (hr.mono (by decide)) (by rfl) T._law_astray.m T._law_astray.F.kp T._law_astray.b .nil pass0 (pa_cons (pv 11) (pa_cons (pv 16) (pa_cons (pv 10) pa_nil)))) pa_nil)) (nomark _)) (pw_or1 (pt_cmpR (show OpR _ _ (rNeP K) from op_neP hr.units) (pe_callB (show CallR _ _ (rShowD K) from call_showD hg hr.units) (by rfl) T.b_repr (by decide +kernel) (pa_cons (pe_lst (pa_cons (pv 11) (pa_cons (pv 16) (pa_cons (pv 9) (pa_cons (pv 12) pa_nil))))) pa_nil)) (pv 17) (nomark _))))) (pss_one (ps_ret pe_bl)) pss_nil))))))))))))))))))))
      (pss_one (ps_ret pe_bl))))), ?_⟩
    refine ⟨_, rfl, s0, ns0, rfl, hS, hlen, fun b g H1 B0 => ?_⟩
    have hdk : deckOf boxD (.ref b) (rb K a.C_AgreeingRows ((boxD b g).nm (nmOf a))) := deck_rb
    have hnm : Bx.cn (rb K a.C_AgreeingRows ((boxD b g).nm (nmOf a))) = nmOf a := rfl
    have hrb : RBox K a.C_AgreeingRows (rb K a.C_AgreeingRows ((boxD b g).nm (nmOf a))) := ⟨_, fun o h1 h2 => Ds.new h1 h2, rfl⟩
    generalize hdv : V.ref b = dk at hdk ⊢
    exact law_go (B := (rb K a.C_AgreeingRows ((boxD b g).nm (nmOf a)))) (rb_start B0) (show LS (rb K a.C_AgreeingRows ((boxD b g).nm (nmOf a))) K Wno _ (b_law dk) from
      (ls_cut (ls_asg (le_c (y := .int 0) fun _ => .int _) (lg_name (i := 2)))
      (ls_cut (ls_for (li_range1 (la_cons (le_c (y := .int 4) fun _ => .int _) la_nil)) (lg_name (i := 3)) (ls_cut (ls_asg (le_op (ol_plus) (le_c (y := .int 1) fun _ => .int _) (le_call0 (dk := dk) (c := c__law_draw) hdk (la_cons (le_var (i := 1)) (la_cons (le_tern (lt_test (le_op (ol_I0 fun _ _ _ => .bl _) (le_var (i := 3)) (le_c (y := .int 2) fun _ => .int _))) (le_c (y := .int 3) fun _ => .int _) (le_c (y := .int 4) fun _ => .int _)) la_nil)))) (lg_name (i := 4)))
        (ls_cut (ls_par (la_cons (le_call0 (dk := dk) (c := c__law_machine) hdk (la_cons (le_var (i := 1)) (la_cons (le_var (i := 4)) (la_cons (le_tern (lt_test (le_op (ol_I0 fun _ _ _ => .bl _) (le_var (i := 3)) (le_c (y := .int 2) fun _ => .int _))) (le_c (y := .int 5) fun _ => .int _) (le_c (y := .int 7) fun _ => .int _)) la_nil)))) (la_cons (le_call0 (dk := dk) (c := c__law_book) hdk (la_cons (le_var (i := 1)) (la_cons (le_var (i := 4)) la_nil))) la_nil)) (by decide))
        (ls_cut (ls_asg (le_call0 (dk := dk) (c := c__law_pick) hdk (la_cons (le_var (i := 1)) (la_cons (le_lst (la_cons (le_c (y := .int 0) fun _ => .int _) (la_cons (le_c (y := .int 0) fun _ => .int _) (la_cons (le_c (y := .int 1) fun _ => .int _) (la_cons (le_call0 (dk := dk) (c := c__law_book) hdk (la_cons (le_var (i := 1)) (la_cons (le_var (i := 4)) la_nil))) la_nil)))) (by decide)) la_nil))) (lg_name (i := 5)))
        (ls_cut (ls_asg (le_op ol_ix (le_call0 (dk := dk) (c := c__law_reach) trivial (la_cons (le_var (i := 11)) (la_cons (le_var (i := 12)) (la_cons (le_var (i := 12)) (la_cons (le_var (i := 5)) la_nil))))) (le_c (y := .int 0) fun _ => .int _)) (lg_name (i := 6)))
        (ls_cut (ls_asg (le_call0 (dk := dk) (c := c__law_pick) hdk (la_cons (le_var (i := 1)) (la_cons (le_lst (la_cons (le_var (i := 6)) (la_cons (le_var (i := 6)) (la_cons (le_op (ol_plus) (le_c (y := .int 1) fun _ => .int _) (le_call0 (dk := dk) (c := c__law_draw) hdk (la_cons (le_var (i := 1)) (la_cons (le_var (i := 6)) la_nil)))) la_nil))) (by decide)) la_nil))) (lg_name (i := 7)))
        (ls_cut (ls_asg (le_call0 (dk := dk) (c := c__law_pick) hdk (la_cons (le_var (i := 1)) (la_cons (le_lst (la_cons (le_c (y := .int 0) fun _ => .int _) (la_cons (le_un (ul_U fun _ _ => .int _) (le_call0 (dk := dk) (c := c__law_draw) hdk (la_cons (le_var (i := 1)) (la_cons (le_c (y := .int 99) fun _ => .int _) la_nil)))) (la_cons (le_op (ol_I0 fun _ _ _ => .int _) (le_op (ol_I fun _ _ _ => .int _) (le_c (y := .int 10) fun _ => .int _) (le_c (y := .int 60) fun _ => .int _)) (le_var (i := 7))) (la_cons (le_un (ul_U fun _ _ => .int _) (le_op (ol_I fun _ _ _ => .int _) (le_c (y := .int 10) fun _ => .int _) (le_c (y := .int 60) fun _ => .int _))) (la_cons (le_call0 (dk := dk) (c := c__law_draw) hdk (la_cons (le_var (i := 1)) (la_cons (le_op (ol_I fun _ _ _ => .int _) (le_c (y := .int 10) fun _ => .int _) (le_c (y := .int 9) fun _ => .int _)) la_nil))) la_nil))))) (by decide)) la_nil))) (lg_name (i := 8)))
        (ls_cut (ls_asg (le_tup (la_cons (le_var (i := 8)) (la_cons (le_op (ol_I0 fun _ _ _ => .int _) (le_op (ol_plus) (le_var (i := 8)) (le_var (i := 7))) (le_c (y := .int 1) fun _ => .int _)) la_nil)) (by decide)) (lg_name (i := 9)))
        (ls_for (li_any (le_sl sll_cut (le_lst (la_cons (le_op (ol_plus) (le_var (i := 8)) (le_call0 (dk := dk) (c := c__law_draw) hdk (la_cons (le_var (i := 1)) (la_cons (le_var (i := 7)) la_nil)))) (la_cons (le_call0 (dk := dk) (c := c__law_pick) hdk (la_cons (le_var (i := 1)) (la_cons (le_lst (la_cons (le_var (i := 8)) (la_cons (le_op (ol_I0 fun _ _ _ => .int _) (le_op (ol_plus) (le_var (i := 8)) (le_var (i := 7))) (le_c (y := .int 1) fun _ => .int _)) la_nil)) (by decide)) la_nil))) la_nil)) (by decide)) (lo_some (le_op (ol_I fun _ _ _ => .int _) (le_var (i := 3)) (le_c (y := .int 2) fun _ => .int _))) lo_no)) (lg_name (i := 10)) (ls_cut (ls_asg (le_call0 (dk := dk) (c := c__law_pick) hdk (la_cons (le_var (i := 1)) (la_cons (le_call0 (dk := dk) (c := c__law_wholes) trivial (la_cons (le_var (i := 12)) (la_cons (le_var (i := 4)) la_nil))) la_nil))) (lg_name (i := 13)))
          (ls_cut (ls_asg (le_call0 (dk := dk) (c := c__law_pick) hdk (la_cons (le_var (i := 1)) (la_cons (le_call0 (dk := dk) (c := c__law_wholes) trivial (la_cons (le_var (i := 5)) (la_cons (le_var (i := 4)) la_nil))) la_nil))) (lg_name (i := 14)))
          (ls_cut (ls_asg (le_lst (la_cons (le_var (i := 10)) (la_cons (le_call0 (dk := dk) (c := c__law_rests) trivial (la_cons (le_var (i := 11)) (la_cons (le_var (i := 10)) la_nil))) la_nil)) (by decide)) (lg_name (i := 15)))
          (ls_for (li_any (le_call0 (dk := dk) (c := c__law_words) hdk (la_cons (le_var (i := 1)) (la_cons (le_var (i := 11)) (la_cons (le_var (i := 10)) (la_cons (le_var (i := 13)) (la_cons (le_var (i := 14)) (la_cons (le_tern (lt_test (le_op (ol_I0 fun _ _ _ => .bl _) (le_var (i := 3)) (le_c (y := .int 2) fun _ => .int _))) (le_c (y := .int 25) fun _ => .int _) (le_c (y := .int 9) fun _ => .int _)) la_nil)))))))) (lg_name (i := 16)) (ls_cut (ls_par (la_cons (le_op (ol_plus) (le_var (i := 2)) (le_c (y := .int 1) fun _ => .int _)) (la_cons (le_cb cl_repr (la_cons (le_lst (la_cons (le_var (i := 11)) (la_cons (le_var (i := 16)) (la_cons (le_var (i := 9)) (la_cons (le_var (i := 12)) la_nil)))) (by decide)) la_nil)) la_nil)) (by decide))
            (ls_cut (ls_if (lt_test (le_op (ol_ne) (le_cb cl_repr (la_cons (le_call0 (dk := dk) (c := c__law_told) ⟨hnm, hrb⟩ (la_cons (le_var (i := 11)) (la_cons (le_var (i := 16)) (la_cons (le_var (i := 9)) (la_cons (le_var (i := 12)) (la_cons (le_op (ol_eq) (le_var (i := 2)) (le_c (y := .int 3) fun _ => .int _)) la_nil)))))) la_nil)) (le_cb cl_repr (la_cons (le_var (i := 15)) la_nil)))) (ls_ret (le_c (y := .bool false) fun _ => .bl _)) ls_next)
            (ls_cut (ls_if (lt_test (le_op (ol_eq) (le_var (i := 2)) (le_c (y := .int 5) fun _ => .int _))) (ls_asg (le_callK0 (dk := dk) (c := c_nearest) hrb kw_nearest_stretch_word_machine la_nil (la_cons (le_var (i := 9)) (la_cons (le_var (i := 16)) (la_cons (le_var (i := 11)) la_nil)))) (lg_name (i := 18))) (ls_asg (le_call0 (dk := dk) (c := c_nearest) hrb (la_cons (le_var (i := 11)) (la_cons (le_var (i := 16)) (la_cons (le_var (i := 9)) la_nil)))) (lg_name (i := 18))))
            (ls_if (lt_or (lt_test (le_op (ol_I0 fun _ _ _ => .bl _) (le_op ol_ix (le_var (i := 18)) (le_c (y := .int 0) fun _ => .int _)) (le_cb cl_len (la_cons (le_call0 (dk := dk) (c := c__law_astray) trivial (la_cons (le_var (i := 11)) (la_cons (le_var (i := 16)) (la_cons (le_var (i := 10)) la_nil)))) la_nil)))) (lt_test (le_op (ol_ne) (le_cb cl_repr (la_cons (le_lst (la_cons (le_var (i := 11)) (la_cons (le_var (i := 16)) (la_cons (le_var (i := 9)) (la_cons (le_var (i := 12)) la_nil)))) (by decide)) la_nil)) (le_var (i := 17))))) (ls_ret (le_c (y := .bool false) fun _ => .bl _)) ls_next)))))))))))))))))
      (ls_ret (le_c (y := .bool true) fun _ => .bl _))))) (h_law dk) q
end
theorem all_mk {l : PySem.W.OpenLaw} {w : World} {K : PySem.W.Frag} {h : Heap} {mg : Str → Option Value} {fa f1 f2 f3 f4 f5 f6 f7 f8 f9 f10 f11 f12 f13 f14 f15 f16 f17 f18 f19 f20 f21 f22 f23 f24 f25 f26 f27 f_Unsure___init__ f_AgreeingRows___init__ f_AgreeingRows_row C_LaneError C_Unsure C_Strayed C_AgreeingRows : Addr} (X : K.In h) (G : h.Ns mainGlobals mg) (hfa : mg "law" = some (.ref fa))
    {od1 an1 od2 an2 od3 an3 od4 an4 od5 an5 od6 an6 od7 an7 od8 an8 od9 an9 od10 an10 od11 an11 od12 an12 od13 an13 od14 an14 od15 an15 od16 an16 od17 an17 od18 an18 od19 an19 od20 an20 od21 an21 od22 an22 od23 an23 od24 an24 od25 an25 od26 an26 od27 an27 odm0 anm0 odm1 anm1 odm2 anm2 : Option Addr} {sl1 sl2 sl3 sl4 sl5 sl6 sl7 sl8 sl9 sl10 sl11 sl12 sl13 sl14 sl15 sl16 sl17 sl18 sl19 sl20 sl21 sl22 sl23 sl24 sl25 sl26 sl27 slm0 slm1 slm2 : Array (Option Value)} {oc1 kV1 dc1 pm1 cd1 ct1 oc2 kV2 dc2 pm2 cd2 ct2 oc3 kV3 dc3 pm3 cd3 ct3 oc4 kV4 dc4 pm4 cd4 ct4 oc5 kV5 dc5 pm5 cd5 ct5 oc6 kV6 dc6 pm6 cd6 ct6 oc7 kV7 dc7 pm7 cd7 ct7 oc8 kV8 dc8 pm8 cd8 ct8 oc9 kV9 dc9 pm9 cd9 ct9 oc10 kV10 dc10 pm10 cd10 ct10 oc11 kV11 dc11 pm11 cd11 ct11 oc12 kV12 dc12 pm12 cd12 ct12 oc13 kV13 dc13 pm13 cd13 ct13 oc14 kV14 dc14 pm14 cd14 ct14 oc15 kV15 dc15 pm15 cd15 ct15 oc16 kV16 dc16 pm16 cd16 ct16 oc17 kV17 dc17 pm17 cd17 ct17 oc18 kV18 dc18 pm18 cd18 ct18 oc19 kV19 dc19 pm19 cd19 ct19 oc20 kV20 dc20 pm20 cd20 ct20 oc21 kV21 dc21 pm21 cd21 ct21 oc22 kV22 dc22 pm22 cd22 ct22 oc23 kV23 dc23 pm23 cd23 ct23 oc24 kV24 dc24 pm24 cd24 ct24 oc25 kV25 dc25 pm25 cd25 ct25 oc26 kV26 dc26 pm26 cd26 ct26 oc27 kV27 dc27 pm27 cd27 ct27 ocm0 kVm0 dcm0 pmm0 cdm0 ctm0 ocm1 kVm1 dcm1 pmm1 cdm1 ctm1 ocm2 kVm2 dcm2 pmm2 cdm2 ctm2 : Value} {xn_Unsure xq_Unsure : Str} {xN_Unsure : Addr} {xb_Unsure xs_Unsure : List Value} {xe_Unsure : List Str} {xa_Unsure : Bool} {xc_Unsure : Option Bool} {xd_Unsure : Option Addr} {x0_Unsure x1_Unsure x2_Unsure x3_Unsure x5_Unsure : Option Value}
    (q_LaneError : PySem.W.nsIn K mainGlobals "LaneError" = some (some (.ref C_LaneError)))
    (q_Unsure : PySem.W.nsIn K mainGlobals "Unsure" = some (some (.ref C_Unsure)))
    (q_Strayed : PySem.W.nsIn K mainGlobals "Strayed" = some (some (.ref C_Strayed)))
    (q_AgreeingRows : PySem.W.nsIn K mainGlobals "AgreeingRows" = some (some (.ref C_AgreeingRows)))
    (a1 : PySem.W.nsIn K mainGlobals "speaking" = some (some (.ref f1)))
    (l1 : K.lookup f1 = some ⟨oc1, od1, .func (PySem.W.fnOf "speaking" "speaking" (defArgs s_speaking) (defBody s_speaking) (defScope s_speaking) .none kV1 dc1 pm1 an1 cd1 ct1), sl1⟩)
    (c1 : PySem.W.codeIn K cd1 "speaking" = true)
    (k1 : PySem.W.keepIn K (.ref f1) = true)
    (a2 : PySem.W.nsIn K mainGlobals "picks" = some (some (.ref f2)))
    (l2 : K.lookup f2 = some ⟨oc2, od2, .func (PySem.W.fnOf "picks" "picks" (defArgs s_picks) (defBody s_picks) (defScope s_picks) .none kV2 dc2 pm2 an2 cd2 ct2), sl2⟩)
    (c2 : PySem.W.codeIn K cd2 "picks" = true)
    (k2 : PySem.W.keepIn K (.ref f2) = true)
    (a3 : PySem.W.nsIn K mainGlobals "rests_of" = some (some (.ref f3)))
    (l3 : K.lookup f3 = some ⟨oc3, od3, .func (PySem.W.fnOf "rests_of" "rests_of" (defArgs s_rests_of) (defBody s_rests_of) (defScope s_rests_of) .none kV3 dc3 pm3 an3 cd3 ct3), sl3⟩)
    (c3 : PySem.W.codeIn K cd3 "rests_of" = true)
    (k3 : PySem.W.keepIn K (.ref f3) = true)
    (a4 : PySem.W.nsIn K mainGlobals "narrowed" = some (some (.ref f4)))
    (l4 : K.lookup f4 = some ⟨oc4, od4, .func (PySem.W.fnOf "narrowed" "narrowed" (defArgs s_narrowed) (defBody s_narrowed) (defScope s_narrowed) .none kV4 dc4 pm4 an4 cd4 ct4), sl4⟩)
    (c4 : PySem.W.codeIn K cd4 "narrowed" = true)
    (k4 : PySem.W.keepIn K (.ref f4) = true)
    (a5 : PySem.W.nsIn K mainGlobals "inverse_of" = some (some (.ref f5)))
    (l5 : K.lookup f5 = some ⟨oc5, od5, .func (PySem.W.fnOf "inverse_of" "inverse_of" (defArgs s_inverse_of) (defBody s_inverse_of) (defScope s_inverse_of) .none kV5 dc5 pm5 an5 cd5 ct5), sl5⟩)
    (c5 : PySem.W.codeIn K cd5 "inverse_of" = true)
    (k5 : PySem.W.keepIn K (.ref f5) = true)
    (a6 : PySem.W.nsIn K mainGlobals "tell" = some (some (.ref f6)))
    (l6 : K.lookup f6 = some ⟨oc6, od6, .func (PySem.W.fnOf "tell" "tell" (defArgs s_tell) (defBody s_tell) (defScope s_tell) .none kV6 dc6 pm6 an6 cd6 ct6), sl6⟩)
    (c6 : PySem.W.codeIn K cd6 "tell" = true)
    (k6 : PySem.W.keepIn K (.ref f6) = true)
    (a7 : PySem.W.nsIn K mainGlobals "mended" = some (some (.ref f7)))
    (l7 : K.lookup f7 = some ⟨oc7, od7, .func (PySem.W.fnOf "mended" "mended" (defArgs s_mended) (defBody s_mended) (defScope s_mended) .none kV7 dc7 pm7 an7 cd7 ct7), sl7⟩)
    (c7 : PySem.W.codeIn K cd7 "mended" = true)
    (k7 : PySem.W.keepIn K (.ref f7) = true)
    (a8 : PySem.W.nsIn K mainGlobals "nearest" = some (some (.ref f8)))
    (l8 : K.lookup f8 = some ⟨oc8, od8, .func (PySem.W.fnOf "nearest" "nearest" (defArgs s_nearest) (defBody s_nearest) (defScope s_nearest) .none kV8 dc8 pm8 an8 cd8 ct8), sl8⟩)
    (c8 : PySem.W.codeIn K cd8 "nearest" = true)
    (k8 : PySem.W.keepIn K (.ref f8) = true)
    (a9 : PySem.W.nsIn K mainGlobals "candidate_rows" = some (some (.ref f9)))
    (l9 : K.lookup f9 = some ⟨oc9, od9, .func (PySem.W.fnOf "candidate_rows" "candidate_rows" (defArgs s_candidate_rows) (defBody s_candidate_rows) (defScope s_candidate_rows) .none kV9 dc9 pm9 an9 cd9 ct9), sl9⟩)
    (c9 : PySem.W.codeIn K cd9 "candidate_rows" = true)
    (k9 : PySem.W.keepIn K (.ref f9) = true)
    (a10 : PySem.W.nsIn K mainGlobals "rows_for" = some (some (.ref f10)))
    (l10 : K.lookup f10 = some ⟨oc10, od10, .func (PySem.W.fnOf "rows_for" "rows_for" (defArgs s_rows_for) (defBody s_rows_for) (defScope s_rows_for) .none kV10 dc10 pm10 an10 cd10 ct10), sl10⟩)
    (c10 : PySem.W.codeIn K cd10 "rows_for" = true)
    (k10 : PySem.W.keepIn K (.ref f10) = true)
    (a11 : PySem.W.nsIn K mainGlobals "lots_kept" = some (some (.ref f11)))
    (l11 : K.lookup f11 = some ⟨oc11, od11, .func (PySem.W.fnOf "lots_kept" "lots_kept" (defArgs s_lots_kept) (defBody s_lots_kept) (defScope s_lots_kept) .none kV11 dc11 pm11 an11 cd11 ct11), sl11⟩)
    (c11 : PySem.W.codeIn K cd11 "lots_kept" = true)
    (k11 : PySem.W.keepIn K (.ref f11) = true)
    (a12 : PySem.W.nsIn K mainGlobals "_law_deck" = some (some (.ref f12)))
    (l12 : K.lookup f12 = some ⟨oc12, od12, .func (PySem.W.fnOf "_law_deck" "_law_deck" (defArgs s__law_deck) (defBody s__law_deck) (defScope s__law_deck) .none kV12 dc12 pm12 an12 cd12 ct12), sl12⟩)
    (c12 : PySem.W.codeIn K cd12 "_law_deck" = true)
    (k12 : PySem.W.keepIn K (.ref f12) = true)
    (a13 : PySem.W.nsIn K mainGlobals "_law_draw" = some (some (.ref f13)))
    (l13 : K.lookup f13 = some ⟨oc13, od13, .func (PySem.W.fnOf "_law_draw" "_law_draw" (defArgs s__law_draw) (defBody s__law_draw) (defScope s__law_draw) .none kV13 dc13 pm13 an13 cd13 ct13), sl13⟩)
    (c13 : PySem.W.codeIn K cd13 "_law_draw" = true)
    (k13 : PySem.W.keepIn K (.ref f13) = true)
    (a14 : PySem.W.nsIn K mainGlobals "_law_pick" = some (some (.ref f14)))
    (l14 : K.lookup f14 = some ⟨oc14, od14, .func (PySem.W.fnOf "_law_pick" "_law_pick" (defArgs s__law_pick) (defBody s__law_pick) (defScope s__law_pick) .none kV14 dc14 pm14 an14 cd14 ct14), sl14⟩)
    (c14 : PySem.W.codeIn K cd14 "_law_pick" = true)
    (k14 : PySem.W.keepIn K (.ref f14) = true)
    (a15 : PySem.W.nsIn K mainGlobals "_law_mixed" = some (some (.ref f15)))
    (l15 : K.lookup f15 = some ⟨oc15, od15, .func (PySem.W.fnOf "_law_mixed" "_law_mixed" (defArgs s__law_mixed) (defBody s__law_mixed) (defScope s__law_mixed) .none kV15 dc15 pm15 an15 cd15 ct15), sl15⟩)
    (c15 : PySem.W.codeIn K cd15 "_law_mixed" = true)
    (k15 : PySem.W.keepIn K (.ref f15) = true)
    (a16 : PySem.W.nsIn K mainGlobals "_law_divisor" = some (some (.ref f16)))
    (l16 : K.lookup f16 = some ⟨oc16, od16, .func (PySem.W.fnOf "_law_divisor" "_law_divisor" (defArgs s__law_divisor) (defBody s__law_divisor) (defScope s__law_divisor) .none kV16 dc16 pm16 an16 cd16 ct16), sl16⟩)
    (c16 : PySem.W.codeIn K cd16 "_law_divisor" = true)
    (k16 : PySem.W.keepIn K (.ref f16) = true)
    (a17 : PySem.W.nsIn K mainGlobals "_law_span" = some (some (.ref f17)))
    (l17 : K.lookup f17 = some ⟨oc17, od17, .func (PySem.W.fnOf "_law_span" "_law_span" (defArgs s__law_span) (defBody s__law_span) (defScope s__law_span) .none kV17 dc17 pm17 an17 cd17 ct17), sl17⟩)
    (c17 : PySem.W.codeIn K cd17 "_law_span" = true)
    (k17 : PySem.W.keepIn K (.ref f17) = true)
    (a18 : PySem.W.nsIn K mainGlobals "_law_machine" = some (some (.ref f18)))
    (l18 : K.lookup f18 = some ⟨oc18, od18, .func (PySem.W.fnOf "_law_machine" "_law_machine" (defArgs s__law_machine) (defBody s__law_machine) (defScope s__law_machine) .none kV18 dc18 pm18 an18 cd18 ct18), sl18⟩)
    (c18 : PySem.W.codeIn K cd18 "_law_machine" = true)
    (k18 : PySem.W.keepIn K (.ref f18) = true)
    (a19 : PySem.W.nsIn K mainGlobals "_law_rests" = some (some (.ref f19)))
    (l19 : K.lookup f19 = some ⟨oc19, od19, .func (PySem.W.fnOf "_law_rests" "_law_rests" (defArgs s__law_rests) (defBody s__law_rests) (defScope s__law_rests) .none kV19 dc19 pm19 an19 cd19 ct19), sl19⟩)
    (c19 : PySem.W.codeIn K cd19 "_law_rests" = true)
    (k19 : PySem.W.keepIn K (.ref f19) = true)
    (a20 : PySem.W.nsIn K mainGlobals "_law_astray" = some (some (.ref f20)))
    (l20 : K.lookup f20 = some ⟨oc20, od20, .func (PySem.W.fnOf "_law_astray" "_law_astray" (defArgs s__law_astray) (defBody s__law_astray) (defScope s__law_astray) .none kV20 dc20 pm20 an20 cd20 ct20), sl20⟩)
    (c20 : PySem.W.codeIn K cd20 "_law_astray" = true)
    (k20 : PySem.W.keepIn K (.ref f20) = true)
    (a21 : PySem.W.nsIn K mainGlobals "_law_lot" = some (some (.ref f21)))
    (l21 : K.lookup f21 = some ⟨oc21, od21, .func (PySem.W.fnOf "_law_lot" "_law_lot" (defArgs s__law_lot) (defBody s__law_lot) (defScope s__law_lot) .none kV21 dc21 pm21 an21 cd21 ct21), sl21⟩)
    (c21 : PySem.W.codeIn K cd21 "_law_lot" = true)
    (k21 : PySem.W.keepIn K (.ref f21) = true)
    (a22 : PySem.W.nsIn K mainGlobals "_law_book" = some (some (.ref f22)))
    (l22 : K.lookup f22 = some ⟨oc22, od22, .func (PySem.W.fnOf "_law_book" "_law_book" (defArgs s__law_book) (defBody s__law_book) (defScope s__law_book) .none kV22 dc22 pm22 an22 cd22 ct22), sl22⟩)
    (c22 : PySem.W.codeIn K cd22 "_law_book" = true)
    (k22 : PySem.W.keepIn K (.ref f22) = true)
    (a23 : PySem.W.nsIn K mainGlobals "_law_wholes" = some (some (.ref f23)))
    (l23 : K.lookup f23 = some ⟨oc23, od23, .func (PySem.W.fnOf "_law_wholes" "_law_wholes" (defArgs s__law_wholes) (defBody s__law_wholes) (defScope s__law_wholes) .none kV23 dc23 pm23 an23 cd23 ct23), sl23⟩)
    (c23 : PySem.W.codeIn K cd23 "_law_wholes" = true)
    (k23 : PySem.W.keepIn K (.ref f23) = true)
    (a24 : PySem.W.nsIn K mainGlobals "_law_reach" = some (some (.ref f24)))
    (l24 : K.lookup f24 = some ⟨oc24, od24, .func (PySem.W.fnOf "_law_reach" "_law_reach" (defArgs s__law_reach) (defBody s__law_reach) (defScope s__law_reach) .none kV24 dc24 pm24 an24 cd24 ct24), sl24⟩)
    (c24 : PySem.W.codeIn K cd24 "_law_reach" = true)
    (k24 : PySem.W.keepIn K (.ref f24) = true)
    (a25 : PySem.W.nsIn K mainGlobals "_law_words" = some (some (.ref f25)))
    (l25 : K.lookup f25 = some ⟨oc25, od25, .func (PySem.W.fnOf "_law_words" "_law_words" (defArgs s__law_words) (defBody s__law_words) (defScope s__law_words) .none kV25 dc25 pm25 an25 cd25 ct25), sl25⟩)
    (c25 : PySem.W.codeIn K cd25 "_law_words" = true)
    (k25 : PySem.W.keepIn K (.ref f25) = true)
    (a26 : PySem.W.nsIn K mainGlobals "_law_told" = some (some (.ref f26)))
    (l26 : K.lookup f26 = some ⟨oc26, od26, .func (PySem.W.fnOf "_law_told" "_law_told" (defArgs s__law_told) (defBody s__law_told) (defScope s__law_told) .none kV26 dc26 pm26 an26 cd26 ct26), sl26⟩)
    (c26 : PySem.W.codeIn K cd26 "_law_told" = true)
    (k26 : PySem.W.keepIn K (.ref f26) = true)
    (a27 : PySem.W.nsIn K mainGlobals "law" = some (some (.ref f27)))
    (l27 : K.lookup f27 = some ⟨oc27, od27, .func (PySem.W.fnOf "law" "law" (defArgs s_law) (defBody s_law) (defScope s_law) .none kV27 dc27 pm27 an27 cd27 ct27), sl27⟩)
    (c27 : PySem.W.codeIn K cd27 "law" = true)
    (k27 : PySem.W.keepIn K (.ref f27) = true)
    (fi_Unsure___init__ : PySem.W.findIn K (.ref C_Unsure) "__init__" = some (some (.ref f_Unsure___init__)))
    (fn_Unsure___init__ : PySem.W.isFn K (.ref f_Unsure___init__) = true)
    (lm0 : K.lookup f_Unsure___init__ = some ⟨ocm0, odm0, .func (PySem.W.fnOf "__init__" "Unsure.__init__" (defArgs s_Unsure___init__) (defBody s_Unsure___init__) (defScope s_Unsure___init__) .none kVm0 dcm0 pmm0 anm0 cdm0 ctm0), slm0⟩)
    (cm0 : PySem.W.codeIn K cdm0 "Unsure.__init__" = true)
    (kp_Unsure___init__ : PySem.W.keepIn K (.ref f_Unsure___init__) = true)
    (fi_AgreeingRows___init__ : PySem.W.findIn K (.ref C_AgreeingRows) "__init__" = some (some (.ref f_AgreeingRows___init__)))
    (fn_AgreeingRows___init__ : PySem.W.isFn K (.ref f_AgreeingRows___init__) = true)
    (lm1 : K.lookup f_AgreeingRows___init__ = some ⟨ocm1, odm1, .func (PySem.W.fnOf "__init__" "AgreeingRows.__init__" (defArgs s_AgreeingRows___init__) (defBody s_AgreeingRows___init__) (defScope s_AgreeingRows___init__) .none kVm1 dcm1 pmm1 anm1 cdm1 ctm1), slm1⟩)
    (cm1 : PySem.W.codeIn K cdm1 "AgreeingRows.__init__" = true)
    (kp_AgreeingRows___init__ : PySem.W.keepIn K (.ref f_AgreeingRows___init__) = true)
    (fi_AgreeingRows_row : PySem.W.findIn K (.ref C_AgreeingRows) "row" = some (some (.ref f_AgreeingRows_row)))
    (fn_AgreeingRows_row : PySem.W.isFn K (.ref f_AgreeingRows_row) = true)
    (lm2 : K.lookup f_AgreeingRows_row = some ⟨ocm2, odm2, .func (PySem.W.fnOf "row" "AgreeingRows.row" (defArgs s_AgreeingRows_row) (defBody s_AgreeingRows_row) (defScope s_AgreeingRows_row) .none kVm2 dcm2 pmm2 anm2 cdm2 ctm2), slm2⟩)
    (cm2 : PySem.W.codeIn K cdm2 "AgreeingRows.row" = true)
    (kp_AgreeingRows_row : PySem.W.keepIn K (.ref f_AgreeingRows_row) = true)
    (z_abs : PySem.W.nsIn K mainGlobals "abs" = some none)
    (z_enumerate : PySem.W.nsIn K mainGlobals "enumerate" = some none)
    (z_int : PySem.W.nsIn K mainGlobals "int" = some none)
    (z_isinstance : PySem.W.nsIn K mainGlobals "isinstance" = some none)
    (z_len : PySem.W.nsIn K mainGlobals "len" = some none)
    (z_list : PySem.W.nsIn K mainGlobals "list" = some none)
    (z_max : PySem.W.nsIn K mainGlobals "max" = some none)
    (z_min : PySem.W.nsIn K mainGlobals "min" = some none)
    (z_range : PySem.W.nsIn K mainGlobals "range" = some none)
    (z_repr : PySem.W.nsIn K mainGlobals "repr" = some none)
    (z_reversed : PySem.W.nsIn K mainGlobals "reversed" = some none)
    (z_sorted : PySem.W.nsIn K mainGlobals "sorted" = some none)
    (z_tuple : PySem.W.nsIn K mainGlobals "tuple" = some none)
    (z_zip : PySem.W.nsIn K mainGlobals "zip" = some none)
    (x_gcd : PySem.W.nsIn K mainGlobals "gcd" = some (some (.builtin "math.gcd")))
    (bx_LaneError : PySem.W.subIn K (.ref C_LaneError) (.type "BaseException") = some true)
    (ty_LaneError : PySem.W.typeIn K (.ref C_LaneError) = some (.type "type"))
    (kp_Unsure : PySem.W.keepIn K (.ref C_Unsure) = true)
    (bx_Unsure : PySem.W.subIn K (.ref C_Unsure) (.type "BaseException") = some true)
    (ty_Unsure : PySem.W.typeIn K (.ref C_Unsure) = some (.type "type"))
    (xl_Unsure : K.lookup C_Unsure = some (excClassObj xn_Unsure xq_Unsure C_Unsure xN_Unsure xb_Unsure [.ref C_LaneError, .type "ValueError", .type "Exception", .type "BaseException", .type "object"] true xe_Unsure xs_Unsure xa_Unsure xc_Unsure xd_Unsure x0_Unsure x1_Unsure x2_Unsure x3_Unsure x5_Unsure "ValueError.__new__"))
    (sa_Unsure : PySem.W.findIn K (.ref C_Unsure) "__setattr__" = some (some (.builtin "object.__setattr__")))
    (tf_Unsure___init__ : PySem.W.typeIn K (.ref f_Unsure___init__) = some (.type "function"))
    (na_Unsure_numbers : PySem.W.findIn K (.ref C_Unsure) "numbers" = some none)
    (ga_Unsure : PySem.W.findIn K (.ref C_Unsure) "__getattribute__" = some (some (.builtin "BaseException.__getattribute__")))
    (gg_Unsure : PySem.W.findIn K (.ref C_Unsure) "__getattr__" = some none)
    (hd_Unsure : PySem.W.hasDictIn K C_Unsure = true)
    (kp_Strayed : PySem.W.keepIn K (.ref C_Strayed) = true)
    (bx_Strayed : PySem.W.subIn K (.ref C_Strayed) (.type "BaseException") = some true)
    (ty_Strayed : PySem.W.typeIn K (.ref C_Strayed) = some (.type "type"))
    (xi_Strayed : PySem.W.excIn K C_Strayed [.type "ValueError", .type "Exception", .type "BaseException", .type "object"] "ValueError.__new__" = true)
    (pg_AgreeingRows : PySem.W.plainGet K C_AgreeingRows Str.empty = true)
    (hd_AgreeingRows : PySem.W.hasDictIn K C_AgreeingRows = true)
    (po_AgreeingRows : PySem.W.plainOver K C_AgreeingRows = true)
    (sa_AgreeingRows : PySem.W.findIn K (.ref C_AgreeingRows) "__setattr__" = some (some (.builtin "object.__setattr__")))
    (mi_AgreeingRows : PySem.W.makesIn K C_AgreeingRows = true)
    (kc_AgreeingRows : PySem.W.keepIn K (.ref C_AgreeingRows) = true)
    (na_AgreeingRows_machine : PySem.W.findIn K (.ref C_AgreeingRows) "machine" = some none)
    (na_AgreeingRows_word : PySem.W.findIn K (.ref C_AgreeingRows) "word" = some none)
    (na_AgreeingRows_known : PySem.W.findIn K (.ref C_AgreeingRows) "known" = some none)
    (ex_Strayed_LaneError : PySem.W.exmOne K (.ref C_Strayed) (.ref C_LaneError) = some true)
    (ex_Unsure_LaneError : PySem.W.exmOne K (.ref C_Unsure) (.ref C_LaneError) = some true)
    : ∃ fd : FuncData, (∀ (s : Shared) (v : Value), BindsTo s fd ⟨[v], []⟩ [("script", v)]) ∧ ∀ base : Heap, K.In base → base.Ns mainGlobals mg → FnG l.prog w K mg base CX0 19 fa fd ["script"] (sp_law K) := by
  have e := hfa.symm.trans (PySem.W.mg_of X G a27)
  cases e
  have F1 := fun_mk (st := s_speaking) l1 c1 k1
  have b1 := F1.binds (ps := ["word"]) fun _ _ _ _ _ _ us hl => match us, hl with | [_], _ => rfl
  have F2 := fun_mk (st := s_picks) l2 c2 k2
  have b2 := F2.binds (ps := ["lanes", "many"]) fun _ _ _ _ _ _ us hl => match us, hl with | [_, _], _ => rfl
  have F3 := fun_mk (st := s_rests_of) l3 c3 k3
  have b3 := F3.binds (ps := ["machine", "number"]) fun _ _ _ _ _ _ us hl => match us, hl with | [_, _], _ => rfl
  have F4 := fun_mk (st := s_narrowed) l4 c4 k4
  have b4 := F4.binds (ps := ["row", "modulus", "rest"]) fun _ _ _ _ _ _ us hl => match us, hl with | [_, _, _], _ => rfl
  have F5 := fun_mk (st := s_inverse_of) l5 c5 k5
  have b5 := F5.binds (ps := ["number", "modulus"]) fun _ _ _ _ _ _ us hl => match us, hl with | [_, _], _ => rfl
  have F6 := fun_mk (st := s_tell) l6 c6 k6
  have b6 := F6.binds (ps := ["machine", "word", "stretch", "book"]) fun _ _ _ _ _ _ us hl => match us, hl with | [_, _, _, _], _ => rfl
  have F7 := fun_mk (st := s_mended) l7 c7 k7
  have b7 := F7.binds (ps := ["machine", "word", "stretch", "book"]) fun _ _ _ _ _ _ us hl => match us, hl with | [_, _, _, _], _ => rfl
  have F8 := fun_mk (st := s_nearest) l8 c8 k8
  have b8 := F8.binds (ps := ["machine", "word", "stretch"]) fun _ _ _ _ _ _ us hl => match us, hl with | [_, _, _], _ => rfl
  have F9 := fun_mk (st := s_candidate_rows) l9 c9 k9
  have b9 := F9.binds (ps := ["machine", "word", "stretch", "book"]) fun _ _ _ _ _ _ us hl => match us, hl with | [_, _, _, _], _ => rfl
  have F10 := fun_mk (st := s_rows_for) l10 c10 k10
  have b10 := F10.binds (ps := ["rows", "lots"]) fun _ _ _ _ _ _ us hl => match us, hl with | [_, _], _ => rfl
  have F11 := fun_mk (st := s_lots_kept) l11 c11 k11
  have b11 := F11.binds (ps := ["word", "book"]) fun _ _ _ _ _ _ us hl => match us, hl with | [_, _], _ => rfl
  have F12 := fun_mk (st := s__law_deck) l12 c12 k12
  have b12 := F12.binds (ps := ["script"]) fun _ _ _ _ _ _ us hl => match us, hl with | [_], _ => rfl
  have F13 := fun_mk (st := s__law_draw) l13 c13 k13
  have b13 := F13.binds (ps := ["deck", "many"]) fun _ _ _ _ _ _ us hl => match us, hl with | [_, _], _ => rfl
  have F14 := fun_mk (st := s__law_pick) l14 c14 k14
  have b14 := F14.binds (ps := ["deck", "items"]) fun _ _ _ _ _ _ us hl => match us, hl with | [_, _], _ => rfl
  have F15 := fun_mk (st := s__law_mixed) l15 c15 k15
  have b15 := F15.binds (ps := ["deck", "items"]) fun _ _ _ _ _ _ us hl => match us, hl with | [_, _], _ => rfl
  have F16 := fun_mk (st := s__law_divisor) l16 c16 k16
  have b16 := F16.binds (ps := ["one", "other"]) fun _ _ _ _ _ _ us hl => match us, hl with | [_, _], _ => rfl
  have F17 := fun_mk (st := s__law_span) l17 c17 k17
  have b17 := F17.binds (ps := ["machine", "lanes"]) fun _ _ _ _ _ _ us hl => match us, hl with | [_, _], _ => rfl
  have F18 := fun_mk (st := s__law_machine) l18 c18 k18
  have b18 := F18.binds (ps := ["deck", "lanes", "top"]) fun _ _ _ _ _ _ us hl => match us, hl with | [_, _, _], _ => rfl
  have F19 := fun_mk (st := s__law_rests) l19 c19 k19
  have b19 := F19.binds (ps := ["machine", "number"]) fun _ _ _ _ _ _ us hl => match us, hl with | [_, _], _ => rfl
  have F20 := fun_mk (st := s__law_astray) l20 c20 k20
  have b20 := F20.binds (ps := ["machine", "word", "number"]) fun _ _ _ _ _ _ us hl => match us, hl with | [_, _, _], _ => rfl
  have F21 := fun_mk (st := s__law_lot) l21 c21 k21
  have b21 := F21.binds (ps := ["deck", "lanes"]) fun _ _ _ _ _ _ us hl => match us, hl with | [_, _], _ => rfl
  have F22 := fun_mk (st := s__law_book) l22 c22 k22
  have b22 := F22.binds (ps := ["deck", "lanes"]) fun _ _ _ _ _ _ us hl => match us, hl with | [_, _], _ => rfl
  have F23 := fun_mk (st := s__law_wholes) l23 c23 k23
  have b23 := F23.binds (ps := ["book", "lanes"]) fun _ _ _ _ _ _ us hl => match us, hl with | [_, _], _ => rfl
  have F24 := fun_mk (st := s__law_reach) l24 c24 k24
  have b24 := F24.binds (ps := ["machine", "right", "seen", "still"]) fun _ _ _ _ _ _ us hl => match us, hl with | [_, _, _, _], _ => rfl
  have F25 := fun_mk (st := s__law_words) l25 c25 k25
  have b25 := F25.binds (ps := ["deck", "machine", "number", "lot", "still", "most"]) fun _ _ _ _ _ _ us hl => match us, hl with | [_, _, _, _, _, _], _ => rfl
  have F26 := fun_mk (st := s__law_told) l26 c26 k26
  have b26 := F26.binds (ps := ["machine", "word", "stretch", "book", "is_named"]) fun _ _ _ _ _ _ us hl => match us, hl with | [_, _, _, _, _], _ => rfl
  have F27 := fun_mk (st := s_law) l27 c27 k27
  have b27 := F27.binds (ps := ["script"]) fun _ _ _ _ _ _ us hl => match us, hl with | [_], _ => rfl
  have Fm0 := fun_mk (st := s_Unsure___init__) lm0 cm0 kp_Unsure___init__
  have bm0 := Fm0.binds (ps := ["self", "numbers"]) fun _ _ _ _ _ _ us hl => match us, hl with | [_, _], _ => rfl
  have Fm1 := fun_mk (st := s_AgreeingRows___init__) lm1 cm1 kp_AgreeingRows___init__
  have bm1 := Fm1.binds (ps := ["self", "machine", "word", "stretch"]) fun _ _ _ _ _ _ us hl => match us, hl with | [_, _, _, _], _ => rfl
  have Fm2 := fun_mk (st := s_AgreeingRows_row) lm2 cm2 kp_AgreeingRows_row
  have bm2 := Fm2.binds (ps := ["self", "lanes"]) fun _ _ _ _ _ _ us hl => match us, hl with | [_, _], _ => rfl
  have T : Txt K mg ⟨f1, _, f2, _, f3, _, f4, _, f5, _, f6, _, f7, _, f8, _, f9, _, f10, _, f11, _, f12, _, f13, _, f14, _, f15, _, f16, _, f17, _, f18, _, f19, _, f20, _, f21, _, f22, _, f23, _, f24, _, f25, _, f26, _, fa, _, f_Unsure___init__, _, f_AgreeingRows___init__, _, f_AgreeingRows_row, _, C_LaneError, C_Unsure, C_Strayed, C_AgreeingRows⟩ := ⟨⟨F1, b1, PySem.W.mg_of X G a1⟩, ⟨F2, b2, PySem.W.mg_of X G a2⟩, ⟨F3, b3, PySem.W.mg_of X G a3⟩, ⟨F4, b4, PySem.W.mg_of X G a4⟩, ⟨F5, b5, PySem.W.mg_of X G a5⟩, ⟨F6, b6, PySem.W.mg_of X G a6⟩, ⟨F7, b7, PySem.W.mg_of X G a7⟩, ⟨F8, b8, PySem.W.mg_of X G a8⟩, ⟨F9, b9, PySem.W.mg_of X G a9⟩, ⟨F10, b10, PySem.W.mg_of X G a10⟩, ⟨F11, b11, PySem.W.mg_of X G a11⟩, ⟨F12, b12, PySem.W.mg_of X G a12⟩, ⟨F13, b13, PySem.W.mg_of X G a13⟩, ⟨F14, b14, PySem.W.mg_of X G a14⟩, ⟨F15, b15, PySem.W.mg_of X G a15⟩, ⟨F16, b16, PySem.W.mg_of X G a16⟩, ⟨F17, b17, PySem.W.mg_of X G a17⟩, ⟨F18, b18, PySem.W.mg_of X G a18⟩, ⟨F19, b19, PySem.W.mg_of X G a19⟩, ⟨F20, b20, PySem.W.mg_of X G a20⟩, ⟨F21, b21, PySem.W.mg_of X G a21⟩, ⟨F22, b22, PySem.W.mg_of X G a22⟩, ⟨F23, b23, PySem.W.mg_of X G a23⟩, ⟨F24, b24, PySem.W.mg_of X G a24⟩, ⟨F25, b25, PySem.W.mg_of X G a25⟩, ⟨F26, b26, PySem.W.mg_of X G a26⟩, ⟨F27, b27, PySem.W.mg_of X G a27⟩, PySem.W.mg_none_of X G z_abs, PySem.W.mg_none_of X G z_enumerate, PySem.W.mg_none_of X G z_int, PySem.W.mg_none_of X G z_isinstance, PySem.W.mg_none_of X G z_len, PySem.W.mg_none_of X G z_list, PySem.W.mg_none_of X G z_max, PySem.W.mg_none_of X G z_min, PySem.W.mg_none_of X G z_range, PySem.W.mg_none_of X G z_repr, PySem.W.mg_none_of X G z_reversed, PySem.W.mg_none_of X G z_sorted, PySem.W.mg_none_of X G z_tuple, PySem.W.mg_none_of X G z_zip, PySem.W.mg_of X G x_gcd, ⟨Fm0, bm0⟩, ⟨Fm1, bm1⟩, ⟨Fm2, bm2⟩, PySem.W.mg_of X G q_LaneError, bx_LaneError, ty_LaneError, PySem.W.mg_of X G q_Unsure, kp_Unsure, bx_Unsure, ty_Unsure, ⟨⟨_, _, _, _, _, _, _, _, _, _, _, _, _, _, _, xl_Unsure, by rfl⟩, sa_Unsure, bx_Unsure, ty_Unsure, kp_Unsure⟩, fi_Unsure___init__, tf_Unsure___init__, na_Unsure_numbers, ⟨ga_Unsure, gg_Unsure, bx_Unsure, hd_Unsure⟩, PySem.W.mg_of X G q_Strayed, kp_Strayed, bx_Strayed, ty_Strayed, xi_Strayed, PySem.W.mg_of X G q_AgreeingRows, ⟨pg_AgreeingRows, hd_AgreeingRows, po_AgreeingRows, sa_AgreeingRows⟩, ⟨mi_AgreeingRows, fi_AgreeingRows___init__, fn_AgreeingRows___init__, kc_AgreeingRows⟩, ⟨fi_AgreeingRows_row, fn_AgreeingRows_row, kp_AgreeingRows_row⟩, na_AgreeingRows_machine, na_AgreeingRows_word, na_AgreeingRows_known, ex_Strayed_LaneError, ex_Unsure_LaneError⟩
  exact ⟨_, fun s v => .of_eq rfl, fun base _ _ => ok_law T⟩
end K24
open PySem PySem.W PyProof.Rows
set_option maxHeartbeats 0 in
theorem PySem.Challenge.cw_straylanes_k24_whole_told_for_all_strays_holds : PySem.Challenge.rw_straylanes_k24_whole_told_for_all_strays.Holds := by
  w_on; o_law; k_head; (case hw => w_witness2)
  k_fill
  refine Sx.walkG (l := PySem.Challenge.rw_straylanes_k24_whole_told_for_all_strays) (n := 63) (k := 19) (x := "script") (sp := Sx.sp_law) rfl (by decide) rfl ⟨rfl, by decide, by decide⟩ (fun w h Y => PySem.W.kIn_of Y) ?F (fun _ _ a ns hl _ hS => ⟨a, ns, rfl, hS, hl, fun _ => rfl⟩)
  case F =>
    intro w mg fa h KX G hmg
    refine' K24.all_mk KX G hmg ?q_LaneError ?q_Unsure ?q_Strayed ?q_AgreeingRows ?a1 ?l1 ?c1 ?k1 ?a2 ?l2 ?c2 ?k2 ?a3 ?l3 ?c3 ?k3 ?a4 ?l4 ?c4 ?k4 ?a5 ?l5 ?c5 ?k5 ?a6 ?l6 ?c6 ?k6 ?a7 ?l7 ?c7 ?k7 ?a8 ?l8 ?c8 ?k8 ?a9 ?l9 ?c9 ?k9 ?a10 ?l10 ?c10 ?k10 ?a11 ?l11 ?c11 ?k11 ?a12 ?l12 ?c12 ?k12 ?a13 ?l13 ?c13 ?k13 ?a14 ?l14 ?c14 ?k14 ?a15 ?l15 ?c15 ?k15 ?a16 ?l16 ?c16 ?k16 ?a17 ?l17 ?c17 ?k17 ?a18 ?l18 ?c18 ?k18 ?a19 ?l19 ?c19 ?k19 ?a20 ?l20 ?c20 ?k20 ?a21 ?l21 ?c21 ?k21 ?a22 ?l22 ?c22 ?k22 ?a23 ?l23 ?c23 ?k23 ?a24 ?l24 ?c24 ?k24 ?a25 ?l25 ?c25 ?k25 ?a26 ?l26 ?c26 ?k26 ?a27 ?l27 ?c27 ?k27 ?fi_Unsure___init__ ?fn_Unsure___init__ ?lm0 ?cm0 ?kp_Unsure___init__ ?fi_AgreeingRows___init__ ?fn_AgreeingRows___init__ ?lm1 ?cm1 ?kp_AgreeingRows___init__ ?fi_AgreeingRows_row ?fn_AgreeingRows_row ?lm2 ?cm2 ?kp_AgreeingRows_row ?z_abs ?z_enumerate ?z_int ?z_isinstance ?z_len ?z_list ?z_max ?z_min ?z_range ?z_repr ?z_reversed ?z_sorted ?z_tuple ?z_zip ?x_gcd ?bx_LaneError ?ty_LaneError ?kp_Unsure ?bx_Unsure ?ty_Unsure ?xl_Unsure ?sa_Unsure ?tf_Unsure___init__ ?na_Unsure_numbers ?ga_Unsure ?gg_Unsure ?hd_Unsure ?kp_Strayed ?bx_Strayed ?ty_Strayed ?xi_Strayed ?pg_AgreeingRows ?hd_AgreeingRows ?po_AgreeingRows ?sa_AgreeingRows ?mi_AgreeingRows ?kc_AgreeingRows ?na_AgreeingRows_machine ?na_AgreeingRows_word ?na_AgreeingRows_known ?ex_Strayed_LaneError ?ex_Unsure_LaneError
    (case q_LaneError => first | k_is | k_exc | rfl)
    (case q_Unsure => first | k_is | k_exc | rfl)
    (case q_Strayed => first | k_is | k_exc | rfl)
    (case q_AgreeingRows => first | k_is | k_exc | rfl)
    (case a1 => first | k_is | k_exc | rfl)
    (case l1 => first | k_is | k_exc | rfl)
    (case c1 => first | k_is | k_exc | rfl)
    (case k1 => first | k_is | k_exc | rfl)
    (case a2 => first | k_is | k_exc | rfl)
    (case l2 => first | k_is | k_exc | rfl)
    (case c2 => first | k_is | k_exc | rfl)
    (case k2 => first | k_is | k_exc | rfl)
    (case a3 => first | k_is | k_exc | rfl)
    (case l3 => first | k_is | k_exc | rfl)
    (case c3 => first | k_is | k_exc | rfl)
    (case k3 => first | k_is | k_exc | rfl)
    (case a4 => first | k_is | k_exc | rfl)
    (case l4 => first | k_is | k_exc | rfl)
    (case c4 => first | k_is | k_exc | rfl)
    (case k4 => first | k_is | k_exc | rfl)
    (case a5 => first | k_is | k_exc | rfl)
    (case l5 => first | k_is | k_exc | rfl)
    (case c5 => first | k_is | k_exc | rfl)
    (case k5 => first | k_is | k_exc | rfl)
    (case a6 => first | k_is | k_exc | rfl)
    (case l6 => first | k_is | k_exc | rfl)
    (case c6 => first | k_is | k_exc | rfl)
    (case k6 => first | k_is | k_exc | rfl)
    (case a7 => first | k_is | k_exc | rfl)
    (case l7 => first | k_is | k_exc | rfl)
    (case c7 => first | k_is | k_exc | rfl)
    (case k7 => first | k_is | k_exc | rfl)
    (case a8 => first | k_is | k_exc | rfl)
    (case l8 => first | k_is | k_exc | rfl)
    (case c8 => first | k_is | k_exc | rfl)
    (case k8 => first | k_is | k_exc | rfl)
    (case a9 => first | k_is | k_exc | rfl)
    (case l9 => first | k_is | k_exc | rfl)
    (case c9 => first | k_is | k_exc | rfl)
    (case k9 => first | k_is | k_exc | rfl)
    (case a10 => first | k_is | k_exc | rfl)
    (case l10 => first | k_is | k_exc | rfl)
    (case c10 => first | k_is | k_exc | rfl)
    (case k10 => first | k_is | k_exc | rfl)
    (case a11 => first | k_is | k_exc | rfl)
    (case l11 => first | k_is | k_exc | rfl)
    (case c11 => first | k_is | k_exc | rfl)
    (case k11 => first | k_is | k_exc | rfl)
    (case a12 => first | k_is | k_exc | rfl)
    (case l12 => first | k_is | k_exc | rfl)
    (case c12 => first | k_is | k_exc | rfl)
    (case k12 => first | k_is | k_exc | rfl)
    (case a13 => first | k_is | k_exc | rfl)
    (case l13 => first | k_is | k_exc | rfl)
    (case c13 => first | k_is | k_exc | rfl)
    (case k13 => first | k_is | k_exc | rfl)
    (case a14 => first | k_is | k_exc | rfl)
    (case l14 => first | k_is | k_exc | rfl)
    (case c14 => first | k_is | k_exc | rfl)
    (case k14 => first | k_is | k_exc | rfl)
    (case a15 => first | k_is | k_exc | rfl)
    (case l15 => first | k_is | k_exc | rfl)
    (case c15 => first | k_is | k_exc | rfl)
    (case k15 => first | k_is | k_exc | rfl)
    (case a16 => first | k_is | k_exc | rfl)
    (case l16 => first | k_is | k_exc | rfl)
    (case c16 => first | k_is | k_exc | rfl)
    (case k16 => first | k_is | k_exc | rfl)
    (case a17 => first | k_is | k_exc | rfl)
    (case l17 => first | k_is | k_exc | rfl)
    (case c17 => first | k_is | k_exc | rfl)
    (case k17 => first | k_is | k_exc | rfl)
    (case a18 => first | k_is | k_exc | rfl)
    (case l18 => first | k_is | k_exc | rfl)
    (case c18 => first | k_is | k_exc | rfl)
    (case k18 => first | k_is | k_exc | rfl)
    (case a19 => first | k_is | k_exc | rfl)
    (case l19 => first | k_is | k_exc | rfl)
    (case c19 => first | k_is | k_exc | rfl)
    (case k19 => first | k_is | k_exc | rfl)
    (case a20 => first | k_is | k_exc | rfl)
    (case l20 => first | k_is | k_exc | rfl)
    (case c20 => first | k_is | k_exc | rfl)
    (case k20 => first | k_is | k_exc | rfl)
    (case a21 => first | k_is | k_exc | rfl)
    (case l21 => first | k_is | k_exc | rfl)
    (case c21 => first | k_is | k_exc | rfl)
    (case k21 => first | k_is | k_exc | rfl)
    (case a22 => first | k_is | k_exc | rfl)
    (case l22 => first | k_is | k_exc | rfl)
    (case c22 => first | k_is | k_exc | rfl)
    (case k22 => first | k_is | k_exc | rfl)
    (case a23 => first | k_is | k_exc | rfl)
    (case l23 => first | k_is | k_exc | rfl)
    (case c23 => first | k_is | k_exc | rfl)
    (case k23 => first | k_is | k_exc | rfl)
    (case a24 => first | k_is | k_exc | rfl)
    (case l24 => first | k_is | k_exc | rfl)
    (case c24 => first | k_is | k_exc | rfl)
    (case k24 => first | k_is | k_exc | rfl)
    (case a25 => first | k_is | k_exc | rfl)
    (case l25 => first | k_is | k_exc | rfl)
    (case c25 => first | k_is | k_exc | rfl)
    (case k25 => first | k_is | k_exc | rfl)
    (case a26 => first | k_is | k_exc | rfl)
    (case l26 => first | k_is | k_exc | rfl)
    (case c26 => first | k_is | k_exc | rfl)
    (case k26 => first | k_is | k_exc | rfl)
    (case a27 => first | k_is | k_exc | rfl)
    (case l27 => first | k_is | k_exc | rfl)
    (case c27 => first | k_is | k_exc | rfl)
    (case k27 => first | k_is | k_exc | rfl)
    (case fi_Unsure___init__ => first | k_is | k_exc | rfl)
    (case fn_Unsure___init__ => first | k_is | k_exc | rfl)
    (case lm0 => first | k_is | k_exc | rfl)
    (case cm0 => first | k_is | k_exc | rfl)
    (case kp_Unsure___init__ => first | k_is | k_exc | rfl)
    (case fi_AgreeingRows___init__ => first | k_is | k_exc | rfl)
    (case fn_AgreeingRows___init__ => first | k_is | k_exc | rfl)
    (case lm1 => first | k_is | k_exc | rfl)
    (case cm1 => first | k_is | k_exc | rfl)
    (case kp_AgreeingRows___init__ => first | k_is | k_exc | rfl)
    (case fi_AgreeingRows_row => first | k_is | k_exc | rfl)
    (case fn_AgreeingRows_row => first | k_is | k_exc | rfl)
    (case lm2 => first | k_is | k_exc | rfl)
    (case cm2 => first | k_is | k_exc | rfl)
    (case kp_AgreeingRows_row => first | k_is | k_exc | rfl)
    (case z_abs => first | k_is | k_exc | rfl)
    (case z_enumerate => first | k_is | k_exc | rfl)
    (case z_int => first | k_is | k_exc | rfl)
    (case z_isinstance => first | k_is | k_exc | rfl)
    (case z_len => first | k_is | k_exc | rfl)
    (case z_list => first | k_is | k_exc | rfl)
    (case z_max => first | k_is | k_exc | rfl)
    (case z_min => first | k_is | k_exc | rfl)
    (case z_range => first | k_is | k_exc | rfl)
    (case z_repr => first | k_is | k_exc | rfl)
    (case z_reversed => first | k_is | k_exc | rfl)
    (case z_sorted => first | k_is | k_exc | rfl)
    (case z_tuple => first | k_is | k_exc | rfl)
    (case z_zip => first | k_is | k_exc | rfl)
    (case x_gcd => first | k_is | k_exc | rfl)
    (case bx_LaneError => first | k_is | k_exc | rfl)
    (case ty_LaneError => first | k_is | k_exc | rfl)
    (case kp_Unsure => first | k_is | k_exc | rfl)
    (case bx_Unsure => first | k_is | k_exc | rfl)
    (case ty_Unsure => first | k_is | k_exc | rfl)
    (case xl_Unsure => first | k_is | k_exc | rfl)
    (case sa_Unsure => first | k_is | k_exc | rfl)
    (case tf_Unsure___init__ => first | k_is | k_exc | rfl)
    (case na_Unsure_numbers => first | k_is | k_exc | rfl)
    (case ga_Unsure => first | k_is | k_exc | rfl)
    (case gg_Unsure => first | k_is | k_exc | rfl)
    (case hd_Unsure => first | k_is | k_exc | rfl)
    (case kp_Strayed => first | k_is | k_exc | rfl)
    (case bx_Strayed => first | k_is | k_exc | rfl)
    (case ty_Strayed => first | k_is | k_exc | rfl)
    (case xi_Strayed => first | k_is | k_exc | rfl)
    (case pg_AgreeingRows => first | k_is | k_exc | rfl)
    (case hd_AgreeingRows => first | k_is | k_exc | rfl)
    (case po_AgreeingRows => first | k_is | k_exc | rfl)
    (case sa_AgreeingRows => first | k_is | k_exc | rfl)
    (case mi_AgreeingRows => first | k_is | k_exc | rfl)
    (case kc_AgreeingRows => first | k_is | k_exc | rfl)
    (case na_AgreeingRows_machine => first | k_is | k_exc | rfl)
    (case na_AgreeingRows_word => first | k_is | k_exc | rfl)
    (case na_AgreeingRows_known => first | k_is | k_exc | rfl)
    (case ex_Strayed_LaneError => first | k_is | k_exc | rfl)
    (case ex_Unsure_LaneError => first | k_is | k_exc | rfl)
